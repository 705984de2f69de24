import PyProof.Rows.All
import Wide.All
import OpenK.AllK
import PySem.Challenge.RW_letterrack_k90_whole_books_changed
set_option compiler.extract_closed false
def ID2:=" nheap.objs.size vlength Cheap Esize Href ItoList Lmap Mint Qobjs RtoArray Xstr Àtrans Áget? Âinl ÃPairwise Ätype Ålookup Ælst Çtup Ètake Éreplicate Êenv Ëflatten ÌFrag Ídrop ÎgetD Ïpush Ðsymm Ñprog Òinr Ófree Ôbuiltin ÕtoNat ÖNodup Ømono Ùmpr Úplace Ûnone Ütoks Ýout Þnames ßunits àfresh ácons âreverse ãparams äextBut årange æmem_iff çmask èName éfollowText ênil ëfields ìupd ísetIfInBounds îseq ïhandled ðhok ñcps òPerm óelim ôRows õextract öbase øfilterMap ùcell úofString ûfilter ühash ýprobeStart þkind ÿisList ĀTypeIs ālocal Ăbool ăSameBut ĄAttribute ąat_ ĆConstant ćfoldl Ĉdata ĉset ĊtypeIs ċscope Črefl čisSome Ďlocals ďlen Đerase đnon Ēins ēmapSeq Ĕtuple ĕbelow Ėlength_le_of_subset ėin1 Ęlength_eq ęisEmpty ĚTuple ěupdate ĜidxOf ĝall Ğany ğlist ĠSubscript ġCall ĢIsStrIter ģlaid ĤkeyOf ĥKeyKind Ħkept ħturned ĨIsTupleIter ĩkeepIn ĪSmallTypes īflatMap Ĭappend_right ĭcalm ĮkindOf"
def ID3:=" įsome İList ıNat ĲValue ĳtrue Ĵnone ĵOption Ķfalse ķif_neg ĸAddr Ĺif_pos ĺwpAny Ļdecide ļShared ĽsizeLine ľmodel ĿInt ŀabsurd ŁSortSt łArray ŃKeyed ńProgram ŅstarEach ņStr ŇHeap ňWorld ŉAround ŊStmt ŋExpr ŌSetTable ōBool ŎDecidableEq ŏeval ŐcongrArg őrawInt ŒKeysOf œString ŔScope ŕKeyword ŖIsPair ŗFalse ŘStrsAre řNameKind ŚPyData śReadsAll ŜisInstance ŝAllBare ŞFuncData şSortKind ŠBindsTo šUnit ŢStateT ţIsZip ŤReads ťDecidable ŦItemsOf ŧSubscript_ ŨIsEnum ũPaired ŪPassesOwn ūForInStep Ŭfield ŭIntsAre ŮPlainAttrs ůMeets ŰDictEntry űforIn ŲWalks ųResult ŴSlot ŵDraws ŶautoParam ŷA_0_._auto_1 ŸA_1_._auto_1 ŹA_2_._auto_1 źA_3_._auto_1 ŻA_4_._auto_1 żA_5_._auto_1 ŽA_6_._auto_1 žA_7_._auto_1 ſA_8_._auto_1 ΑA_9_._auto_1"
def ID1(b:Bool)(x:Lean.Syntax):Option Lean.Syntax:=
 let n:=x.getId
 if n.hasMacroScopes then none else
 let f:=λ(l:String)(a c:Lean.Name)=>a++if c.toString.length>1 then c else match l.splitOn (" "++c.toString) with|_::r::_=>((r.splitOn " ").headD "").toName|_=>c
 let m:=match b,n.components with|false,[c]=>f ID3 .anonymous c|false,c::r=>r.foldl (f ID2) c|_,r=>r.foldl (f ID2) .anonymous
 if m==n then none else some (Lean.mkIdentFrom x m)
def ID0(x:Lean.Syntax):Option Lean.Syntax:=if x.isIdent then ID1 false x else if x.isOfKind ``Lean.Parser.Term.proj then (ID1 true x[2]).map (x.setArg 2 ·)else if x.isOfKind ``Lean.Parser.Term.dotIdent then (ID1 true x[1]).map (x.setArg 1 ·)else none
local macro_rules(kind:=ident)|x=>match ID0 x with|some y=>return y|_=>Lean.Macro.throwUnsupported
local macro_rules(kind:=Lean.Parser.Term.proj)|x=>match ID0 x with|some y=>return y|_=>Lean.Macro.throwUnsupported
local macro_rules(kind:=Lean.Parser.Term.dotIdent)|x=>match ID0 x with|some y=>return y|_=>Lean.Macro.throwUnsupported
local macro_rules(kind:=Lean.Parser.Term.app)|x=>match ID0 x[0] with|some y=>return x.setArg 0 y|_=>Lean.Macro.throwUnsupported
set_option Elab.async false
set_option linter.all false
set_option maxRecDepth 100000
set_option maxHeartbeats 4000000

set_option bootstrap.genMatcherCode false
open Lean in
local macro_rules|`(universe $x*)=>return mkNullNode (<-x.mapIdxM λj i=>do
 let f s (n:ı):=mkIdent<|.mkSimple s!"{s}{n}"
 let mut (b,c,e,w,g,h):=(#[],#[],#[],#[],(pure:Term→MacroM Term),`(True))
 for k in (i.getId.toString++"A").I do
  let m:=e.E
  let v:=f "v" m
  let T:=f "T" m
  let d:=g
  e:=e.Ï v
  if k='E' then
   b:=b.Ï (<-`(bracketedBinder|{$T:ident:Sort _}))
   c:=c.Ï (<-`(bracketedBinder|($v:ident:$T)))
   w:=w.Ï (v,T)
   g:=λt=>do d (<-`(∃$v:ident,$t))
  else
   let q:Term<-if w.isEmpty then pure ⟨T⟩ else `($T $(w.L (·.1))*)
   b:=b.Ï (<-`(bracketedBinder|{$T:ident:$(<-w.foldrM (λa b=>`($(a.2)→$b)) (<-`(Prop)))}))
   c:=c.Ï (<-`(bracketedBinder|($v:ident:$q)))
   h:=d q
   g:=λt=>do d (<-`($q∧$t))
 let r<-h
 let y:=b++c
 `(theorem $(f "zz" j):ident $y:bracketedBinder* : $r := ⟨$e,*⟩))
universe EA EEAA EAA EEA EEAAA EEEEAAAA EEAAAA EAAA EEEAAA AE EE AEA EEEEEAAAAA EAAAA AEEAA EEEAAAA EEEEAAAAA EEEE EEE AEEA AAEA EEEAA EEEEAAA EEAAAAA EEAAEEAA AEAA EEAAAAAA EAEA EEEEAAAAEEAAA AEEEAAAA EEEA EAAE EEEEEEEAA EAAEEAA AAAAEAA EEEAAAAA EAAAAA EEEEEAAAA EEEEEAAAAAA EEEEEAAAAAEEAA EAEEAA EEAAAEEAEEAA EEAAEEAAA EEEEAA EAEAAA EEEEEEAAAAA EEEAAAAAA EEEEAAAAAAA EEEEEEAAAAAA EEEEEAAAAAAAAA AAAAEA EAAAAAA EEEEEEAAA EEEEEEEAAAAA AEEAAAAA EEEEAAAAAA EEEEEAAAAAAAA EAEEEAAAA EEEEEEEEEAAA AAEAEEEAAAA EEEEEEEAAAA EEEAAAEEEAAA EEEEEEEAAAAAA AEAAAA EEAAAEEAAAA EEAAAAAAA EEEEAAAAAAAA EEEEA EEEEEEEAAAAAAA
local macro_rules|`(⟨$n:num,$x,*⟩)=>`($(Lean.mkIdent (.mkSimple s!"zz{n.getNat}")) $(x.getElems)*)
theorem ZzN {G:Prop}(h:¬¬G):G:=Classical.byContradiction h
theorem rb {α:Sort _}{a:α}:a=a:=rfl
theorem Zzx2{q:A->B->Prop}{G:Prop}(h:∃a b,q a b)(f:∀a b,q a b->G):G:=Exists.ó h λa h=>Exists.ó h (f a)
theorem Zzx3{q:A->B->C->Prop}{G:Prop}(h:∃a b c,q a b c)(f:∀a b c,q a b c->G):G:=Exists.ó h λa h=>Zzx2 h (f a)
theorem Zzx4{q:A->B->C->D->Prop}{G:Prop}(h:∃a b c d,q a b c d)(f:∀a b c d,q a b c d->G):G:=Exists.ó h λa h=>Zzx3 h (f a)
theorem Zzx5{q:A->B->C->D->E->Prop}{G:Prop}(h:∃a b c d e,q a b c d e)(f:∀a b c d e,q a b c d e->G):G:=Exists.ó h λa h=>Zzx4 h (f a)
theorem Zzx7{q:A->B->C->D->E->I->J->Prop}{G:Prop}(h:∃a b c d e i j,q a b c d e i j)(f:∀a b c d e i j,q a b c d e i j->G):G:=Exists.ó h λa h=>Exists.ó h λb h=>Zzx5 h (f a b)
theorem Zzx10{q:A->B->C->D->E->I->J->K->L->M->Prop}{G:Prop}(h:∃a b c d e i j k l m,q a b c d e i j k l m)(f:∀a b c d e i j k l m,q a b c d e i j k l m->G):G:=Exists.ó h λa h=>Exists.ó h λb h=>Exists.ó h λc h=>Zzx7 h (f a b c)
theorem Zzx14{q:A->B->C->D->E->I->J->K->L->M->N->O->P->R->Prop}{G:Prop}(h:∃a b c d e i j k l m n o p r,q a b c d e i j k l m n o p r)(f:∀a b c d e i j k l m n o p r,q a b c d e i j k l m n o p r->G):G:=Exists.ó h λa h=>Exists.ó h λb h=>Exists.ó h λc h=>Exists.ó h λd h=>Zzx10 h (f a b c d)
local macro_rules|`(tactic|show $e)=>`(tactic|first|exact $e|change $e)
local macro_rules|`(tactic|calc $e:term)=>`(tactic|refine $e)
local macro_rules|`(tactic|let $x:ident := $e)=>`(tactic|have $x:ident := $e)|`(tactic|let $x:ident : $t := $e)=>`(tactic|have $x:ident : $t := $e)
local macro_rules|`(%[$as,*|$a])=>`(⟨$as,*,$a⟩)
open Lean in
local macro_rules|`(tactic|let ($t0,$ts,*) := $h)=>do
 let a:=#[t0]++ts.getElems
 if let į i:=a.findIdx? (·.raw.isOfKind `Lean.Parser.Term.tuple) then
  let b:=a.set! i<|<-`(z)
  return<-`(tactic|(let ($(b[0]!),$(b[1:].R),*) := $h;let $(a[i]!):term := z))
 let ps<-a.mapM λt=>if t.raw.isIdent then `(Parser.Tactic.rcasesPatLo|$(⟨t⟩):ident) else `(Parser.Tactic.rcasesPatLo|_)
 let n:=(a.pop.I.takeWhile λt=>t.raw.getId != `rfl).v
 let mut t<-`(tactic|rcases $h:term with ⟨$ps,*⟩)
 for k in [2, 3, 4, 5, 7, 10, 14] do
  if k<=n then
   let m<-if k+1==a.E&&a.back!.raw.getId != `rfl then `(tactic|intro $a*) else `(tactic|(intro $(a[:k].R)* z;rcases z with ⟨$(ps[k:].R),*⟩))
   t<-`(tactic|first|(refine $(mkIdent (.mkSimple s!"Zzx{k}")) $h ?_;(try clear $(⟨h⟩));$m:tactic)|$t:tactic)
 `(tactic|(refine ZzN λn=>?_;$t:tactic<;>refine n ?_<;>clear n))
open Lean Parser Command in
local macro_rules(kind:=Lean.Parser.Command.declaration)|x=>if x.getPos?.isNone then Macro.throwUnsupported else
 let y:=x.rewriteBottomUp (·.setInfo .none)
 return if y[0].getArgs.any (·.getNumArgs>0)||![``definition,``«abbrev»,``«instance»].contains y[1].getKind then y else y.setArg 0 (y[0].setArg 4 (mkNullNode #[mkNode ``«noncomputable» #[mkAtom "noncomputable"]]))
section
variable{p:Prop}
def yf(h:p:=by lia):p:=h
def yi(h:p:=by simp):p:=h
def A_0_(_:True:=by rfl):=True
def A_1_(_:True:=by decide):=True
def A_2_(_:True:=by k_is):=True
def A_3_(_:True:=by intro _;rfl):=True
def A_4_(_:True:=by first|show .Â rfl|show .Ò rfl|assumption):=True
def A_5_(_:True:=by first|show XC _ yk yk|rfl):=True
def A_6_(_:True:=by with_unfolding_all rfl):=True
def A_7_(_:True:=by first|show Or.Â rfl|show Or.Ò<|Or.Â rb|show Or.Ò<|Or.Ò rb):=True
def A_8_(_:True:=by intro _ _ _ _ h;repeat (first|(let(rfl,_):=h;rfl)|let(_,h):=h)):=True
def A_9_(_:True:=by intro _ _ _ _ _ _ us d;first|show(match us,(show us.v=1 from d) with|[_],_=>rfl)|show(match us,(show us.v=2 from d) with|[_,_],_=>rfl)|show(match us,(show us.v=3 from d) with|[_,_,_],_=>rfl)|show(match us,(show us.v=4 from d) with|[_,_,_,_],_=>rfl)|show(match us,(show us.v=5 from d) with|[_,_,_,_,_],_=>rfl)|show(match us,(show us.v=6 from d) with|[_,_,_,_,_,_],_=>rfl)|show(match us,(show us.v=7 from d) with|[_,_,_,_,_,_,_],_=>rfl)|show(match us,(show us.v=8 from d) with|[_,_,_,_,_,_,_,_],_=>rfl)):=True
def yk(h:Ŷ (p) Ÿ):p:=h
def ym(h:Ŷ (p) ŷ):p:=h
def yn(h:p:=by kernel_rfl):p:=h
def yo(h:p:=by decide +kernel):p:=h
def yv(h:p:=by first | lia | ((try dsimp only);lia)):p:=h
def yz(h:p:=by size_fits):p:=h
end
def zsz (n:ı)(h:Ŷ (n<=1000) Ÿ):n<=PySem.sizeLine:=Nat.le_trans h yk
local macro_rules|`(universe $x*)=>return Lean.mkNullNode (<-(Array.å<|x.E/2).mapM λi=>`(abbrev $(x[2*i]!):ident:=@$(x[2*i+1]!)))
open PySem PyProof PyProof.Rows List in
universe aa wpAny_bind ab length_map ae getElem?_eq_getElem af Heap.get?_push_of_some ag wpAny_pure ah getD_eq_getElem?_getD ai Nat.le_refl al List.getElem?_eq_some_iff am mem_singleton ap Nat.le_trans av mem_cons_of_mem aw decide_eq_false ax mem_of_getElem? ay Nat.le_of_lt aE length_append aI Heap.get?_push_size aS decide_eq_true aT mem_append a4 mem_cons_self a5 mem_map a6 Heap.lt_size a7 Nat.lt_of_lt_of_le a8 mem_cons a9 wpS_bind a_ getElem?_map ba length_take bb Nat.ne_of_lt be getElem_mem bn Array.length_toList bo Option.some.inj bq Bool.false_eq_true bt wpS_pure bu size_toArray bv length_cons bz append_assoc bE Nat.zero_le bP boot_len bS map_cons bX mem_map_of_mem b3 mem_range b4 map_append b5 Array.getElem?_eq_getElem b6 take_add_one b7 PassesOwn.never b8 Bool.false_ne_true b9 getElem?_eq_none ci Array.getElem?_toList ck getElem?_append_left cn mem_iff_getElem cp length_drop cq Int.toNat_natCast cw F.plainAttrs_str cx F.plainAttrs_list cy take_append_drop cz boot_tuple cE Nat.sub_le_iff_le_add cS length_range c6 take_length c8 map_map c9 Nat.lt_sub_iff_add_lt c_ wpAny_call_entry de take_of_length_le df Nat.sub_lt_left_of_lt_add di Nat.le_add_right dm mem_of_mem_take dq mem_append_right du Nat.le_succ_of_le dA Nat.le_of_lt_succ dC of_decide_eq_true dE Nat.lt_or_ge dL wpAny_holding dP Bool.and_eq_true dQ Obj.data_mapFields dS getElem?_append_right d6 map_congr_left ed Nat.add_sub_cancel' ee length_replicate ej Heap.get?_update_self eC flatten_cons eD F.slot_list_append eI F.type_list_append eJ Int.ofNat_nonneg eM wpAny_truthy_bool eR wpAny_callSpecial?_slot eS Heap.size_push eW Nat.lt_succ_self e6 Nat.succ_le_succ e8 pairwise_append e9 mem_of_mem_drop e_ pairwise_map fb cons_lt_cons_iff fc mem_filter ff Nat.sub_sub_self fg wpAny_newObj_type fh Nat.lt_succ_of_lt fi ext_getElem? fk Heap.get?_update_other fm wpAny_field fo Nat.le_sub_of_add_le fq Nat.le_of_eq fv Int.ofNat_lt fw Nat.lt_of_le_of_lt fz getElem?_drop fA wpAny_rule fE F.slot_str_join fF F.type_str_join fI KeyOrd.kle_trans fN Bool.not_true fR wpAny_setState_of fS pairwise_iff_getElem fT Calls.spliced_cons f6 Int.emod_lt_of_pos f7 pairwise_cons f8 boot_isinstance f_ range_succ ga F.called_set gd wpS_forRange gf mem_flatMap gg wpAny_mono gh Heap.SameBut.update gm length_reverse gp Array.toList_append gr PyProof.Rows.callWith_type1 gu Array.getD_eq_getD_getElem? gv Array.toList_push gx wpAny_passesOwn gy append_nil gz Nat.mul_comm gE codeAny_builtin gL Around.under_plainId gN Nat.sub_eq_of_eq_add gT Nat.le_add_left g6 getElem?_of_mem g9 Option.map_eq_some_iff hG wpAny_of_eq hV wpAny_isInstance h8 not_mem_nil ib Ne.symm ic replicate_succ ie getElem?_range ii Iff.mpr ij wpAny_setField ik wpAny_seqItems im KeyOrd.klt_of_klt_of_kle io W.kia_one ip filter_append iq Nat.add_sub_cancel_left iA F.plain_set_update_loop iE all_eq_true iF Nat.ge_of_not_lt iL Nat.le_sub_one_of_lt iN Nat.sub_lt_of_lt iO Nat.lt_irrefl iP wpAny_attempt iS Nat.zero_add iX Calls.callWith_builtin i4 Nat.mul_le_mul i5 StrLaws.subAt_one i6 decide_eq_true_eq i7 wpAny_specialOf i8 Int.emod_nonneg i9 Nat.sub_le ja Classical.byContradiction jn Obj.isFreed_of_fields jI Perm.append_left jS Nat.ne_of_gt kc codeAny_mono kg F.slot_list_extend ki F.type_list_extend km Nat.le_succ ko wpS_mono kq drop_sublist kr length_nil ku forIn_cons kz Nat.add_le_add_left kC getElem?_set_self kD map_nil kF map_id kG lookup_cons kH wpAny_Call_Name_kw kM length_filter_le kN wpAny_tupleItemsOf kP wpAny_execs_nil kR nodup_cons kS KeyOrd.klt_of_kle_of_klt kU Nat.sub_le_sub_right kX Nat.succ_pos lc Nat.pow_succ lh Nat.not_lt_zero lv Pairwise.imp_of_mem lx boot_sorted lI Nat.mul_le_mul_right lL Calls.spliced_nil lS nodup_append lT Nat.lt_trichotomy l_ Nat.add_assoc md length_eq_zero_iff mf filterMap_cons mh Bool.false_and ml Bool.and_false mr Array.toList_inj mw Bool.not_false mx mem_filterMap my Nat.lt_trans mB Nat.sub_self mE Nat.eq_or_lt_of_le mI getElem?_take mM Bool.eq_iff_iff mN find?_cons mP Nat.le_antisymm mS Nat.min_le_left m4 F.slot_tuple_iterator_next ng Array.perm_iff_toList_perm nw Nat.mul_assoc ny Int.ofNat.inj nE wpAny_pyIter_list nI mem_append_left nL getElem?_set_ne nN Calls.evalArgs_plain nS codeAny_call_builtin nV wpAny_execs_cons n9 getElem?_take_of_lt og wpAny_askSetting oj wpAny_forIn_list om decide_eq_decide oo PySem.mem_of_lookup oq wpAny_setEntries_of ox flatten_append oy flatMap_append oz F.entry_set_update_loop oB any_cons oC Calls.Constant_str oI wpAny_pyIter_tuple oP length_set oQ SeqAt.EqAt.int_int oS KeyOrd.kle_refl oT wpAny_setField_rec o0 Array.getElem?_eq_none o6 Nat.le_of_add_right_le ph Nat.eq_zero_of_not_pos pi F.slot_str_lower pE F.type_str_lower pM Obj.cls_mapFields pT wpAny_pyIter_strU pV wpAny_pyIter_enum p_ Heap.get?_push_ne qf F.slot_tuple_hash qh getElem?_set qi Nat.succ_mul qk nodup_nil qo takeWhile_prefix qr idxOf_lt_length_of_mem qA wpAny_richCompare_same_room qB Array.mem_toList_iff qE length_erase_le qS Nat.mod_lt qV Array.toList_reverse q0 Nat.div_lt_of_lt_mul rc mem_flatten re Heap.size_update rg ext_getElem rh wpAny_standAt rj Nat.sub_lt_sub_left rn Nat.add_lt_add_left rq Nat.sub_le_sub_left rL reverse_append rS foldl_cons rV Option.map_some rX wpAny_updateSeq r0 Calls.call_function_entry r8 drop_eq_getElem_cons r_ extract_eq_take_drop sd exists_mem_of_ne_nil se mem_or_eq_of_mem_set sf W.callWith_K si F.called_enumerate sk Nat.sub_right_comm sn Nat.eq_zero_or_pos sq Array.forIn_toList sr of_decide_eq_false sx Int.ofNat_le sK set_eq_of_length_le sL wpAny_Name sM wpAny_call sN wpS_get sP F.plainAttrs_dict sQ getElem?_cons_succ sT eraseIdx_cons_succ s_ pairwise_singleton tf take_sublist tj Bool.eq_false_iff tm foldl_append tq wpAny_Call_method_late tw drop_of_length_le tz boot_list tF Bool.or_false tI wpAny_newList tJ filter_cons tN Nat.succ_lt_succ tP Nat.lt_of_not_le tS mem_reverse tT zipIdx_cons t7 nodup_range t9 Array.toList_map ue wpAny_isTrue_Compare1 ui getElem?_reverse uj mem_iff_getElem? uk perm_append_comm ul KeyOrd.not_klt_of_kle uu wpAny_loadName_local uv of_mem_zip uA wpAny_typeOf uB codeAny_extend_loopS uC Array.toArray_toList uS wpAny_loadPart' u7 Heap.get?_push_cases u8 codeAny_of_tree ve Nat.sub_le_of_le_add vi wpS_modify vj Nat.sub_lt vn Array.toList_extract vv F.slot_tuple_lt vw F.slot_zip_next vx Int.zero_add vy W.plainGet_of vz take_succ_cons vE length_pos_iff vF Heap.get?_update_ne vS map_eq_nil_iff vT wpAny_runValue v0 wpAny_fieldsOf v_ wpAny_newTuple wc F.slot_dict_setdefault we forIn_nil wf Prod.ext wm wpAny_Constant_int wn F.slot_str_getitem wo Code.quiet_builtin wq Around.under_plain wt isSubtype_tuple_tuple wv zip_cons_cons ww map_singleton wx mem_replicate wE W.mg_of wP Array.getElem?_eq_some_iff wS wpAny_handled wT takeWhile_cons_of_pos w_ Array.toList_setIfInBounds xa perm_ext_iff_of_nodup xb wpAny_assign_Name xc wpAny_Assign_Name xf Option.isSome_map xh wpAny_pyIter_slot xi Function.comp_def xj F.entry_type_call xk Nat.le_pred_of_lt xl Nat.lt_succ_of_le xm flatMap_cons xo wpAny_load xp F.plain_extend_loop xt perm_append_left_iff xv Nat.min_le_right xw Nat.succ_ne_self xy any_eq_true xz Nat.min_eq_right xA Nat.add_zero xB Nat.pow_zero xC Option.getD_some xD Array.toList_zip xE getElem_map xF Perm.of_eq xI Nat.min_eq_left xL Sum.inr.inj xN Nat.sub_sub xS Nat.mul_add x8 Nat.mul_one x9 P.le_str x_ drop_zero ya Perm.refl yb List.lt_irrefl ye take_zero
abbrev AA:=İ (İ ı)
abbrev AB:=PySem.Value->PySem.Shared->Prop
abbrev AC:=İ (PySem.Addr×PySem.Obj)
noncomputable section
namespace L2
open PySem
def yx (h:Runs M Γ p t fs s e s'):s.Ü<=s'.Ü:=by
 induction h with| done|raise|yield=>show ai _| fresh _ ih=>show ap (km _) ih| again _ _ ih|rule _ ih|«at» _ ih|load _ _ ih|update _ _ ih|loadIfAlive _ ih|point _ ih|alloc _ ih|ask _ ih|choose _ _ ih|os _ ih|handled _ ih|genState _ _ ih|stack _ ih|thread _ ih|newGen _ ih=>show ih| call _ _ ih1 ih2=>show ap ih1 ih2| callSusp _ ih=>show ih| resumeFresh _ _ _ _ ih1 ih2=>show ap ih1 ih2| resumeSuspended _ _ _ _ ih1 ih2=>show ap ih1 ih2| resumeJustStarted _ _ _ ih=>show ih| resumeThrowFresh _ _ ih=>show ih| resumeRunning _ _ ih=>show ih| resumeFinished _ _ ih=>show ih| segRet _ _ ih1 ih2=>show ap ih1 ih2| segGen _ _ ih1 ih2=>show ap ih1 ih2| segSuspOut _ _ ih=>show ih| segSuspGen _ _ _ _ ih1 ih2=>show ap ih1 ih2
def Ri (h:Wakes M Γ p g r s res s'):s.Ü<=s'.Ü:=by
 unfold Wakes at h;split at h;.show h.ó
 .split at h
  .let(e,s1,hr,_,_,rfl):=h;let z:=yx hr;show z
  .let(_,rfl):=h;show ai _
  .let(_,rfl):=h;show ai _
 .let(e,s1,hr,_,_,rfl):=h;let z:=yx hr;show z
 .let(_,rfl):=h;show ai _
 .let(_,rfl):=h;show ai _
def aee {I:Type}{M:Model}{Γ:Ctx}(t:Sem I)(n:ı){Q:I->Pos->ļ->Prop}{E:Ĳ->Pos->ļ->Prop}(p:Pos)(s:ļ)(hn:n<=s.Ü)(h:Sem.wp M Γ t (λa p s=>n<=s.Ü->Q a p s) (λe p s=>n<=s.Ü->E e p s) p s):Sem.wp M Γ t Q E p s:=by
 revert h
 induction t generalizing p s with| pure x=>show λh=>h hn| raise v=>show λh=>h hn| unsupported|finish|yield|fork|await|register=>show id| fresh k ih=>show ih _ _ _<|ap hn<|km _| rule _ k ih|«at» _ k ih|alloc _ k ih|loadIfAlive _ k ih|point _ k ih|ask k ih|os _ _ k ih|handled _ k ih|newGen _ k ih|stack k ih|thread k ih=>show ih _ _ _ hn| load a _ k ih|genState a k ih=>show λ⟨o,d,h⟩=>%[0,o,d|ih _ _ _ hn h]| update a _ f k ih|choose _ _ k ih=>show λ⟨ha,h⟩=>%[ha|ih _ _ _ hn h]| call c h g l k ih=>show λ⟨r,s',hr,q⟩=>%[3,r,s',hr|ih _ _ _ (ap hn<|yx hr) q]| resume g r l k ih=>show λ⟨res,s',hw,h⟩=>%[3,res,s',hw|ih _ _ _ (ap hn<|Ri hw) h]
def o7 {I:Type}{t:Sem I}{Q:I->ļ->Prop}{s:ļ}(h:ĺ M A t (λa s'=>s.Ü<=s'.Ü->Q a s') (λe s'=>s.Ü<=s'.Ü->E e s') s):ĺ M A t Q E s:=λΓ p hΓ=>aee t s.Ü p s (ai _) (h Γ p hΓ)
end L2
namespace L2
open PySem PySem.Spec PyProof.Rows
abbrev Key:=Sum Ŀ ņ
def ji:Key->Ĳ->ō
 | .Â k,v=>Value.isInt k v
 | .Ò x,v=>Value.isStrOf x v
def afa (w:ň):Key->Ŀ
 | .Â k=>hashInt k
 | .Ò x=>hashStr w x
def dj:∀{k:Key} {v:Ĳ},ji k v=ĳ->(∃i t,k=Sum.Â i/\v=Value.M i t)\/(∃x t,k=Sum.Ò x/\v=Value.X x t):=by
 intro k v h;cases k with
 | inl i=>let(t,e):=Value.isInt_shape (k:=i) (v:=v) h;show .Â %[3,i,t,rb|e]
 | inr x=>let(t,e):=Value.isStrOf_shape (x:=x) (v:=v) h;show .Ò %[3,x,t,rb|e]
def GC (i)(t:Tok):ji (.Â i) (.M i t)=ĳ:=by simp[ji,Value.isInt]
def GD (x)(t:Tok):ji (.Ò x) (.X x t)=ĳ:=by simp[ji,Value.isStrOf]
def acd (a b):Ļ ((Sum.Â a:Key)=Sum.Â b)=(a==b):=by
 by_cases e:a=b;.subst e;simp
 .let h:¬(Sum.Â a:Key)=Sum.Â b:=λq=>e<|Sum.Â.inj q
  rw[aw h];show(beq_eq_false_iff_ne.Ù e).Ð
def ace (a b):Ļ ((Sum.Ò a:Key)=Sum.Ò b)=Ļ (a=b):=by
 by_cases e:a=b;.subst e;simp
 .let h:¬(Sum.Ò a:Key)=Sum.Ò b:=λq=>e<|xL q
  rw[aw h,aw e]
def acf (a)(b):Ļ ((Sum.Â a:Key)=Sum.Ò b)=Ķ:=aw (λq=>nomatch q)
def acg (a)(b):Ļ ((Sum.Ò a:Key)=Sum.Â b)=Ķ:=aw (λq=>nomatch q)
def cG (prog:ń)(w:ň):PySem.ĥ prog w Key where
 is:=ji
 hash:=afa w
 inj:=λv a b ha d=>by
  rcases dj ha with⟨i,t,rfl,rfl⟩|⟨x,t,rfl,rfl⟩
  .rcases dj d with⟨j,u,rfl,e⟩|⟨y,u,rfl,e⟩
   .injection e with e1 _;rw[e1]
   .show nomatch e
  .rcases dj d with⟨j,u,rfl,e⟩|⟨y,u,rfl,e⟩;.show nomatch e
   .injection e with e1 _;rw[e1]
 byValue:=λk v h=>by rcases dj h with⟨i,t,rfl,rfl⟩|⟨x,t,rfl,rfl⟩ <;> rfl
 pyHash:=λhv h=>by
  rcases dj hv with⟨i,t,rfl,rfl⟩|⟨x,t,rfl,rfl⟩;.show wpAny_pyHash_int h
  .show wpAny_pyHash_str h
 eqBool:=λg hv h=>by
  rcases dj g with⟨i,t,rfl,rfl⟩|⟨x,t,rfl,rfl⟩
  .rcases dj hv with⟨j,u,rfl,rfl⟩|⟨y,u,rfl,rfl⟩;.rw[acd]at h;show wpAny_eqBool_int h
   .rw[acf]at h;show SeqAt.EqAt.int_str i t y u _ _ _ _ h
  .rcases dj hv with⟨j,u,rfl,rfl⟩|⟨y,u,rfl,rfl⟩;.rw[acg]at h;show SeqAt.EqAt.str_int x t j u _ _ _ _ h
   .rw[ace]at h;show wpAny_eqBool_str h
 «strs»:=λk x t v h=>by
  rcases dj h with⟨i,u,rfl,e⟩|⟨y,u,rfl,e⟩;.show nomatch e
  .injection e with e1 _;subst e1;cases v <;> rfl
def Nr (prog)(w)(i)(t:Tok):(cG prog w).is (.Â i) (.M i t)=ĳ:=GC i t
def Nt (prog)(w)(x)(t:Tok):(cG prog w).is (.Ò x) (.X x t)=ĳ:=GD x t
inductive V where
 | non|bl (b:ō)|int (i:Ŀ)|str (x:ņ)|xZ (b:ł UInt8)|flt (b:UInt64)|ref (a:ĸ)|ty (n:œ)
 deriving DecidableEq
def bH:V->Ĳ->Prop
 | .đ,u=>u=Value.Û
 | .bl b,u=>u=Value.Ă b
 | .M i,u=>∃t,u=Value.M i t
 | .X x,u=>∃t,u=Value.X x t
 | .xZ b,u=>∃t,u=Value.bytes b t
 | .flt b,u=>∃t,u=Value.float b t
 | .H a,u=>u=Value.H a
 | .ty n,u=>u=Value.Ä n
abbrev Vals:İ V->İ Ĳ->Prop:=ũ bH
def Vals.length (r:Vals xs us):xs.v=us.v:=Paired.v r
def Vals.get:∀{xs:İ V} {us:İ Ĳ} {i:ı} {x:V},Vals xs us->xs[i]?=į x->∃u,us[i]?=į u/\bH x u:=by
 intro _ _ i x h e
 induction h generalizing i with
 | nil=>simp at e
 | cons r t ih=>
  cases i with| zero=>simp at e;subst e;show%[0,_,rb|r]| succ i=>let(u,h1,d):=ih (by simpa using e);show%[0,u,by simpa using h1|d]
def Vals.set (r:bH x u):∀{xs:İ V} {us:İ Ĳ} (i:ı),Vals xs us->Vals (xs.ĉ i x) (us.ĉ i u):=by
 intro _ _ i h
 induction h generalizing i with
 | nil=>show .ê
 | cons q t ih=>
  cases i with| zero=>show .á r t| succ i=>show .á q<|ih i
def Vals.append:∀{xs ys:İ V} {us ws:İ Ĳ},Vals xs us->Vals ys ws->Vals (xs++ys) (us++ws):=by
 intro _ _ _ _ h s
 induction h with| nil=>show s| cons r _ ih=>show .á r ih
def Vals.take:∀{xs:İ V} {us:İ Ĳ} (n:ı),Vals xs us->Vals (xs.È n) (us.È n):=by
 intro _ _ n h
 induction h generalizing n with
 | nil=>cases n <;> show .ê
 | cons r t ih=>
  cases n with| zero=>show .ê| succ n=>show .á r<|ih n
def Vals.drop:∀{xs:İ V} {us:İ Ĳ} (n:ı),Vals xs us->Vals (xs.Í n) (us.Í n):=by
 intro _ _ n h
 induction h generalizing n with
 | nil=>cases n <;> show .ê
 | cons r t ih=>
  cases n with| zero=>show .á r t| succ n=>show ih n
def kI:ĵ V->ĵ Ĳ->Prop
 | some v,some u=>bH v u
 | none,none=>True
 | _,_=>False
def KV {I:Type}:İ (I×V)->İ (I×Ĳ)->Prop:=ũ λ(p:I×V) (q:I×Ĳ)=>p.1=q.1/\bH p.2 q.2
def kV:Key->V
 | .Â i=>.M i
 | .Ò x=>.X x
inductive HO where
 | lst (xs:İ V)
 | tup (xs:İ V)
 | dK (kvs:İ (Key×V))|dT (kvs:İ (İ Key×V))
 | set (S:Ŀ->ō) (n:ı)
 | ins (C dx:ĸ) (fs:İ (ņ×V))
 | own (x:ĸ)
 | xd (fs:İ (ņ×V))
 | met (f x:ĸ)
 | rng (lo hi:Ŀ)
 | iu (o:Obj) (u:HO)
 | JV (ps:ł Ĳ)
 | ext (φ:Ň->Prop)
abbrev Hp:=ĸ->ĵ HO
def upd (H:Hp)(a:ĸ)(o:HO):Hp:=λb=>if b=a then į o else H b
def au:upd H a o a=į o:=by unfold upd;rw[Ĺ rfl]
def aM (h:b≠a):upd H a o b=H b:=by unfold upd;rw[ķ h]
def aaA:upd (upd H a o) a u=upd H a u:=by funext b;unfold upd;split <;> rfl
def iH {H:Hp}{a b:ĸ}{o u:HO}(h:H a=į o)(h':H b=į u)(d:o≠u):a≠b:=by intro e;subst e;rw[h]at h';show d<|bo h'
def aQ {H:Hp}{a b:ĸ}{o:HO}(h:H a=į o)(h':H b=Ĵ):a≠b:=by intro e;subst e;rw[h]at h';cases h'
section
variable (P:ń)(w:ň)
def cQ (H:Hp)(h:Ň)(a:ĸ):HO->Prop
 | .Æ xs=>xs.v<=Ľ/\∃(its:İ Ĳ) (n:Nat),Vals xs its/\h.Á a=į {cls:=.Ä "list",data:=.î its.R n}
 | .Ç xs=>xs.v<=Ľ/\∃its:İ Ĳ,Vals xs its/\IsTup h a its.R
 | .dK kvs=>kvs.v<=Ľ/\(a==sysModules)=Ķ/\∃vs,KV kvs vs/\h.DictOf (cG P w) a vs
 | .dT kvs=>kvs.v<=Ľ/\(a==sysModules)=Ķ/\∃xs:İ (İ Key×ĸ×Ĳ),
   ũ (λ(p:İ Key×V) (q:İ Key×ĸ×Ĳ)=>p.1=q.1/\H q.2.1=į (.Ç<|p.1.L kV)/\bH p.2 q.2.2) kvs xs/\
   ∃o es ep,h.Á a=į o/\o.ExactDict/\o.Ĉ=.dict es ep/\es.I=xs.L (entryOfKey<|tupleKind<|cG P w)/\(xs.L (·.1)).Ö
 | .ĉ S n=>h.SetOf (intKind P w) a S n
 | .Ē C dx fs=>H dx=į (.own a)/\fs.v<=1000/\dx≠a/\h.Á a=į (W.instObj C dx)/\
   ∃mA,h.Ns1 dx mA/\(∀f,kI (fs.Å f) (mA f))/\PySem.Within mA (fs.L (·.1))
 | .own _=>∃o,h.Á a=į o
 | .xd fs=>∃mA,h.Ns1 a mA/\∀f,kI (fs.Å f) (mA f)
 | .rng lo hi=>∃t u v,h.Á a=į {cls:=.Ä "range",data:=.ë #[.M lo t,.M hi u,.M 1 v]}
 | .iu o u=>h.Á a=į o/\cQ H h a u
 | .JV ps=>h.Á a=į {cls:=.Û,data:=.ë ps}
 | .met f x=>h.Á a=į (W.methodObj (.H f)<|.H x)
 | .ext φ=>φ h/\(∃o,h.Á a=į o)/\∀h1 d:Ň,φ h1->(∀o,h1.Á a=į o->d.Á a=į o)->φ d
def iw (H:Hp)(h:Ň):Prop:=∀a o,H a=į o->cQ P w H h a o
end
section
variable {P:ń}{w:ň}{H H':Hp}{h h':Ň}{a:ĸ}{o:HO}
def cQ.lt (x:cQ P w H h a o):a<h.Q.E:=by
 cases o with
 | lst xs=>let(_,_,_,_,e):=x;show a6 e
 | tup xs=>let(_,_,_,p):=x;show p.lt
 | dK kvs=>let(_,_,_,_,o,_,_,e,_):=x;show a6 e
 | dT kvs=>let(_,_,_,_,o,_,_,e,_):=x;show a6 e
 | set S n=>let(o,_,_,_,e,_):=x;show a6 e
 | ins C dx fs=>let(_,_,_,e,_):=x;show a6 e
 | own y=>let(_,e):=x;show a6 e
 | xd fs=>let(_,(_,_,_,e,_),_):=x;show a6 e
 | rng lo hi=>let(_,_,_,e):=x;show a6 e
 | iu ob u=>let(e,_):=x;show a6 e
 | JV ps=>show a6<|show h.Á a=į _ from x
 | met f y=>show a6<|show h.Á a=į _ from x
 | ext φ=>let(_,(_,e),_):=x;show a6 e
def Paired.ach {I T:Type}{F G:I->T->Prop}:∀{l₁:İ I} {l₂:İ T},ũ F l₁ l₂->(∀a b,F a b->G a b)->ũ G l₁ l₂:=by
 intro _ _ h f
 induction h with| nil=>show .ê| cons r _ ih=>show .á (f _ _ r) ih
def cQ.stay (x:cQ P w H h a o)(k:∀b u,(b=a\/H b=į (.own a))->h.Á b=į u->h'.Á b=į u)(g:∀b,H b=į (.own a)->H' b=į (.own a))(B:∀b xs,H b=į (.Ç xs)->H' b=į (.Ç xs)):cQ P w H' h' a o:=by
 induction o with
 | lst xs=>let(z,its,n,r,e):=x;show%[19,z,its,n,r|k _ _ (.Â rb) e]
 | tup xs=>let(z,its,r,ob,e,c):=x;show%[9,z,its|%[11,r,ob,k _ _ (.Â rb) e|c]]
 | dK kvs=>let(z,y,vs,r,ob,es,ep,e,c):=x;show%[20,z,y,vs,r|%[30,ob,es,ep,k _ _ (.Â rb) e|c]]
 | dT kvs=>let(z,y,xs,r,ob,es,ep,e,c):=x;show%[20,z,y,xs,Paired.ach r λp q z=>%[z.1,B _ _ z.2.1|z.2.2]|%[30,ob,es,ep,k _ _ (.Â rb) e|c]]
 | set S n=>let(ob,es,ep,t,e,c):=x;show%[67,ob,es,ep,t,k _ _ (.Â rb) e|c]
 | ins C dx fs=>let(d,z,ne,e,mA,(od,es,ep,D,c),r):=x;show%[50,g _ d,z,ne,k _ _ (.Â rb) e,mA,%[30,od,es,ep,k _ _ (.Ò d) D|c]|r]
 | own y=>let(ob,e):=x;show%[ob|k _ _ (.Â rb) e]
 | xd fs=>let(mA,(od,es,ep,e,c),r):=x;show%[0,mA,%[30,od,es,ep,k _ _ (.Â rb) e|c]|r]
 | rng lo hi=>let(t,u,v,e):=x;show%[18,t,u,v|k _ _ (.Â rb) e]
 | iu ob u ih=>let(e,q):=x;show%[k _ _ (.Â rb) e|ih q]
 | JV ps=>have e:h.Á a=į {cls:=.Û,data:=.ë ps}:=x;show h'.Á a=į {cls:=.Û,data:=.ë ps};show k a _ (.Â rb) e
 | met f y=>have e:h.Á a=į (W.methodObj (.H f)<|.H y):=x;show h'.Á a=į (W.methodObj (.H f)<|.H y);show k a _ (.Â rb) e
 | ext φ=>let(p,(o,e),st):=x;show%[st _ _ p λo q=>k _ _ (.Â rb) q,%[o|k _ _ (.Â rb) e]|st]
def iw.lt (x:iw P w H h)(e:H a=į o):a<h.Q.E:=(x a o e).lt
def iw.fresh (x:iw P w H h)(e:h.Q.E<=a):H a=Ĵ:=by
 cases q:H a with| none=>rfl| some u=>show ŀ (a7 (x.lt q) e)<|iO _
def iw.kept (x:iw P w H h)(k:∀b u,h.Á b=į u->h'.Á b=į u):iw P w H h':=λa o e=>(x a o e).stay (λb u _ q=>k b u q) (λ_ q=>q) λ_ _ q=>q
def iw.laid (x:iw P w H h)(k:∀b u,h.Á b=į u->h'.Á b=į u)(hp:h.Q.E<=a)(new:cQ P w (upd H a o) h' a o):iw P w (upd H a o) h':=λb u e=>by
 let hn:=x.à hp;by_cases d:b=a;.subst d;rw[au]at e;cases e;show new
 .rw[aM d]at e;show(x b u e).stay (λc v _ q=>k c v q) (λc q=>by rw[aM (aQ q hn)];show q) λc xs q=>by rw[aM (aQ q hn)];show q
end
def Rd (H:Hp)(a:ĸ)(u:HO):Prop:=H a=į u\/∃o,H a=į (.iu o u)
def Rd.ok (r:Rd H a u)(x:iw P w H h):cQ P w H h a u:=by
 rcases r with r|⟨o,r⟩;.show x a u r
 .let(_,q):=x a _ r;show q
def Uj:ĵ HO->Prop
 | some (.Æ _)=>True
 | some (.dK _)=>True
 | some (.dT _)=>True
 | some (.ĉ _ _)=>True
 | some (.Ē _ _ _)=>True
 | some (.ext _)=>True
 | _=>False
section
variable {P:ń}{w:ň}{H:Hp}{h h':Ň}{x e:ĸ}{o':HO}
def iw.write (ok:iw P w H h)(B:Uj (H x))(L:e=x\/H e=į (.own x))(k:∀b u,b≠e->h.Á b=į u->h'.Á b=į u)(J:∃u,h'.Á e=į u)(new:cQ P w (upd H x o') h' x o'):iw P w (upd H x o') h':=λb u q=>by
 let g:∀c y,H c=į (.own y)->c≠x:=λc y r z=>by subst z;rw[r]at B;show B
 let G:∀c xs,H c=į (.Ç xs)->c≠x:=λc xs r z=>by subst z;rw[r]at B;show B
 by_cases F:b=x;.subst F;rw[au]at q;cases q;show new
 .rw[aM F]at q;by_cases d:b=e
  .let q':H b=į (.own x):=by
    rcases L with z|z;.show ŀ (d.À z) F
    .rw[d];show z
   rw[q]at q';cases q';let(v,hv):=J;show%[v|by rw[d];show hv]
  .refine(ok b u q).stay (λc v D r=>k c v ?_ r) (λc r=>by rw[aM (g c b r)];show r) λc xs r=>by rw[aM (G c xs r)];show r
   rcases D with rfl|D;.show d
   .rintro rfl;rcases L with z|z;.show g c b D z
    .rw[D]at z;cases z;show F rfl
end
structure Un (fs ex:İ ĸ)(H H':Hp)(h h':Ň):Prop where
 keep:∀b o,h.Á b=į o->H b=Ĵ->b∉fs->b∉ex->h'.Á b=į o
 slot:∀b o,h.Á b=į o->H b=Ĵ->b∈fs->b∉ex->∃sl,h'.Á b=į {o with slots:=sl}
 free:∀b o,h.Á b=į o->H b=Ĵ->b∉ex->H' b=Ĵ
 there:∀b o,h.Á b=į o->b∉ex->∃o',h'.Á b=į o'
 tups:∀b xs,H b=į (.Ç xs)->H' b=į (.Ç xs)
 uU:∀b o u,H b=į (.iu o u)->H' b=į (.iu o u)
 wj:∀b ps,H b=į (.JV ps)->∃more,H' b=į (.JV<|ps++more)
section
variable {fs ex:İ ĸ}{H H1:Hp}{h h1 h':Ň}{a x e:ĸ}{o:HO}
def Un.any (u:Un fs ex H H1 h h1)(q:h.Á b=į ob)(n:H b=Ĵ)(hx:b∉ex):∃sl,h1.Á b=į {ob with slots:=sl}:=by
 by_cases d:b∈fs;.show u.slot b ob q n d hx
 .show%[ob.slots|u.keep b ob q n d hx]
def Un.kept (k:∀b u,h.Á b=į u->h'.Á b=į u):Un fs ex H H h h':=%[λb ob q _ _ _=>k b ob q,λb ob q _ _ _=>%[ob.slots|k b ob q],λ_ _ _ n _=>n,λb ob q _=>%[ob|k b ob q],λ_ _ q=>q,λ_ _ _ q=>q|λ_ ps q=>%[#[]|by rw[q];simp]]
def Un.refl:Un fs ex H H h h:=Un.Ħ λ_ _ q=>q
def Un.laid (k:∀b u,h.Á b=į u->h'.Á b=į u)(hp:h.Q.E<=a)(hn:H a=Ĵ):Un fs ex H (upd H a o) h h' where
 keep:=λb u q _ _ _=>k b u q
 slot:=λb u q _ _ _=>%[u.slots|k b u q]
 free:=λb u q n _=>by rw[aM (bb<|a7 (a6 q) hp)];show n
 there:=λb u q _=>%[u|k b u q]
 tups:=λb xs q=>by rw[aM (aQ q hn)];show q
 uU:=λb u xs q=>by rw[aM (aQ q hn)];show q
 wj:=λb ps q=>%[#[]|by rw[aM (aQ q hn),q];simp]
def Un.write (g:Uj (H x))(F:e=x\/H e=į (.own x))(k:∀b u,b≠e->h.Á b=į u->h'.Á b=į u)(B:∃u,h'.Á e=į u):Un fs ex H (upd H x o) h h':=by
 let hx:∀b,H b=Ĵ->b≠x:=λb n z=>by subst z;rw[n]at g;show g
 let D:∀b,H b=Ĵ->b≠e:=λb n z=>by
  subst z;rcases F with r|r;.show hx b n r
  .rw[n]at r;cases r
 let hm:∀b u,H b=į u->¬Uj (į u)->b≠x:=λb u q nm z=>by subst z;rw[q]at g;show nm g
 refine%[λb u q n _ _=>k b u (D b n) q,λb u q n _ _=>%[u.slots|k b u (D b n) q],λb u q n _=>by rw[aM (hx b n)];show n,λb u q _=>?_,
  λb xs q=>by rw[aM (hm b _ q λz=>z)];show q,λb u xs q=>by rw[aM (hm b _ q λz=>z)];show q|λb ps q=>%[#[]|by rw[aM (hm b _ q λz=>z),q];simp]]
 by_cases d:b=e;.subst d;show B
 .show%[u|k b u d q]
end
def Z8 (h:Ň)(H:Hp):İ ĸ:=(List.å h.Q.E).û λa=>(H a).č
def wk (h:Ň)(H:Hp):Ň:=W.hideAll h (Z8 h H)
def Uk (h)(H):(wk h H).Q.E=h.Q.E:=W.hideAll_size _ _
def Xz {h:Ň}(e:h.Á b=į o)(n:H b=Ĵ):(wk h H).Á b=į o:=
 W.hideAll_get _ e λhm=>by let q:(H b).č=ĳ:=(fc.mp hm).2;rw[n]at q;simp at q
def aaB (e:(wk h H).Á b=į o):h.Á b=į o/\H b=Ĵ:=by
 let e':h.Á b=į o:=W.of_hideAll (Z8 h H) e;calc%[e'|?_];cases q:H b with| none=>rfl| some x=>have hm:b∈Z8 h H:=fc.Ù %[b3.Ù<|a6 e'|by simp[q]];let z:(wk h H).Á b=Ĵ:=W.hideAll_none (Z8 h H) hm;rw[z]at e;cases e
structure Mod (K:W.Ì)(mg:ņ->ĵ Ĳ)(base:Ň):Prop where
 JW:K.In base
 glob:base.Ns mainGlobals mg
 blt:∃mb,base.Ns builtinsNs mb/\∀x:ņ,x≠"__name__"->mb x=bootBuiltins x
 nolimit:base.NoLimit
structure Cx where
 prog:ń
 w:ň
 K:W.Ì
 mg:ņ->ĵ Ĳ
 base:Ň
 A:ŉ
 N:İ ņ
 s₀:ļ
 H₀:Hp
 env:Env
 outer:İ Env
 stack:İ Env
 ex:İ ĸ
 fn:ņ->ō
 calm:ō
 pn:İ (ĸ×Obj)
 xe:Ĳ->ļ->Prop
def frs (l:İ Env):İ ĸ:=l.ø (·.frame)
abbrev Cx.fs (X:Cx):İ ĸ:=frs X.outer
def Ul (sc:Ŕ)(x:ņ):Prop:=sc.Þ.Å x=į .ā\/sc.Þ.Å x=į .ù\/sc.Þ.Å x=į .Ó
def Loc (sc:Ŕ)(x:ņ):Prop:=sc.Þ.Å x=į .ā\/sc.Þ.Å x=į .ù
def Look (env:Env)(h:Ň)(m:ņ->ĵ Ĳ)(x:ņ)(u:Ĳ):Prop:=(env.Į x=į .ā/\m x=į u)\/((env.Į x=į .ù\/env.Į x=į .Ó)/\∃c,env.cells.Å x=į c/\h.IsCell c (į u))
structure Cx.Ok (X:Cx):Prop where
 mod:Mod X.K X.mg X.ö
 kind:X.Ê.ċ.þ=.function
 glob:X.Ê.globals=mainGlobals
 blt:X.Ê.builtins=builtinsNs
 above:X.s₀.n<=X.Ê.Ď
 inj:∀x y c,X.Ê.cells.Å x=į c->X.Ê.cells.Å y=į c->x=y
 has:∀x,(X.Ê.Į x=į .ù\/X.Ê.Į x=į .Ó)->∃c,X.Ê.cells.Å x=į c
 cab:∀x c,X.fn x=ĳ->X.Ê.cells.Å x=į c->X.s₀.n<=c
 hd:X.ĭ=ĳ->X.A.ï=Ĵ
 frames:X.A.frames=į X.stack
 stk:X.stack=X.outer\/(X.stack=X.Ê::X.outer/\X.Ê.frame=į X.Ê.Ď)
 exf:∀b∈X.ex,b≠X.Ê.Ď/\∀x c,X.Ê.cells.Å x=į c->c≠b
 bs:∀b o,X.ö.Á b=į o->X.s₀.C.Á b=į o/\X.H₀ b=Ĵ
 CP:X.ö.Q.E<=X.s₀.n
 JX:∀b o,X.ö.Á b=į o->b∉X.ex
 Rj:∀b∈X.ex,b∉X.fs
 qz:X.s₀.C.FunFrames X.ö X.outer
 JZ:∀b∈X.fs,X.H₀ b=Ĵ
structure aL (X:Cx)(ao:AC)(σ:İ (ĵ V))(H:Hp)(s:ļ):Prop where
 ok:X.Ok
 os:s.os=X.s₀.os
 bare:ŝ s.gens
 base:Un X.fs X.ex X.H₀ H X.s₀.C s.C
 loc:∃m,s.C.Ns X.Ê.Ď m/\∀(i:ı) (x:ņ) (v:V),X.N[i]?=į x->σ[i]?=į (į v)->Ul X.Ê.ċ x->∃u,bH v u/\Look X.Ê s.C m x u
 cell:∀x c,X.Ê.cells.Å x=į c->∃v,s.C.IsCell c v
 free:H X.Ê.Ď=Ĵ
 nU:∀x c,X.Ê.cells.Å x=į c->H c=Ĵ
 pin:∀p∈X.pn++ao,s.C.Á p.1=į p.2/\H p.1=Ĵ/\p.1≠X.Ê.Ď/\p.1∉X.fs/\∀v,p.2.Ĉ≠.ù v
 hok:iw X.Ñ X.w H s.C
 len:σ.v=X.N.v
section
variable {X:Cx}{ao:AC}{T:İ (ĵ V)}{H H':Hp}{s:ļ}{h':Ň}
def Cx.Ok.afc (ok:X.Ok)(e:X.ö.Á b=į o):b∉X.fs:=λd=>by have:=(ok.qz.mem d).1;rw[e]at this;cases this
def aL.bs (I:aL X ao T H s):∀b o,X.ö.Á b=į o->s.C.Á b=į o/\H b=Ĵ:=λb o e=>%[I.ö.keep b o (I.ok.bs b o e).1 (I.ok.bs b o e).2 (I.ok.afc e)<|I.ok.JX b o e|I.ö.Ó b o (I.ok.bs b o e).1 (I.ok.bs b o e).2<|I.ok.JX b o e]
def aL.bk (I:aL X ao T H s):∀b o,X.ö.Á b=į o->s.C.Á b=į o:=λb o e=>(I.bs b o e).1
def aL.mod (I:aL X ao T H s):Mod X.K X.mg X.ö:=I.ok.mod
def aL.jo (I:aL X ao T H s):X.K.In s.C:=I.ok.mod.JW.keeps I.bk
def aL.lt (I:aL X ao T H s):X.Ê.Ď<s.n:=let %[_,hn|_]:=I.loc;hn.lt
def aL.sz (I:aL X ao T H s):X.s₀.n<=s.n:=ap I.ok.above (ay I.lt)
def aL.afd (I:aL X ao T H s){a:ĸ}(h:s.n<=a):a∉X.fs:=λd=>by let(_,o,g,_):=I.ok.qz.mem d;show ŀ (a7 (a6 g)<|ap I.sz h)<|iO _
def aL.GF (I:aL X ao T H s):∀x c,X.Ê.cells.Å x=į c->c≠X.Ê.Ď:=λx c e z=>by let(v,o,q,hd):=I.ù x c e;let(m,(o',es,ep,g,d,_),_):=I.loc;rw[z,g]at q;cases q;rw[d]at hd;cases hd
def aL.qz (I:aL X ao T H s):s.C.FunFrames X.ö X.outer:=by
 let all:∀(l:İ Env),(∀b∈frs l,b∈X.fs)->X.s₀.C.FunFrames X.ö l->s.C.FunFrames X.ö l:=by
  intro l
  induction l with| nil=>intro _ _;trivial| cons env r ih=>intro hs B;let(hk,(L,o,hf,hn,q,hd),hr):=B;let d:L∈X.fs:=hs L (by unfold frs;rw[mf,hf];show a4);let(sl,e):=I.ö.slot L o q (I.ok.JZ L d) d λz=>I.ok.Rj L z d;show%[hk,%[4,L,_,hf,hn,e|hd]|ih (λb g=>hs b (by unfold frs;rw[mf,hf];show av _ g)) hr]
 show all X.outer (λ_ g=>g) I.ok.qz
def aL.stack (I:aL X ao T H s):s.C.FunFrames X.ö X.stack:=by
 rcases I.ok.stk with e|⟨e,hf⟩;.rw[e];show I.qz
 .rw[e];let(m,hn,_):=I.loc;calc .á (by rw[I.ok.kind];decide) hf hn ?_ I.qz;show Heap.get?_none_of_le<|ap I.ok.CP I.ok.above
def aL.J0 (I:aL X ao T H s):∀b∈frs X.stack,b∈X.Ê.Ď::X.fs:=λb d=>by
 rcases I.ok.stk with e|⟨e,hf⟩;.rw[e]at d;show av _ d
 .rw[e]at d;unfold frs at d;rw[mf,hf]at d;show d
def aL.Ou (I:aL X ao T H s):∀b∈frs X.stack,H b=Ĵ:=λb d=>by
 rcases a8.mp (I.J0 b d) with e|d;.rw[e];show I.Ó
 .let(_,o,g,_):=I.ok.qz.mem d;show I.ö.Ó b o g (I.ok.JZ b d) λz=>I.ok.Rj b z d
def aL.step {g':ł GenState}{t':ı}{d':Drawn}{ch:İ ĸ}(I:aL X ao T H s)(B:∀b∈ch,(b∈X.ex\/X.s₀.n<=b)/\b≠X.Ê.Ď/\(∀x c,X.Ê.cells.Å x=į c->c≠b)/\∀p∈X.pn++ao,p.1≠b)(keep:∀b o,b≠X.Ê.Ď->b∉X.fs->b∉ch->s.C.Á b=į o->H b=Ĵ->h'.Á b=į o)(slot:∀b o,b≠X.Ê.Ď->b∈X.fs->b∉ch->s.C.Á b=į o->H b=Ĵ->∃sl,h'.Á b=į {o with slots:=sl})(free:∀b o,b∉ch->s.C.Á b=į o->H b=Ĵ->H' b=Ĵ)(there:∀b o,b∉ch->s.C.Á b=į o->∃o',h'.Á b=į o')(tups:∀b xs,H b=į (.Ç xs)->H' b=į (.Ç xs))(uU:∀b o u,H b=į (.iu o u)->H' b=į (.iu o u))(wj:∀b ps,H b=į (.JV ps)->∃more,H' b=į (.JV<|ps++more))(ns:∀m,s.C.Ns X.Ê.Ď m->h'.Ns X.Ê.Ď m)(hok:iw X.Ñ X.w H' h')(hg:ŝ g'):aL X ao T H' {s with heap:=h',gens:=g',drawn:=d',toks:=t' }:=by
 let L:∀b o,X.s₀.C.Á b=į o->b≠X.Ê.Ď:=λb o e=>bb<|a7 (a6 e) I.ok.above;let N:∀b o,X.s₀.C.Á b=į o->b∉X.ex->b∉ch:=λb o e hx F=>by
  rcases(B b F).1 with z|z;.show hx z
  .show ŀ (a7 (a6 e) z)<|iO _
 let g:∀x c,X.Ê.cells.Å x=į c->∀v,s.C.IsCell c v->h'.IsCell c v:=λx c e v ⟨o,G,hd⟩=>by
  let J:c∉ch:=λz=>(B c z).2.2.1 x c e rfl;by_cases Y:c∈X.fs
  .let(sl,q):=slot c o (I.GF x c e) Y J G (I.nU x c e);show%[0,_,q|hd]
  .show%[0,o,keep c o (I.GF x c e) Y J G<|I.nU x c e|hd]
 calc%[I.ok,I.os,hg,%[λb o e n F hx=>?_,λb o e n F hx=>?_,λb o e n hx=>?_,λb o e hx=>?_,λb xs e=>tups b xs<|I.ö.tups b xs e,λb o xs e=>uU b o xs<|I.ö.uU b o xs e|λb ps e=>?_],?_,λx c e=>?_,?_,λx c e=>?_,λp hp=>?_,hok|I.ď];.show keep b o (L b o e) F (N b o e hx) (I.ö.keep b o e n F hx)<|I.ö.Ó b o e n hx
 .let(sl,D):=I.ö.slot b o e n F hx;let(O,M):=slot b _ (L b o e) F (N b o e hx) D (I.ö.Ó b o e n hx);show%[O|M]
 .let(o',D):=I.ö.there b o e hx;show free b o' (N b o e hx) D<|I.ö.Ó b o e n hx
 .let(o',D):=I.ö.there b o e hx;show there b o' (N b o e hx) D
 .let(m1,D):=I.ö.wj b ps e;let(m2,M):=wj b _ D;show%[m1++m2|by rw[M,Array.append_assoc]]
 .let(m,hn,hl):=I.loc;calc%[0,m,ns m hn|λi x v D M e3=>?_];let(u,r,l):=hl i x v D M e3;calc%[0,u,r|?_];rcases l with l|⟨k,c,e,z⟩;.show .Â l
  .show .Ò %[11,k,c,e|g x c e _ z]
 .let(v,z):=I.ù x c e;show%[v|g x c e v z]
 .let(m,(o,_,_,G,_),_):=I.loc;show free _ o (λz=>(B _ z).2.1 rb) G I.Ó
 .let(v,o,G,hd):=I.ù x c e;show free c o (λz=>(B c z).2.2.1 x c e rb) G<|I.nU x c e
 .let(e,n,ne,Z,d):=I.pin p hp;let J:p.1∉ch:=λz=>(B p.1 z).2.2.2 p hp rfl;show%[keep p.1 p.2 ne Z J e n,free p.1 p.2 J e n,ne,Z|d]
def aL.un (I:aL X ao T H s)(u:Un X.fs [] H H' s.C h')(hok:iw X.Ñ X.w H' h'):aL X ao T H' {s with heap:=h',toks:=t' }:=by
 let(m,(o,es,ep,D,r),_):=id I.loc;let(sl,L):=u.Ğ D I.Ó yi;show I.step (g':=s.gens) (d':=s.drawn) (ch:=[]) (λ_ z=>nomatch z) (λb o _ q _ e n=>u.keep b o e n q yi) (λb o _ q _ e n=>u.slot b o e n q yi) (λb o _ e n=>u.Ó b o e n yi) (λb o _ e=>u.there b o e yi) u.tups u.uU u.wj (λm' hm=>by let(o',B,g,d,r'):=hm;rw[D]at d;cases d;show%[30,_,B,g,L|r']) hok I.bare
def aL.call (I:aL X ao T H s)(u:Un (frs X.stack) ch H H' s.C h')(hok:iw X.Ñ X.w H' h')(G:ŝ g')(g:∀b∈ch,(b∈X.ex\/X.s₀.n<=b)/\b≠X.Ê.Ď/\(∀x c,X.Ê.cells.Å x=į c->c≠b)/\∀p∈X.pn++ao,p.1≠b):aL X ao T H' {s with heap:=h',gens:=g',drawn:=d',toks:=t' }:=by
 let(m,(o,es,ep,F,r),_):=id I.loc;let(sl,L):=u.Ğ F I.Ó λz=>(g _ z).2.1 rfl;show I.step (ch:=ch) g (λb o L J d e n=>u.keep b o e n (λz=>(a8.mp<|I.J0 b z).ó L J) d) (λb o _ _ d e n=>u.Ğ e n d) (λb o d e n=>u.Ó b o e n d) (λb o d e=>u.there b o e d) u.tups u.uU u.wj (λm' hm=>by let(o',D,B,q,r'):=hm;rw[F]at q;cases q;show%[30,_,D,B,L|r']) hok G
def aL.turned (I:aL X ao T H s)(k:∀b o,b≠it->s.C.Á b=į o->h'.Á b=į o)(hn:H it=Ĵ)(L:it≠X.Ê.Ď)(h1:it∈X.ex\/X.s₀.n<=it)(G:∀x c,X.Ê.cells.Å x=į c->c≠it)(F:∀p∈X.pn++ao,p.1≠it):aL X ao T H {s with heap:=h',toks:=t' }:=by
 let g:∀b u,H b=į u->b≠it:=λb u e z=>by rw[z,hn]at e;cases e
 refine I.step (g':=s.gens) (d':=s.drawn) (ch:=[it]) (λb D=>?_) (λb o _ _ d e _=>k b o (λz=>d (by simp[z])) e) (λb o _ _ d e _=>%[o.slots|k b o (λz=>d (by simp[z])) e]) (λ_ _ _ _ n=>n)
  (λb o d e=>%[o|k b o (λz=>d (by simp[z])) e]) (λ_ _ e=>e) (λ_ _ _ e=>e) (λb ps e=>%[#[]|by rw[e];simp]) (λm hm=>?_) (λb u e=>?_) I.bare
 .let e:b=it:=by simpa using D
  subst e;show%[h1,L,G|F]
 .let(o,es,ep,B,r):=hm;show%[30,o,es,ep,k _ o (ib L) B|r]
 .refine(I.ð b u e).stay (λc v d q=>k c v ?_ q) (λ_ q=>q) λ_ _ q=>q
  rcases d with z|z;.rw[z];show g b u e
  .show g c _ z
def aL.tok (I:aL X ao T H s)(t):aL X ao T H {s with toks:=t}:=I.un (h':=s.heap) (t':=t) Un.Č I.ð
def aL.kept (I:aL X ao T H s)(k:∀b u,s.C.Á b=į u->h'.Á b=į u):aL X ao T H {s with heap:=h',toks:=t' }:=I.un (Un.Ħ k) (I.ð.Ħ k)
def aL.laid {a:ĸ}{o:HO}{t':ı}(I:aL X ao T H s)(k:∀b u,s.C.Á b=į u->h'.Á b=į u)(hp:s.n<=a)(new:cQ X.Ñ X.w (upd H a o) h' a o):aL X ao T (upd H a o) {s with heap:=h',toks:=t' }:=I.un (Un.ģ k hp<|I.ð.à hp) (I.ð.ģ k hp new)
def aL.write (I:aL X ao T H s)(q:Uj (H x))(g:e=x\/H e=į (.own x))(k:∀b u,b≠e->s.C.Á b=į u->h'.Á b=į u)(d:∃u,h'.Á e=į u)(new:cQ X.Ñ X.w (upd H x o) h' x o):aL X ao T (upd H x o) {s with heap:=h',toks:=t' }:=I.un (Un.write q g k d) (I.ð.write q g k d new)
def aL.Ov (I:aL X ao T H s)(h:∀p∈aef,s.C.Á p.1=į p.2/\H p.1=Ĵ/\p.1≠X.Ê.Ď/\p.1∉X.fs/\∀v,p.2.Ĉ≠.ù v):aL X aef T H s:=%[I.ok,I.os,I.bare,I.ö,I.loc,I.ù,I.Ó,I.nU,λp hp=>(aT.mp hp).ó (λz=>I.pin p<|nI _ z)<|h p,I.ð|I.ď]
def J1 {N:İ ņ}(q:N.Ö){i j:ı}{x:ņ}(a:N[i]?=į x)(b:N[j]?=į x):i=j:=by let(h1,d):=al.mp a;let(B,g):=al.mp b;show(List.getElem_inj q).mp<|d.À g.Ð
def ud (I:aL X ao T H s)(hN:X.N.Ö)(hi:X.N[i]?=į x)(hx:Loc X.Ê.ċ x)(r:bH v u)(h:∀s',aL X ao (T.ĉ i<|į v) H s'->(∃a,Heap.ă a s.C s'.C/\(a=X.Ê.Ď\/X.Ê.cells.Å x=į a))->(∃m,s'.C.Ns X.Ê.Ď m/\Look X.Ê s'.C m x u)->Q () s')(hf:Ŷ (X.fn x=ĳ\/X.Ê.ċ.Þ.Å x=į .ā) Ż):ĺ M A (storeName X.Ê x u) Q E s:=by
 let(m,hn,hl):=id I.loc;let hcls:(X.Ê.ċ.þ == .class||(X.Ê.ċ.þ == .module&&X.Ê.Ď != X.Ê.globals))=Ķ:=by rw[I.ok.kind];rfl
 let hiσ:i<T.v:=by rw[I.len];show(al.mp hi).1
 let GF:=I.GF;let D:∀{a:ĸ} {h':Ň},(∃o,s.C.Á a=į o/\H a=Ĵ)->Heap.ă a s.C h'->iw X.Ñ X.w H h':=λ{a h'} ha hs b ob e=>by
  let(_,_,F):=ha;calc(I.ð b ob e).stay (λc w' B q=>(hs.2 c ?_).À q) (λ_ q=>q) λ_ _ q=>q;rintro rfl;rcases B with rfl|B
  .rw[F]at e;cases e
  .rw[F]at B;cases B
 rcases hx with hk|hk
 .calc wpAny_storeName_local hk hn (λh' hn' hs=>?_) hcls;let(oL,_,_,hoL,_):=id hn;calc h _ %[I.ok,I.os,I.bare,%[λb o e n O hx=>?_,λb o e n O hx=>?_,I.ö.Ó,λb o e hx=>?_,I.ö.tups,I.ö.uU|I.ö.wj],%[0,_,hn'|λj y v' g G e3=>?_],λy c e=>?_,I.Ó,I.nU,λp hp=>?_,D %[0,oL,hoL|I.Ó] hs|by simpa using I.len] %[0,_,hs|.Â rb] %[0,_,hn'|.Â %[hk|yi]];.show(hs.2 b<|bb<|a7 (a6 e) I.ok.above).À<|I.ö.keep b o e n O hx
  .let(sl,g):=I.ö.slot b o e n O hx;show%[sl|(hs.2 b<|bb<|a7 (a6 e) I.ok.above).À g]
  .let(o',g):=I.ö.there b o e hx;show%[o'|(hs.2 b<|bb<|a7 (a6 e) I.ok.above).À g]
  .by_cases L:j=i
   .subst L;rw[hi]at g;cases g;rw[kC hiσ]at G;cases G;show%[0,u,r|.Â %[hk|yi]]
   .rw[nL (ib L)]at G;let(u',r',q):=hl j y v' g G e3;calc%[0,u',r'|?_];rcases q with⟨k,e⟩|⟨k,c,e,z⟩
    .calc .Â %[k|?_];have:y≠x:=λe=>L<|J1 hN g<|e ▸ hi;simp[this,e]
    .show .Ò %[11,k,c,e|z.sameBut hs<|GF y c e]
  .let(w',z):=I.ù y c e;show%[w'|z.sameBut hs<|GF y c e]
  .let(e,n,ne,nf,d):=I.pin p hp;show%[(hs.2 p.1 ne).À e,n,ne,nf|d]
 .let J:X.fn x=ĳ:=by
   rcases hf with z|z;.show z
   .rw[z]at hk;cases hk
  let(c,B):=I.ok.has x (.Â hk);let(w',z):=I.ù x c B;calc wpAny_storeName_cell I.ok.þ hk B z λh' N hs=>?_;let(oc,Y,afe):=id z;calc h {s with heap:=h' } %[I.ok,I.os,I.bare,%[λb o e n O hx=>?_,λb o e n O hx=>?_,I.ö.Ó,λb o e hx=>?_,I.ö.tups,I.ö.uU|I.ö.wj],%[0,m,hn.sameBut hs<|ib<|GF x c B|λj y v' g G e3=>?_],λy c' e=>?_,I.Ó,I.nU,λp hp=>?_,D %[0,oc,Y|I.nU x c B] hs|by simpa using I.len] %[0,c,hs|.Ò B] %[0,m,hn.sameBut hs<|ib<|GF x c B|.Ò %[11,.Â hk,c,B|N]];.show(hs.2 b<|bb<|a7 (a6 e)<|I.ok.cab x c J B).À<|I.ö.keep b o e n O hx
  .let(sl,g):=I.ö.slot b o e n O hx;show%[sl|(hs.2 b<|bb<|a7 (a6 e)<|I.ok.cab x c J B).À g]
  .let(o',g):=I.ö.there b o e hx;show%[o'|(hs.2 b<|bb<|a7 (a6 e)<|I.ok.cab x c J B).À g]
  .by_cases L:j=i
   .subst L;rw[hi]at g;cases g;rw[kC hiσ]at G;cases G;show%[0,u,r|.Ò %[11,.Â hk,c,B|N]]
   .rw[nL (ib L)]at G;let(u',r',q):=hl j y v' g G e3;calc%[0,u',r'|?_];rcases q with q|⟨k,c',e,z'⟩;.show .Â q
    .calc .Ò %[11,k,c',e|z'.sameBut hs ?_];rintro rfl;show L<|J1 hN g<|I.ok.inj _ _ _ e B ▸ hi
  .by_cases Z:c'=c;.subst Z;show%[_|N]
   .let(w2,z2):=I.ù y c' e;show%[w2|z2.sameBut hs Z]
  .let(e,n,ne,nf,d):=I.pin p hp;calc%[(hs.2 p.1 ?_).À e,n,ne,nf|d];intro q;rw[q,Y]at e;let q':oc=p.2:=bo e;show d w' (by rw[<-q'];show afe)
def Bq (I:aL X ao T H s)(N:X.N.Ö)(hi:X.N[i]?=į x)(hx:Loc X.Ê.ċ x)(r:bH v u)(h:∀s',aL X ao (T.ĉ i<|į v) H s'->Q () s')(hf:Ŷ (X.fn x=ĳ\/X.Ê.ċ.Þ.Å x=į .ā) Ż):wpAny M A (storeName X.Ê x u) Q E s:=ud I N hi hx r (λs' I' _ _=>h s' I') hf
def aL.call' {s':ļ}(I:aL X ao T H s)(q:s'.os=s.os)(u:Un (frs X.stack) ch H H' s.C s'.C)(hok:iw X.Ñ X.w H' s'.C)(g:ŝ s'.gens)(d:∀b∈ch,(b∈X.ex\/X.s₀.n<=b)/\b≠X.Ê.Ď/\(∀x c,X.Ê.cells.Å x=į c->c≠b)/\∀p∈X.pn++ao,p.1≠b):aL X ao T H' s':=by let(h',g',d',t',o'):=s';let e:o'=s.os:=q;subst e;show I.call (g':=g') (t':=t') (d':=d') u hok g d
end
abbrev XK:=Ĳ->ĵ ĸ->Hp->Prop
abbrev St:=İ (ĵ V)
abbrev VK:=V->Hp->Prop
abbrev TE:=St->Hp->VK->Prop
abbrev TT:=St->Hp->(ō->Hp->Prop)->Prop
abbrev TA:=St->Hp->(İ V->Hp->Prop)->Prop
structure Ends where
 nx:St->Hp->Prop
 rt:VK
 bk:St->Hp->Prop:=λ_ _=>ŗ
 ct:St->Hp->Prop:=λ_ _=>ŗ
abbrev TS:=Ends->St->Hp->Prop
def EP (X:Cx)(ao:AC)(I:St)(Q:VK)(u:Ĳ)(s':ļ):Prop:=∃v H',aL X ao I H' s'/\bH v u/\Q v H'
def TP (X:Cx)(ao:AC)(I:St)(Q:ō->Hp->Prop)(b:ō)(s':ļ):Prop:=∃H',aL X ao I H' s'/\Q b H'
def AP (X:Cx)(ao:AC)(I:St)(Q:İ V->Hp->Prop)(us:İ Ĳ)(s':ļ):Prop:=∃vs H',aL X ao I H' s'/\Vals vs us/\Q vs H'
def SP (X:Cx)(ao:AC)(D:Ends)(f:Flow)(s':ļ):Prop:=match f with| .next=>∃I' H',aL X ao I' H' s'/\D.nx I' H'| .brk=>∃I' H',aL X ao I' H' s'/\D.bk I' H'| .cont=>∃I' H',aL X ao I' H' s'/\D.ct I' H'| .ret u=>∃v I' H',aL X ao I' H' s'/\bH v u/\D.rt v H'
def PE (X:Cx)(e:ŋ)(t:TE):Prop:=∀(ao:AC) (s:ļ) (I:St) (H:Hp) (Q:VK),aL X ao I H s->t I H Q->ĺ (ľ X.Ñ X.w) X.A (ŏ e X.Ê) (EP X ao I Q) X.xe s
structure QE (X:Cx)(e:ŋ)(t:TE):Prop where
 out:PE X e t
def PT (X:Cx)(e:ŋ)(t:TT):Prop:=∀(ao:AC) (s:ļ) (I:St) (H:Hp) (Q:ō->Hp->Prop),aL X ao I H s->t I H Q->ĺ (ľ X.Ñ X.w) X.A (isTrue e X.Ê<|ŏ e X.Ê) (TP X ao I Q) X.xe s
structure QT (X:Cx)(e:ŋ)(t:TT):Prop where
 out:PT X e t
def PW (X:Cx)(e:ŋ)(t:TT):Prop:=∀(d:Sem Ĳ) (ao:AC) (s:ļ) (I:St) (H:Hp) (Q:ō->Hp->Prop),aL X ao I H s->t I H Q->ĺ (ľ X.Ñ X.w) X.A (isTrue e X.Ê d) (TP X ao I Q) X.xe s
structure QW (X:Cx)(e:ŋ)(t:TT):Prop where
 out:PW X e t
def PW.pt (h:PW X e t):PT X e t:=h _
def PA (X:Cx)(es:İ ŋ)(t:TA):Prop:=∀(pos:Pos) (ao:AC) (s:ļ) (I:St) (H:Hp) (Q:İ V->Hp->Prop),aL X ao I H s->t I H Q->ĺ (ľ X.Ñ X.w) X.A (spliced<|backTo pos<|Ņ es X.Ê) (AP X ao I Q) X.xe s
structure QA (X:Cx)(es:İ ŋ)(t:TA):Prop where
 out:PA X es t
def PS (X:Cx)(st:Ŋ)(t:TS):Prop:=∀(ao:AC) (s:ļ) (I:St) (H:Hp) (D:Ends),aL X ao I H s->t D I H->ĺ (ľ X.Ñ X.w) X.A (exec st X.Ê) (SP X ao D) X.xe s
structure QS (X:Cx)(st:Ŋ)(t:TS):Prop where
 out:PS X st t
def GK (X:Cx)(st:İ Ŋ)(t:TS):Prop:=∀(ao:AC) (s:ļ) (I:St) (H:Hp) (D:Ends),aL X ao I H s->t D I H->ĺ (ľ X.Ñ X.w) X.A (execs st X.Ê) (SP X ao D) X.xe s
structure vq (X:Cx)(st:İ Ŋ)(t:TS):Prop where
 out:GK X st t
def bD {I:Type}{t:Sem I}{Q Q':I->ļ->Prop}(h:ĺ M A t Q E s)(d:∀a s,Q a s->Q' a s):ĺ M A t Q' E s:=gg h d λ_ _ x=>x
section
variable {X:Cx}
abbrev gV (o:ĵ (ĵ V))(f:V->Prop):Prop:=match o with|some (some v)=>f v|_=>False
theorem aeg:∀{o:ĵ (ĵ V)},gV o f->∃v,o=į (į v)/\f v
 | some (some v),h=>%[0,v,rb|h]
def ags (v)(e:o=į (į v))(h:f v):gV o f:=by subst e;show h
abbrev GQ (x:V)(f:ō->Prop):Prop:=match x with|.bl c=>f c|_=>False
theorem mD:∀{x:V},GQ x f->∃c,x=.bl c/\f c
 | .bl c,h=>%[0,c,rb|h]
def aZ (c)(e:x=.bl c)(h:f c):GQ x f:=by subst e;show h
def cT (i:ı):TE:=λT H Q=>gV T[i]? λv=>Q v H
def tC (v:V):TE:=λ_ H Q=>Q v H
def acj {i:ı}{x:ņ}{pos:Pos}(N:X.N[i]?=į x)(hv:Ul X.Ê.ċ x)(hd:Ŷ ((x==("__debug__":ņ))=Ķ) Ÿ)(q:Ŷ ((x==("__classdict__":ņ))=Ķ) Ÿ):PE X (.è x pos) (cT i):=by
 intro ao s T H Q I h;let(v,e,h):=aeg h;let(m,hn,D):=I.loc;let(u,r,l):=D i x v N e hv;let g:EP X ao T Q u s:=%[1,v,H,I,r|h]
 rcases l with⟨hk,hm⟩|⟨hk,c,B,d⟩;.show sL (uu I.ok.þ hk hn hm g) hd
 .rcases hk with hk|hk;.show sL (wpAny_loadName_cell I.ok.þ hk B d g) hd
  .show sL (wpAny_loadName_free I.ok.þ hk B d g q) hd
def Uq {i j pos}:PE X (.Ć (.M i) j pos) (tC<|.M i):=λ_ _ _ H _ I h=>wm %[1,.M i,H,I.tok _,%[_|rb]|h]
def gG {b j pos}:QE X (.Ć (.Ă b) j pos) (tC<|.bl b):=⟨λ_ _ _ H _ I h=>Constant_bool %[1,.bl b,H,I,rb|h]⟩
def acn {x j pos}:PE X (.Ć (.X x) j pos) (tC<|.X x):=λ_ _ _ H _ I h=>oC %[1,.X x,H,I.tok _,%[_|rb]|h]
def Gl (X:Cx)(x:ņ):Prop:=X.Ê.Į x=į .globalImplicit
def zO {E:AB}{ao:AC}{s:ļ}{T:St}{H:Hp}{x:ņ}{u:Ĳ}{pos:Pos}{Q:AB}(I:aL X ao T H s)(g:Gl X x)(hm:X.mg x=į u)(h:Q u s)(hd:Ŷ ((x==("__debug__":ņ))=Ķ) Ÿ):ĺ (ľ X.Ñ X.w) X.A (ŏ (.è x pos) X.Ê) Q E s:=Calls.Name_function_global I.ok.þ g (Calls.loadGlobal_global (by rw[I.ok.glob];show I.mod.glob.keeps I.bk) hm h) hd
def mF {E:AB}{ao:AC}{s:ļ}{T:St}{H:Hp}{x:ņ}{u:Ĳ}{pos:Pos}{Q:AB}(I:aL X ao T H s)(g:Gl X x)(hm:X.mg x=Ĵ)(hv:bootBuiltins x=į u)(h:Q u s)(hn:Ŷ (x≠"__name__") Ÿ)(hd:Ŷ ((x==("__debug__":ņ))=Ķ) Ÿ):ĺ (ľ X.Ñ X.w) X.A (ŏ (.è x pos) X.Ê) Q E s:=by let(mb,h1,d):=I.mod.blt;show Calls.Name_function_global I.ok.þ g (Calls.loadGlobal_builtin (by rw[I.ok.glob];show I.mod.glob.keeps I.bk) hm (by rw[I.ok.blt];show h1.keeps I.bk) ((d x hn).À hv) h) hd
def Ow (g:Gl X x)(hm:X.mg x=į u)(r:bH v u)(hd:Ŷ ((x==("__debug__":ņ))=Ķ) Ÿ):QE X (.è x pos) (tC v):=⟨λ_ _ _ H _ I h=>zO I g hm %[1,v,H,I,r|h] hd⟩
def o8 {x:ņ}{v:V}{u:Ĳ}{pos:Pos}(g:Gl X x)(hm:X.mg x=Ĵ)(hv:bootBuiltins x=į u)(r:bH v u)(hn:Ŷ (x≠"__name__") Ÿ)(hd:Ŷ ((x==("__debug__":ņ))=Ķ) Ÿ):QE X (.è x pos) (tC v):=⟨λ_ _ _ H _ I h=>mF I g hm hv %[1,v,H,I,r|h] hn hd⟩
variable {a b:ŋ}{ta tb:TE}{pos:Pos}
def PC (X:Cx)(op:CmpOp)(a b:ŋ)(t:TE):Prop:=∀(ao:AC) (s:ļ) (T:St) (H:Hp) (Q:VK),aL X ao T H s->t T H Q->
  ĺ (ľ X.Ñ X.w) X.A (ŏ a X.Ê) (λv d=>ĺ (ľ X.Ñ X.w) X.A (ŏ b X.Ê) (λu g=>ĺ (ľ X.Ñ X.w) X.A (compareOp op v u) (EP X ao T Q) X.xe g) X.xe d) X.xe s
structure QC (X:Cx)(op:CmpOp)(a b:ŋ)(t:TE):Prop where
 out:PC X op a b t
def tB (t:TE):TT:=λT H Q=>t T H λx H1=>GQ x λc=>Q c H1
def aco (h:QC X op a b t)(h1:Ŷ (behindInMarks op b=Ķ) ż):QE X (.Compare a [op] [b] pos) t:=⟨λao s T H Q I hw=>wpAny_Compare1 (h.Ý ao s T H Q I hw) h1⟩
def CQ (h:QC X op a b t)(h1:Ŷ (behindInMarks op b=Ķ) ż):QT X (.Compare a [op] [b] pos) (tB t):=⟨by
 intro ao s T H Q I hw;calc ue (bD (h.Ý ao s T H _ I hw) λv s1 h1=>bD h1 λu s2 g=>bD g λc B ⟨x,H1,I1,r1,q1⟩=>?_) h1;let(d,rfl,q):=mD q1;cases r1;show eM %[0,H1,I1|q]⟩
def dJ (h:QE X e t)(B:Ŷ (∀g,isTrue e X.Ê g=(do let v <- g;standAt e.pos;holding [v] (truthy v))) ź):QT X e (tB t):=⟨by
 intro ao s T H Q I hw;calc isTrue_plain (bD (h.Ý ao s T H _ I hw) λv s1 ⟨x,H1,I1,r1,q1⟩=>?_)<|B _;let(d,rfl,q):=mD q1;cases r1;show eM %[0,H1,I1|q]⟩
variable {tA Z9:TT}{rest:İ ŋ}
def afg (t u:TT):TT:=λT H Q=>t T H λc H1=>if c=ĳ then u T H1 Q else Q Ķ H1
def tOr (t u:TT):TT:=λT H Q=>t T H λc H1=>if c=ĳ then Q ĳ H1 else u T H1 Q
def Rk (t:TT):TT:=λT H Q=>t T H λc H1=>Q (!c) H1
def zP (ha:QT X a tA):QW X (.BoolOp .And [a] pos) tA:=⟨by
 intro d ao s T H Q I h;calc isTrue_and<|bD (ha.Ý ao s T H Q I h) λc s1 e=>?_;cases c with
 | true=>show isTrue_and_nil e
 | false=>show e⟩
def rT (ha:QT X a tA):QW X (.BoolOp .Or [a] pos) tA:=⟨by
 intro d ao s T H Q I h;calc isTrue_or<|bD (ha.Ý ao s T H Q I h) λc s1 e=>?_;cases c with
 | false=>show isTrue_or_nil e
 | true=>show e⟩
def CT (ha:QT X a tA)(d:QW X (.BoolOp .And (b::rest) pos) Z9):QW X (.BoolOp .And (a::b::rest) pos) (afg tA Z9):=⟨by
 intro q ao s T H Q I h;calc isTrue_and<|bD (ha.Ý ao s T H _ I h) λc s1 g=>?_;let(H1,I1,q1):=g;cases c with
 | true=>show d.Ý q ao s1 T H1 Q I1 q1
 | false=>show%[0,H1,I1|q1]⟩
def wu (ha:QT X a tA)(d:QW X (.BoolOp .Or (b::rest) pos) Z9):QW X (.BoolOp .Or (a::b::rest) pos) (tOr tA Z9):=⟨by
 intro q ao s T H Q I h;calc isTrue_or<|bD (ha.Ý ao s T H _ I h) λc s1 g=>?_;let(H1,I1,q1):=g;cases c with
 | true=>show%[0,H1,I1|q1]
 | false=>show d.Ý q ao s1 T H1 Q I1 q1⟩
def fK (ha:QT X a tA):QT X (.UnaryOp .Not a pos) (Rk tA):=⟨by
 intro ao s T H Q I h;show isTrue_not<|ha.Ý ao s T H (λc H1=>Q (!c) H1) I h⟩
def aeh (ta tb:TE):TE:=λT H Q=>ta T H λx H1=>GQ x λc=>if c=ĳ then tb T H1 Q else Q (.bl Ķ) H1
def afh (ta tb:TE):TE:=λT H Q=>ta T H λx H1=>GQ x λc=>if c=ĳ then Q (.bl ĳ) H1 else tb T H1 Q
def aei (ta:TE):TE:=λT H Q=>ta T H λx H1=>GQ x λc=>Q (.bl<|!c) H1
def mG {op}(h:QE X a t):QE X (.BoolOp op [a] pos) t:=⟨λao s T H Q I hw=>BoolOp_one<|h.Ý ao s T H Q I hw⟩
def pZ (ha:QE X a ta)(d:QE X (.BoolOp .And (b::rest) pos) tb):QE X (.BoolOp .And (a::b::rest) pos) (aeh ta tb):=⟨by
 intro ao s T H Q I h;calc BoolOp_and<|bD (ha.Ý ao s T H _ I h) λv s1 g=>?_;let(x,H1,I1,r1,q1):=g;let(c,rfl,q1):=mD q1;cases r1;calc eM ?_;cases c with
 | true=>show d.Ý ao s1 T H1 Q I1 q1
 | false=>show%[1,.bl Ķ,H1,I1,rb|q1]⟩
def Rm (ha:QE X a ta)(d:QE X (.BoolOp .Or (b::rest) pos) tb):QE X (.BoolOp .Or (a::b::rest) pos) (afh ta tb):=⟨by
 intro ao s T H Q I h;calc BoolOp_or<|bD (ha.Ý ao s T H _ I h) λv s1 g=>?_;let(x,H1,I1,r1,q1):=g;let(c,rfl,q1):=mD q1;cases r1;calc eM ?_;cases c with
 | false=>show d.Ý ao s1 T H1 Q I1 q1
 | true=>show%[1,.bl ĳ,H1,I1,rb|q1]⟩
def acp (ha:QE X a ta):QE X (.UnaryOp .Not a pos) (aei ta):=⟨by
 intro ao s T H Q I h;calc UnaryOp_<|bD (ha.Ý ao s T H _ I h) λv s1 ⟨x,H1,I1,r1,q1⟩=>?_;let(c,rfl,q1):=mD q1;cases r1;show not_of<|eM %[1,.bl<|!c,H1,I1,rb|q1]⟩
def tIf (t:TT)(ta tb:TE):TE:=λT H Q=>t T H λc H1=>if c=ĳ then ta T H1 Q else tb T H1 Q
def rU (B:QT X c tA)(ha:QE X a ta)(g:QE X b tb):QE X (.IfExp c a b pos) (tIf tA ta tb):=⟨by
 intro ao s T H Q I h;calc wpAny_IfExp<|bD (B.Ý ao s T H _ I h) λd s1 q=>?_;let(H1,I1,q1):=q;cases d with
 | true=>show ha.Ý ao s1 T H1 Q I1 q1
 | false=>show g.Ý ao s1 T H1 Q I1 q1⟩
end
def aP (K:W.Ì)(H:Hp)(a:ĸ)(xs:İ V):Prop:=Rd H a (.Æ xs)\/
  ∃(o:Obj) (its:ł Ĳ) (n:Nat),K.Å a=į o/\o.cls=.Ä "list"/\o.dict=Ĵ/\o.Ĉ=.î its n/\its.E<=Ľ/\Vals xs its.I
def bf (K:W.Ì)(H:Hp)(a:ĸ)(xs:İ V):Prop:=Rd H a (.Ç xs)\/
  ∃(o:Obj) (its:ł Ĳ) (n:Nat),K.Å a=į o/\o.cls=.Ä "tuple"/\o.Ĉ=.î its n/\its.E<=Ľ/\Vals xs its.I
def afi:Ĳ->ĵ V
 | .Û=>į .đ
 | .Ă b=>į (.bl b)
 | .M i _=>į (.M i)
 | .X x _=>į (.X x)
 | .bytes b _=>į (.xZ b)
 | .float b _=>į (.flt b)
 | .H a=>į (.H a)
 | .Ä n=>į (.ty n)
 | _=>none
def bH.abs (r:bH x u):afi u=į x:=by
 cases x with
 | non=>cases r;rfl
 | bl _=>cases r;rfl
 | int _=>let(t,rfl):=r;rfl
 | str _=>let(t,rfl):=r;rfl
 | xZ _=>let(t,rfl):=r;rfl
 | flt _=>let(t,rfl):=r;rfl
 | ref _=>cases r;rfl
 | ty _=>cases r;rfl
def bH.inj (r:bH x u)(q:bH y u):x=y:=bo (r.abs.Ð.À q.abs)
def Vals.inj:∀{xs ys:İ V} {us:İ Ĳ},Vals xs us->Vals ys us->xs=ys:=by
 intro _ ys _ a b
 induction a generalizing ys with
 | nil=>cases b;rfl
 | cons r _ ih=>
  cases b with| cons q t=>rw[r.inj q,ih t]
section
variable {X:Cx}{ao:AC}{T:St}{H:Hp}{s:ļ}{a:ĸ}{xs ys:İ V}
def aP.of {K:W.Ì}(h:H a=į (.Æ xs)):aP K H a xs:=.Â (.Â h)
def bf.of {K:W.Ì}(h:H a=į (.Ç xs)):bf K H a xs:=.Â (.Â h)
def aL.list (I:aL X ao T H s)(h:aP X.K H a xs):∃its:İ Ĳ,Vals xs its/\PlainL s.C a its.R/\xs.v<=Ľ:=by
 rcases h with h|⟨o,its,n,hk,d,hd,hs,hz,r⟩
 .let(z,its,n,r,e):=h.ok I.ð;show%[2,its,r,%[4,_,n,e,rb,rb|rb]|z]
 .calc%[2,its.I,r,%[4,o,n,I.jo a o hk,d,hd|by simpa using hs]|?_];let e:=r.v;simp only[bn]at e;lia
def aL.tuple (I:aL X ao T H s)(h:bf X.K H a xs):∃its:İ Ĳ,Vals xs its/\IsTup s.C a its.R/\xs.v<=Ľ:=by
 rcases h with h|⟨o,its,n,hk,d,hs,hz,r⟩
 .let(z,its,r,p):=h.ok I.ð;show%[2,its,r,p|z]
 .calc%[2,its.I,r,%[31,o,I.jo a o hk,d,n|by simpa using hs]|?_];let e:=r.v;simp only[bn]at e;lia
def aL.J2 (I:aL X ao T H s)(h:aP X.K H a xs)(h':aP X.K H a ys):xs=ys:=by
 let(its,r,(o,n,e,_,_,d),_):=I.ğ h;let(its',r',(o',n',e',_,_,d'),_):=I.ğ h';rw[e]at e';cases e';rw[d]at d';injection d' with d1 _;have:its=its':=by simpa using Ő Array.I d1
 subst this;show r.inj r'
def aL.GR (I:aL X ao T H s)(h:bf X.K H a xs)(h':bf X.K H a ys):xs=ys:=by
 let(its,r,(o,e,_,n,d),_):=I.Ĕ h;let(its',r',(o',e',_,n',d'),_):=I.Ĕ h';rw[e]at e';cases e';rw[d]at d';injection d' with d1 _;have:its=its':=by simpa using Ő Array.I d1
 subst this;show r.inj r'
end
abbrev Cx.wish (X:Cx)(E:AB):Cx:={X with xe:=E}
abbrev Cx.GX (X:Cx):Cx:=X.wish λ_ _=>ŗ
def Cx.Ok.wish {X:Cx}(ok:X.Ok)(E:AB):(X.wish E).Ok:=%[ok.mod,ok.þ,ok.glob,ok.blt,ok.above,ok.inj,ok.has,ok.cab,ok.hd,ok.frames,ok.stk,ok.exf,ok.bs,ok.CP,ok.JX,ok.Rj,ok.qz|ok.JZ]
def Cx.Ok.qd {X:Cx}(ok:(X.wish E).Ok):X.Ok:=%[ok.mod,ok.þ,ok.glob,ok.blt,ok.above,ok.inj,ok.has,ok.cab,ok.hd,ok.frames,ok.stk,ok.exf,ok.bs,ok.CP,ok.JX,ok.Rj,ok.qz|ok.JZ]
section
variable {X:Cx}{ao:AC}{T:St}{H:Hp}{s:ļ}{E:AB}
def aL.wish (I:aL X ao T H s)(E:AB):aL (X.wish E) ao T H s:=%[I.ok.wish E,I.os,I.bare,I.ö,I.loc,I.ù,I.Ó,I.nU,I.pin,I.ð|I.ď]
def aL.qd (I:aL (X.wish E) ao T H s):aL X ao T H s:=%[I.ok.qd,I.os,I.bare,I.ö,I.loc,I.ù,I.Ó,I.nU,I.pin,I.ð|I.ď]
def SP.qd (h:SP (X.wish E) ao D f s'):SP X ao D f s':=by
 cases f with
 | next=>let(T',H',I,q):=h;show%[3,T',H',I.qd|q]
 | brk=>let(T',H',I,q):=h;show%[3,T',H',I.qd|q]
 | cont=>let(T',H',I,q):=h;show%[3,T',H',I.qd|q]
 | ret u=>let(v,T',H',I,r,q):=h;show%[21,v,T',H',I.qd,r|q]
def GK.GX {st:İ Ŋ}(h:GK X.GX st t):GK X st t:=λao s T H D I hw=>gg (h ao s T H D (I.wish _) hw) (λ_ _ q=>q.qd) λ_ _ z=>False.ó z
end
section
variable {X:Cx}{st:Ŋ}{rest:İ Ŋ}{t u:TS}{e:ŋ}{te:TE}{pos:Pos}
def aej:TS:=λD T H=>D.nx T H
def afj (t u:TS):TS:=λD T H=>t {D with nx:=u D} T H
def bN  : vq X [] aej:=⟨λ_ _ T H _ I h=>kP %[3,T,H,I|h]⟩
def aC (h1:QS X st t)(d:vq X rest u):vq X (st::rest) (afj t u):=⟨by
 intro ao s T H D I h;calc nV<|bD (h1.Ý ao s T H {D with nx:=u D} I h) λf s1 q=>?_;cases f with
 | next=>let(T',H',I',q):=q;show d.Ý ao s1 T' H' D I' q
 | ret v=>show q
 | brk=>show q
 | cont=>show q⟩
def aD (h1:QS X st t):vq X [st] t:=⟨by
 intro ao s T H D I h;calc nV<|bD (h1.Ý ao s T H D I h) λf s1 q=>?_;cases f with
 | next=>show kP q
 | ret v=>show q
 | brk=>show q
 | cont=>show q⟩
def aL.quiet {ao:AC}{T:St}{H:Hp}{s:ļ}(I:aL X ao T H s):interactive X.Ê=Ķ:=by simp[interactive,I.ok.kind]
def Jy (te:TE):TS:=λD T H=>te T H λ_ H1=>D.nx T H1
def cX (d:QE X e te)(hs:Ŷ (swapsWith e Ĵ pos.line X.Ê=pure Ķ) ŷ):QS X (.Expr e pos) (Jy te):=⟨by
 intro ao s T H D I h;show wpAny_Expr_any (bD (d.Ý ao s T H _ I h) λv s1 ⟨x,H1,I1,r1,q1⟩=>%[3,T,H1,I1|q1]) I.quiet hs⟩
def XD (te:TE):TS:=λD T H=>te T H D.rt
def aW (d:QE X e te):QS X (.Return (į e) pos) (XD te):=⟨by
 intro ao s T H D I h;show wpAny_Return_some<|bD (d.Ý ao s T H _ I h) λv s1 ⟨x,H1,I1,r1,q1⟩=>%[21,x,T,H1,I1,r1|q1]⟩
def afk (c:TT)(t u:TS):TS:=λD T H=>c T H λb H1=>if b=ĳ then t D T H1 else u D T H1
def cC (B:QT X c tc)(ha:vq X a t)(g:vq X b u):QS X (.If c a b pos) (afk tc t u):=⟨by
 intro ao s T H D I h;calc wpAny_If<|bD (B.Ý ao s T H _ I h) λd s1 q=>?_;let(H1,I1,q1):=q;cases d with
 | true=>show ha.Ý ao s1 T H1 D I1 q1
 | false=>show g.Ý ao s1 T H1 D I1 q1⟩
def acq:TS:=λ_ _ _=>ŗ
def uf  : vq X sts acq:=⟨λ_ _ _ _ _ _ h=>h.ó⟩
end
abbrev TG:=V->St->Hp->(St->Hp->Prop)->Prop
abbrev GZ:=İ V->St->Hp->(St->Hp->Prop)->Prop
def PG (X:Cx)(d:ŋ)(t:TG):Prop:=∀(ao:AC) (s:ļ) (I:St) (H:Hp) (v:V) (u:Ĳ) (Q:St->Hp->Prop),aL X ao I H s->bH v u->t v I H Q->
  ĺ (ľ X.Ñ X.w) X.A (assign d X.Ê u) (λ_ s'=>∃I' H',aL X ao I' H' s'/\Q I' H') X.xe s
structure QG (X:Cx)(e:ŋ)(t:TG):Prop where
 out:PG X e t
def Ur (X:Cx)(ts:İ ŋ)(t:GZ):Prop:=∀(ao:AC) (s:ļ) (I:St) (H:Hp) (vs:İ V) (us:İ Ĳ) (Q:St->Hp->Prop),aL X ao I H s->Vals vs us->t vs I H Q->
  ĺ (ľ X.Ñ X.w) X.A (assignInOrder ((assignEach ts X.Ê).L (·.2)) us) (λ_ s'=>∃I' H',aL X ao I' H' s'/\Q I' H') X.xe s
structure Z_ (X:Cx)(es:İ ŋ)(t:GZ):Prop where
 out:Ur X es t
abbrev acr:=V->V->V->Hp->(Hp->Prop)->Prop
def XF (X:Cx)(t:acr):Prop:=∀(ao:AC) (s:ļ) (I:St) (H:Hp) (o i v:V) (d g u:Ĳ) (Q:Hp->Prop),aL X ao I H s->bH o d->bH i g->bH v u->t o i v H Q->
  ĺ (ľ X.Ñ X.w) X.A (setItem d g u) (λ_ s'=>∃H',aL X ao I H' s'/\Q H') X.xe s
section
variable {X:Cx}{pos:Pos}
def nW (i:ı):TG:=λv T H Q=>Q (T.ĉ i<|į v) H
def o9 (N:X.N.Ö)(hi:X.N[i]?=į x)(hx:Loc X.Ê.ċ x)(hf:Ŷ (X.fn x=ĳ\/X.Ê.ċ.Þ.Å x=į .ā) Ż):PG X (.è x pos) (nW i):=by intro ao s T H v u Q I r h;show xb<|Bq I N hi hx r (λs' I'=>%[3,_,H,I'|h]) hf
def Rn:GZ:=λvs T H Q=>vs=[]/\Q T H
def wz (t:TG)(u:GZ):GZ:=λvs T H Q=>∃v r,vs=v::r/\t v T H λT' H'=>u r T' H' Q
def Fi:Ur X [] Rn:=by intro ao s T H vs us Q I r h;let(e,h):=h;subst e;cases r;show assignInOrder_nil %[3,T,H,I|h]
def o_ (h1:PG X e t)(B:Ur X es u)(hs:Ŷ ((assignEach (e::es) X.Ê).L (·.2)=assign e X.Ê::(assignEach es X.Ê).L (·.2)) ŷ):Ur X (e::es) (wz t u):=by
 intro ao s T H vs us Q I r h;let(v,vr,d,h):=h;subst d;cases r with| cons r rr=>rw[hs];calc assignInOrder_cons<|bD (h1 ao s T H _ _ _ I r h) λ_ s1 q=>?_;let(g,H1,I1,q1):=q;show B ao s1 g H1 _ _ Q I1 rr q1
def Ro (K:W.Ì)(n:ı)(t:GZ):TG:=λv T H Q=>∃a xs,v=.H a/\bf K H a xs/\xs.v=n/\t xs T H Q
def J3 {es:İ ŋ}{k:ı}{t:GZ}{n:ı}(B:X.ĭ=ĳ)(h:Ur X es t)(hn:Ŷ ((assignEach es X.Ê).v=n) ŷ)(d:Ŷ ((assignEach es X.Ê).findIdx? (·.1)=Ĵ) ŷ):PG X (.Ě es k pos) (Ro X.K n t):=by intro ao s T H v u Q I r hw;let(a,xs,q,G,D,hw):=hw;subst q;cases r;let(its,g,F,hz):=I.Ĕ G;calc assign_Tuple_tuple (I.ok.hd B) F (by simp[hn,<-D,g.length]) d λh' hx=>?_;let I1:aL X ao T H {s with heap:=h' }:=I.Ħ (t':=s.toks) λb o e=>hx b o (bb<|a6 e) e;show h ao _ T H xs _ Q I1 (by simpa using g) hw
def acs (to ti:TE)(t:acr):TG:=λv T H Q=>to T H λo H1=>ti T H1 λi H2=>t o i v H2 λd=>Q T d
def acu (B:PE X o to)(hi:PE X i ti)(hs:XF X t)(ha:Ŷ (∀v,assign (.Ġ o i pos) X.Ê v=(do
   let d <- holding [v] (ŏ o X.Ê)
   let g <- holding [v,d] (ŏ i X.Ê)
   standAt pos
   holding [v,d,g] (setItem d g v)
   release [v,d,g] [])) ź):PG X (.Ġ o i pos) (acs to ti t):=by
 intro ao s T H v u Q I r h;rw[ha];calc aa<|dL<|bD (B ao s T H _ I h) λd s1 q=>?_;let(x,H1,I1,r1,q1):=q;calc aa<|dL<|bD (hi ao s1 T H1 _ I1 q1) λg s2 q=>?_;let(y,H2,I2,F,q2):=q;calc aa<|rh<|aa<|dL<|bD (hs ao s2 T H2 x y v d g u _ I2 r1 F r q2) λ_ J q=>?_;let(D,G,q3):=q;show wpAny_release %[3,T,D,G|q3]
def J4 (te:TE)(g:TG):TS:=λD T H=>te T H λx H1=>g x T H1 D.nx
def acv (d:QE X e te)(B:QG X tg g)(hs:Ŷ (swapsWithSole [tg] e pos.line X.Ê=pure Ķ) ŷ)(hw:Ŷ (swappedStores [tg] e X.Ê=pure Ĵ) ŷ)(h1:Ŷ ((assignEach [tg] X.Ê).L (·.2)=[assign tg X.Ê]) ŷ):QS X (.Assign [tg] e pos) (J4 te g):=⟨by
 intro ao s T H D I h;calc wpAny_Assign_stores (bD (d.Ý ao s T H _ I h) λv s1 ⟨x,H1,I1,r1,q1⟩=>?_) hs hw;rw[h1];show bD (B.Ý ao s1 T H1 x v _ I1 r1 q1) λ_ s2 q=>q⟩
def aO (N:X.N.Ö)(hi:X.N[i]?=į x)(hx:Loc X.Ê.ċ x)(d:QE X e te)(hs:Ŷ (swapsWith e (į<|.è x pos') pos.line X.Ê=pure Ķ) ŷ)(hf:Ŷ (X.fn x=ĳ\/X.Ê.ċ.Þ.Å x=į .ā) Ż):QS X (.Assign [.è x pos'] e pos) (J4 te<|nW i):=⟨by
 intro ao s T H D I h;calc xc (bD (d.Ý ao s T H _ I h) λv s1 ⟨y,H1,I1,r1,q1⟩=>?_) hs;show Bq I1 N hi hx r1 (λs2 I2=>%[3,_,H1,I2|q1]) hf⟩
def acw (c:TT)(tb:TS):TS:=λD T H=>∃W:ı->St->Hp->Prop,(∃m,W m T H)/\∀m T H,W m T H->
 c T H λb H1=>if b=ĳ then ∃N:St->Hp->Prop,(∀T' H',N T' H'->∃m',m'<m/\W m' T' H')/\tb {D with nx:=N,ct:=N,bk:=D.nx} T H1 else D.nx T H1
def wA (hp:Ū (ľ X.Ñ X.w) X.A X.Ê X.xe)(J:QT X c tc)(O:vq X body tb):QS X (.While c body [] pos) (acw tc tb):=⟨by
 intro ao s T H D I h;let(W,(L,M),turn):=h;calc wpAny_While<|codeAny_whileLoop (λn s'=>∃T' H',aL X ao T' H' s'/\W n T' H') ?_ L %[3,T,H,I|M];intro n s1 z;let(g,H1,I1,w1):=z;calc gx hp<|bD (J.Ý ao s1 g H1 _ I1<|turn n g H1 w1) λb s2 Y=>?_;let(H2,I2,q2):=Y;cases b with
 | true=>
  let(N,G,q2):=q2;rw[Ĺ rfl];calc gx hp<|bD (O.Ý ao s2 g H2 _ I2 q2) λf Z q3=>?_;cases f with
  | next=>let(T3,d,B,q):=q3;let(m',hm,F):=G T3 d q;show%[0,m',hm|%[3,T3,d,B|F]]
  | cont=>let(T3,d,B,q):=q3;let(m',hm,F):=G T3 d q;show%[0,m',hm|%[3,T3,d,B|F]]
  | brk=>show q3
  | ret v=>show q3
 | false=>rw[ķ b8];show kP %[3,g,H2,I2|q2]⟩
end
structure It where
 go:ı->Hp->Prop
 Aw:ı->Hp->V->Hp->Prop
 stop:ı->Hp->Prop
def mq (X:Cx)(ao:AC)(H:Hp)(b:ĸ):Prop:=H b=Ĵ/\b≠X.Ê.Ď/\b∉X.fs/\(b∈X.ex\/X.s₀.n<=b)/\(∀x c,X.Ê.cells.Å x=į c->c≠b)/\∀p∈X.pn++ao,p.1≠b
def aL.mz {X:Cx}{ao:AC}{T:St}{H H':Hp}{s:ļ}{b:ĸ}(I:aL X ao T H s)(d:s.n<=b)(hn:H' b=Ĵ):mq X ao H' b:=by
 refine%[hn,jS<|a7 I.lt d,I.afd d,.Ò<|ap I.sz d,λx c e z=>?_|λp hp z=>?_]
 .let(v,q):=I.ù x c e;show ŀ (a7 q.lt (by rw[z];show d))<|iO _
 .show ŀ (a7 (a6 (I.pin p hp).1) (by rw[z];show d))<|iO _
structure Turn (P:ń)(w:ň)(K:W.Ì)(tg:ŋ)(J:It)(fp:İ ĸ)(it:ĸ)(tn:ı->Ň->Prop):Prop where
 mem:it∈fp
 obj:∀i h,tn i h->∀b∈fp,∃o,h.Á b=į o/\∀v,o.Ĉ≠.ù v
 keep:∀i h h',tn i h->(∀b∈fp,∀o,h.Á b=į o->h'.Á b=į o)->tn i h'
 item:∀(X:Cx),X.Ñ=P->X.w=w->X.K=K->X.ĭ=ĳ->∀(i:ı) (ao:AC) (s:ļ) (σ:St) (H:Hp) (E:AB),aL X ao σ H s->(∀b∈fp,mq X ao H b)->tn i s.C->J.go i H->
  ĺ (ľ P w) X.A (pyNext<|.H it) (λr s1=>∃u,r=į u/\
   ĺ (ľ P w) X.A (letOwnedTupleGo tg (.H it) u) (λ_ s2=>∃x H',aL X ao σ H' s2/\bH x u/\J.Aw i H x H'/\tn (i+1) s2.C/\∀b∈fp,H' b=Ĵ) E s1) E s
 done:∀(X:Cx),X.Ñ=P->X.w=w->X.K=K->X.ĭ=ĳ->∀(i:ı) (ao:AC) (s:ļ) (σ:St) (H:Hp) (E:AB),aL X ao σ H s->(∀b∈fp,mq X ao H b)->tn i s.C->J.stop i H->
  ĺ (ľ P w) X.A (pyNext<|.H it) (λr s1=>r=Ĵ/\aL X ao σ H s1) E s
 self:∀(A:ŉ) (i:ı) (s:ļ) (Q:AB) (E:AB),tn i s.C->Q (.H it) s->ĺ (ľ P w) A (pyIter<|.H it) Q E s
abbrev TI:=St->Hp->(It->Hp->Prop)->Prop
def PIE (X:Cx)(ao:AC)(I:St)(tg:ŋ)(R:It->Hp->Prop)(d:Ĳ)(s2:ļ):Prop:=∃(it:Addr) (fp:İ ĸ) (tn:ı->Ň->Prop) (J:It) (H':Hp),d=.H it/\aL X ao I H' s2/\Turn X.Ñ X.w X.K tg J fp it tn/\tn 0 s2.C/\(∀b∈fp,mq X ao H' b)/\R J H'
def PI (X:Cx)(tg iter:ŋ)(wi:TI):Prop:=∀(ao:AC) (s:ļ) (I:St) (H:Hp) (R:It->Hp->Prop),aL X ao I H s->wi I H R->
  ĺ (ľ X.Ñ X.w) X.A (ŏ iter X.Ê) (λv s1=>ĺ (ľ X.Ñ X.w) X.A (pyIter v) (PIE X ao I tg R) X.xe s1) X.xe s
structure QI (X:Cx)(tg iter:ŋ)(wi:TI):Prop where
 out:PI X tg iter wi
def CV {s : ļ}(g : s.C.Á it = į o)(q : o.cls = .Ä n)(hd : o.Ĉ = .ë vs)(hn : ["enumerate", "zip", "dict_itemiterator", "dict_reverseitemiterator", "odict_iterator", "itertools.zip_longest", "itertools.pairwise"].contains n = Ķ)(d : Q () s) : ĺ M A (letOwnedTupleGo tg (.H it) u) Q E s := by
  unfold letOwnedTupleGo;cases tg <;> first
    | show ag d
    | (cases u <;> first
        | show ag d
        | (refine aa<|xo g ?_
           rw[q, hd];show ĺ M A (if (["enumerate", "zip", "dict_itemiterator", "dict_reverseitemiterator", "odict_iterator", "itertools.zip_longest", "itertools.pairwise"].contains n&&vs[0]? == į (ő _)) = ĳ then _ else _) Q E s;rw[ķ (by intro h; rw[hn, mh]at h; cases h)];show ag d))
abbrev ItS (Sq:Hp->İ V->Prop):It:=%[λi H=>∃xs x,Sq H xs/\xs[i]?=į x,λi H x H'=>H'=H/\∀xs,Sq H xs->xs[i]?=į x|λi H=>∃xs,Sq H xs/\xs.v<=i]
def Itl (K:W.Ì)(a:ĸ):It:=ItS λH=>aP K H a
def Ox (K:W.Ì)(a:ĸ):It:=ItS λH=>bf K H a
def Oz (lo:Ŀ)(n:ı):It:=%[λi _=>i<n,λi H x H'=>H'=H/\x=.M (lo+i)|λi _=>n<=i]
def Us {P:ń}{w:ň}{K:W.Ì}{tg:ŋ}(a it:ĸ):Turn P w K tg (Itl K a) [it] it (λi h=>h.IsListIter it a i) where
 mem:=by simp
 obj:=λi h st b g=>by
  let e:b=it:=by simpa using g
  subst e;let(o,e,c,d):=st;show%[0,o,e|λv z=>by rw[d]at z;cases z]
 keep:=λi h h' st k=>st.at λo e=>k it yi o e
 item:=by intro X L hw M Y i ao s T H E I hf st B;subst L hw M;let(xs,x,q,hx):=B;let(its,G,p,hz):=I.ğ q;let(u,hu,ru):=G.get hx;let(N,O,f2,F,D,J):=hf it yi;calc wpAny_pyNext_list_item st p.ÿ (x:=u) (by simpa using hu) λh' st' Z=>?_;let I1:aL X ao T H {s with heap:=h' }:=I.ħ (t':=s.toks) (λb o g e=>(Z.2 b g).À e) N O F D J;let(o,e,c,d):=id st';show%[0,u,rb|CV (s:={s with heap:=h' }) e c d yk %[6,x,H,I1,ru,%[rb|λys hy=>by rw[I.J2 hy q];show hx],st'|λb g=>(hf b g).1]]
 done:=by intro X L hw M Y i ao s T H E I hf st B;subst L hw M;let(xs,q,hx):=B;let(its,G,p,hz):=I.ğ q;let(N,O,f2,F,D,J):=hf it yi;let hl:=G.v;show wpAny_pyNext_list_end (I.ok.hd Y) st p.ÿ (by simp;simp_all) λh' eb=>%[rb|I.ħ (t':=s.toks) (λb o g e=>eb b o g e) N O F D J]
 self:=λ_ _ _ _ _ st h=>wpAny_pyIter_listiter st h
def Rp {P:ń}{w:ň}{K:W.Ì}{tg:ŋ}(a it:ĸ):Turn P w K tg (Ox K a) [it] it (λi h=>h.Ĩ it a i) where
 mem:=by simp
 obj:=λi h st b g=>by
  let e:b=it:=by simpa using g
  subst e;let(o,e,c,d):=st;show%[0,o,e|λv z=>by rw[d]at z;cases z]
 keep:=λi h h' st k=>st.at λo e=>k it yi o e
 item:=by intro X L hw M Y i ao s T H E I hf st B;subst L hw M;let(xs,x,q,hx):=B;let(its,G,p,hz):=I.Ĕ q;let(u,hu,ru):=G.get hx;let(N,O,f2,F,D,J):=hf it yi;calc wpAny_pyNext_tuple_item st (show s.C.IsTuple a its.R from p) (x:=u) (by simpa using hu) λh' st' Z=>?_;let I1:aL X ao T H {s with heap:=h' }:=I.ħ (t':=s.toks) (λb o g e=>(Z.2 b g).À e) N O F D J;let(o,e,c,d):=id st';show%[0,u,rb|CV (s:={s with heap:=h' }) e c d yk %[6,x,H,I1,ru,%[rb|λys hy=>by rw[I.GR hy q];show hx],st'|λb g=>(hf b g).1]]
 done:=by intro X L hw M Y i ao s T H E I hf st B;subst L hw M;let(xs,q,hx):=B;let(its,G,p,hz):=I.Ĕ q;let(N,O,f2,F,D,J):=hf it yi;let hl:=G.v;show wpAny_pyNext_tuple_end (I.ok.hd Y) st (show s.C.IsTuple a its.R from p) (by simp;lia) λh' eb=>%[rb|I.ħ (t':=s.toks) (λb o g e=>eb b o g e) N O F D J]
 self:=λ_ _ _ _ _ st h=>wpAny_pyIter_tupleiter st h
def Rq {P:ń}{w:ň}{K:W.Ì}{tg:ŋ}(it:ĸ)(lo:Ŀ)(n:ı):Turn P w K tg (Oz lo n) [it] it (λi h=>IsRangeIter h it (lo+(i:ı)*1) ((n:Ŀ)-(i:ı)) 1) where
 mem:=by simp
 obj:=λi h st b d=>by
  let e:b=it:=by simpa using d
  subst e;show%[0,_,st|λv z=>by let z':Data.ë _=Data.ù v:=z;cases z']
 keep:=λi h h' st k=>k it yi _ st
 item:=by intro X G hw J q i ao s T H E I hf st g;subst G hw J;let(L,M,O,D,B,F):=hf it yi;let W:=Walks.å (prog:=X.prog) (w:=X.w) (I.ok.hd q) it lo 1 n;calc W.item i s _ _ g st λv h' tk hv st' Y=>?_;let(t,rfl):=hv;let I1:aL X ao T H {s with heap:=h',toks:=tk}:=I.ħ (λb o d e=>Y b o (by simpa using d) e) L M D B F;calc%[0,_,rb|CV (s:={s with heap:=h',toks:=tk}) (n:="range_iterator") st' rb rb yk %[6,.M<|lo+i,H,I1,%[t|?_],%[rb|rb],st'|λb d=>(hf b d).1]];rw[Int.mul_one]
 done:=by intro X G hw J q i ao s T H E I hf st g;subst G hw J;let(L,M,O,D,B,F):=hf it yi;show wpAny_pyNext_range_end (I.ok.hd q) st (by have:n<=i:=g;lia) λh' N=>%[rb|I.ħ (t':=s.toks) (λb o d e=>N b o d e) L M D B F]
 self:=λ_ _ _ _ _ st h=>wpAny_pyIter_rangeiter st h
section
variable {X:Cx}{tg:ŋ}
def Jz (K:W.Ì)(tl:TE):TI:=λC H R=>tl C H λx H1=>∃a,x=.H a/\(∃xs,aP K H1 a xs)/\R (Itl K a) H1
def afl (K:W.Ì)(tl:TE):TI:=λC H R=>tl C H λx H1=>∃a,x=.H a/\(∃xs,bf K H1 a xs)/\R (Ox K a) H1
def eU (d:QE X l tl):QI X tg l (Jz X.K tl):=⟨by
 intro ao s C H R I h;calc bD (d.Ý ao s C H _ I h) λv s1 D=>?_;let(x,H1,I1,r1,q1):=D;let(a,e,(xs,B),q):=q1;subst e;cases r1;let(its,F,p,hz):=I1.ğ B;calc nE p.ÿ ?_;calc%[12,s1.n,[s1.n],_,_,H1,rb,I1.Ħ (t':=s1.toks) λb o e=>af _ e,Us a _,%[2,_,aI _ rb,rb|rb],λb g=>?_|q];let e:b=s1.n:=by simpa using g
 subst e;show I1.mz (ai _)<|I1.ð.à<|ai _⟩
def gD (d:QE X l tl):QI X tg l (afl X.K tl):=⟨by
 intro ao s C H R I h;calc bD (d.Ý ao s C H _ I h) λv s1 D=>?_;let(x,H1,I1,r1,q1):=D;let(a,e,(xs,B),q):=q1;subst e;cases r1;let(its,F,p,hz):=I1.Ĕ B;calc oI (show s1.C.IsTuple a its.R from p) ?_;calc%[12,s1.n,[s1.n],_,_,H1,rb,I1.Ħ (t':=s1.toks) λb o e=>af _ e,Rp a _,%[2,_,aI _ rb,rb|rb],λb g=>?_|q];let e:b=s1.n:=by simpa using g
 subst e;show I1.mz (ai _)<|I1.ð.à<|ai _⟩
def J5 {ao:AC}{C:St}{H:Hp}{s:ļ}{R:It->Hp->Prop}{E:AB}{lo hi:Ŀ}{t u v:Tok}{tk:ı}(I:aL X ao C H s)(h1:-(2^62)<=lo)(G:lo<2^62)(D:-(2^62)<=hi)(g:hi<2^62)(q:R (Oz lo (hi-lo).Õ) H):ĺ (ľ X.Ñ X.w) X.A (pyIter<|.H s.n) (PIE X ao C tg R) E {s with heap:=s.C.Ï {cls:=.Ä "range",data:=.ë #[.M lo t,.M hi u,.M 1 v]},toks:=tk}:=by
 calc wpAny_pyIter_range (IsRange.new ..) (small_one h1 G D g) ?_;let I1:aL X ao C H {s with heap:=s.C.Ï {cls:=.Ä "range",data:=.ë #[.M lo t,.M hi u,.M 1 v]},toks:=tk}:=I.Ħ λb o e=>af _ e;refine%[12,(s.C.Ï {cls:=.Ä "range",data:=.ë #[.M lo t,.M hi u,.M 1 v]}).Q.E,[(s.C.Ï {cls:=.Ä "range",data:=.ë #[.M lo t,.M hi u,.M 1 v]}).Q.E],_,_,H,rb,
  I1.Ħ (t':=tk) λb o e=>af _ e,Rq _ lo (hi-lo).Õ,?_,λb B=>?_|q]
 .let d:lo+((0:ı):Ŀ)*1=lo:=yi;let F:(((hi-lo).Õ:ı):Ŀ)-((0:ı):Ŀ)=Builtin.Range.rangeSize lo hi 1:=by rw[rangeSize_one];split <;> grind
  show IsRangeIter _ _ (lo+((0:ı):Ŀ)*1) ((((hi-lo).Õ:ı):Ŀ)-((0:ı):Ŀ)) 1;rw[d,F];show aI _ rfl
 .let e:b=(s.C.Ï {cls:=.Ä "range",data:=.ë #[.M lo t,.M hi u,.M 1 v]}).Q.E:=by simpa using B
  subst e;show I1.mz (ai _)<|I1.ð.à<|ai _
def aek (ta:TA):TI:=λC H R=>ta C H λvs H1=>∃j:Int,vs=[.M j]/\-(2^62)<=j/\j<2^62/\R (Oz 0 j.Õ) H1
def ael (ta:TA):TI:=λC H R=>ta C H λvs H1=>∃i j:Int,vs=[.M i,.M j]/\(-(2^62)<=i/\i<2^62/\-(2^62)<=j/\j<2^62)/\R (Oz i (j-i).Õ) H1
def jD (g:Gl X "range")(hm:X.mg "range"=Ĵ)(ha:QA X [a] ta)(hs:Ŷ (Ņ [a] X.Ê=[(Ķ,ŏ a X.Ê)]) ŷ):QI X tg (.ġ (.è "range" p) [a] [] pos) (aek ta):=⟨by
 intro ao s C H R I h;calc Call_<|mF I g hm boot_range<|gr (bD (ha.Ý pos ao s C H _ I h) λus s1 d=>?_) hs rb;let(vs,H1,I1,r1,q1):=d;let(j,e,q1,q2,q):=q1;subst e;cases r1 with
 | cons r rr=>cases rr;let(t,rfl):=r;show call_range_1<|J5 I1 yf yf q1 q2 (by simpa using q)⟩
def yC {a b:ŋ}{ta:TA}{p pos:Pos}(g:Gl X "range")(hm:X.mg "range"=Ĵ)(ha:QA X [a,b] ta)(hs:Ŷ (Ņ [a,b] X.Ê=[(Ķ,ŏ a X.Ê),(Ķ,ŏ b X.Ê)]) ŷ)(d:Ŷ (Ņ [b] X.Ê=[(Ķ,ŏ b X.Ê)]) ŷ):QI X tg (.ġ (.è "range" p) [a,b] [] pos) (ael ta):=⟨by
 intro ao s C H R I h;calc Call_<|mF I g hm boot_range<|gr (bD (ha.Ý pos ao s C H _ I h) λus s1 B=>?_) (by rw[hs,d]) (by rw[d];rfl);let(vs,H1,I1,r1,q1):=B;let(i,j,e,(q1,q2,q3,q4),q):=q1;subst e;cases r1 with
 | cons r rr=>
  cases rr with
  | cons r' rr=>cases rr;let(t,rfl):=r;let(t',rfl):=r';show call_range_2<|J5 I1 q1 q2 q3 q4 q⟩
abbrev Fj (J:It)(g:TG)(tb:TS)(D:Ends)(C:St)(H:Hp):Prop:=∃W:ı->ı->St->Hp->Prop,(∃m,W 0 m C H)/\∀i m C H,W i m C H->
 (J.stop i H/\D.nx C H)\/(J.go i H/\∃N:St->Hp->Prop,(∀C' H',N C' H'->∃m',m'<m/\W (i+1) m' C' H')/\∀x H',J.Aw i H x H'->g x C H' λC2 H2=>tb {D with nx:=N,ct:=N,bk:=D.nx} C2 H2)
def acy (wi:TI)(g:TG)(tb:TS):TS:=λD C H=>wi C H λJ H1=>Fj J g tb D C H1
def Rr {J:It}{g:TG}{tb:TS}{D:Ends}{C:St}{H:Hp}(n:ı)(q:ı->St->Hp->Prop)(L:q 0 C H)(B:∀i C H,i<n->q i C H->J.go i H/\∀x H',J.Aw i H x H'->g x C H' λG H2=>tb {D with nx:=q<|i+1,ct:=q<|i+1,bk:=D.nx} G H2)(F:∀C H,q n C H->J.stop n H/\D.nx C H):Fj J g tb D C H:=by
 calc%[0,λi m C H=>m=n-i/\i<=n/\q i C H,%[2,n,yi,bE _|L]|?_];intro i m C H z;let(rfl,hi,p):=z;by_cases d:i<n;.show .Ò %[11,(B i C H d p).1,q<|i+1,λC' H' p'=>%[7,n-(i+1),rj d<|eW _,rb,d|p']|(B i C H d p).2]
 .let e:i=n:=yf;subst e;show .Â<|F C H p
def aac {B:Hp->İ V->Prop}{xs:İ V}{g:TG}{tb:TS}{D:Ends}{C:St}{H:Hp}(d:ı->St->Hp->Prop)(G:d 0 C H)(q:∀i C H,i<=xs.v->d i C H->B H xs)(hs:∀i x C H,xs[i]?=į x->d i C H->g x C H λF H2=>tb {D with nx:=d<|i+1,ct:=d<|i+1,bk:=D.nx} F H2)(hd:∀C H,d xs.v C H->D.nx C H):Fj (ItS B) g tb D C H:=Rr xs.v d G (λi C H h p=>%[%[3,xs,xs[i],q i C H (ay h) p|by simp[h]]|λx H' ⟨e,y⟩=>by subst e;show hs i x C _ (y xs<|q i C _ (ay h) p) p]) λC H p=>%[%[0,xs,q _ C H (ai _) p|ai _]|hd C H p]
def yD (fp:İ ĸ)(h:Ň):İ (ĸ×Obj):=fp.ø λb=>(h.Á b).L λo=>(b,o)
def nZ {h:Ň}(d:b∈fp)(e:h.Á b=į o):(b,o)∈yD fp h:=mx.Ù %[0,b,d|by rw[e];rfl]
def Ut (hp:p∈yD fp h):p.1∈fp/\h.Á p.1=į p.2:=by
 let(b,d,e):=mx.mp hp;cases q:h.Á b with
 | none=>rw[q]at e;cases e
 | some o=>rw[q]at e;let e':(b,o)=p:=bo e;subst e';show%[d|q]
def aL.pinned {ao:AC}{C:St}{H:Hp}{s:ļ}{fp:İ ĸ}(I:aL X ao C H s)(hf:∀b∈fp,mq X ao H b)(q:∀b∈fp,∃o,s.C.Á b=į o/\∀v,o.Ĉ≠.ù v):aL X (ao++yD fp s.C) C H s:=
 I.Ov λp hp=>(aT.mp hp).ó (λz=>I.pin p<|dq _ z) λz=>by let(g,e):=Ut z;let(D,F,B,_):=hf p.1 g;let(o,e',d):=q p.1 g;rw[e]at e';cases e';show%[e,D,F,B|d]
def aL.nD {ao pl:AC}{C:St}{H:Hp}{s:ļ}(I:aL X (ao++pl) C H s):aL X ao C H s:=I.Ov λp hp=>I.pin p (dq _<|nI _ hp)
def acz (hp:Ū (ľ X.Ñ X.w) X.A X.Ê X.xe)(hc:X.ĭ=ĳ)(hi:PI X tg iter wi)(hg:PG X tg g)(B:GK X body tb)(hs:Ŷ (∀x,foldedSetIterable iter X.Ê x=pure x) ź):PS X (.For tg iter body [] pos) (acy wi g tb):=by
 intro ao s C H D I h;calc wpAny_For (bD (hi ao s C H _ I h) λv s1 h1=>bD h1 λitv s2 h2=>?_) hs;let(it,fp,tn,J,H2,e,I2,T,st2,f2,W,(m0,w0),turn):=h2;subst e;let G:∀{H':Hp},(∀b∈fp,H' b=Ĵ)->∀b∈fp,mq X ao H' b:=λhn b B=>%[hn b B|(f2 b B).2]
 calc codeAny_forLoop_any (λn s'=>∃i C' H',aL X ao C' H' s'/\tn i s'.C/\(∀b∈fp,H' b=Ĵ)/\W i n C' H') ?_ m0 %[8,0,C,H2,I2,st2,λb B=>(f2 b B).1|w0];intro n s3 z;let(i,C3,H3,I3,O,Y,w3):=z;rcases turn i n C3 H3 w3 with⟨stop,qn⟩|⟨go,N,hN,step⟩
 .calc gx hp<|bD (T.done X rb rb rb hc i ao s3 C3 H3 X.xe I3 (G Y) O stop) λr s4 ⟨hr,I4⟩=>?_;subst hr;show kP %[3,C3,H3,I4|qn]
 .calc gx hp<|bD (T.item X rb rb rb hc i ao s3 C3 H3 X.xe I3 (G Y) O go) λr s4 zz=>?_;let(u,hr,h4):=zz;subst hr;calc gx hp<|bD h4 λ_ s5 zz=>?_;let(x,H5,I5,r5,y5,G3,fr5):=zz;let I5':=I5.pinned (G fr5)<|T.obj _ _ G3;calc gx hp<|bD (hg _ s5 C3 H5 x u _ I5' r5<|step x H5 y5) λ_ s6 zz=>?_;let(C6,H6,I6,q6):=zz;calc gx hp<|bD (B _ s6 C6 H6 _ I6 q6) λf s7 q7=>?_;let M:∀{q:St} {L:Hp},aL X (ao++yD fp s5.C) q L s7->N q L->∃m,m<n/\∃i C' H',aL X ao C' H' s7/\tn i s7.C/\(∀b∈fp,H' b=Ĵ)/\W i m C' H':=λ{q L} F Z=>by
   let(m',hm,w7):=hN q L Z;calc%[0,m',hm|%[8,i+1,q,L,F.nD,T.keep _ _ _ G3 λb B o e=>(F.pin (b,o)<|dq _<|dq _<|nZ B e).1,λb B=>?_|w7]];let(o,e,d):=T.obj _ _ G3 b B;show(F.pin (b,o)<|dq _<|dq _<|nZ B e).2.1
  cases f with
  | next=>let(q,L,F,Z):=q7;show M F Z
  | cont=>let(q,L,F,Z):=q7;show M F Z
  | brk=>let(q,L,F,q7):=q7;show%[3,q,L,F.nD|q7]
  | ret v=>let(x7,q,L,F,r7,q7):=q7;show%[21,x7,q,L,F.nD,r7|q7]
end
def jH {K:W.Ì}{a:ĸ}:=@aac λH=>aP K H a
def nP {K:W.Ì}{a:ĸ}:=@aac λH=>bf K H a
def jE {lo:Ŀ}{n:ı}{g:TG}{tb:TS}{D:Ends}{I:St}{H:Hp}(d:ı->St->Hp->Prop)(q:d 0 I H)(hs:∀i I H,i<n->d i I H->g (.M<|lo+i) I H λI2 H2=>tb {D with nx:=d<|i+1,ct:=d<|i+1,bk:=D.nx} I2 H2)(hd:∀I H,d n I H->D.nx I H):Fj (Oz lo n) g tb D I H:=Rr n d q (λi I H h p=>%[h|λx H' y=>by let(rfl,rfl):=y;show hs i I _ h p]) λI H p=>%[ai _|hd I H p]
abbrev R2:=V->V->Hp->VK->Prop
def fL (X:Cx)(f:Ĳ->Ĳ->Sem Ĳ)(r:R2):Prop:=∀(ao:AC) (s:ļ) (I:St) (H:Hp) (x y:V) (v u:Ĳ) (Q:VK),aL X ao I H s->bH x v->bH y u->r x y H Q->
  ĺ (ľ X.Ñ X.w) X.A (f v u) (EP X ao I Q) X.xe s
def fM (X:Cx)(f:Ĳ)(r:İ V->Hp->VK->Prop):Prop:=∀(ao:AC) (s:ļ) (I:St) (H:Hp) (xs:İ V) (us:İ Ĳ) (Q:VK),aL X ao I H s->Vals xs us->r xs H Q->
  ĺ (ľ X.Ñ X.w) X.A (call f us) (EP X ao I Q) X.xe s
def qN (r:R2)(ta tb:TE):TE:=λI H Q=>ta I H λx H1=>tb I H1 λy H2=>r x y H2 Q
def rI (C:Ŀ->Ŀ->Prop)(g:Ŀ->Ŀ->V):R2:=λx y H Q=>∃i j,x=.M i/\y=.M j/\C i j/\Q (g i j) H
def J6 (g:Ŀ->Ŀ->V):R2:=λx y H Q=>∃i j,x=.M i/\y=.M j/\Q (g i j) H
section
variable {X:Cx}{a b:ŋ}{ta tb:TE}{pos:Pos}
def XH (ha:PE X a ta)(B:PE X b tb){ao:AC}{s:ļ}{T:St}{H:Hp}{R:V->V->Hp->Prop}(I:aL X ao T H s)(h:ta T H λx H1=>tb T H1 λy H2=>R x y H2){Q:AB}{f:Ĳ->Ĳ->Sem Ĳ}(hf:∀v u s2 x y H2,aL X ao T H2 s2->bH x v->bH y u->R x y H2->ĺ (ľ X.Ñ X.w) X.A (f v u) Q X.xe s2):ĺ (ľ X.Ñ X.w) X.A (ŏ a X.Ê) (λv D=>ĺ (ľ X.Ñ X.w) X.A (ŏ b X.Ê) (λu q=>ĺ (ľ X.Ñ X.w) X.A (f v u) Q X.xe q) X.xe D) X.xe s:=by calc bD (ha ao s T H _ I h) λv s1 d=>?_;let(x,H1,I1,r1,q1):=d;calc bD (B ao s1 T H1 _ I1 q1) λu s2 d=>?_;let(y,H2,I2,g,q2):=d;show hf v u s2 x y H2 I2 r1 g q2
def aR (d:fL X (binaryOp op) r)(ha:QE X a ta)(D:QE X b tb):QE X (.BinOp a op b pos) (qN r ta tb):=⟨by
 intro ao s T H Q I h;show wpAny_BinOp<|XH ha.Ý D.Ý I h λv u s2 x y H2 I2 B g q=>d ao s2 T H2 x y v u Q I2 B g q⟩
def opI {f:Ĳ->Ĳ->Sem Ĳ}{C:Ŀ->Ŀ->Prop}{g:Ŀ->Ŀ->Ŀ}(d:∀(i j:Ŀ) (t u:Tok) (s:ļ) (Q:AB) (E:AB),C i j->Q (.M (g i j) s.Ü) {s with toks:=s.Ü+1}->ĺ (ľ X.Ñ X.w) X.A (f (.M i t)<|.M j u) Q E s):fL X f (rI C λi j=>.M<|g i j):=by intro ao s T H x y v u Q I F D h;let(i,j,rfl,rfl,B,q):=h;let(t,rfl):=F;let(t',rfl):=D;show d i j t t' s _ _ B %[1,.M<|g i j,H,I.tok _,%[_|rb]|q]
def acA {f:Ĳ->Ĳ->Sem Ĳ}{g:Ŀ->Ŀ->Ŀ}(d:∀(i j:Ŀ) (t u:Tok) (s:ļ) (Q:AB) (E:AB),Q (.M (g i j) s.Ü) {s with toks:=s.Ü+1}->ĺ (ľ X.Ñ X.w) X.A (f (.M i t)<|.M j u) Q E s):fL X f (J6 λi j=>.M<|g i j):=by intro ao s T H x y v u Q I D B h;let(i,j,rfl,rfl,q):=h;let(t,rfl):=D;let(t',rfl):=B;show d i j t t' s _ _ %[1,.M<|g i j,H,I.tok _,%[_|rb]|q]
def XJ {f:Ĳ->Ĳ->Sem Ĳ}{g:Ŀ->Ŀ->ō}(d:∀(i j:Ŀ) (t u:Tok) (s:ļ) (Q:AB) (E:AB),Q (.Ă<|g i j) s->ĺ (ľ X.Ñ X.w) X.A (f (.M i t)<|.M j u) Q E s):fL X f (J6 λi j=>.bl<|g i j):=by intro ao s T H x y v u Q I D B h;let(i,j,rfl,rfl,q):=h;let(t,rfl):=D;let(t',rfl):=B;show d i j t t' s _ _ %[1,.bl<|g i j,H,I,rb|q]
def acB (i j:Ŀ):Prop:=0<j/\j<1073741824
def XM (i j:Ŀ):Prop:=(-(2^64)<i/\i<2^64)\/(-(2^64)<j/\j<2^64)
def XM.ok (h:XM i j):IntMulOk i j:=by
 rcases h with⟨h1,d⟩|⟨h1,d⟩;.show .of_left<|intBits_le_64 h1 d
 .show .of_right<|intBits_le_64 h1 d
def cZ:fL X (binaryOp .Add) (J6 λi j=>.M<|i+j):=acA λ_ _ _ _ _ _ _ q=>add_int q
def jq:fL X (binaryOp .Sub) (J6 λi j=>.M<|i-j):=acA λ_ _ _ _ _ _ _ q=>sub_int q
def vA:fL X (binaryOp .Mult) (rI XM λi j=>.M<|i*j):=opI λ_ _ _ _ _ _ _ d q=>mul_int q d.ok
def gH:fL X (binaryOp .FloorDiv) (rI acB λi j=>.M<|i/j):=opI λi j _ _ _ _ _ d q=>by let h1:(0:Ŀ)<j:=d.1;let g:j<1073741824:=d.2;show floordiv_int yf (by rw[Int.fdiv_eq_ediv_of_nonneg i (Int.le_of_lt h1)];show q)<|.Â<|PyProof.noPylong_small (by grind)
def cU:fL X (binaryOp .Mod) (rI (λ_ j=>0<j) λi j=>.M<|i%j):=opI λi j _ _ _ _ _ d q=>by let h1:(0:Ŀ)<j:=d;show mod_int' yf (by rw[Int.fmod_eq_emod_of_nonneg i yf];show q)
end
def acC:V->V->ō
 | .đ,.đ=>true|.đ,.M _=>true|.M _,.đ=>true|.đ,.bl _=>true|.bl _,.đ=>true|.đ,.X _=>true|.X _,.đ=>true
 | .M _,.M _=>true|.bl _,.bl _=>true|.X _,.X _=>true|.xZ _,.xZ _=>true
 | .M _,.X _=>true|.X _,.M _=>true|.bl _,.X _=>true|.X _,.bl _=>true
 | _,_=>false
def rEq:R2:=λx y H Q=>acC x y=ĳ/\Q (.bl<|Ļ<|x=y) H
def rNe:R2:=λx y H Q=>acC x y=ĳ/\Q (.bl<|!Ļ (x=y)) H
def OD:Ļ (V.M i=V.M j)=(i==j):=by rw[mM];simp
def Uu:Ļ (V.bl i=V.bl j)=(i==j):=by rw[mM];simp
def OJ:Ļ (V.X i=V.X j)=(i==j):=by rw[mM];simp
def O4:Ļ (V.xZ i=V.xZ j)=(i.I==j.I):=by rw[mM];cases i;cases j;simp
section
variable {X:Cx}{a b c:ŋ}{ta tb tc:TE}{pos:Pos}
def cL {ao:AC}{T:St}{H:Hp}{s:ļ}{Q:VK}{k k':ō}(I:aL X ao T H s)(q:Q (.bl k) H)(e:k=k'):EP X ao T Q (.Ă k') s:=by subst e;show%[1,.bl k,H,I,rb|q]
def jk:fL X (compareOp .Eq) rEq:=by
 intro ao s T H x y v u Q I g d h;let(hs,q):=h;cases x with
 | non=>
  cases g;cases y with
  | non=>cases d;show PySem.EqNone.eq_none_none<|cL I q yi
  | bl j=>cases d;show PySem.EqNone.eq_none_bool<|cL I q yi
  | int j=>let(t',rfl):=d;show PySem.EqNone.eq_none_int<|cL I q yi
  | str j=>let(t',rfl):=d;show PySem.EqNone.eq_none_str<|cL I q yi
  | _=>show ŀ (show Ķ=ĳ from hs) b8
 | bl i=>
  cases g;cases y with
  | non=>cases d;show PySem.EqNone.eq_bool_none<|cL I q yi
  | bl j=>cases d;show eq_bool<|cL I q Uu
  | str j=>let(t',rfl):=d;show PySem.EqMixed.eq_bool_str<|cL I q yi
  | _=>show ŀ (show Ķ=ĳ from hs) b8
 | int i=>
  let(t,rfl):=g;cases y with
  | non=>cases d;show PySem.EqNone.eq_int_none<|cL I q yi
  | int j=>let(t',rfl):=d;show eq_int<|cL I q OD
  | str j=>let(t',rfl):=d;show PySem.EqMixed.eq_int_str<|cL I q yi
  | _=>show ŀ (show Ķ=ĳ from hs) b8
 | str i=>
  let(t,rfl):=g;cases y with
  | non=>cases d;show PySem.EqNone.eq_str_none<|cL I q yi
  | bl j=>cases d;show PySem.EqMixed.eq_str_bool<|cL I q yi
  | int j=>let(t',rfl):=d;show PySem.EqMixed.eq_str_int<|cL I q yi
  | str j=>let(t',rfl):=d;show eq_str<|cL I q OJ
  | _=>show ŀ (show Ķ=ĳ from hs) b8
 | xZ i=>
  let(t,rfl):=g;cases y with
  | xZ j=>let(t',rfl):=d;show W.eq_bytes<|cL I q O4
  | _=>show ŀ (show Ķ=ĳ from hs) b8
 | _=>cases y <;> show ŀ (show Ķ=ĳ from hs) b8
def JB:fL X (compareOp .NotEq) rNe:=by
 intro ao s T H x y v u Q I g d h;let(hs,q):=h;cases x with
 | non=>
  cases g;cases y with
  | non=>cases d;show PySem.EqNone.ne_none_none<|cL I q yi
  | bl j=>cases d;show PySem.EqNone.ne_none_bool<|cL I q yi
  | int j=>let(t',rfl):=d;show PySem.EqNone.ne_none_int<|cL I q yi
  | str j=>let(t',rfl):=d;show PySem.EqNone.ne_none_str<|cL I q yi
  | _=>show ŀ (show Ķ=ĳ from hs) b8
 | bl i=>
  cases g;cases y with
  | non=>cases d;show PySem.EqNone.ne_bool_none<|cL I q yi
  | bl j=>cases d;show ne_bool<|cL I q<|Ő not Uu
  | str j=>let(t',rfl):=d;show PySem.EqMixed.ne_bool_str<|cL I q yi
  | _=>show ŀ (show Ķ=ĳ from hs) b8
 | int i=>
  let(t,rfl):=g;cases y with
  | non=>cases d;show PySem.EqNone.ne_int_none<|cL I q yi
  | int j=>let(t',rfl):=d;show ne_int<|cL I q<|Ő not OD
  | str j=>let(t',rfl):=d;show PySem.EqMixed.ne_int_str<|cL I q yi
  | _=>show ŀ (show Ķ=ĳ from hs) b8
 | str i=>
  let(t,rfl):=g;cases y with
  | non=>cases d;show PySem.EqNone.ne_str_none<|cL I q yi
  | bl j=>cases d;show PySem.EqMixed.ne_str_bool<|cL I q yi
  | int j=>let(t',rfl):=d;show PySem.EqMixed.ne_str_int<|cL I q yi
  | str j=>let(t',rfl):=d;show ne_str<|cL I q<|Ő not OJ
  | _=>show ŀ (show Ķ=ĳ from hs) b8
 | xZ i=>
  let(t,rfl):=g;cases y with
  | xZ j=>let(t',rfl):=d;show W.ne_bytes<|cL I q<|Ő not O4
  | _=>show ŀ (show Ķ=ĳ from hs) b8
 | _=>cases y <;> show ŀ (show Ķ=ĳ from hs) b8
def wB:fL X (compareOp .Lt) (J6 λi j=>.bl<|Ļ<|i<j):=XJ λ_ _ _ _ _ _ _ q=>lt_int q
def mW:fL X (compareOp .LtE) (J6 λi j=>.bl<|Ļ<|i<=j):=XJ λ_ _ _ _ _ _ _ q=>le_int q
def aad:fL X (compareOp .Gt) (J6 λi j=>.bl<|Ļ<|j<i):=XJ λ_ _ _ _ _ _ _ q=>gt_int q
def Uv:fL X (compareOp .In) (λx y H Q=>∃i j,x=.X i/\y=.X j/\Q (.bl<|!(Builtin.Str.occurrences j i 0 j.v 1).ę) H):=by intro ao s T H x y v u Q I g d h;let(i,j,rfl,rfl,q):=h;let(t,rfl):=g;let(t',rfl):=d;show in_str<|cL I q rb
def bQ (b)(h:Ŷ (op≠.In) Ÿ)(q:Ŷ (op≠.NotIn) Ÿ):behindInMarks op b=Ķ:=by
 let d:(op==CmpOp.In)=Ķ:=by cases op <;> first|rfl|show ŀ rb h
 let g:(op==CmpOp.NotIn)=Ķ:=by cases op <;> first|rfl|show ŀ rb q
 cases b <;> simp[behindInMarks,d,g]
def fZ (d:fL X (compareOp op) r)(ha:QE X a ta)(D:QE X b tb)(hm:behindInMarks op b=Ķ):QE X (.Compare a [op] [b] pos) (qN r ta tb):=⟨by
 intro ao s T H Q I h;show wpAny_Compare1 (XH ha.Ý D.Ý I h λv u s2 x y H2 I2 B g q=>d ao s2 T H2 x y v u Q I2 B g q) hm⟩
def aae (t:TE):TT:=λT H Q=>t T H λx H'=>GQ x λk=>Q k H'
def bW (d:fL X (compareOp op) r)(ha:QE X a ta)(D:QE X b tb)(hm:behindInMarks op b=Ķ):QT X (.Compare a [op] [b] pos) (aae<|qN r ta tb):=⟨by
 intro ao s T H Q I h;refine ue (bD (ha.Ý ao s T H _ I h) λv s1 ⟨x,H1,I1,r1,q1⟩=>bD (D.Ý ao s1 T H1 _ I1 q1) λu s2 ⟨y,H2,I2,B,q2⟩=>bD (d ao s2 T H2 x y v u _ I2 r1 B q2) λc G ⟨z,g,F,q,q3⟩=>?_) hm
 let(k,e,q3):=mD q3;subst e;cases q;show eM %[0,g,F|q3]⟩
def J7 (r r':R2)(ta tb tc:TE):TE:=λT H Q=>ta T H λx H1=>tb T H1 λy H2=>r x y H2 λz d=>GQ z λk=>(if k=ĳ then tc T d λw' g=>r' y w' g Q else Q (.bl Ķ) d)
def nF (F:fL X (compareOp op) r)(g:fL X (compareOp op') r')(ha:QE X a ta)(M:QE X b tb)(G:QE X c tc)(hm:Ŷ (lastMarks [op,op'] [b,c]=Ķ) Ž):QE X (.Compare a [op,op'] [b,c] pos) (J7 r r' ta tb tc):=⟨by
 intro ao s T H Q I h;refine Compare_chain (bD (ha.Ý ao s T H _ I h) λv s1 ⟨x,H1,I1,r1,q1⟩=>chain_link<|bD (M.Ý ao s1 T H1 _ I1 q1) λu s2 ⟨y,H2,I2,B,q2⟩=>bD (F ao s2 T H2 x y v u _ I2 r1 B q2) λd J ⟨z,q,D,L,q3⟩=>?_) hm
 let(k,e,q3):=mD q3;subst e;cases L;calc eM ?_;cases k with
 | false=>show ite_ff %[1,.bl Ķ,q,D,rb|q3]
 | true=>show ite_tt<|chain_last<|bD (G.Ý ao J T q _ D q3) λw' Y ⟨z',O,N,r4,q4⟩=>g ao Y T O y z' u w' Q N B r4 q4⟩
def wC (F:fL X (compareOp op) r)(g:fL X (compareOp op') r')(ha:QE X a ta)(Y:QE X b tb)(J:QE X c tc)(hm:Ŷ (lastMarks [op,op'] [b,c]=Ķ) Ž):QT X (.Compare a [op,op'] [b,c] pos) (aae<|J7 r r' ta tb tc):=⟨by
 intro ao s T H Q I h;refine isTrue_chain (bD (ha.Ý ao s T H _ I h) λv s1 ⟨x,H1,I1,r1,q1⟩=>test_link<|bD (Y.Ý ao s1 T H1 _ I1 q1) λu s2 ⟨y,H2,I2,B,q2⟩=>bD (F ao s2 T H2 x y v u _ I2 r1 B q2) λd M ⟨z,q,D,N,q3⟩=>?_) hm
 let(k,e,q3):=mD q3;subst e;cases N;calc eM ?_;cases k with
 | false=>let(k',e',q'):=mD q3;cases e';show ite_ff %[0,q,D|q']
 | true=>calc ite_tt<|test_last<|bD (J.Ý ao M T q _ D q3) λw' s4 ⟨z',H4,Z,r4,q4⟩=>bD (g ao s4 T H4 y z' u w' _ Z B r4 q4) λd' s5 ⟨z2,O,L,G,q5⟩=>?_;let(k2,e2,q5):=mD q5;subst e2;cases G;show eM %[0,O,L|q5]⟩
def rW:(Ľ:ı)<2^63:=by rw[sizeLine_eq];decide
def Ru:fL X (binaryOp .Add) (λx y H Q=>∃i j,x=.X i/\y=.X j/\i.v+j.v<=Ľ/\Q (.X<|i++j) H):=by intro ao s T H x y v u Q I g d h;let(i,j,rfl,rfl,hz,q):=h;let(t,rfl):=g;let(t',rfl):=d;show add_str (λt' tk=>%[1,.X<|i++j,H,I.tok _,%[_|rb]|q]) hz
def vals1 (r:Vals [x] us):∃u,us=[u]/\bH x u:=by
 cases r with| cons r1 r2=>cases r2;show%[0,_,rb|r1]
def vals2 (r:Vals [x,y] us):∃u w',us=[u,w']/\bH x u/\bH y w':=by
 cases r with
 | cons r1 r2=>
  cases r2 with| cons r3 r4=>cases r4;show%[1,_,_,rb,r1|r3]
def Uw (g:X.ĭ=ĳ):fM X (.Ô "min") (λxs H Q=>∃i j,xs=[.M i,.M j]/\Q (.M<|if j<i then j else i) H):=by
 intro ao s T H xs us Q I r h;let(i,j,rfl,q):=h;let(u,w',rfl,(t,rfl),(t',rfl)):=vals2 r;refine min_two_ints (I.ok.hd g) λh' tk k=>%[1,_,H,I.Ħ k,?_|q]
 by_cases d:j<i;.rw[Ĺ d,Ĺ d];show%[_|rb]
 .rw[ķ d,ķ d];show%[_|rb]
def Ux:fM X (.Ä "int") (λxs H Q=>(∃i,xs=[.M i]/\Q (.M i) H)\/∃k,xs=[.bl k]/\Q (.M<|if k then 1 else 0) H):=by
 intro ao s T H xs us Q I r h;rcases h with⟨i,rfl,q⟩|⟨k,rfl,q⟩
 .let(u,rfl,t,rfl):=vals1 r;show call_int_int %[1,.M i,H,I,%[_|rb]|q]
 .let(u,rfl,r1):=vals1 r;cases r1;show call_int_bool %[1,.M<|if k then 1 else 0,H,I.tok _,%[_|rb]|q]
end
structure Br (h:Ň)(x dx C:ĸ)(mA:ņ->ĵ Ĳ):Prop where
 obj:h.Á x=į (W.instObj C dx)
 ns:h.Ns1 dx mA
 ne:dx≠x
def Uy {h:Ň}(n:h.Ns1 dx mA):∃od,h.Á dx=į od/\∀name,W.lookIn name od=į (mA name):=by
 let(o,es,ep,g,hd,hk,_,hm):=n;calc%[0,o,g|λname=>?_];let e:=hm name;unfold nsFind findBy at e;rw[<-Array.find?_toList]at e;unfold W.lookIn;rw[hd];dsimp only;split
 .rename_i y q;rw[q]at e;show Ő į e
 .rename_i q;rw[q]at e;let a:es.I.Ğ (·.refKey)=Ķ:=by
   rw[List.any_eq_false];intro y B;let(z,t,d):=hk y (qB.mp B);simp[DictEntry.refKey,d]
  let a':¬es.I.Ğ (·.refKey)=ĳ:=by rw[a];show b8
  rw[ķ a'];show Ő į e
def Br.look (I:Br h x dx C mA):∃od,W.InstAt h x (W.instObj C dx) C (į od)/\∀name,W.lookIn name od=į (mA name):=let %[od,ho|hl]:=Uy I.ns
 %[0,od,%[I.obj,rb,rb|ho]|hl]
section
variable {prog:ń}{w:ň}{A:ŉ}{E:AB}{s:ļ}{K:W.Ì}{x dx C f:ĸ}{mA:ņ->ĵ Ĳ}{name:ņ}{v:Ĳ}
def get_map (X:K.In s.C)(I:Br s.C x dx C mA)(q:W.plainGet K C name=ĳ)(B:W.hasDictIn K C=ĳ)(ha:W.findIn K (.H C) name=į Ĵ)(hv:mA name=į v)(d:W.handedIn v=ĳ)(h:Q v {s with toks:=s.Ü+1}):ĺ (ľ prog w) A (getAttr (.H x) name expr) Q E s:=by let(od,J,g):=I.look;show W.get_value X J (vy q).1 (W.findObj_own B ha rb (by rw[g,hv])) d h
def XQ (X:K.In s.C)(I:Br s.C x dx C mA)(g:W.plainGet K C name=ĳ)(hf:W.findIn K (.H C) name=į (į<|.H f))(q:W.isFn K (.H f)=ĳ)(hv:mA name=Ĵ)(h:Q (.H f,[.H x]) s):ĺ (ľ prog w) A (getMethod (.H x) name pl) Q E s:=by let(od,J,d):=I.look;show W.method_fn X J (vy g).1 (vy g).2 hf (beq_iff_eq.mp q) (by show (W.lookIn name od).L (·.č)=į Ķ;rw[d,hv];rfl) h
def aaC (X:K.In s.C)(I:Br s.C x dx C mA)(hs:W.findIn K (.H C) "__setattr__"=į (į<|.Ô "object.__setattr__"))(hp:W.plainOver K C=true)(L:W.takerIn K C name=some none)(N:W.hasDictIn K C=true)(hw:PySem.Within mA ns)(hsz:ns.v<=sizeLine)(h:∀h',Br h' x dx C (λy=>if y=name then į v else mA y)->Heap.ă dx s.C h'->Q () {s with heap:=h',toks:=s.Ü+2}):ĺ (ľ prog w) A (setAttr (.H x) name v) Q E s:=by let(od,J,Z):=I.look;calc W.set_plain X J hs<|W.osa_open (s:={s with toks:=s.Ü+1}) (r:=none) X J hp L λb=>?_;let(cd,G,F):=W.any_some N;let hx:s.C.Á x=į %[.H C,į dx,.plain|#[]]:=I.obj;calc aa<|ag<|aa<|aa<|wpAny_loadPart hx<|aa<|W.Looks.here (s:={s with toks:=s.Ü+1}) (W.looks_clsIn X G) ?_;rw[F];calc ag (a:=į dx)<|aa<|ag<|aa ?_;calc wpAny_nsSet1 (s:={s with toks:=s.Ü+1}) I.ns λh' g d=>?_;let(Y,M,O,D,B,q):=g.count (PySem.Within.á name v hw);calc aa<|wpAny_lookBehind D (by rw[B];show pastItsLine_dict<|ap q (by rw[bv];show e6 hsz)) ?_;show ag<|h _ %[(d.2 _<|ib I.ne).À I.obj,g|I.ne] d
def XR (X:K.In s.C)(hm:W.makesIn K C=ĳ)(hi:W.findIn K (.H C) "__init__"=į (į<|.H f))(hf:W.typeIn K (.H f)=į (.Ä "function"))(h:codeAny (ľ prog w) (A.under<|.Ô "type.__call__" %[.H C::vs|kw]) (.call (.H f) %[.H (s.n+1)::vs|kw]) (W.InitBack (s.n+1) R) {s with heap:=(s.C.Ï W.emptyDict).Ï<|W.instObj C s.n}):codeAny (ľ prog w) A (.call (.H C) %[vs|kw]) R s:=by let(q,g,d,t,os):=s;show W.make_core (W.makes_of X hm) (W.looks_findIn X hi) (λself=>W.bind_fn X self hf) (.Â rb) h
end
def eY (f:ņ)(v:V):İ (ņ×V)->İ (ņ×V)
 | []=>[(f,v)]
 | (g,x)::r=>if g=f then (g,v)::r else (g,x)::eY f v r
theorem Ax (f g)(v):∀fs:İ (ņ×V),(eY f v fs).Å g=if g=f then į v else fs.Å g
 | []=>by
  show List.Å g [(f,v)]=_;by_cases h:g=f
  .let d:(g==f)=ĳ:=beq_iff_eq.Ù h;simp only[List.lookup,d,Ĺ h]
  .let d:(g==f)=Ķ:=beq_eq_false_iff_ne.Ù h;simp only[List.lookup,d,ķ h]
 | (k,x)::r=>by
  let q:=Ax f g v r;rw[show eY f v ((k,x)::r)=(if k=f then (k,v)::r else (k,x)::eY f v r) from rfl];by_cases hk:k=f
  .rw[Ĺ hk];by_cases h:g=k
   .let d:(g==k)=ĳ:=beq_iff_eq.Ù h;simp only[List.lookup,d,Ĺ (h.À hk)]
   .let d:(g==k)=Ķ:=beq_eq_false_iff_ne.Ù h;simp only[List.lookup,d,ķ (λe:g=f=>h<|e.À hk.Ð)]
  .rw[ķ hk];by_cases h:g=k
   .let d:(g==k)=ĳ:=beq_iff_eq.Ù h;simp only[List.lookup,d,ķ (λe:g=f=>hk<|h.Ð.À e)]
   .let d:(g==k)=Ķ:=beq_eq_false_iff_ne.Ù h;simp only[List.lookup,d];show q
theorem yE (f)(v):∀fs:İ (ņ×V),f∈(eY f v fs).L (·.1)/\∀g,g∈fs.L (·.1)->g∈(eY f v fs).L (·.1)
 | []=>%[by simp[eY]|λg h=>by simp at h]
 | (k,x)::r=>by
  let(q,d):=yE f v r;rw[show eY f v ((k,x)::r)=(if k=f then (k,v)::r else (k,x)::eY f v r) from rfl];by_cases hk:k=f
  .rw[Ĺ hk];subst hk;show%[yi|λg h=>by simpa using h]
  .rw[ķ hk];refine%[?_|λg h=>?_]
   .rw[bS];show av _ q
   .rw[bS]at h ⊢;rcases a8.mp h with e|e;.show a8.Ù<|.Â e
    .show av _<|d g e
theorem Ay (f)(v):∀fs:İ (ņ×V),(eY f v fs).v<=fs.v+1
 | []=>by simp[eY]
 | (k,x)::r=>by
  let d:=Ay f v r;rw[show eY f v ((k,x)::r)=(if k=f then (k,v)::r else (k,x)::eY f v r) from rfl];by_cases hk:k=f;.rw[Ĺ hk,bv,bv];lia
  .rw[ķ hk,bv,bv];show e6 d
def kI.some_of (r:kI (į v) o):∃u,o=į u/\bH v u:=by
 cases o with| none=>show(show False from r).ó| some u=>show%[0,u,rb|r]
def kI.none_of (r:kI Ĵ o):o=Ĵ:=by
 cases o with| none=>rfl| some u=>show(show False from r).ó
def Uz (r:bH v u):W.handedIn u=ĳ:=by
 cases v with
 | non=>cases(show u=Value.Û from r);rfl
 | bl b=>cases(show u=Value.Ă b from r);rfl
 | int i=>let(t,e):=(show ∃t,u=Value.M i t from r);cases e;rfl
 | str x=>let(t,e):=(show ∃t,u=Value.X x t from r);cases e;rfl
 | xZ b=>let(t,e):=(show ∃t,u=Value.bytes b t from r);cases e;rfl
 | flt b=>let(t,e):=(show ∃t,u=Value.float b t from r);cases e;rfl
 | ref a=>cases(show u=Value.H a from r);rfl
 | ty n=>cases(show u=Value.Ä n from r);rfl
section
variable {P:ń}{w:ň}{H:Hp}{h:Ň}{a C dx:ĸ}{fs:İ (ņ×V)}
def zQ (hok:iw P w H h)(e:H a=į (.Ē C dx fs)):∃mA,Br h a dx C mA/\(∀f,kI (fs.Å f) (mA f))/\PySem.Within mA (fs.L (·.1))/\fs.v<=1000/\H dx=į (.own a):=by
 let(d,z,ne,ob,mA,n,r,q):=(show cQ P w H h a (.Ē C dx fs) from hok a _ e)
 show%[13,mA,%[ob,n|ne],r,q,z|d]
end
structure Cls (K:W.Ì)(C:ĸ):Prop where
 pg:W.plainGet K C Str.empty=ĳ
 hd:W.hasDictIn K C=ĳ
 po:W.plainOver K C=ĳ
 sa:W.findIn K (.H C) "__setattr__"=į (į<|.Ô "object.__setattr__")
def Cls.get {K:W.Ì}(c:Cls K C)(f:ņ):W.plainGet K C f=ĳ:=c.pg
def iQ (K:W.Ì)(C:ĸ)(f:ņ):Prop:=W.findIn K (.H C) f=į Ĵ
def iQ.taker {K:W.Ì}{f:ņ}(n:iQ K C f):W.takerIn K C f=į Ĵ:=by unfold W.takerIn;rw[show W.findIn K (.H C) f=į Ĵ from n];rfl
structure Meth (K:W.Ì)(C:ĸ)(m:ņ)(f:ĸ):Prop where
 at_:W.findIn K (.H C) m=į (į<|.H f)
 fn:W.isFn K (.H f)=ĳ
 kp:W.ĩ K (.H f)=ĳ
section
variable {X:Cx}{ao:AC}{T:St}{H:Hp}{s:ļ}{a C dx:ĸ}{fs:İ (ņ×V)}{f:ņ}{v:V}{A:ŉ}{E:AB}
def Rv (I:aL X ao T H s)(e:H a=į (.Ē C dx fs))(c:Cls X.K C)(n:iQ X.K C f)(l:fs.Å f=į v)(h:∀u s',aL X ao T H s'->bH v u->Q u s'):ĺ (ľ X.Ñ X.w) A (getAttr (.H a) f b) Q E s:=by let(mA,O,r,_,_,_):=zQ I.ð e;let(u,g,d):=kI.some_of (v:=v) (o:=mA f) (by rw[<-l];show r f);show get_map I.jo O (c.get f) c.hd n g (Uz d)<|h u _ (I.tok _) d
def CW (I:aL X ao T H s)(e:H a=į (.Ē C dx fs))(c:Cls X.K C)(k:Meth X.K C m g)(l:fs.Å m=Ĵ)(h:Q (.H g,[.H a]) s):ĺ (ľ X.Ñ X.w) A (getMethod (.H a) m pl) Q E s:=by let(mA,O,r,_,_,_):=zQ I.ð e;let hn:mA m=Ĵ:=kI.none_of (by rw[<-l];show r m);show XQ I.jo O (c.get m) k.ą k.fn hn h
def Rx (I:aL X ao T H s)(e:H a=į (.Ē C dx fs))(c:Cls X.K C)(n:iQ X.K C f)(J:fs.v<1000)(D:bH y u)(h:∀s',aL X ao T (upd H a<|.Ē C dx<|eY f y fs) s'->Q () s'):ĺ (ľ X.Ñ X.w) A (setAttr (.H a) f u) Q E s:=by
 let(mA,O,r,wi,_,d):=zQ I.ð e;let hz:(fs.L (·.1)).v<=Ľ:=by rw[ab,sizeLine_eq];lia
 calc aaC I.jo O c.sa c.po n.taker c.hd wi hz λh' O' F=>h _ ?_;let hd:∃o,h'.Á dx=į o:=let %[o,_,_,e'|_]:=O'.ns;%[o|e']
 calc I.write (x:=a) (e:=dx) (by rw[e];show True.intro) (.Ò d) (λb q G z=>(F.2 b G).À z) hd ?_;calc%[34,by rw[aM O.ne];show d,?_,O.ne,O'.obj,_,O'.ns,λg=>?_|λg B=>?_];.have:=Ay f y fs;lia
 .show kI ((eY f y fs).Å g)<|if g=f then į u else mA g;rw[Ax];by_cases q:g=f;.rw[Ĺ q,Ĺ q];show D
  .rw[ķ q,ķ q];show r g
 .by_cases q:g=f;.rw[q];show(yE f y fs).1
  .calc(yE f y fs).2 g<|wi g λz=>B ?_;show (if g=f then į u else mA g)=Ĵ;rw[ķ q];show z
def aL.made (I:aL X ao T H s):aL X ao T (upd (upd H s.n<|.own<|s.n+1) (s.n+1)<|.Ē C s.n []) {s with heap:=(s.C.Ï W.emptyDict).Ï<|W.instObj C s.n}:=by
 let d:(s.C.Ï W.emptyDict).Á s.n=į W.emptyDict:=aI s.C rfl;let F:((s.C.Ï W.emptyDict).Ï<|W.instObj C s.n).Á (s.n+1)=į (W.instObj C s.n):=by
  have:=aI (s.C.Ï W.emptyDict) (o:=W.instObj C s.n) rfl
  rwa [eS]at this
 let D:(s.C.Ï W.emptyDict).Ns s.n (λ_=>Ĵ):=%[8,W.emptyDict,#[],_,d,rb,(λe g=>ŀ g yi)|λ_=>rfl]
 let I1:=I.ģ (a:=s.heap.objs.size) (o:=.own (s.n+1)) (h':=s.C.Ï W.emptyDict) (t':=s.toks) (λb u q=>af _ q) (ai _) %[_|d];calc I1.ģ (a:=s.n+1) (o:=.Ē C s.n []) (t':=s.toks) (λb u q=>af _ q) (fq<|eS _ _) ?_;let ne:s.n≠s.n+1:=bb<|eW _;refine%[34,by rw[aM ne,au],bE _,ne,F,λ_=>Ĵ,(Heap.Ns1.of_empty D).at λo q=>af _ q,λ_=>True.intro|λy B=>ŀ rb B]
def aaD (d:attributeBase e f env (ŏ e env)=ŏ e env)(h:ĺ (ľ prog w) A (ŏ e env) (λo g=>ĺ (ľ prog w) A (getAttr o f ĳ) Q E g) E s):ĺ (ľ prog w) A (ŏ (.Ą e f pos) env) Q E s:=Attribute_any_ h (by rw[arm_eval_Attribute,d])
end
def afm (K:W.Ì)(ta:TE)(f:ņ):TE:=λI H Q=>ta I H λx H1=>∃a C dx fs v,x=.H a/\H1 a=į (.Ē C dx fs)/\Cls K C/\iQ K C f/\fs.Å f=į v/\Q v H1
def afn (K:W.Ì)(ta tv:TE)(f:ņ):TS:=λD I H=>tv I H λy H1=>ta I H1 λx H2=>∃a C dx fs,x=.H a/\H2 a=į (.Ē C dx fs)/\Cls K C/\iQ K C f/\fs.v<1000/\
 D.nx I (upd H2 a<|.Ē C dx<|eY f y fs)
section
variable {X:Cx}{o e value:ŋ}{f:ņ}{pos pos':Pos}{ta tv:TE}
variable {ao:AC}{T:St}{H:Hp}{s:ļ}{A:ŉ}{E Q:AB}{c:Ĳ}{b:ō}
def dw (d:QE X e ta)(F:attributeBase e f X.Ê (ŏ e X.Ê)=ŏ e X.Ê):QE X (.Ą e f pos) (afm X.K ta f):=⟨by
 intro ao s T H Q I h;calc aaD F<|bD (d.Ý ao s T H _ I h) λu s1 ⟨x,H1,I1,D,a,C,dx,fs,v,ex,g,c,n,l,q⟩=>?_;subst ex;obtain rfl:u=Value.H a:=D;show Rv I1 g c n l λu' s2 I2 B=>%[1,v,H1,I2,B|q]⟩
def rY (ha:QE X o ta)(hv:QE X value tv)(hs:swapsWith value (į<|.Ą o f pos') pos.line X.Ê=pure Ķ):QS X (.Assign [.Ą o f pos'] value pos) (afn X.K ta tv f):=⟨by
 intro ao s T H D I h;calc plainObj_wpAny_Assign_Attribute (bD (hv.Ý ao s T H _ I h) λu s1 ⟨y,H1,I1,B,q⟩=>bD (ha.Ý ao s1 T H1 _ I1 q) λd s2 ⟨x,H2,I2,F,a,C,dx,fs,ex,g,c,n,l,q2⟩=>?_) hs;subst ex;obtain rfl:d=Value.H a:=F;show Rx I2 g c n l B λJ G=>%[3,T,_,G|q2]⟩
inductive n6 (K:W.Ì) (H:Hp):V->Ĳ->Prop where
 | non:n6 K H .đ (.Ä "NoneType")
 | bl (x:ō):n6 K H (.bl x) (.Ä "bool")
 | int (i:Ŀ):n6 K H (.M i) (.Ä "int")
 | str (x:ņ):n6 K H (.X x) (.Ä "str")
 | flt (x:UInt64):n6 K H (.flt x) (.Ä "float")
 | lst {a:ĸ} {xs:İ V} (e:H a=į (.Æ xs)):n6 K H (.H a) (.Ä "list")
 | iu {a:ĸ} {o:Obj} {xs:İ V} (e:H a=į (.iu o<|.Æ xs)):n6 K H (.H a) (.Ä "list")
 | tup {a:ĸ} {xs:İ V} (e:H a=į (.Ç xs)):n6 K H (.H a) (.Ä "tuple")
 | dK {a:ĸ} {kvs:İ (Key×V)} (e:H a=į (.dK kvs)):n6 K H (.H a) (.Ä "dict")
 | dT {a:ĸ} {kvs:İ (İ Key×V)} (e:H a=į (.dT kvs)):n6 K H (.H a) (.Ä "dict")
 | ins {a C dx:ĸ} {fs:İ (ņ×V)} (e:H a=į (.Ē C dx fs)) (cl:Cls K C) (ha:W.findIn K (.H C) "__class__"=į (į<|.Ô "object.__class__"))
   (hn:W.specialIn K (.Ô "object.__class__") "__get__"=į (į<|.Ô "getset_descriptor.__get__")) (htk:W.takesIn K (.Ô "object.__class__")=į ĳ)
   (hm:W.mroIn K C (.Ä "object")=į ĳ):n6 K H (.H a) (.H C)
def UG (I:aL X ao T H s)(d:bH x u)(ty:n6 X.K H x t)(e:W.kitOne X.K t c=į b)(h:∀tk,Q (.Ă b) {s with toks:=tk}):ĺ (ľ X.Ñ X.w) A (call (.Ô "isinstance") [u,c]) Q E s:=by
 cases ty with
 | non=>cases(show u=Value.Û from d);show io W.kitx_none I.jo True.intro e (λz=>nomatch z) h
 | bl y=>cases(show u=Value.Ă y from d);show io W.kitx_bool I.jo True.intro e (λz=>nomatch z) h
 | int i=>let(t,q):=(show ∃t,u=Value.M i t from d);cases q;show io W.kitx_int I.jo True.intro e (λz=>nomatch z) h
 | str y=>let(t,q):=(show ∃t,u=Value.X y t from d);cases q;show io W.kitx_str I.jo True.intro e (λz=>nomatch z) h
 | flt y=>let(t,q):=(show ∃t,u=Value.float y t from d);cases q;show io W.kitx_float I.jo True.intro e (λz=>nomatch z) h
 | @lst a xs ea=>
  cases(show u=Value.H a from d);let(_,_,n,_,h1):=(show cQ X.Ñ X.w H s.C a (.Æ xs) from I.ð a _ ea)
  show io W.kitx_list I.jo %[0,_,h1|rb] e (λz=>nomatch z) h
 | @iu a ob xs ea=>
  cases(show u=Value.H a from d);let(_,_,_,n,_,h1):=(show cQ X.Ñ X.w H s.C a (.iu ob<|.Æ xs) from I.ð a _ ea)
  show io W.kitx_list I.jo %[0,_,h1|rb] e (λz=>nomatch z) h
 | @tup a xs ea=>
  cases(show u=Value.H a from d);let(_,_,_,p):=(show cQ X.Ñ X.w H s.C a (.Ç xs) from I.ð a _ ea)
  let(o,h1,g,_):=p;show io W.kitx_tuple I.jo %[0,o,h1|g] e (λz=>nomatch z) h
 | @dK a kvs ea=>
  cases(show u=Value.H a from d);let(_,_,vs,_,p):=(show cQ X.Ñ X.w H s.C a (.dK kvs) from I.ð a _ ea)
  let(o,es,ep,h1,g,_):=p;show io W.kitx_dict I.jo %[0,o,h1|g.1] e (λz=>nomatch z) h
 | @dT a kvs ea=>
  cases(show u=Value.H a from d);let(_,_,xs,_,o,es,ep,h1,g,_):=(show cQ X.Ñ X.w H s.C a (.dT kvs) from I.ð a _ ea)
  show io W.kitx_dict I.jo %[0,o,h1|g.1] e (λz=>nomatch z) h
 | @ins a C dx fs ea cl ha hn htk hm=>cases(show u=Value.H a from d);let(mA,O,_):=zQ I.ð ea;let(od,J,_):=O.look;show io (W.kitx_own (cl.get _) cl.hd ha hn htk hm) I.jo J e (λz=>nomatch z) h
end
structure eE (k:ı)(A:ŉ):Prop where
 hd:A.ï=Ĵ
 dp:A.depth+3*k+5<recursionLimit
 un:A.ß+16*k+200<cLine
def eE.mono (r:eE k A)(h:Ŷ (j<=k) Ÿ):eE j A:=%[r.hd,by have:=r.dp;lia|by have:=r.un;lia]
def eE.deeper (r:eE (k+1) A)(env):eE k (A.deeper env):=%[r.hd,by have:=r.dp;show A.depth+1+3*k+5<_;lia|by have:=r.un;show A.ß+3+16*k+200<_;lia]
def Ry {A:ŉ}:(A.under<|.Ô "type.__call__" %[.H C::us|kw]).depth=A.depth+1:=by first|rfl|simp[Around.under,Code.weight,Code.isCreation,Code.isGuard,Code.isCaller,Code.frames,Code.isFrame,guardIds]
def Rz {A:ŉ}:(A.under<|.Ô "type.__call__" %[.H C::us|kw]).ß=A.ß+1:=by first|rfl|simp[Around.under,Code.cUnits,Code.frames,Code.isFrame]
def eE.make (r:eE (k+1) A)(C)(us)(kw):eE k (A.under<|.Ô "type.__call__" %[.H C::us|kw]):=%[r.hd,by have:=r.dp;rw[Ry];(simp_all;lia)|by have:=r.un;rw[Rz];(simp_all;lia)]
def eE.depth (r:eE k A):A.depth<recursionLimit:=by have:=r.dp;lia
def eE.units (r:eE k A):A.ß+64<cLine:=by have:=r.un;lia
def kJ:TA:=λ_ H Q=>Q [] H
def dM (ta:TE)(d:TA):TA:=λI H Q=>ta I H λx H1=>d I H1 λxs H2=>Q (x::xs) H2
section
variable {X:Cx}{e:ŋ}{es:İ ŋ}{te:TE}{t:TA}{pos:Pos}
def UJ:PA X [] kJ:=λ_ _ _ _ H Q I h=>lL %[1,[],H,I,.ê|h]
def Fl (ha:PE X e te)(hr:PA X es t)(hs:Ŷ (Ņ (e::es) X.Ê=(Ķ,ŏ e X.Ê)::Ņ es X.Ê) ŷ):PA X (e::es) (dM te t):=by intro pos ao s T H Q I h;rw[hs];show ĺ _ _ (spliced<|(Ķ,ŏ e X.Ê)::backTo pos (Ņ es X.Ê)) _ _ s;calc fT<|bD (ha ao s T H _ I h) λu s1 g=>?_;let(x,H1,I1,r1,q1):=g;show bD (hr pos ao s1 T H1 _ I1 q1) λus s2 ⟨xs,H2,I2,d,q2⟩=>%[1,x::xs,H2,I2,.á r1 d|q2]
def acD (t:TA):TE:=λT H Q=>t T H λxs H1=>xs.v<=Ľ/\∀p,H1 p=Ĵ->Q (.H p) (upd H1 p<|.Ç xs)
def afo (t:TA):TE:=λT H Q=>t T H λxs H1=>xs.v<=Ľ/\∀p,H1 p=Ĵ->Q (.H p) (upd H1 p<|.Æ xs)
def dz {x1}(h:QA X es t):QE X (.Ě es x1 pos) (acD t):=⟨by
 intro ao s T H Q I d;calc wpAny_Tuple_spliced<|bD (h.Ý pos ao s T H _ I d) λus s1 ⟨xs,H1,I1,r,z,q⟩=>%[by rw[<-r.length];show z|?_];let hf:H1 s1.n=Ĵ:=I1.ð.à<|ai _;calc%[1,.H s1.n,upd H1 s1.n<|.Ç xs,I1.ģ (t':=s1.toks) (λb u e=>af _ e) (ai _) ?_,rb|q _ hf];show%[11,z,us,r|%[31,_,aI _ rb,rb,_|rb]]⟩
def dF (h:QA X es t):QE X (.List es pos) (afo t):=⟨by
 intro ao s T H Q I d;calc wpAny_List_spliced<|bD (h.Ý pos ao s T H _ I d) λus s1 ⟨xs,H1,I1,r,z,q⟩=>%[by rw[<-r.length];show z|?_];let hf:H1 s1.n=Ĵ:=I1.ð.à<|ai _;calc%[1,.H s1.n,upd H1 s1.n<|.Æ xs,I1.ģ (t':=s1.toks) (λb u e=>af _ e) (ai _) ?_,rb|q _ hf];show%[19,z,us,0,r|aI _ rb]⟩
end
abbrev Sp:=İ V->Hp->VK->XK->Prop
abbrev yF:=İ Env->Hp->ļ->XK->Ĳ->ļ->Prop
structure yG (P:ń)(w:ň)(K:W.Ì)(mg:ņ->ĵ Ĳ)(base:Ň)(A:ŉ)(outer:İ Env)(s:ļ)(H:Hp):Prop where
 frames:A.frames=į outer
 mod:Mod K mg base
 bs:∀b o,base.Á b=į o->s.C.Á b=į o/\H b=Ĵ
 CP:base.Q.E<=s.n
 qz:s.C.FunFrames base outer
 JZ:∀b∈frs outer,H b=Ĵ
 hok:iw P w H s.C
 bare:ŝ s.gens
def CE (outer:İ Env)(P:ń)(w:ň)(H:Hp)(s:ļ)(Q:VK)(u:Ĳ)(s':ļ):Prop:=∃v H',s'.os=s.os/\ŝ s'.gens/\Un (frs outer) [] H H' s.C s'.C/\iw P w H' s'.C/\bH v u/\Q v H'
def CR (CX:yF)(outer:İ Env)(P:ń)(w:ň)(H:Hp)(s:ļ)(Q:VK)(E:XK)(r:ų)(s':ļ):Prop:=match r with| .ok (.ret u)=>CE outer P w H s Q u s'| .ok _=>False| .error e=>CX outer H s E e s'
structure jY (P:ń)(w:ň)(K:W.Ì)(mg:ņ->ĵ Ĳ)(base:Ň)(CX:yF)(k:ı)(f:ĸ)(fd:Ş)(ps:İ ņ)(sp:Sp):Prop where
 len:∀vs H Q E,sp vs H Q E->vs.v=ps.v
 run:∀(A:ŉ) (outer:İ Env) (s:ļ) (H:Hp) (args:Args) (us:İ Ĳ) (vs:İ V) (Q:VK) (E:XK),eE k A->yG P w K mg base A outer s H->Š s fd args (ps.zip us)->Vals vs us->sp vs H Q E->
  codeAny (ľ P w) A (.call (.H f) args) (CR CX outer P w H s Q E) s
def jY.mono {K:W.Ì}{mg:ņ->ĵ Ĳ}{CX:yF}{j k:ı}{ps:İ ņ}{sp:Sp}(F:jY P w K mg base CX j f fd ps sp)(h:j<=k):jY P w K mg base CX k f fd ps sp:=%[F.ď|λA outer s H args us vs Q E hr=>F.run A outer s H args us vs Q E<|hr.Ø h]
def yG.make {K:W.Ì}{mg:ņ->ĵ Ĳ}{outer:İ Env}(e:yG P w K mg base A outer s H)(C:ĸ)(us:İ Ĳ)(d:İ (ņ×Ĳ)):yG P w K mg base (A.under<|.Ô "type.__call__" %[.H C::us|d]) outer s H:=%[by first|show e.frames|(simpa [Around.under,Code.envs,Code.isFrame,pushEnvs] using e.frames),e.mod,e.bs,e.CP,e.qz,e.JZ,e.ð|e.bare]
section
variable {X:Cx}{ao:AC}{T:St}{H:Hp}{s s':ļ}
def aL.env0 (I:aL X ao T H s):yG X.Ñ X.w X.K X.mg X.ö X.A X.stack s H:=%[I.ok.frames,I.ok.mod,I.bs,ap I.ok.CP I.sz,I.stack,I.Ou,I.ð|I.bare]
def aL.after (I:aL X ao T H s)(h:CE X.stack X.Ñ X.w H s Q u s'):EP X ao T Q u s':=by let(v,H',os,bare,un,hok,r,q):=h;let(D,g,d,t,B):=s';obtain rfl:B=s.os:=os;show%[1,v,H',I.call (h':=D) (g':=g) (d':=d) (t':=t) (ch:=[]) un hok bare λb z=>ŀ z yi,r|q]
end
def qX (sp:Sp)(mH:İ V)(E:XK)(t:TA):TE:=λI H Q=>t I H λvs H1=>sp (vs++mH) H1 Q E
def RD (C:ĸ)(m:ņ)(sp:Sp)(mH:İ V)(E:XK)(ta:TE)(t:TA):TE:=λI H Q=>ta I H λx H1=>∃a dx fs,x=.H a/\H1 a=į (.Ē C dx fs)/\fs.Å m=Ĵ/\
 t I H1 λvs H2=>sp (x::(vs++mH)) H2 Q E
def aem (C:ĸ)(sp:Sp)(mH:İ V)(E:XK)(t:TA):TE:=λI H Q=>t I H λvs H1=>∀x dx,H1 x=Ĵ->H1 dx=Ĵ->dx≠x->
 sp (.H x::(vs++mH)) (upd (upd H1 dx<|.own x) x<|.Ē C dx []) (λv H2=>v=.đ/\Q (.H x) H2) E
def j6 (K:W.Ì)(fd:Ş)(ps:İ ņ)(ds:İ Ĳ):Prop:=∀(s:ļ) (us:İ Ĳ),K.In s.C->(us++ds).v=ps.v->Š s fd %[us|[]] (ps.zip<|us++ds)
def j6.all {K:W.Ì}{ps:İ ņ}(h:∀us:İ Ĳ,us.v=ps.v->bindArgs fd %[us|[]]=pure (ps.zip us)):j6 K fd ps []:=λs us _ d=>by rw[gy]at d ⊢;show .of_eq<|h us d
def Passes (CX:yF)(X:Cx)(E:XK):Prop:=∀(ao:AC) (I:St) (H:Hp) (s:ļ) (e:Ĳ) (s':ļ),aL X ao I H s->CX X.stack H s E e s'->X.xe e s'
section
variable {X:Cx}{CX:yF}{k:ı}{f C:ĸ}{fd:Ş}{ps:İ ņ}{sp:Sp}{mH:İ V}{ds:İ Ĳ}{E:XK}{x m:ņ}{p pos apos:Pos}{e o:ŋ}{es:İ ŋ}{ta:TE}{t:TA}
def J8 {ao:AC}{T:St}{H:Hp}{s:ļ}{Q:VK}{us:İ Ĳ}{vs:İ V}(F:jY X.Ñ X.w X.K X.mg X.ö CX k f fd ps sp)(hr:eE k X.A)(B:j6 X.K fd ps ds)(hd:Vals mH ds)(hx:Passes CX X E)(I:aL X ao T H s)(r:Vals vs us)(h:sp (vs++mH) H Q E):ĺ (ľ X.Ñ X.w) X.A (call (.H f) us) (EP X ao T Q) X.xe s:=by
 let d:Vals (vs++mH) (us++ds):=r.append hd;let g:(us++ds).v=ps.v:=by rw[<-d.length];show F.ď _ _ _ _ h
 calc sM<|kc (F.run X.A X.stack s H %[us|[]] (us++ds) (vs++mH) Q E hr I.env0 (B s us I.jo g) d h) λr s' q=>?_;cases r with
 | error e=>show hx ao T H s e s' I q
 | ok fl=>
  cases fl with| ret u=>show I.after q| next=>show False.ó q| brk=>show False.ó q| cont=>show False.ó q
def aaE (F:jY X.Ñ X.w X.K X.mg X.ö CX k f fd ps sp)(hr:eE k X.A)(B:Gl X x)(hm:X.mg x=į (.H f))(hk:W.ĩ X.K (.H f)=ĳ)(G:j6 X.K fd ps ds)(hd:Vals mH ds)(hx:Passes CX X E)(ha:PA X (e::es) t)(d:Ŷ ((x==("__debug__":ņ))=Ķ) Ÿ)(D:Ŷ (Ņ (e::es) X.Ê=(Ķ,ŏ e X.Ê)::Ņ es X.Ê) ŷ)(g:Ŷ ((backTo pos<|Ņ es X.Ê).Ğ (·.1)=Ķ) ŷ):PE X (.ġ (.è x p) (e::es) [] pos) (qX sp mH E t):=by intro ao s T H Q I h;calc kH<|zO I B hm ?_ d;calc sf (h₀:=X.base) I.ok.mod.JW hk (bD (ha pos ao s T H _ I h) λus s1 ⟨vs,H1,I1,r,q⟩=>%[I1.jo|?_]) D g;show J8 F hr G hd hx I1 r q
def lD {pl:Sem ō}(B:QE X o ta)(c:Cls X.K C)(hm:Meth X.K C m f)(F:jY X.Ñ X.w X.K X.mg X.ö CX k f fd ps sp)(hr:eE k X.A)(L:j6 X.K fd ps ds)(hd:Vals mH ds)(hx:Passes CX X E)(ha:QA X (e::es) t)(d:Ŷ (Ņ (e::es) X.Ê=(Ķ,ŏ e X.Ê)::Ņ es X.Ê) ŷ)(g:Ŷ ((backTo pos<|Ņ es X.Ê).Ğ (·.1)=Ķ) ŷ)(G:Ŷ (ŏ (.ġ (.Ą o m apos) (e::es) [] pos) X.Ê=(do
   let ov <- ŏ o X.Ê
   standAt apos.atName
   let (f,first) <- holding [ov] (getMethod ov m pl)
   callWith pos f first (backTo pos<|Ņ (e::es) X.Ê) (backToKw pos<|keywordEach [] X.Ê))) ŷ):QE X (.ġ (.Ą o m apos) (e::es) [] pos) (RD C m sp mH E ta t):=⟨by
 intro ao s T H Q I h;calc W.methodCall_KW (pl:=pl) (bD (B.Ý ao s T H _ I h) λu s1 ⟨x,H1,I1,J,a,dx,fs,ex,D,l,q⟩=>?_) G;subst ex;obtain rfl:u=Value.H a:=J;calc CW I1 D c hm l ?_;calc sf (first:=[.H a]) (h₀:=X.base) I.ok.mod.JW hm.kp (bD (ha.Ý pos ao s1 T H1 _ I1 q) λus s2 ⟨vs,H2,I2,r,q2⟩=>%[I2.jo|?_]) d g;show J8 (us:=.H a::us) (vs:=.H a::vs) F hr L hd hx I2 (.á rb r) q2⟩
def nG (d:QE X o ta)(c:Cls X.K C)(hm:Meth X.K C m f)(F:jY X.Ñ X.w X.K X.mg X.ö CX k f fd ps sp)(hr:eE k X.A)(G:j6 X.K fd ps ds)(hd:Vals mH ds)(hx:Passes CX X E)(B:Ŷ (ŏ (.ġ (.Ą o m apos) [] [] pos) X.Ê=(do
   let ov <- ŏ o X.Ê
   standAt apos.atName
   let (f,first) <- holding [ov] (getMethod ov m pl)
   callWith pos f first (backTo pos<|Ņ [] X.Ê) (backToKw pos<|keywordEach [] X.Ê))) ŷ):QE X (.ġ (.Ą o m apos) [] [] pos) (RD C m sp mH E ta kJ):=⟨by
 intro ao s T H Q I h;calc W.methodCall_KW (pl:=pl) (bD (d.Ý ao s T H _ I h) λu s1 ⟨x,H1,I1,D,a,dx,fs,ex,g,l,q⟩=>?_) B;subst ex;obtain rfl:u=Value.H a:=D;calc CW I1 g c hm l ?_;show W.callWith_K0 (first:=[.H a]) I1.jo hm.kp<|J8 (us:=[.H a]) (vs:=[.H a]) F hr G hd hx I1 (.á rb .ê) q⟩
structure Mk (K:W.Ì)(C f:ĸ):Prop where
 makes:W.makesIn K C=ĳ
 init:W.findIn K (.H C) "__init__"=į (į<|.H f)
 fn:W.isFn K (.H f)=ĳ
 kp:W.ĩ K (.H C)=ĳ
def XS {ao:AC}{T:St}{H:Hp}{s:ļ}{Q:VK}{us:İ Ĳ}{vs:İ V}(M:Mk X.K C f)(F:jY X.Ñ X.w X.K X.mg X.ö CX k f fd ps sp)(hr:eE (k+1) X.A)(D:j6 X.K fd ps ds)(hd:Vals mH ds)(hx:Passes CX X E)(I:aL X ao T H s)(r:Vals vs us)(h:∀x dx,H x=Ĵ->H dx=Ĵ->dx≠x->sp (.H x::(vs++mH)) (upd (upd H dx<|.own x) x<|.Ē C dx []) (λv H2=>v=.đ/\Q (.H x) H2) E):ĺ (ľ X.Ñ X.w) X.A (call (.H C) us) (EP X ao T Q) X.xe s:=by
 let q:=h (s.n+1) s.n (I.ð.à<|km _) (I.ð.à<|ai _)<|bb<|eW _;let I2:=aL.made (C:=C) I;let g:Vals (V.H (s.n+1)::(vs++mH)) (Value.H (s.n+1)::(us++ds)):=.á rb<|r.append hd;let B:(Value.H (s.n+1)::us++ds).v=ps.v:=by let e:=g.v;rw[F.ď _ _ _ _ q]at e;show e.Ð
 refine sM (XR (f:=f) I.jo M.makes M.init (beq_iff_eq.mp M.fn) (kc (F.run _ X.stack _ _ %[Value.H (s.n+1)::us|[]] (Value.H (s.n+1)::(us++ds)) _ _ E (hr.make C us [])
  (I2.env0.make C us []) (D _ (Value.H (s.n+1)::us) I2.jo B) g q) λr s' d=>?_))
 cases r with
 | error e=>show hx ao T _ _ e s' I2 d
 | ok fl=>
  cases fl with
  | ret u=>let(v,H',J,G,L,q3):=I2.after d;subst L;show%[G|%[1,V.H<|s.n+1,H',J,rb|q3]]
  | next=>show False.ó d
  | brk=>show False.ó d
  | cont=>show False.ó d
def pB (M:Mk X.K C f)(F:jY X.Ñ X.w X.K X.mg X.ö CX k f fd ps sp)(hr:eE (k+1) X.A)(B:Gl X x)(hm:X.mg x=į (.H C))(G:j6 X.K fd ps ds)(hd:Vals mH ds)(hx:Passes CX X E)(ha:QA X (e::es) t)(d:Ŷ ((x==("__debug__":ņ))=Ķ) Ÿ)(D:Ŷ (Ņ (e::es) X.Ê=(Ķ,ŏ e X.Ê)::Ņ es X.Ê) ŷ)(g:Ŷ ((backTo pos<|Ņ es X.Ê).Ğ (·.1)=Ķ) ŷ):QE X (.ġ (.è x p) (e::es) [] pos) (aem C sp mH E t):=⟨by
 intro ao s T H Q I h;calc kH<|zO I B hm ?_ d;calc sf (h₀:=X.base) I.ok.mod.JW M.kp (bD (ha.Ý pos ao s T H _ I h) λus s1 ⟨vs,H1,I1,r,q⟩=>%[I1.jo|?_]) D g;show XS M F hr G hd hx I1 r q⟩
end
def PK (X:Cx)(kws:İ ŕ)(t:TA):Prop:=∀(pos:Pos) (ao:AC) (s:ļ) (I:St) (H:Hp) (Q:İ V->Hp->Prop),aL X ao I H s->t I H Q->ĺ (ľ X.Ñ X.w) X.A (evalAll ((backToKw pos<|keywordEach kws X.Ê).L (·.2))) (AP X ao I Q) X.xe s
section
variable {X:Cx}{x:ņ}{pos kpos:Pos}{e:ŋ}{kws:İ ŕ}{te:TE}{t:TA}{nm:ĵ ņ}
def acE:PK X [] kJ:=λ_ _ _ _ H Q I h=>wpAny_evalAll_nil %[1,[],H,I,.ê|h]
def aaF (ha:PE X e te)(hr:PK X kws t):PK X (%[nm,e|kpos]::kws) (dM te t):=by intro pos ao s T H Q I h;show ĺ _ _ (evalAll ((do let v <- ŏ e X.Ê;standAt pos;pure v)::(backToKw pos<|keywordEach kws X.Ê).L (·.2))) _ _ s;calc wpAny_evalAll_cons<|aa<|bD (ha ao s T H _ I h) λu s1 ⟨x,H1,I1,r1,q1⟩=>aa<|rh<|ag ?_;show bD (hr pos ao s1 T H1 _ I1 q1) λus s2 ⟨xs,H2,I2,d,q2⟩=>%[1,x::xs,H2,I2,.á r1 d|q2]
end
structure aV (N P:İ ņ)(sc:Ŕ):Prop where
 kind:sc.þ=.function:=by rfl
 co:sc.isCoroutine=Ķ:=by rfl
 gen:sc.isGenerator=Ķ:=by rfl
 nd:N.Ö:=by decide +kernel
 pre:N.È P.v=P:=by rfl
 par:∀x∈P,sc.Þ.Å x=į .ā\/sc.Þ.Å x=į .ù:=by decide +kernel
 acF:∀y∈sc.Þ,y.2≠.Ó:=by decide +kernel
def UL {kindOf:ņ->ĵ ř}{x:ņ}:∀{binds:İ (ņ×Ĳ)} {m:ņ->ĵ Ĳ},(∀v,(x,v)∉binds)->bindL kindOf binds m x=m x:=by
 intro binds m h
 induction binds generalizing m with
 | nil=>rfl
 | cons p r ih=>
  let(n,v):=p;unfold bindL;rw[ih λw hw=>h w (av _ hw)];split
  .have:x≠n:=by rintro rfl;show h v a4
   simp[this]
  .rfl
def UW {kindOf:ņ->ĵ ř}{x:ņ}:∀{binds:İ (ņ×Ĳ)} {m:ņ->ĵ Ĳ},(∀v,(x,v)∉binds)->bindC kindOf binds m x=m x:=by
 intro binds m h
 induction binds generalizing m with
 | nil=>rfl
 | cons p r ih=>
  let(n,v):=p;unfold bindC;rw[ih λw hw=>h w (av _ hw)];split;.rfl
  .have:x≠n:=by rintro rfl;show h v a4
   simp[this]
theorem yH {kindOf:ņ->ĵ ř}{x:ņ}:∀{P:İ ņ} {vs:İ Ĳ} {i:ı} {m:ņ->ĵ Ĳ},P.Ö->P[i]?=į x->vs[i]?=į v->kindOf x=į .ā->
  bindL kindOf (P.zip vs) m x=į v
 | [],_,_,_,_,h,_,_=>by simp at h
 | _::_,[],_,_,_,_,h,_=>by simp at h
 | p::P,w::vs,0,m,nd,h1,h2,hk=>by simp at h1 h2;subst h1;subst h2;show bindL kindOf ((p,w)::P.zip vs) m p=_;unfold bindL;rw[UL λv hv=>(kR.mp nd).1 (uv hv).1,Ĺ hk];simp
 | p::P,w::vs,i+1,m,nd,h1,h2,hk=>by show bindL kindOf ((p,w)::P.zip vs) m x=_;unfold bindL;show yH (i:=i) (kR.mp nd).2 (by simpa using h1) (by simpa using h2) hk
theorem G4 {kindOf:ņ->ĵ ř}{x:ņ}:∀{P:İ ņ} {vs:İ Ĳ} {i:ı} {m:ņ->ĵ Ĳ},P.Ö->P[i]?=į x->vs[i]?=į v->kindOf x≠į .ā->
  bindC kindOf (P.zip vs) m x=į v
 | [],_,_,_,_,h,_,_=>by simp at h
 | _::_,[],_,_,_,_,h,_=>by simp at h
 | p::P,w::vs,0,m,nd,h1,h2,hk=>by simp at h1 h2;subst h1;subst h2;show bindC kindOf ((p,w)::P.zip vs) m p=_;unfold bindC;rw[UW λv hv=>(kR.mp nd).1 (uv hv).1,ķ hk];simp
 | p::P,w::vs,i+1,m,nd,h1,h2,hk=>by show bindC kindOf ((p,w)::P.zip vs) m x=_;unfold bindC;show G4 (i:=i) (kR.mp nd).2 (by simpa using h1) (by simpa using h2) hk
def start (N:İ ņ)(vs:İ V):St:=vs.L į++List.É (N.v-vs.v) Ĵ
def rZ (CX:yF)(P:ń)(w:ň)(K:W.Ì)(mg:ņ->ĵ Ĳ)(base:Ň)(N:İ ņ)(qual:ņ)(scope:Ŕ)(f:ĸ)(g:Ĳ)(A:ŉ)(outer:İ Env)(s:ļ)(H:Hp)(E:XK):Cx where
 prog:=P
 w:=w
 K:=K
 mg:=mg
 base:=base
 A:=A.deeper<|envOfC qual scope s.n f g
 N:=N
 s₀:=s
 H₀:=H
 env:=envOfC qual scope s.n f g
 outer:=outer
 stack:=envOfC qual scope s.n f g::outer
 ex:=[]
 calm:=ĳ
 fn:=λ_=>ĳ
 pn:=[]
 xe:=λe s'=>ĺ (ľ P w) (A.deeper<|envOfC qual scope s.n f g) (leaving (envOfC qual scope s.n f g) e) (λ_ d=>CX outer H s E e d) (λe' d=>CX outer H s E e' d) s'
def J9 {sc:Ŕ}(h:sc.Þ.Å x=į .ù):∃c,(cellsFrom n sc.Þ []).Å x=į c:=by let q:=W.cellsFrom_some sc.Þ n []<|.Â h;show Option.isSome_iff_exists.mp q
def G5 {CX:yF}{K:W.Ì}{mg:ņ->ĵ Ĳ}{N ps:İ ņ}{qual:ņ}{scope:Ŕ}{A:ŉ}{outer:İ Env}{E:XK}{vs:İ V}(S:aV N ps scope)(hd:A.ï=Ĵ)(g:yG P w K mg base A outer s H)(M:vs.v=ps.v)(r:Vals vs us)(x:InCallC s s.n (bindL (envOfC qual scope s.n f cd).Į (ps.zip us) λ_=>Ĵ) (cellsFrom (s.n+1) scope.Þ []) (bindC (envOfC qual scope s.n f cd).Į (ps.zip us) λ_=>Ĵ) s1):aL (rZ CX P w K mg base N qual scope f cd A outer s H E) [] (start N vs) H s1:=by
 let L:ps.v<=N.v:=by have:=Ő List.v S.pre;rw[ba]at this;lia
 let(h1,tk,rfl,hk):=x.done;let F:∀b:ĸ,b∉(rZ CX P w K mg base N qual scope f cd A outer s H E).ex:=λb z=>ŀ (show b∈([]:İ ĸ) from z) yi;refine%[%[g.mod,S.þ,rb,rb,ai _,λy z c h1 d=>?_,λy B=>?_,λy c _ h=>?_,λ_=>hd,Around.frames_deeper g.frames,.Ò %[rb|rb],λb z=>ŀ z<|F b,g.bs,g.CP,λb _ _=>F b,λb z=>ŀ z<|F b,g.qz|g.JZ],
  rfl,g.bare,Un.Ħ hk,%[0,_,x.toInCall.ns|λi y v h1 d O=>?_],λy c h=>%[_|x.ù y c h],g.ð.à<|ai _,λy c h=>?_,λp hp=>ŀ (show p∈([]:AC) from hp) yi,g.ð.Ħ hk|?_]
 .show name_of_addr x.apart (oo h1)<|oo d
 .let B:scope.Þ.Å y=į .ù\/scope.Þ.Å y=į .Ó:=B;rcases B with B|B;.show J9 B
  .show ŀ rb<|S.acF _<|oo B
 .show ay<|x.above y c<|oo h
 .let hi:i<vs.v:=by
   unfold start at d;by_cases hi:i<vs.v;.show hi
   .rw[dS (by simpa using hi)]at d;rw[List.getElem?_replicate]at d;split at d <;> cases d
  let ha:vs[i]?=į v:=by
   unfold start at d;rw[ck (by simpa using hi),a_]at d;cases e:vs[i]? with
   | none=>rw[e]at d;cases d
   | some a=>rw[e]at d;cases d;rfl
  let(u,G,J):=r.get ha;let hp:ps[i]?=į y:=by rw[<-S.pre,n9 (by simp_all)];show h1
  let D:ps.Ö:=by rw[<-S.pre];show S.nd.sublist<|tf _ _
  calc%[0,u,J|?_];rcases S.par y (ax hp) with k|k;.show .Â %[k|yH D hp G k]
  .let(c,e):=J9 (n:=s.n+1) k;calc .Ò %[11,.Â k,c,e|?_];let q:=x.ù y c e;rw[G4 D hp G (by show scope.Þ.Å y≠_;rw[k];decide)]at q;show q
 .show g.ð.à<|ay<|x.above y c<|oo h
 .unfold start;show _=N.v;rw[aE,ab,ee];simp_all
def aen {CX:yF}{P:ń}{w:ň}{K:W.Ì}{mg:ņ->ĵ Ĳ}{base:Ň}{k:ı}{f:ĸ}{name qual:ņ}{d:Arguments}{g:İ Ŋ}{scope:Ŕ}{Z kV doc pm bA ct oc:Ĳ}{an od:ĵ ĸ}{osl:ł (ĵ Ĳ)}{N ps:İ ņ}{sp:Sp}(lk:K.Å f=į %[oc,od,.func<|W.fnOf name qual d g scope Z kV doc pm an bA ct|osl])(Y:W.codeIn K bA qual=ĳ)(S:aV N ps scope)(len:∀vs H Q E,sp vs H Q E->vs.v=ps.v)(D:∀(A:ŉ) (outer:İ Env) (s:ļ) (H:Hp) (vs:İ V) (Q:VK) (E:XK),eE k (A.deeper<|envOfC qual scope s.n f bA)->sp vs H Q E->
   ∃t,GK (rZ CX P w K mg base N qual scope f bA A outer s H E) g t/\t {nx:=λ_ H'=>Q .đ H',rt:=Q} (start N vs) H) :
  jY P w K mg base CX (k+1) f (W.fnOf name qual d g scope Z kV doc pm an bA ct) ps sp:=by
 calc%[len|λA outer s H args us vs Q E hr G hb r F=>?_];let hl:=len _ _ _ _ F;let KX:K.In s.C:=G.mod.JW.keeps λb o e=>(G.bs b o e).1;let M:s.C.NoLimit:=G.mod.nolimit.keeps λb o e=>(G.bs b o e).1;let B:∀y∈ps.zip us,scope.Þ.Å y.1=į .ā\/(scope.Þ.Å y.1=į .ù/\((cellsFrom (s.n+1) scope.Þ []).Å y.1).č=ĳ):=λ⟨n,v⟩ hy=>by
  rcases S.par n (uv hy).1 with q|q;.show .Â q
  .show .Ò %[q|W.cellsFrom_some _ _ _<|.Â q]
 calc codeAny_call_function hr.depth (KX _ _ lk) rb S.co S.gen rb (W.codeRec_of KX Y)<|hb _ _ _ _ ?_;calc wpAny_newFunctionEnv_cells S.þ B λenv he s1 x=>?_;subst he;calc%[M.keeps x.toInCall.keep|codeAny_func ?_];let(t,ht,hq):=D A outer s H vs Q E (hr.deeper _) F;let I:aL (rZ CX P w K mg base N qual scope f bA A outer s H E) [] (start N vs) H s1:=G5 S hr.hd G hl r x;calc gg (ht [] s1 (start N vs) H _ I hq) (λfl s' hs=>?_) λe s' hs=>hs;let L:∀{T':St} {H':Hp} {v:V} {u:Ĳ},aL (rZ CX P w K mg base N qual scope f bA A outer s H E) [] T' H' s'->bH v u->Q v H'->CE outer P w H s Q u s':=λ{T' H' v u} J O q=>%[23,v,H',J.os,J.bare,J.ö,J.ð,O|q]
 cases fl with
 | ret u=>let(v,T',H',J,O,q):=hs;show L J O q
 | next=>let(T',H',J,q):=hs;show L (v:=V.non) (u:=Value.none) J rb q
 | brk=>let(_,_,_,q):=hs;show False.ó q
 | cont=>let(_,_,_,q):=hs;show False.ó q
section
variable {X:Cx}{x:ņ}{p pos:Pos}{e:ŋ}{es:İ ŋ}{t:TA}{id T:œ}{r:İ V->Hp->VK->Prop}
def tCB (r:İ V->Hp->VK->Prop)(t:TA):TE:=λC H Q=>t C H λvs H1=>r vs H1 Q
def aX (D:fM X (.Ô id) r)(q:Gl X x)(hm:X.mg x=Ĵ)(hv:bootBuiltins x=į (.Ô id))(ha:QA X (e::es) t)(hn:Ŷ (x≠"__name__") Ÿ)(d:Ŷ ((x==("__debug__":ņ))=Ķ) Ÿ)(B:Ŷ (Ņ (e::es) X.Ê=(Ķ,ŏ e X.Ê)::Ņ es X.Ê) ŷ)(g:Ŷ ((backTo pos<|Ņ es X.Ê).Ğ (·.1)=Ķ) ŷ):QE X (.ġ (.è x p) (e::es) [] pos) (tCB r t):=⟨by
 intro ao s C H Q I h;calc kH<|mF I q hm hv ?_ hn d;show PyProof.ô.callWith_builtin1 (bD (ha.Ý pos ao s C H _ I h) λus s1 ⟨vs,H1,I1,r1,q1⟩=>D ao s1 C H1 vs us Q I1 r1 q1) B g⟩
def cR (D:fM X (.Ä T) r)(q:Gl X x)(hm:X.mg x=Ĵ)(hv:bootBuiltins x=į (.Ä T))(ha:QA X (e::es) t)(hn:Ŷ (x≠"__name__") Ÿ)(d:Ŷ ((x==("__debug__":ņ))=Ķ) Ÿ)(B:Ŷ (Ņ (e::es) X.Ê=(Ķ,ŏ e X.Ê)::Ņ es X.Ê) ŷ)(g:Ŷ ((backTo pos<|Ņ es X.Ê).Ğ (·.1)=Ķ) ŷ):QE X (.ġ (.è x p) (e::es) [] pos) (tCB r t):=⟨by
 intro ao s C H Q I h;calc kH<|mF I q hm hv ?_ hn d;show gr (bD (ha.Ý pos ao s C H _ I h) λus s1 ⟨vs,H1,I1,r1,q1⟩=>D ao s1 C H1 vs us Q I1 r1 q1) B g⟩
end
end L2
namespace HT
open PySem PyProof.Rows
section
def fX (n d:ı):ĵ Ŀ->ı
 | none=>d
 | some v=>if v<0 then (v+(n:Ŀ)).Õ else min v.Õ n
def J_ (n d):fX n d Ĵ=d:=rfl
def zR (n d k:ı):fX n d (į (k:Ŀ))=min k n:=by show (if (k:Ŀ)<0 then ((k:Ŀ)+(n:Ŀ)).Õ else min (k:Ŀ).Õ n)=min k n;rw[ķ yf,cq]
def acG (n d)(hd:d<=n)(o):fX n d o<=n:=by
 cases o with
 | none=>show hd
 | some v=>
  show (if v<0 then (v+(n:Ŀ)).Õ else min v.Õ n)<=n;by_cases hv:v<0;.rw[Ĺ hv];lia
  .rw[ķ hv];show xv _ _
def aaG (v:Ŀ)(n d:ı):(if v<0 then max (v+(n:Ŀ)) 0 else min v (n:Ŀ))=((fX n d (į v):ı):Ŀ):=by
 show (if v<0 then max (v+(n:Ŀ)) 0 else min v (n:Ŀ))=(((if v<0 then (v+(n:Ŀ)).Õ else min v.Õ n):ı):Ŀ)
 by_cases hv:v<0;.simp only[Ĺ hv];lia
 .simp only[ķ hv];grind
end
end HT
namespace L2
open PySem PySem.Spec PyProof.Rows
abbrev TO:=St->Hp->(ĵ Ŀ->Hp->Prop)->Prop
def PO (X:Cx)(e:ĵ ŋ)(t:TO):Prop:=∀(ao:AC) (s:ļ) (I:St) (H:Hp) (Q:ĵ Ŀ->Hp->Prop),aL X ao I H s->t I H Q->
  ĺ (ľ X.Ñ X.w) X.A (evalPart e X.Ê) (λu s'=>∃o H',aL X ao I H' s'/\IsPart u o/\Q o H') X.xe s
structure QO (X:Cx)(e:ĵ ŋ)(t:TO):Prop where
 out:PO X e t
def zT:TO:=λ_ H Q=>Q Ĵ H
def JC (t:TE):TO:=λI H Q=>t I H λx H1=>∃i,x=.M i/\Q (į i) H1
section
variable {X:Cx}{e:ŋ}{te:TE}{lo hi:ĵ ŋ}{tl th:TO}{pos p2:Pos}
def jU  : QO X Ĵ zT:=⟨by
 intro ao s C H Q I h;rw[evalPart_none];show ag %[1,Ĵ,H,I,.Û|h]⟩
def fQ (h:QE X e te):QO X (į e) (JC te):=⟨by
 intro ao s C H Q I hw;rw[evalPart_some];calc bD (h.Ý ao s C H _ I hw) λu s1 ⟨x,H1,I1,r1,q1⟩=>?_;let(i,rfl,q):=q1;let(t,rfl):=r1;show%[1,į i,H1,I1,.M i t|q]⟩
def SlR (X:Cx)(r:V->ĵ Ŀ->ĵ Ŀ->Hp->VK->Prop):Prop:=∀(ao:AC) (s:ļ) (C:St) (H:Hp) (x:V) (v vl d:Ĳ) (lo hi:ĵ Ŀ) (sl:ĸ) (Q:VK),aL X ao C H s->bH x v->s.C.IsSliceOf sl vl d .Û->IsPart vl lo->IsPart d hi->r x lo hi H Q->
  ∃T id,typeLookup (.Ä T) "__getitem__"=pure (į<|.Ô id)/\s.Ā v T/\ĺ (ľ X.Ñ X.w) X.A (getItem v<|.H sl) (EP X ao C Q) X.xe s
def tSl (r:V->ĵ Ŀ->ĵ Ŀ->Hp->VK->Prop)(te:TE)(tl th:TO):TE:=λC H Q=>te C H λx H1=>tl C H1 λl H2=>th C H2 λu d=>r x l u d Q
def f9 (hr:SlR X r)(D:QE X e te)(G:QO X lo tl)(J:QO X hi th):QE X (.Ġ e (.Slice lo hi Ĵ p2) pos) (tSl r te tl th):=⟨by
 intro ao s C H Q I h;calc ŧ<|bD (D.Ý ao s C H _ I h) λv s1 ⟨x,H1,I1,r1,q1⟩=>?_;calc wpAny_Slice<|bD (G.Ý ao s1 C H1 _ I1 q1) λvl s2 ⟨l,H2,I2,pl,q2⟩=>bD (J.Ý ao s2 C H2 _ I2 q2) λg d ⟨u,B,O,M,q3⟩=>?_;rw[evalPart_none];calc ag ?_;let N:aL X ao C B {d with heap:=d.C.Ï {cls:=.Ä "slice",data:=.ë #[vl,g,.Û]} }:=O.Ħ (t':=d.toks) λb ob q=>af _ q;let(T,id,Y,L,F):=hr ao {d with heap:=d.C.Ï {cls:=.Ä "slice",data:=.ë #[vl,g,.Û]} } C B x v vl g l u d.n Q N r1 (Heap.IsSliceOf.new ..) pl M q3;show ĺ (ľ X.Ñ X.w) X.A (subscriptTail e (.Slice lo hi Ĵ p2) v<|.H d.n) (EP X ao C Q) X.xe {d with heap:=d.C.Ï {cls:=.Ä "slice",data:=.ë #[vl,g,.Û]} };show tail_any (ops:=[.H d.n,v]) L Y F (by with_unfolding_all rfl)⟩
def gR (xs:İ V)(lo hi:ĵ Ŀ):İ V:=(xs.Í<|HT.fX xs.v 0 lo).È (HT.fX xs.v xs.v hi-HT.fX xs.v 0 lo)
def Nu (xs)(lo hi):(gR xs lo hi).v<=xs.v:=by unfold gR;rw[ba,cp];lia
end
def G6 (n:ı)(i:Ŀ):ĵ ı:=if 0<=i then (if i<n then į i.Õ else Ĵ) else if -(n:Ŀ)<=i then į (i+n).Õ else Ĵ
def lV {I:Type}(xs:İ I)(i:Ŀ):ĵ I:=(G6 xs.v i).bind λj=>xs[j]?
def O5 (h:G6 n i=į j):seqIndex? i n=į j/\j<n/\-(n:Ŀ)<=i/\i<n:=by
 unfold G6 at h;by_cases d:0<=i
 .rw[Ĺ d]at h;by_cases h1:i<n
  .rw[Ĺ h1]at h;let e:i.Õ=j:=bo h;show%[by rw[seqIndex_of d h1,e],yf,yf|h1]
  .rw[ķ h1]at h;cases h
 .rw[ķ d]at h;by_cases h1:-(n:Ŀ)<=i
  .rw[Ĺ h1]at h;let e:(i+n).Õ=j:=bo h;show%[by rw[seqIndex_neg yf h1,e],yf,h1|yf]
  .rw[ķ h1]at h;cases h
def zU {I:Type}{xs:İ I}{v:I}(h:lV xs i=į v):∃j,seqIndex? i xs.v=į j/\xs[j]?=į v/\j<xs.v/\-(xs.v:Ŀ)<=i/\i<xs.v:=by
 unfold lV at h;cases e:G6 xs.v i with
 | none=>rw[e]at h;cases h
 | some j=>rw[e]at h;let(h1,g,q,d):=O5 e;show%[13,j,h1,h,g,q|d]
def bh {I:Type}{xs:İ I}{j:ı}{v:I}(h:xs[j]?=į v):lV xs (j:Ŀ)=į v:=by
 let d:j<xs.v:=(al.mp h).1;let e:G6 xs.v (j:Ŀ)=į j:=by unfold G6;rw[Ĺ yf,Ĺ (ii fv d)];simp
 unfold lV;rw[e];show h
def O6 (b:ŋ):Prop:=∀o i,subscripted b Ķ o i=operate [o,i] (getItem o i)
def O7 (X:Cx)(r:R2):Prop:=∀(value d:ŋ) (ao:AC) (s:ļ) (I:St) (H:Hp) (x y:V) (v u:Ĳ) (Q:VK),aL X ao I H s->bH x v->bH y u->r x y H Q->
  subscripted d Ķ v u=operate [v,u] (getItem v u)->ĺ (ľ X.Ñ X.w) X.A (subscriptTail value d v u) (EP X ao I Q) X.xe s
def Az (X:Cx)(id:œ)(r:V->İ V->Hp->VK->Prop):Prop:=∀(ao:AC) (s:ļ) (I:St) (H:Hp) (x:V) (xs:İ V) (v:Ĳ) (us:İ Ĳ) (Q:VK),aL X ao I H s->bH x v->Vals xs us->r x xs H Q->
  ĺ (ľ X.Ñ X.w) X.A (call (.Ô id)<|v::us) (EP X ao I Q) X.xe s
section
variable {X:Cx}{a b:ŋ}{ta tb:TE}{pos:Pos}
def bK (hr:O7 X r)(ha:QE X a ta)(B:QE X b tb)(hs:O6 b):QE X (.Ġ a b pos) (qN r ta tb):=⟨by
 intro ao s C H Q I h;show ŧ<|XH ha.Ý B.Ý I h λv u s2 x y H2 I2 g d q=>hr a b ao s2 C H2 x y v u Q I2 g d q<|hs _ _⟩
def X3 (K:W.Ì):R2:=λx y H Q=>∃p xs i v,x=.H p/\y=.M i/\aP K H p xs/\lV xs i=į v/\Q v H
def RG (K:W.Ì):R2:=λx y H Q=>∃p xs i v,x=.H p/\y=.M i/\bf K H p xs/\lV xs i=į v/\Q v H
def acH:R2:=λx y H Q=>∃z i c,x=.X z/\y=.M i/\z.v<=Ľ/\lV z.ñ.I i=į c/\Q (.X ⟨#[c]⟩) H
def d9:O7 X (X3 X.K):=by
 intro value B ao s C H x y v u Q I O J h hs;let(p,xs,i,z,rfl,rfl,Y,G,q):=h;cases O;let(t,rfl):=J;let(its,r,pl,hz):=I.ğ Y;let(j,h1,h2,h3,N,Z):=zU G;let(w,F,L):=r.get h2;let M:=r.v;let hn:=rW;let d:EP X ao C Q w s:=%[1,z,H,I,L|q]
 by_cases D:0<=i
 .let g:i.Õ=j:=by
   rw[seqIndex_of D Z]at h1;show bo h1
  show item_listR pl.ÿ D yf (by rw[g];simpa using F) d hs
 .let g:(i+(its.R.E:Ŀ)).Õ=j:=by
   rw[seqIndex_neg yf N]at h1;rw[bu,<-M];show bo h1
  show subscriptTail_builtinR (x:=w) pl.ÿ.Ċ slot_list_getitem.Å
   (wpAny_getItem_list_neg (Q:=λr s'=>r=w/\EP X ao C Q r s') pl.ÿ yf (by rw[bu] <;> lia) yf (by rw[g];simpa using F) %[rb|d]) hs
def dN:O7 X (RG X.K):=by
 intro value d ao s C H x y v u Q I J D h hs;let(p,xs,i,z,rfl,rfl,M,B,q):=h;cases J;let(t,rfl):=D;let(its,r,pl,hz):=I.Ĕ M;let(j,h1,N,Y,O,Z):=zU B;let(w,L,F):=r.get N;let G:=r.v;let hn:=rW;let g:EP X ao C Q w s:=%[1,z,H,I,F|q]
 show subscriptTail_builtinR (x:=w) pl.Ċ slot_tuple_getitem.Å
  (getItem_tuple (j:=j) (Q:=λr s'=>r=w/\EP X ao C Q r s') pl yf yf (by rw[bu,<-G];show h1) (by simpa using L) %[rb|g]) hs
def acI:O7 X acH:=by
 intro value d ao s C H x y v u Q I J D h hs;let(z,i,c,rfl,rfl,hz,B,q):=h;let(t,rfl):=J;let(t',rfl):=D;let(j,h1,N,O,G,L):=zU B;let F:z.ñ.I.v=z.v:=by simp[Str.length]
 rw[F]at h1 G L;let hn:=rW;show tail_any (typeIs_str s z t) slot_str_getitem.Å (getItem_str (c:=c) (by
  let g:Ļ (i < -(2^63:Ŀ))=Ķ:=aw yf;let M:Ļ (i>=2^63)=Ķ:=aw yf;rw[g,M,tF]) (by rw[h1];simpa using N) %[1,.X ⟨#[c]⟩,H,I.tok _,%[_|rb]|q]) hs
def RJ (its:İ Ĳ)(n j)(u):Obj.ē (·.í j u) {cls:=.Ä "list",data:=.î its.R n}={cls:=.Ä "list",data:=.î (its.ĉ j u).R n}:=by simp[Obj.mapSeq]
def aL.lst {ao:AC}{C:St}{H:Hp}{s:ļ}{p:ĸ}{xs:İ V}(I:aL X ao C H s)(h:H p=į (.Æ xs)):∃(its:İ Ĳ) (n:Nat),Vals xs its/\s.C.Á p=į {cls:=.Ä "list",data:=.î its.R n}/\xs.v<=Ľ:=by let(z,its,n,r,e):=I.ð p _ h;show%[1,its,n,r,e|z]
def aL.acJ {ao:AC}{C:St}{H:Hp}{s:ļ}{p:ĸ}{xs ys:İ V}{its its':İ Ĳ}{n n':ı}{f:Obj->Obj}(I:aL X ao C H s)(h:H p=į (.Æ xs))(d:s.C.Á p=į {cls:=.Ä "list",data:=.î its.R n})(hf:f {cls:=.Ä "list",data:=.î its.R n}={cls:=.Ä "list",data:=.î its'.R n' })(r:Vals ys its')(hz:ys.v<=Ľ)(t:ı):aL X ao C (upd H p<|.Æ ys) {s with heap:=s.C.ě p f,toks:=t}:=by
 let e:(s.C.ě p f).Á p=į {cls:=.Ä "list",data:=.î its'.R n' }:=by rw[ej f d (by rw[hf] <;> rfl),hf]
 calc I.write (x:=p) (e:=p) (by rw[h];trivial) (.Â rb) (λb u g q=>(fk _ _<|ib g).À q) %[_|e] ?_;show%[19,hz,its',n',r|e]
def aeo:V->V->V->Hp->(Hp->Prop)->Prop:=λo i v H Q=>∃p xs k j,o=.H p/\i=.M k/\H p=į (.Æ xs)/\G6 xs.v k=į j/\Q (upd H p<|.Æ<|xs.ĉ j v)
def set_list:XF X aeo:=by
 intro ao s C H o i v N O u Q I J L M h;let(p,xs,k,j,rfl,rfl,hp,G,q):=h;cases J;let(t,rfl):=L;let(its,n,r,d,hz):=I.Æ hp;let(h1,Y,F,D):=O5 G;let g:=r.v;let hn:=rW;let I':aL X ao C (upd H p<|.Æ<|xs.ĉ j v) {s with heap:=s.C.ě p (Obj.ē (·.í j u))}:=I.acJ hp d (RJ its n j u) (r.ĉ M j) (by rw[oP];show hz) s.Ü
 by_cases B:0<=k
 .let hk:k.Õ=j:=by
   rw[seqIndex_of B D]at h1;show bo h1
  show W.ki_setAt d B yf (by rw[bu,<-g];show D) (by rw[hk];show%[0,_,I'|q])
 .let hk:(k+(its.R.E:Ŀ)).Õ=j:=by
   rw[seqIndex_neg yf F]at h1;rw[bu,<-g];show bo h1
  show W.ki_setBack d yf (by rw[bu,<-g];show F) yf (by rw[hk];show%[0,_,I'|q])
def Ka (lo hi)(n):(sliceBounds lo hi Ĵ n).1=((HT.fX n 0 lo:ı):Ŀ)/\(sliceBounds lo hi Ĵ n).2.1=((HT.fX n n hi:ı):Ŀ)/\(sliceBounds lo hi Ĵ n).2.2=1:=by
 refine%[?_,?_|rb]
 .cases lo with
  | none=>simp[sliceBounds,HT.fX]
  | some i=>
   simp only[sliceBounds,HT.fX,Option.getD_none,show (1:Ŀ) > 0 by decide,if_true];by_cases h:i<0
   .simp only[h,if_true] <;> grind
   .simp only[h,if_false] <;> grind
 .cases hi with
  | none=>simp[sliceBounds,HT.fX]
  | some i=>
   simp only[sliceBounds,HT.fX,Option.getD_none,show (1:Ŀ) > 0 by decide,if_true];by_cases h:i<0
   .simp only[h,if_true] <;> lia
   .simp only[h,if_false] <;> lia
def Jj (its:İ Ĳ)(lo hi):slicePick its.R lo hi Ĵ=((its.Í<|HT.fX its.v 0 lo).È<|HT.fX its.v its.v hi-HT.fX its.v 0 lo).R:=by let(h1,d,g):=Ka lo hi its.R.E;unfold slicePick;rw[h1,d,g];simp only[sliceRange_one,pick_run,bu] <;> rfl
def afp (K:W.Ì):V->ĵ Ŀ->ĵ Ŀ->Hp->VK->Prop:=λx lo hi H Q=>∃a xs,x=.H a/\aP K H a xs/\∀p,H p=Ĵ->Q (.H p) (upd H p<|.Æ<|gR xs lo hi)
def zV:SlR X (afp X.K):=by intro ao s C H x v vl F lo hi sl Q I B hs pl D h;let(a,xs,rfl,hx,q):=h;cases B;let(its,r,d,hz):=I.ğ hx;let g:=r.v;calc%[1,"list",_,slot_list_getitem.Å,d.ÿ.Ċ|?_];calc wpAny_getItem_list_slice d.ÿ hs pl D .Û yi ?_ (by rw[bu] <;> simp_all);rw[Jj,<-g];calc%[1,.H s.n,_,I.ģ (t':=s.toks) (o:=.Æ (gR xs lo hi)) (λb ob q=>af _ q) (ai _) ?_,rb|q _<|I.ð.à<|ai _];show%[19,ap (Nu xs lo hi) hz,_,0,(r.Í<|HT.fX xs.v 0 lo).È<|HT.fX xs.v xs.v hi-HT.fX xs.v 0 lo|aI _ rb]
def qY:V->ō
 | .đ=>true
 | .bl _=>true
 | .M _=>true
 | .X _=>true
 | _=>false
def A_:V->V->ō
 | .đ,.đ=>true
 | .bl a,.bl b=>a==b
 | .bl a,.M b=>(if a then 1 else 0)==b
 | .M a,.bl b=>a==(if b then 1 else 0)
 | .M a,.M b=>a==b
 | .X a,.X b=>a==b
 | _,_=>false
def acK (q:bH y u)(d:bH x v)(B:qY y=ĳ)(g:qY x=ĳ):SeqAt.EqAt A s u v (A_ y x):=by
 cases y with
 | non=>
  cases q;cases x with
  | non=>cases d;show SeqAt.EqAt.same _
  | bl b=>cases d;show SeqAt.EqAt.none_bool b
  | int b=>let(t,rfl):=d;show SeqAt.EqAt.none_int b t
  | str b=>let(t,rfl):=d;show SeqAt.EqAt.none_str b t
  | _=>show ŀ (show Ķ=ĳ from g) b8
 | bl a=>
  cases q;cases x with
  | non=>cases d;show SeqAt.EqAt.bool_none a
  | bl b=>cases d;show SeqAt.EqAt.bool_bool a b
  | int b=>let(t,rfl):=d;show SeqAt.EqAt.bool_int a b t
  | str b=>let(t,rfl):=d;show SeqAt.EqAt.bool_str a b t
  | _=>show ŀ (show Ķ=ĳ from g) b8
 | int a=>
  let(t',rfl):=q;cases x with
  | non=>cases d;show SeqAt.EqAt.int_none a t'
  | bl b=>cases d;show SeqAt.EqAt.int_bool a t' b
  | int b=>let(t,rfl):=d;show oQ a t' b t
  | str b=>let(t,rfl):=d;show SeqAt.EqAt.int_str a t' b t
  | _=>show ŀ (show Ķ=ĳ from g) b8
 | str a=>
  let(t',rfl):=q;cases x with
  | non=>cases d;show SeqAt.EqAt.str_none a t'
  | bl b=>cases d;show SeqAt.EqAt.str_bool a t' b
  | int b=>let(t,rfl):=d;show SeqAt.EqAt.str_int a t' b t
  | str b=>let(t,rfl):=d;show SeqAt.EqAt.str_str a t' b t
  | _=>show ŀ (show Ķ=ĳ from g) b8
 | _=>show ŀ (show Ķ=ĳ from B) b8
def su (x:V)(u:Ĳ):ō:=match u with| .Û=>A_ .đ x| .Ă b=>A_ (.bl b) x| .M i _=>A_ (.M i) x| .X z _=>A_ (.X z) x| _=>false
def U3 (r:bH y u)(f:qY y=ĳ):su x u=A_ y x:=by
 cases y with
 | non=>cases r;rfl
 | bl b=>cases r;rfl
 | int i=>let(t,rfl):=r;rfl
 | str z=>let(t,rfl):=r;rfl
 | _=>show ŀ (show Ķ=ĳ from f) b8
def zW:∀{xs:İ V} {us:İ Ĳ},Vals xs us->xs.ĝ qY=ĳ->us.Ğ (su x)=xs.Ğ λy=>A_ y x:=by
 intro _ _ h f
 induction h with| nil=>rfl| cons r t ih=>rw[List.all_cons,dP]at f;rw[oB,oB,U3 r f.1,ih f.2]
def wD (g:bH x v)(q:qY x=ĳ):∀{xs:İ V} {us:İ Ĳ},Vals xs us->xs.ĝ qY=ĳ->∀u∈us,SeqAt.EqAt A s u v (su x u):=by
 intro _ _ h f
 induction h with
 | nil=>intro u d;cases d
 | cons r t ih=>
  intro u' d;rw[List.all_cons,dP]at f;rcases a8.mp d with rfl|d;.rw[U3 r f.1];show acK r g f.1 q
  .show ih f.2 u' d
def inV (x:V)(xs:İ V):ō:=xs.Ğ λy=>A_ y x
def rIn (K:W.Ì)(g:ō):R2:=λx y H Q=>∃p xs,y=.H p/\(aP K H p xs\/bf K H p xs)/\qY x=ĳ/\xs.ĝ qY=ĳ/\Q (.bl<|if g then !inV x xs else inV x xs) H
def U4:fL X (compareOp .In) (rIn X.K Ķ):=by
 intro ao s C H x y v u Q I B D h;let(p,xs,rfl,d,g,fs,q):=h;cases D;rcases d with d|d
 .let(its,r,pl,hz):=I.ğ d;calc SeqAt.in_listAt (su x) pl.ÿ (λw hw=>wD B g r fs w (by simpa using hw)) %[1,.bl _,H,I,rb|?_];rw[show its.R.Ğ (su x)=its.Ğ (su x) by simp,zW r fs];show q
 .let(its,r,pl,hz):=I.Ĕ d;calc SeqAt.in_tupleAt (su x) pl (λw hw=>wD B g r fs w (by simpa using hw)) %[1,.bl _,H,I,rb|?_];rw[show its.R.Ğ (su x)=its.Ğ (su x) by simp,zW r fs];show q
def yI:fL X (compareOp .NotIn) (rIn X.K ĳ):=by
 intro ao s C H x y v u Q I B D h;let(p,xs,rfl,d,g,fs,q):=h;cases D;rcases d with d|d
 .let(its,r,pl,hz):=I.ğ d;calc SeqAt.notIn_listAt (su x) pl.ÿ (λw hw=>wD B g r fs w (by simpa using hw)) %[1,.bl _,H,I,rb|?_];rw[show its.R.Ğ (su x)=its.Ğ (su x) by simp,zW r fs];show q
 .let(its,r,pl,hz):=I.Ĕ d;calc SeqAt.notIn_tupleAt (su x) pl (λw hw=>wD B g r fs w (by simpa using hw)) %[1,.bl _,H,I,rb|?_];rw[show its.R.Ğ (su x)=its.Ğ (su x) by simp,zW r fs];show q
def bY:fM X (.Ô "len") (λxs H Q=>∃p ys,xs=[.H p]/\(aP X.K H p ys\/bf X.K H p ys)/\Q (.M ys.v) H):=by
 intro ao s C H xs us Q I r h;let(p,ys,rfl,d,q):=h;let(u,rfl,B):=vals1 r;cases B;let hn:=rW;rcases d with d|d
 .let(its,r',pl,hz):=I.ğ d;let g:=r'.v;show Calls.call_len_list pl.ÿ (by simp only[bu] <;> lia) %[1,.M ys.v,H,I.tok _,%[s.Ü+1|by rw[bu,g]]|q]
 .let(its,r',pl,hz):=I.Ĕ d;let g:=r'.v;show len_tuple pl (by simp only[bu] <;> lia) %[1,.M ys.v,H,I.tok _,%[s.Ü+1|by rw[bu,g]]|q]
def Kc:fM X (.Ô "len") (λxs H Q=>∃z,xs=[.X z]/\z.v<=Ľ/\Q (.M z.v) H):=by intro ao s C H xs us Q I r h;let(z,rfl,hz,q):=h;let(u,rfl,t,rfl):=vals1 r;let hn:=rW;show len_str yf %[1,.M z.v,H,I.tok _,%[_|rb]|q]
def yJ:fM X (.Ä "list") (λxs H Q=>∃p ys,xs=[.H p]/\(aP X.K H p ys\/bf X.K H p ys)/\∀l,H l=Ĵ->Q (.H l) (upd H l<|.Æ ys)):=by
 intro ao s C H xs us Q I r h;let(p,ys,rfl,d,q):=h;let(u,rfl,G):=vals1 r;cases G;let g:∀(its:İ Ĳ),Vals ys its->ys.v<=Ľ->∀(h':Ň) (c':ı),(∀b o',s.C.Á b=į o'->h'.Á b=į o')->
   h'.Á s.n=į {cls:=.Ä "list",dict:=Ĵ,data:=.î its.R c',slots:=#[]}->EP X ao C Q (.H s.n) {s with heap:=h' }:=λits r' hz h' c' kp e=>
  %[1,.H s.n,_,I.ģ (t':=s.toks) kp (ai _)<|show cQ X.Ñ X.w _ h' _ (.Æ ys) from %[19,hz,its,c',r'|e],rb|q _<|I.ð.à<|ai _]
 rcases d with d|d
 .let(its,r',pl,hz):=I.ğ d;let F:=r'.v;let(o,B,D,n,hd):=pl.ÿ;show call_list_seq p (.Â rb) B D hd (λh' c' kp e=>g its r' hz h' c' kp e) (by simp only[bu] <;> lia)
 .let(its,r',pl,hz):=I.Ĕ d;let F:=r'.v;let(o,B,D,n,hd):=pl;show call_list_seq p (.Ò rb) B D hd (λh' c' kp e=>g its r' hz h' c' kp e) (by simp only[bu] <;> lia)
def cJ:fM X (.Ä "tuple") (λxs H Q=>∃p ys,xs=[.H p]/\((aP X.K H p ys/\∀l,H l=Ĵ->Q (.H l) (upd H l<|.Ç ys))\/(bf X.K H p ys/\Q (.H p) H))):=by
 intro ao s C H xs us Q I r h;let(p,ys,rfl,h):=h;let(u,rfl,g):=vals1 r;cases g;rcases h with⟨d,q⟩|⟨d,q⟩
 .let(its,r',pl,hz):=I.ğ d;let B:=r'.v;calc call_tuple_list pl.ÿ (λh' kp=>?_) (by simp only[bu] <;> lia);let I1:aL X ao C H {s with heap:=h' }:=I.Ħ (t':=s.toks) kp;let I2:aL X ao C (upd H h'.Q.E<|.Ç ys) {s with heap:=h'.Ï {cls:=.Ä "tuple",data:=.î its.R} }:=
   I1.ģ (t':=s.toks) (λb o e=>af _ e) (ai _)<|show cQ X.Ñ X.w _ _ _ (.Ç ys) from %[11,hz,its,r'|IsTup.new _ _]
  show%[1,.H h'.Q.E,_,I2,rb|q _<|I1.ð.à<|ai _]
 .let(its,r',pl,hz):=I.Ĕ d;show call_tuple_same pl %[1,.H p,H,I,rb|q]
def tyV (K:W.Ì)(T:œ)(x:V)(H:Hp):Prop:=match x with
 | .X _=>T="str"
 | .M _=>T="int"
 | .H p=>(T="list"/\∃xs,aP K H p xs)\/(T="tuple"/\∃o,K.Å p=į o/\o.cls=.Ä "tuple"/\o.dict=Ĵ)\/
   (T="dict"/\((∃kvs,H p=į (.dK kvs))\/∃kvs,H p=į (.dT kvs)))\/(T="set"/\∃S n,H p=į (.ĉ S n))
 | _=>False
def U5 {ao:AC}{C:St}{H:Hp}{s:ļ}{T:œ}{x:V}{v:Ĳ}(I:aL X ao C H s)(r:bH x v)(ty:tyV X.K T x H):s.Ā v T/\∀a,v=.H a->∃ob,s.C.Á a=į ob/\ob.dict=Ĵ:=by
 cases x with
 | str z=>let(t,rfl):=r;cases(show T="str" from ty);show%[typeIs_str s z t|λ_ e=>nomatch e]
 | int i=>let(t,rfl):=r;cases(show T="int" from ty);show%[typeIs_int s i t|λ_ e=>nomatch e]
 | ref p=>
  cases r;rcases ty with⟨rfl,xs,q⟩|⟨rfl,o,hk,g,hd⟩|⟨rfl,hk⟩|⟨rfl,S,n,hk⟩
  .let(its,_,pl,_):=I.ğ q;calc%[pl.ÿ.Ċ|λa e=>?_];cases e;let(o,n,e,c,hd,_):=pl;show%[0,o,e|hd]
  .calc%[%[0,o,I.jo p o hk|g]|λa e=>?_];cases e;show%[0,o,I.jo _ o hk|hd]
  .let z:∃o,s.C.Á p=į o/\o.ExactDict:=by
    rcases hk with⟨kvs,hk⟩|⟨kvs,hk⟩
    .let(_,_,_,_,o,_,_,e,ex,_):=I.ð p _ hk;show%[0,o,e|ex]
    .let(_,_,_,_,o,_,_,e,ex,_):=I.ð p _ hk;show%[0,o,e|ex]
   let(o,e,ex):=z;calc%[%[0,o,e|ex.1]|λa d=>?_];cases d;show%[0,o,e|ex.2.1]
  .let(o,_,_,_,e,ex,_):=I.ð p _ hk;calc%[%[0,o,e|ex.1]|λa d=>?_];cases d;show%[0,o,e|ex.2.1]
 | _=>show False.ó ty
def afq (K:W.Ì)(T:œ)(r:V->İ V->Hp->VK->Prop)(to:TE):TE:=λC H Q=>to C H λx H1=>tyV K T x H1/\r x [] H1 Q
def U6 (K:W.Ì)(T:œ)(r:V->İ V->Hp->VK->Prop)(to:TE)(t:TA):TE:=λC H Q=>to C H λx H1=>tyV K T x H1/\t C H1 λxs H2=>r x xs H2 Q
variable {o e:ŋ}{es:İ ŋ}{to:TE}{t:TA}{name:ņ}{apos cpos:Pos}{T id:œ}{r:V->İ V->Hp->VK->Prop}
def vB (pa:Ů T)(slot:Ŵ T name id)(q:typeOf (.Ô id)=pure (.Ä "method_descriptor"))(hm:Az X id r)(B:QE X o to)(d:Ŷ (attributeBase o name X.Ê (ŏ o X.Ê)=ŏ o X.Ê) ŷ)(g:Ŷ ((apos.endLine==cpos.line)=ĳ) ŷ):QE X (.ġ (.Ą o name apos) [] [] cpos) (afq X.K T r to):=⟨by
 intro ao s C H Q I h;calc wpAny_Call_method0_late d g<|bD (B.Ý ao s C H _ I h) λv s1 ⟨x,H1,I1,r1,ty,q1⟩=>?_;let(h1,D):=U5 I1 r1 ty;show%[23,T,id,pa,slot,q,h1,D|iX rb<|PySem.evalArgs_none<|hm ao s1 C H1 x [] v [] Q I1 r1 .ê q1]⟩
def dO (pa:Ů T)(slot:Ŵ T name id)(D:typeOf (.Ô id)=pure (.Ä "method_descriptor"))(hm:Az X id r)(G:QE X o to)(ha:QA X (e::es) t)(g:Ŷ (attributeBase o name X.Ê (ŏ o X.Ê)=ŏ o X.Ê) ŷ)(B:Ŷ (((backTo cpos<|starEach (e::es) X.Ê).ĝ (λx=>!x.1)&&(backToKw cpos<|keywordEach [] X.Ê).ĝ (λx=>x.1.č)
   && Ļ ((e::es).v+([]:İ ŕ).v+(if ([]:İ ŕ).ę then 0 else 1)<30))=ĳ) ŷ) (q:Ŷ ((apos.endLine==cpos.line)=ĳ) ŷ) (hs:Ŷ (Ņ (e::es) X.Ê=(Ķ,ŏ e X.Ê)::Ņ es X.Ê) ŷ) (d:Ŷ ((backTo cpos<|Ņ es X.Ê).Ğ (·.1)=Ķ) ŷ):QE X (.ġ (.Ą o name apos) (e::es) [] cpos) (U6 X.K T r to t):=⟨by
 intro ao s C H Q I h;calc tq g B q rb<|bD (G.Ý ao s C H _ I h) λv s1 ⟨x,H1,I1,r1,ty,q1⟩=>?_;let(h1,L):=U5 I1 r1 ty;calc%[23,T,id,pa,slot,D,h1,L|?_];let F:=ha.Ý cpos ao s1 C H1 _ I1 q1;rw[hs]at F ⊢;calc iX (by show (Ķ||(backTo cpos<|Ņ es X.Ê).Ğ (·.1))=Ķ;rw[d] <;> rfl)<|nN ?_;show bD F λus s2 ⟨vs,H2,I2,J,q2⟩=>hm ao s2 C H2 x vs v us Q I2 r1 J q2⟩
end
def O8 (X:Cx)(id:œ)(r:V->İ V->Hp->VK->Prop):Prop:=∀(ao:AC) (s:ļ) (I:St) (H:Hp) (x:V) (xs:İ V) (v:Ĳ) (us:İ Ĳ) (Q:VK),aL X ao I H s->bH x v->Vals xs us->r x xs H Q->
  ĺ (ľ X.Ñ X.w) X.A (call (.Ô id)<|v::us) (EP X ao I Q) X.xe s
def Vals.one:∀{x:V} {us:İ Ĳ},Vals [x] us->∃u,us=[u]/\bH x u:=by
 intro _ _ h;cases h with| cons r t=>cases t;show%[0,_,rb|r]
def Vals.zero:∀{us:İ Ĳ},Vals [] us->us=[]:=by intro _ h;cases h;rfl
def Vals.eraseIdx:∀{xs:İ V} {us:İ Ĳ} (i:ı),Vals xs us->Vals (xs.eraseIdx i) (us.eraseIdx i):=by
 intro _ _ i h
 induction h generalizing i with
 | nil=>show .ê
 | cons q t ih=>
  cases i with| zero=>show t| succ i=>show .á q<|ih i
def Vals.rep (h:Vals xs us):∀k:ı,Vals (List.É k xs).Ë (List.É k us).Ë:=by
 intro k
 induction k with| zero=>show .ê| succ k ih=>rw[ic,ic,eC,eC];show Vals.append h ih
theorem foldl_rep (its:İ Ĳ):∀(k:ı) (d:İ Ĳ),
  List.ć (λx1 g=>x1++g) d.R (List.É k its.R)=(d++(List.É k its).Ë).R
 | 0,d=>by simp
 | k+1,d=>by
  let e:d.R++its.R=(d++its).R:=yi;let q:(d++its)++(List.É k its).Ë=d++(List.É (k+1) its).Ë:=by rw[ic,eC,bz]
  rw[<-q,<-foldl_rep its k (d++its),<-e,ic,rS]
section
variable {X:Cx}{ao:AC}{T:St}{H:Hp}{s:ļ}{l:ĸ}{xs ys:İ V}
def aL.RK {its its':İ Ĳ}(I:aL X ao T H s)(g:H l=į (.Æ xs))(e:s.C.Á l=į {cls:=.Ä "list",data:=.î its.R n})(hf:f its.R=its'.R)(hv:Vals ys its')(hz:ys.v<=Ľ):aL X ao T (upd H l<|.Æ ys) {s with heap:=s.C.ě l<|Obj.ē f,toks:=t' }:=by let q:=PySem.IsL.ě e f;rw[hf]at q;calc I.write (x:=l) (e:=l) (by rw[g];show trivial) (.Â rb) (λb' u d B=>(fk s.C (Obj.ē f)<|ib d).À B) %[_|q] ?_;show%[19,hz,its',_,hv|q]
def aL.X4 (I:aL X ao T H s)(hv:Vals ys its)(hz:ys.v<=Ľ):aL X ao T (upd H s.n<|.Æ ys) {s with heap:=s.C.Ï {cls:=.Ä "list",data:=.î its.R},toks:=t' }:=I.ģ (λ_ _ q=>af _ q) (ai _) %[19,hz,its,0,hv|aI _ rb]
def aL.fresh (I:aL X ao T H s):H s.n=Ĵ:=I.ð.à (ai _)
def aL.yK (I:aL X ao T H s)(d:H l=į (.Æ xs)):xs.v<=Ľ/\∃(its:İ Ĳ) (n:Nat),Vals xs its/\xs.v=its.v/\s.C.Á l=į {cls:=.Ä "list",data:=.î its.R n}:=by let(z,its,n,r,e):=I.ð l _ d;show%[14,z,its,n,r,r.v|e]
def Bs (h:n<=Ľ):Builtin.List.listTooLong n=Ķ:=by unfold Builtin.List.listTooLong;show aw yf
end
section
variable {X:Cx}
def aaH:V->İ V->Hp->VK->Prop:=λx vs H Q=>∃l xs y,x=.H l/\vs=[y]/\H l=į (.Æ xs)/\xs.v<Ľ/\Q .đ (upd H l<|.Æ<|xs++[y])
def fU:O8 X "list.append" aaH:=by intro ao s C H x vs v us Q I B D h;let(l,xs,y,rfl,rfl,d,hz,q):=h;cases B;let(u,rfl,g):=D.one;let(z,its,n,r,G,e):=I.yK d;calc call_meets F.slot_list_append %[0,_,e|rb] F.entry_list_append (F.args_list_append_2 _ _) (PySem.list_append l its.R n u (by rw[bu];simp_all)) %[e|?_];calc%[1,.đ,_,I.RK (its':=its++[u]) d e yi (r.append<|.á g .ê) ?_,rb|q];rw[aE,List.length_singleton];show hz
def zX:V->İ V->Hp->VK->Prop:=λx vs H Q=>∃l b xs d,x=.H l/\vs=[.H b]/\H l=į (.Æ xs)/\H b=į (.Æ d)/\xs.v+d.v<=Ľ/\Q .đ (upd H l<|.Æ<|xs++d)
def qe:O8 X "list.extend" zX:=by
 intro ao s C H x vs v us Q I G M h;let(l,b,xs,zs,rfl,rfl,g,B,hz,q):=h;cases G;let(u,rfl,D):=M.one;cases D;let(z,its,n,r,Y,e):=I.yK g;let(z2,d,L,J,O,N):=I.yK B;let hsz:its.R.E+d.R.E<=Ľ:=by rw[bu,bu];simp_all
 let Z:¬(!its.R.ę&&Builtin.List.listTooLong (its.R.E+d.R.E))=ĳ:=by rw[Bs hsz,ml];show b8
 refine call_meets F.slot_list_extend %[0,_,e|rb] F.entry_list_extend (F.args_list_extend_2 _ _)
  (AutoSeq1.list_extend_list_list_0 l its.R n b d.R L Z (by rw[bu];simp_all)<|du hsz) %[e,N|?_]
 calc%[1,.đ,_,I.RK (its':=its++d) g e yi (r.append J) ?_,rb|q];rw[aE];show hz
def afr:R2:=λx y H Q=>∃l b xs d,x=.H l/\y=.H b/\H l=į (.Æ xs)/\H b=į (.Æ d)/\xs.v+d.v<=Ľ/\∀p,H p=Ĵ->Q (.H p) (upd H p<|.Æ<|xs++d)
def acL:fL X (binaryOp .Add) afr:=by intro ao s C H x y v u Q I J B h;let(l,b,xs,O,rfl,rfl,D,F,hz,q):=h;cases J;cases B;let(z,its,n,r,N,e):=I.yK D;let(Y,d,Z,G,M,L):=I.yK F;calc PySem.P.add_list e L ?_ (by rw[bu,bu];lia);let g:its.R++d.R=(its++d).R:=yi;rw[g];show%[1,.H _,_,I.X4 (t':=s.toks) (r.append G) (by rw[aE];lia),rb|q _ I.à]
def afs:R2:=λx y H Q=>∃l k xs,x=.H l/\y=.M k/\H l=į (.Æ xs)/\-(2^63)<=k/\k<2^63/\xs.v*k.Õ<=Ľ/\
 ∀p,H p=Ĵ->Q (.H p) (upd H p<|.Æ (List.É k.Õ xs).Ë)
def len_rep {P:Type}(xs:İ P)(k):(List.É k xs).Ë.v=k*xs.v:=by
 induction k with| zero=>simp| succ k ih=>rw[ic,eC,aE,ih,qi,Nat.add_comm]
def acM:fL X (binaryOp .Mult) afs:=by
 intro ao s C H x y v u Q I N J h;let(l,k,xs,rfl,rfl,M,h1,Y,hz,q):=h;cases N;let(t,rfl):=J;let(z,its,n,r,L,e):=I.yK M;let G:its.R.E*k.Õ<=Ľ:=by rw[bu,<-L];show hz
 let d:¬its.R.E*k.Õ > (2^63-1)/8:=by
  have:(Ľ:ı)<=(2^63-1)/8:=by decide
  lia
 let g:¬(!Builtin.List.listFitsIndex k)=ĳ:=by rw[fitsIndex_both h1 Y];show b8
 let Z:¬Builtin.List.listTooLong (its.R.E*k.Õ)=ĳ:=by rw[Bs G];show b8
 let B:List.ć (λx1 D=>x1++D) #[] (List.É (if its.R.ę=ĳ then 0 else k.Õ) its.R)=(List.É k.Õ its).Ë.R:=by
  let O:∀m:ı,List.ć (λx1 D=>x1++D) #[] (List.É m its.R)=(List.É m its).Ë.R:=λm=>by have:=foldl_rep its m [];rw[List.nil_append]at this;show this
  rw[O];cases its with| nil=>simp| cons a r'=>rw[ķ yi]
 refine wpAny_binaryOp_repeat_ref (T:="list") (U:="int") yk %[0,_,e|rb] (λs'=>typeIs_int s' k t) noFill_list_mul F.fills_int_mul F.slot_int_rmul repeat_list F.slot_int_index.Å
  (call_meets F.slot_int_rmul (typeIs_int s k t) F.entry_int_rmul (F.args_int_rmul_2 _ _) (int___rmul___int_list k t l its.R n)
   %[e,rb,%[0,_,e|rb]|call_meets F.slot_list_mul %[0,_,e|rb] F.entry_list_mul (F.args_list_mul_2 _ _) (AutoListH.list___mul___list_int_3 l its.R n k t g d Z) %[e|?_]])
 rw[B];show%[1,.H _,_,I.X4 (t':=s.toks) (r.rep k.Õ) (by rw[len_rep,gz];show hz),rb|q _ I.à]
end
section
variable {I:Type}[Ŏ I]
def cF (kvs:İ (I×V))(k:I):ĵ V:=(kvs.find? λd=>Ļ<|d.1=k).L (·.2)
def putK (kvs:İ (I×V))(k:I)(v:V):İ (I×V):=if (kvs.Ğ λd=>Ļ<|d.1=k)=true then kvs.L (λd=>if d.1=k then (d.1,v) else d) else kvs++[(k,v)]
def wF (kvs:İ (I×V))(k:I):İ (I×V):=kvs.û λd=>Ļ (d.1≠k)
def gb {p:I×V}(e:p.1=k):cF (p::r) k=į p.2:=by simp[cF,mN,e]
def gj {p:I×V}(e:¬p.1=k):cF (p::r) k=cF r k:=by simp[cF,mN,e]
theorem pC (k:I):∀kvs:İ (I×V),(kvs.Ğ λd=>Ļ<|d.1=k)=(cF kvs k).č
 | []=>rfl
 | p::r=>by
  rw[oB];by_cases e:p.1=k;.simp only[gb e,aS e,Bool.true_or,Option.isSome_some]
  .rw[gj e,aw e,Bool.false_or];show pC k r
theorem Kd (k j:I)(y):∀kvs:İ (I×V),cF (kvs.L λd=>if d.1=k then (d.1,y) else d) j=(cF kvs j).L λx=>if j=k then y else x
 | []=>rfl
 | p::r=>by
  let g:=Kd k j y r;rw[bS];by_cases h:p.1=k
  .rw[Ĺ h];by_cases e:p.1=j;.rw[gb (p:=(p.1,y)) e,gb e,rV,Ĺ (e.Ð.À h)]
   .rw[gj (p:=(p.1,y)) e,gj e,g]
  .rw[ķ h];by_cases e:p.1=j;.rw[gb (p:=p) e,gb e,rV,ķ (λz=>h<|e.À z)]
   .rw[gj (p:=p) e,gj e,g]
theorem G7 (k j:I)(y):∀kvs:İ (I×V),cF kvs k=Ĵ->cF (kvs++[(k,y)]) j=if j=k then į y else cF kvs j
 | [],_=>by
  by_cases e:k=j;.rw[Ĺ e.Ð];show gb (p:=(k,y)) e
  .rw[ķ (λz=>e z.Ð)];show gj (p:=(k,y)) e
 | p::r,hn=>by
  rw[List.cons_append];let hk:¬p.1=k:=λz=>by rw[gb z]at hn;cases hn
  rw[gj hk]at hn;let d:=G7 k j y r hn;by_cases e:p.1=j;.rw[gb e,gb e,ķ (λz=>hk<|e.À z)]
  .rw[gj e,gj e,d]
def wG (kvs:İ (I×V))(k j:I)(y):cF (putK kvs k y) j=if j=k then į y else cF kvs j:=by
 unfold putK;by_cases a:(kvs.Ğ λd=>Ļ<|d.1=k)=ĳ
 .rw[Ĺ a,Kd];rw[pC]at a;by_cases e:j=k
  .let(x,hx):=Option.isSome_iff_exists.mp a;rw[Ĺ e,e,hx,rV,Ĺ rfl]
  .rw[ķ e];cases cF kvs j with| none=>rfl| some x=>rw[rV,ķ e]
 .rw[ķ a];calc G7 k j y kvs ?_;rw[pC]at a;cases q:cF kvs k with| none=>rfl| some x=>rw[q]at a;show(a rb).ó
def mJ (kvs:İ (I×V))(k:I)(v):(putK kvs k v).v<=kvs.v+1:=by
 unfold putK;split;.rw[ab];lia
 .rw[aE,bv,kr];lia
def Bu {kvs:İ (I×V)}{k:I}(v:V)(h:cF kvs k=Ĵ):putK kvs k v=kvs++[(k,v)]:=by unfold putK;rw[pC,h];show ķ yk
def kI.qg (r:kI o u):o.č=u.č:=by
 cases o with
 | none=>cases u with| none=>rfl| some _=>show(show False from r).ó
 | some _=>cases u with| none=>show(show False from r).ó| some _=>rfl
def KV.val (r:KV kvs vs)(k:I):kI (cF kvs k) (valueAt vs k):=by
 unfold KV at r
 induction r with
 | nil=>show True.intro
 | @cons p q ps qs h t ih=>
  let(h1,d):=h;by_cases e:p.1=k
  .let e':q.1=k:=h1.Ð.À e;let b:valueAt (q::qs) k=į q.2:=by simp[valueAt,mN,e']
   rw[gb e,b];show d
  .let e':¬q.1=k:=λz=>e<|h1.À z
   let b:valueAt (q::qs) k=valueAt qs k:=by simp[valueAt,mN,e']
   rw[gj e,b];show ih
def KV.any (r:KV kvs vs)(k:I):(kvs.Ğ λd=>Ļ<|d.1=k)=vs.Ğ λd=>Ļ (d.1=k):=by
 unfold KV at r
 induction r with| nil=>rfl| cons h t ih=>rw[oB,oB,ih,h.1]
def KV.repl (r:KV kvs vs)(k:I)(B:bH y u):KV (kvs.L λd=>if d.1=k then (d.1,y) else d) (vs.L λd=>if d.1=k then (d.1,u) else d):=by
 unfold KV at r ⊢
 induction r with
 | nil=>show .ê
 | @cons p q ps qs h t ih=>
  rw[bS,bS];calc .á ?_ ih;let(h1,g):=h;by_cases e:p.1=k;.rw[Ĺ e,Ĺ (h1.Ð.À e)];show%[h1|B]
  .rw[ķ e,ķ (λz=>e<|h1.À z)];show%[h1|g]
def KV.put (r:KV kvs vs)(k:I)(d:bH y u):KV (putK kvs k y) (stored vs k u):=by
 unfold putK stored;rw[r.Ğ k];by_cases e:(vs.Ğ λg=>Ļ<|g.1=k)=ĳ;.rw[Ĺ e,Ĺ e];show r.repl k d
 .rw[ķ e,ķ e];show Paired.snoc r %[rb|d]
def KV.drop (r:KV kvs vs)(k:I):KV (wF kvs k) (without vs k):=by
 unfold KV at r ⊢;unfold wF without
 induction r with
 | nil=>show .ê
 | @cons p q ps qs h t ih=>
  let(h1,d):=h;rw[tJ,tJ];by_cases e:p.1=k
  .let a:¬Ļ (p.1≠k)=ĳ:=by simp[e]
   let b:¬Ļ (q.1≠k)=ĳ:=by simp[h1.Ð.À e]
   rw[ķ a,ķ b];show ih
  .let e':¬q.1=k:=λz=>e<|h1.À z
   let a:Ļ (p.1≠k)=ĳ:=by simp[e]
   let b:Ļ (q.1≠k)=ĳ:=by simp[e']
   rw[Ĺ a,Ĺ b];show .á %[h1|d] ih
def KV.keys {kvs:İ (I×V)}{vs:İ (I×Ĳ)}(r:KV kvs vs):kvs.L (·.1)=vs.L (·.1):=by
 unfold KV at r
 induction r with| nil=>rfl| cons h t ih=>rw[bS,bS,ih,h.1]
def KV.length {kvs:İ (I×V)}{vs:İ (I×Ĳ)}(r:KV kvs vs):kvs.v=vs.v:=Paired.v r
def X5 (kvs:İ (I×V))(k:I):(wF kvs k).v<=kvs.v:=kM _ _
end
def wH (r:bH (kV k) u):(cG P w).is k u=ĳ:=by
 cases k with
 | inl i=>let(t,e):=(show ∃t,u=Value.M i t from r);subst e;show Nr P w i t
 | inr x=>let(t,e):=(show ∃t,u=Value.X x t from r);subst e;show Nt P w x t
def U7:∀{ks:İ Key} {us:İ Ĳ},Vals (ks.L kV) us->ItemsAre (cG P w) ks us:=by
 intro ks us r
 induction ks generalizing us with
 | nil=>rw[kD]at r;cases r;show .ê
 | cons k ks ih=>
  rw[bS]at r;cases r with| cons h t=>show .á (wH h)<|ih t
abbrev KT (H:Hp):İ (İ Key×V)->İ (İ Key×ĸ×Ĳ)->Prop:=ũ λp q=>p.1=q.1/\H q.2.1=į (.Ç<|p.1.L kV)/\bH p.2 q.2.2
def KT.val (r:KT H kvs xs)(k:İ Key):kI (cF kvs k) ((atKey xs k).L (·.2)):=by
 induction r with
 | nil=>show True.intro
 | @cons p q ps qs h t ih=>
  let(h1,_,d):=h;by_cases e:p.1=k
  .let e':q.1=k:=h1.Ð.À e;let b:atKey (q::qs) k=į q.2:=by simp[atKey,mN,e']
   rw[gb e,b];show d
  .let e':¬q.1=k:=λz=>e<|h1.À z
   let b:atKey (q::qs) k=atKey qs k:=by simp[atKey,mN,e']
   rw[gj e,b];show ih
def KT.repl (r:KT H kvs xs)(k:İ Key)(D:bH y u):KT H (kvs.L λd=>if d.1=k then (d.1,y) else d) (xs.L<|putAt k u):=by
 induction r with
 | nil=>show .ê
 | @cons p q ps qs h t ih=>
  rw[bS,bS];calc .á ?_ ih;let(h1,g,B):=h;unfold putAt;by_cases e:p.1=k;.rw[Ĺ e,Ĺ (h1.Ð.À e)];show%[h1,g|D]
  .rw[ķ e,ķ (λz=>e<|h1.À z)];show%[h1,g|B]
def KT.put (r:KT H kvs xs)(k:İ Key)(B:H b=į (.Ç<|k.L kV))(d:bH y u):KT H (putK kvs k y) (storedH xs k b u):=by
 let e:(kvs.Ğ λg=>Ļ<|g.1=k)=(atKey xs k).č:=by rw[pC,(r.val k).qg,xf]
 unfold putK storedH;rw[e];by_cases q:(atKey xs k).č=ĳ;.rw[Ĺ q,Ĺ q];show r.repl k d
 .rw[ķ q,ķ q];show Paired.snoc r %[rb,B|d]
def KT.keeps (r:KT H kvs xs)(d:∀b ys,H b=į (.Ç ys)->H' b=į (.Ç ys)):KT H' kvs xs:=Paired.ach r λ_ _ z=>%[z.1,d _ _ z.2.1|z.2.2]
section
variable {P:ń}{w:ň}{H:Hp}{h:Ň}{a:ĸ}
def aaf (ok:iw P w H h)(e:Rd H a u):cQ P w H h a u:=e.ok ok
def zY (ok:iw P w H h)(e:Rd H a (.dK kvs)):kvs.v<=Ľ/\(a==sysModules)=Ķ/\∃vs,KV kvs vs/\h.DictOf (cG P w) a vs:=show cQ P w H h a (.dK kvs) from aaf ok e
def RL (ok:iw P w H h)(e:H a=į (.dK kvs)):kvs.v<=Ľ/\(a==sysModules)=Ķ/\∃vs,KV kvs vs/\h.DictOf (cG P w) a vs:=zY ok (.Â e)
def vC {ks:İ Key}(ok:iw P w H h)(e:H a=į (.Ç<|ks.L kV)):(tupleKind<|cG P w).is h ks a:=by
 let(_,its,r,o,h1,d,n,g):=(show cQ P w H h a (.Ç<|ks.L kV) from ok a _ e)
 show%[8,o,its.R,n,h1,d,g|by simpa using U7 r]
def zZ (ok:iw P w H h)(e:Rd H a (.dT kvs)):kvs.v<=Ľ/\(a==sysModules)=Ķ/\
  ∃xs,KT H kvs xs/\h.DictOfH (tupleKind<|cG P w) a xs:=by
 let(z,y,xs,r,o,es,ep,h1,D,g,d,B):=(show cQ P w H h a (.dT kvs) from aaf ok e)
 calc%[20,z,y,xs,r|%[35,o,es,ep,h1,D,g,d,λx hx=>?_|B]];let all:∀{l:İ (İ Key×V)} {m:İ (İ Key×ĸ×Ĳ)},KT H l m->∀x∈m,(tupleKind<|cG P w).is h x.1 x.2.1:=by
  intro l m q
  induction q with
  | nil=>intro x hx;show nomatch hx
  | @cons p q ps qs hq t ih=>
   intro x hx;rcases a8.mp hx with e|hx
   .subst e;show vC ok (by rw[<-hq.1];show hq.2.1)
   .show ih x hx
 show all r x hx
def aag (ok:iw P w H h)(e:H a=į (.dT kvs)):kvs.v<=Ľ/\(a==sysModules)=Ķ/\
  ∃xs,KT H kvs xs/\h.DictOfH (tupleKind<|cG P w) a xs:=zZ ok (.Â e)
end
def jJ (H:Hp)(a:ĸ)(y:V)(r:ĵ V):Prop:=(∃kvs k,Rd H a (.dK kvs)/\y=kV k/\r=cF kvs k)\/∃kvs k b,Rd H a (.dT kvs)/\y=.H b/\H b=į (.Ç<|k.L kV)/\r=cF kvs k
def n8 (H:Hp)(a:ĸ)(y v:V)(H':Hp):Prop:=(∃kvs k,H a=į (.dK kvs)/\y=kV k/\kvs.v<Ľ/\H'=upd H a (.dK<|putK kvs k v))\/
 ∃kvs k b,H a=į (.dT kvs)/\y=.H b/\H b=į (.Ç<|k.L kV)/\kvs.v<Ľ/\H'=upd H a (.dT<|putK kvs k v)
theorem jJ.k {kvs:İ (Key×V)}{k:Key}(e:H a=į (.dK kvs)):jJ H a (kV k) (cF kvs k):=.Â %[1,kvs,k,.Â e,rb|rb]
def jJ.t {k:İ Key}(e:H a=į (.dT kvs))(d:H b=į (.Ç<|k.L kV)):jJ H a (.H b) (cF kvs k):=.Ò %[8,kvs,k,b,.Â e,rb,d|rb]
theorem n8.k {kvs:İ (Key×V)}{k:Key}{v:V}(e:H a=į (.dK kvs))(d:kvs.v<Ľ):n8 H a (kV k) v (upd H a<|.dK<|putK kvs k v):=.Â %[4,kvs,k,e,rb,d|rb]
def n8.t {k:İ Key}(e:H a=į (.dT kvs))(g:H b=į (.Ç<|k.L kV))(d:kvs.v<Ľ):n8 H a (.H b) v (upd H a<|.dT<|putK kvs k v):=.Ò %[15,kvs,k,b,e,rb,g,d|rb]
section
variable {X:Cx}{ao:AC}{T:St}{H:Hp}{s:ļ}{a:ĸ}{y v:V}{u r:Ĳ}{o:ĵ V}{A:ŉ}{E:AB}
def aL.big (I:aL X ao T H s):sysModules<s.n:=by let h:mainGlobals<s.n:=(I.mod.glob.keeps I.bk).lt;show my yk h
def U8 (J:A.ß+1<cLine)(I:aL X ao T H s)(g:jJ H a y (į v))(G:bH y u)(h:∀w' s',aL X ao T H s'->bH v w'->Q w' s'):ĺ (ľ X.Ñ X.w) A (getItem (.H a) u) Q E s:=by
 rcases g with⟨kvs,k,e,F,l⟩|⟨kvs,k,b,e,F,L,l⟩
 .subst F;let(z,hd,vs,d,B):=zY I.ð e;let(w',hw,q):=kI.some_of (v:=v) (o:=valueAt vs k) (by rw[l];show d.val k);show wpAny_getItem_of (wH G) B.mapOf hw<|h w' _ (I.tok _) q
 .subst F;cases(show u=Value.H b from G);let(z,hd,xs,d,B):=zZ I.ð e;let(w',hw,q):=kI.some_of (v:=v) (o:=(atKey xs k).L (·.2)) (by rw[l];show d.val k);let(p,hp,D):=g9.mp hw;calc wpAny_getItem_heap (tupleKind_room_in1 J) (vC I.ð L) B hp ?_;rw[D];show h w' _ (I.tok _) q
def aft (G:A.ß+1<cLine)(I:aL X ao T H s)(g:jJ H a y o)(F:bH y u)(h:∀s',aL X ao T H s'->Q (.Ă o.č) s'):ĺ (ľ X.Ñ X.w) A (compareOp .In u<|.H a) Q E s:=by
 rcases g with⟨kvs,k,e,D,l⟩|⟨kvs,k,b,e,D,J,l⟩
 .subst D;let(z,hd,vs,d,B):=zY I.ð e;calc wpAny_in_of (wH F) hd B.mapOf ?_;rw[<-(d.val k).qg,<-l];show h _<|I.tok _
 .subst D;cases(show u=Value.H b from F);let(z,hd,xs,d,B):=zZ I.ð e;calc wpAny_in_heap (tupleKind_room_in1 G) (vC I.ð J) hd B ?_;let q:=(d.val k).qg;rw[xf]at q;rw[<-q,<-l];show h _<|I.tok _
def aaI (G:A.ß+1<cLine)(I:aL X ao T H s)(g:jJ H a y o)(F:bH y u)(h:∀s',aL X ao T H s'->Q (.Ă<|!o.č) s'):ĺ (ľ X.Ñ X.w) A (compareOp .NotIn u<|.H a) Q E s:=by
 rcases g with⟨kvs,k,e,D,l⟩|⟨kvs,k,b,e,D,J,l⟩
 .subst D;let(z,hd,vs,d,B):=zY I.ð e;calc wpAny_notIn_of (wH F) hd B.mapOf ?_;rw[<-(d.val k).qg,<-l];show h _<|I.tok _
 .subst D;cases(show u=Value.H b from F);let(z,hd,xs,d,B):=zZ I.ð e;calc wpAny_notIn_heap (tupleKind_room_in1 G) (vC I.ð J) hd B ?_;let q:=(d.val k).qg;rw[xf]at q;rw[<-q,<-l];show h _<|I.tok _
def vD (I:aL X ao T H s)(B:Uj (H a))(hs:Heap.ă a s.C h')(g:∃q,h'.Á a=į q)(new:cQ X.Ñ X.w (upd H a ob) h' a ob):aL X ao T (upd H a ob) {s with heap:=h',toks:=t' }:=I.write (x:=a) (e:=a) B (.Â rb) (λb q d z=>(hs.2 b d).À z) g new
def Ke {h':Ň}{kvs:İ (Key×V)}(z:kvs.v<=Ľ)(hd:(a==sysModules)=Ķ)(d:KV kvs vs)(g:h'.DictOf (cG P w) a vs):cQ P w H' h' a (.dK kvs):=%[20,z,hd,vs,d|g]
def U9 (hu:A.ß+1<cLine)(I:aL X ao T H s)(g:n8 H a y v H')(M:bH y u)(Y:bH v r)(h:∀s',aL X ao T H' s'->Q () s'):ĺ (ľ X.Ñ X.w) A (setItem (.H a) u r) Q E s:=by
 rcases g with⟨kvs,k,e,L,l,G⟩|⟨kvs,k,b,e,L,O,l,G⟩
 .subst L G;let(z,hd,vs,d,J):=RL I.ð e;let hz:vs.v<=Ľ:=by rw[<-d.length];show z
  let F:(putK kvs k v).v<=Ľ:=by have:=mJ kvs k v;lia
  calc wpAny_setItem_pairs (hsz:=hz) (wH M) J λh' D hs=>h _ ?_;let Z:∃q,h'.Á a=į q:=let %[q,_,_,B|_]:=D;%[q|B]
  show vD I (by rw[e];show True.intro) hs Z<|Ke F hd (d.put k Y) D
 .subst L G;cases(show u=Value.H b from M);let(z,hd,xs,d,J):=aag I.ð e;let hz:xs.v<=Ľ:=by rw[<-Paired.v d];show z
  let F:(putK kvs k v).v<=Ľ:=by have:=mJ kvs k v;lia
  calc wpAny_setItem_heap (hsz:=hz) (tupleKind_room_in1 hu) (vC I.ð O) J λh' D hs=>h _ ?_;let(q,es,ep,B,h2,h3,h4,_,h5):=D;calc vD I (by rw[e];show True.intro) hs %[q|B] %[59,F,hd,_,(d.put k O Y).keeps λc ys N=>?_,q,es,ep,B,h2,h3,h4|h5];rw[aM (iH N e λz=>nomatch z)];show N
end
section
variable {X:Cx}{ao:AC}{T:St}{H:Hp}{s:ļ}{a:ĸ}{kvs:İ (Key×V)}{k:Key}{u:Ĳ}{A:ŉ}{E:AB}
def aep (I:aL X ao T H s)(e:H a=į (.dK kvs))(g:bH (kV k) u)(l:cF kvs k=į v)(hm:more=[]\/∃x,more=[x])(h:∀w' s',aL X ao T (upd H a<|.dK<|wF kvs k) s'->bH v w'->Q w' s'):ĺ (ľ X.Ñ X.w) A (call (.Ô "dict.pop")<|.H a::u::more) Q E s:=by
 let(z,hd,vs,d,B):=RL I.ð e;let(w',hw,G):=kI.some_of (v:=v) (o:=valueAt vs k) (by rw[<-l];show d.val k);let hp:(keyPart u).č=ĳ:=by
  cases k with
  | inl i=>let(t,q):=(show ∃t,u=Value.M i t from g);subst q;rfl
  | inr x=>let(t,q):=(show ∃t,u=Value.X x t from g);subst q;rfl
 let ha:argsOk "dict.pop" %[.H a::u::more|[]]:=by
  rcases hm with q|⟨x,q⟩;.subst q;show PySem.F.args_dict_pop_2 _ _
  .subst q;show PySem.F.args_dict_pop_3 _ _ _
 refine call_meetsIn PySem.F.slot_dict_pop B.Ċ PySem.F.entry_dict_pop ha (meets_dict_pop_there (cG X.Ñ X.w) a (wH g) more hm hp)
  %[4,vs,w',B,by rw[<-d.length];show z,hw|λh' D hs=>h w' _ ?_ G]
 let F:∃q,h'.Á a=į q:=let %[q,_,_,hq|_]:=D;%[q|hq]
 show vD I (by rw[e];show True.intro) hs F<|Ke (ap (X5 kvs k) z) hd (d.Í k) D
end
def X6 (i:ŋ):Prop:=∀g d,subscripted i Ķ g d=operate [g,d] (getItem g d)
def aaJ {T id:œ}(G:typeLookup (.Ä T) "__getitem__"=pure (į<|.Ô id))(hs:X6 slice)(h:wpAny (model prog w) A (eval value env) (λo B=>ĺ (ľ prog w) A (ŏ slice env) (λi g=>g.Ā o T/\ĺ (ľ prog w) A (getItem o i) Q E g) E B) E s):ĺ (ľ prog w) A (ŏ (.Ġ value slice pos) env) Q E s:=by
 calc ŧ<|gg h (λo B L=>gg L (λi g q=>?_) λ_ _ x=>x) λ_ _ x=>x;let(F,q):=q;unfold subscriptTail;calc aa ?_;rw[getitemInPython_of_ne F.not_modules];calc aa<|i7 F G ?_;let d:ĺ (ľ prog w) A (subscripted slice Ķ o i) (λr D=>ĺ (ľ prog w) A (letTemporaryGo value o r >>= λ_=>pure r) Q E D) E g:=by rw[hs o i];show wpAny_operating<|gg q (λr D J=>aa<|wpAny_letTemporaryGo<|ag J) λ_ _ x=>x
 first| show ag<|aa d| show aa<|ag<|aa d| show aa d
def Nv {X:Cx}{ao:AC}{T:St}{H:Hp}{s:ļ}{a:ĸ}{y:V}{o:ĵ V}(I:aL X ao T H s)(g:jJ H a y o):s.Ā (.H a) "dict":=by
 rcases g with⟨kvs,k,e,_,_⟩|⟨kvs,k,b,e,_,_,_⟩
 .let(_,_,vs,_,d):=zY I.ð e;show d.Ċ
 .let(_,_,xs,_,d):=zZ I.ð e;show d.Ċ
def aah (td ty:TE):TE:=λI H Q=>td I H λx H1=>ty I H1 λy H2=>∃a v,x=.H a/\jJ H2 a y (į v)/\Q v H2
def afu (ty td:TE):TE:=λI H Q=>ty I H λy H1=>td I H1 λx H2=>∃a o,x=.H a/\jJ H2 a y o/\Q (.bl o.č) H2
def aaK (ty td:TE):TE:=λI H Q=>ty I H λy H1=>td I H1 λx H2=>∃a o,x=.H a/\jJ H2 a y o/\Q (.bl<|!o.č) H2
def aer (td ty tv:TE):TS:=λD I H=>tv I H λv H1=>td I H1 λx H2=>ty I H2 λy g=>∃a d,x=.H a/\n8 g a y v d/\D.nx I d
section
variable {X:Cx}{o i value:ŋ}{pos pos':Pos}{td ty tv:TE}
def aaL (F:X.A.ß+1<cLine)(q:PE X o td)(hi:PE X i ty)(hs:X6 i):PE X (.Ġ o i pos) (aah td ty):=by intro ao s T H Q I h;calc aaJ PySem.F.slot_dict_getitem.Å hs<|bD (q ao s T H _ I h) λu s1 d=>?_;let(x,H1,I1,G,q1):=d;calc bD (hi ao s1 T H1 _ I1 q1) λM s2 d=>?_;let(y,H2,I2,B,a,v,ex,g,q2):=d;subst ex;obtain rfl:u=Value.H a:=G;show%[Nv I2 g|U8 F I2 g B λw' L J D=>%[1,v,H2,J,D|q2]]
def Kf (D:X.A.ß+1<cLine)(hi:QE X i ty)(d:QE X o td):QC X .In i o (afu ty td):=⟨by
 intro ao s T H Q I h;calc bD (hi.Ý ao s T H _ I h) λL s1 ⟨y,H1,I1,B,q1⟩=>bD (d.Ý ao s1 T H1 _ I1 q1) λu s2 ⟨x,H2,I2,F,a,q,ex,g,q2⟩=>?_;subst ex;obtain rfl:u=Value.H a:=F;show aft D I2 g B λJ G=>%[1,.bl q.č,H2,G,rb|q2]⟩
def G8 (D:X.A.ß+1<cLine)(hi:QE X i ty)(d:QE X o td):QC X .NotIn i o (aaK ty td):=⟨by
 intro ao s T H Q I h;calc bD (hi.Ý ao s T H _ I h) λL s1 ⟨y,H1,I1,B,q1⟩=>bD (d.Ý ao s1 T H1 _ I1 q1) λu s2 ⟨x,H2,I2,F,a,q,ex,g,q2⟩=>?_;subst ex;obtain rfl:u=Value.H a:=F;show aaI D I2 g B λJ G=>%[1,.bl<|!q.č,H2,G,rb|q2]⟩
def pD (B:X.A.ß+1<cLine)(d:QE X o td)(hi:QE X i ty)(hv:QE X value tv)(hs:swapsWith value (į<|.Ġ o i pos') pos.line X.Ê=pure Ķ):QS X (.Assign [.Ġ o i pos'] value pos) (aer td ty tv):=⟨by
 intro ao s T H D I h;calc wpAny_Assign_Subscript (bD (hv.Ý ao s T H _ I h) λr s1 ⟨v,H1,I1,G,q1⟩=>bD (d.Ý ao s1 T H1 _ I1 q1) λu s2 ⟨x,H2,I2,F,q2⟩=>bD (hi.Ý ao s2 T H2 _ I2 q2) λY N ⟨y,O,L,q,a,M,ex,g,q3⟩=>?_) hs;subst ex;obtain rfl:u=Value.H a:=F;show U9 B L g q G λZ J=>%[3,T,M,J|q3]⟩
end
def X7 (h:Ň)(d:sysModules<h.Q.E):cQ P w H (h.Ï {cls:=.Ä "dict",data:=.dict #[]}) h.Q.E (.dK []):=%[20,bE _,beq_eq_false_iff_ne.Ù<|ib<|bb d,[],.ê|Heap.DictOf.new h]
def Kg (h:Ň)(d:sysModules<h.Q.E):cQ P w H (h.Ï {cls:=.Ä "dict",data:=.dict #[]}) h.Q.E (.dT []):=%[59,bE _,beq_eq_false_iff_ne.Ù<|ib<|bb d,[],.ê,_,#[],0,aI _ rb,%[rb,rb|rb],rb,rb|qk]
def acN:TE:=λ_ H Q=>∀p,H p=Ĵ->Q (.H p) (upd H p<|.dK [])
def U_:TE:=λ_ H Q=>∀p,H p=Ĵ->Q (.H p) (upd H p<|.dT [])
section
variable {X:Cx}{pos:Pos}
def Bv  : QE X (.Dict [] [] pos) acN:=⟨λao s T H Q I h=>wpAny_Dict_empty %[1,.H s.n,_,I.ģ (a:=s.heap.objs.size) (o:=.dK []) (t':=s.toks) (λ_ _ q=>af _ q) (ai _)<|X7 s.C I.big,rb|h _<|I.ð.à<|ai _]⟩
def X8:PE X (.Dict [] [] pos) U_:=λao s T H Q I h=>wpAny_Dict_empty %[1,.H s.n,_,I.ģ (a:=s.heap.objs.size) (o:=.dT []) (t':=s.toks) (λ_ _ q=>af _ q) (ai _)<|Kg s.C I.big,rb|h _<|I.ð.à<|ai _]
end
structure M1 (X:Cx)(o:ŋ)(m:ņ)(apos:Pos)(e:ŋ)(cpos:Pos):Prop where
 base:attributeBase o m X.Ê (ŏ o X.Ê)=ŏ o X.Ê
 few:((backTo cpos<|starEach [e] X.Ê).ĝ (λx=>!x.1)&&(backToKw cpos<|keywordEach [] X.Ê).ĝ (λx=>x.1.č)
  && Ļ (([e]:İ ŋ).v+([]:İ ŕ).v+(if ([]:İ ŕ).ę then 0 else 1)<30))=ĳ
 line:(apos.endLine==cpos.line)=ĳ
 trees:backTo cpos (Ņ [e] X.Ê)=[(Ķ,ŏ e X.Ê)]
structure M2 (X:Cx)(o:ŋ)(m:ņ)(apos:Pos)(e f:ŋ)(cpos:Pos):Prop where
 base:attributeBase o m X.Ê (ŏ o X.Ê)=ŏ o X.Ê
 few:((backTo cpos<|starEach [e,f] X.Ê).ĝ (λx=>!x.1)&&(backToKw cpos<|keywordEach [] X.Ê).ĝ (λx=>x.1.č)
  && Ļ (([e,f]:İ ŋ).v+([]:İ ŕ).v+(if ([]:İ ŕ).ę then 0 else 1)<30))=ĳ
 line:(apos.endLine==cpos.line)=ĳ
 trees:backTo cpos (Ņ [e,f] X.Ê)=[(Ķ,ŏ e X.Ê),(Ķ,ŏ f X.Ê)]
def IsD (H:Hp)(a:ĸ):Prop:=(∃kvs,Rd H a (.dK kvs))\/∃kvs,Rd H a (.dT kvs)
def Va {X:Cx}{ao:AC}{T:St}{H:Hp}{s:ļ}{a:ĸ}(I:aL X ao T H s)(d:IsD H a):s.Ā (.H a) "dict"/\(∀b,Value.H a=.H b->∃ob,s.C.Á b=į ob/\ob.dict=Ĵ)/\(a==sysModules)=Ķ:=by
 rcases d with⟨kvs,e⟩|⟨kvs,e⟩
 .let(_,hd,vs,_,g):=zY I.ð e;calc%[g.Ċ,λb q=>?_|hd];cases q;let(ob,_,_,h1,B,_):=g;show%[0,ob,h1|B.2.1]
 .let(_,hd,xs,_,g):=zZ I.ð e;calc%[g.Ċ,λb q=>?_|hd];cases q;let(ob,_,_,h1,B,_):=g;show%[0,ob,h1|B.2.1]
def acO (td ty:TE):TE:=λI H Q=>td I H λx H1=>∃a,x=.H a/\IsD H1 a/\ty I H1 λy H2=>∃kvs k v,H2 a=į (.dK kvs)/\y=kV k/\cF kvs k=į v/\Q v (upd H2 a<|.dK<|wF kvs k)
section
variable {X:Cx}{o e:ŋ}{apos cpos:Pos}{td ty:TE}
def X_ (B:QE X o td)(g:QE X e ty)(m:M1 X o "pop" apos e cpos):QE X (.ġ (.Ą o "pop" apos) [e] [] cpos) (acO td ty):=⟨by
 intro ao s T H Q I h;calc wpAny_Call_method m.ö m.few m.line sP PySem.F.slot_dict_pop PySem.F.type_dict_pop<|bD (B.Ý ao s T H _ I h) λu s1 ⟨x,H1,I1,J,a,ex,d,q1⟩=>?_;subst ex;obtain rfl:u=Value.H a:=J;let(q,L,_):=Va I1 d;calc%[q,L|?_];rw[m.trees];calc iX rb<|nN<|fT<|bD (g.Ý ao s1 T H1 _ I1 q1) λY s2 ⟨y,H2,I2,F,kvs,k,v,D,M,l,q2⟩=>lL ?_;subst M;show aep I2 D F l (.Â rb) λw' O N G=>%[1,v,_,N,G|q2]⟩
end
end L2
namespace Att
open PySem PySem.W PySem.Calls PyProof.Rows
def C_:∀(ns:İ Ŀ) (vs:İ Ĳ),WellAll P h vs (ns.L WData.M)->ŭ vs ns:=by
 intro ns
 induction ns with
 | nil=>intro vs w;rw[kD]at w;cases w;show .ê
 | cons n ns ih=>
  intro vs w;rw[bS]at w;cases w with| cons a b=>cases a;show .á _ _<|ih _ b
def Vb {l:OpenLaw}(hn:l.most=į n)(g:l.row.toRowW.claim.pre args=ĳ)(G:WellAll P h vals args):∃a vs ns,vals=[Value.H a]/\args=[WData.ğ (ns.L WData.M)]/\h.Á a=į {cls:=.Ä "list",data:=.î vs.R}/\ŭ vs ns/\ns.v<=n:=by
 let F:WShape.hasAll [] args [.ğ .M]=ĳ:=(pre_splitW g).1;let J:l.pre.holds [] {args:=args}=ĳ:=(pre_splitW g).2;let(d,r,rfl,h1,N):=hasAllW_cons F;obtain rfl:=hasAllW_nil N;let(xs,rfl,M):=hasW_list h1;let(ns,rfl):=items_int M;let L:ns.v<=n:=by
  unfold OpenLaw.pre at J;let B:(WTm.not<|.lt (.lit<|.M (n:Ŀ))<|.ď<|.arg 0).holds [] {args:=[.ğ (ns.L .M)]}=ĳ:=by let B:=(holds_andW J).1;rw[hn]at B;show B
  let D:=condW_of B<|w_not<|w_lt w_lit<|w_len_list<|w_arg rb;rw[ab]at D;calc Nat.le_of_not_lt λq=>?_;let q':(n:Ŀ)<((ns.v:ı):Ŀ):=ii fv q
  first| (rw[aS q']at D;show ŀ D yk)| (simp at D;lia)
 cases G with
 | cons w1 w2=>
  cases w2;cases w1 with| list ho hall=>show%[15,_,_,ns,rb,rb,ho,C_ ns _ hall|L]
def Vc (l:OpenLaw)(args:İ WData):l.row.toRowW.claim.post args (.Ă ĳ) args=ĳ:=postW_of (r:=l.row.toRowW) (X:=(ĳ==ĳ))
  (show WShape.has [] (.Ă ĳ) .Ă=ĳ by first|rfl|decide|simp[WShape.has,WShape.arms,WShape.armsAll])
  (show (WTm.eq .res<|.lit<|.Ă ĳ).value [] {args:=args,res:=į<|.Ă ĳ,after:=args}=į (.Ă<|ĳ==ĳ) from w_eq_bool (w_res rb) w_lit) rfl
def Nx {l:OpenLaw}{d:DefRec}(hn:l.most=į n)(M:d.ã.defaults=[])(call:∀(w:ň) (s₀ g:ļ) (mg mb:ņ->ĵ Ĳ) (D:ĸ) (o:Obj) (pm L doc:Ĳ) (a:ĸ) (vs:İ Ĳ) (ns:İ Ŀ),
   Ground q loose [] XP w s₀ mg mb g.C->YP w g.C->
   g.C.Á D=į o->o.Ĉ=.func (docDef d.name d.ã d.body d.ċ pm L doc)->g.C.CodeRec L d.name->mg d.name=į (.H D)->
   g.C.Á a=į {cls:=.Ä "list",data:=.î vs.R}->ŭ vs ns->ns.v<=n->g.gens=#[]->
   codeAny (ľ l.Ñ w) callerA (.call (.H D) %[[.H a]|[]]) (λr s'=>r=.ok (.ret<|.Ă ĳ)/\OldK g.C s'.C/\s'.os=g.os/\ŝ s'.gens) g) :
  WalkO q loose XP YP l.row.toRowW d [] (λf vs=>PySem.call f vs):=by
 intro w s₀ g mg mb G Y D o pm L doc dV kV ho hd O hD Z hg args vals as J hlay hrd N hlo;obtain rfl:dV=.Û:=Dflts.Û hD M;obtain rfl:kV=.Û:=Dflts.noKw hD;let(a,vs,ns,rfl,rfl,F,B,bV):=Vb hn J N;calc enter_call<|kc (call w s₀ g mg mb D o pm L doc a vs ns G Y ho (fd_plain hd) O Z F B bV hg) λr s' hq=>?_;let(rfl,h2,h3,h4):=hq;show%[.Â %[15,.Ă ĳ,.Ă ĳ,[],rb,λ_=>rfl,.Ă ĳ,Vc l _|λ_=>%[List.Ã.ê|λ_ hm=>(nomatch hm)]],h2,h3|h4]
end Att
namespace L2
open PySem PySem.Spec PyProof.Rows
def Vd:∀{vs:İ Ĳ} {ns:İ Ŀ},ŭ vs ns->Vals (ns.L V.M) vs:=by
 intro _ _ h
 induction h with| nil=>show .ê| cons n t h ih=>show .á %[t|rb] ih
def Only (H:Hp):Prop:=∀b,H b=Ĵ\/∃o xs,H b=į (.iu o<|.Æ xs)
def Yb {K:W.Ì}{g:ļ}{vs:İ Ĳ}(KX:K.In g.C)(L:g.C.Ns mainGlobals mg)(B:g.C.Ns builtinsNs mb)(hbb:∀x:ņ,x≠"__name__"->mb x=bootBuiltins x)(O:g.C.NoLimit)(hg:g.gens=#[])(ha:g.C.Á a=į {cls:=.Ä "list",data:=.î vs.R})(hi:ŭ vs ns)(hl:ns.v<=Ľ)(hr:eE k callerA)(F:∀base:Ň,K.In base->base.Ns mainGlobals mg->jY P w K mg base CX k fa fd [x] sp)(J:∀(s:ļ) (u:Ĳ),Š s fd %[[u]|[]] [(x,u)])(Z:∀H:Hp,Only H->aP K H a (ns.L V.M)->sp [.H a] H (λv _=>v=.bl ĳ) λ_ _ _=>ŗ)(hCX:∀H e s',CX [] H g (λ_ _ _=>ŗ) e s'->ŗ):codeAny (ľ P w) callerA (.call (.H fa) %[[.H a]|[]]) (λr s'=>r=.ok (.ret<|.Ă ĳ)/\OldK g.C s'.C/\s'.os=g.os/\ŝ s'.gens) g:=by
 let rv:=Vd hi;let N:=hi.v;let G:∀H:Hp,Only H->aP K H a (ns.L V.M)->iw P w H g.C->(∀b,H b≠Ĵ->b=a)->(H a≠Ĵ->K.Å a=Ĵ)->
   codeAny (ľ P w) callerA (.call (.H fa) %[[.H a]|[]]) (λr s'=>r=.ok (.ret<|.Ă ĳ)/\OldK g.C s'.C/\s'.os=g.os/\ŝ s'.gens) g:=by
  intro H hO hS hok hA hK;let O9:∀{b:ĸ} {o:Obj},g.C.Á b=į o->H b=Ĵ->(wk g.C H).Á b=į o:=λe n=>Xz e n;let U0:∀{b:ĸ} {o:Obj} {es:ł Ű} {ep:ı},g.C.Á b=į o->o.Ĉ=.dict es ep->H b=Ĵ:=λ{b o es ep} e d=>by
   cases q:H b with| none=>rfl| some u=>have e':b=a:=hA b (by rw[q];simp);subst e';rw[ha]at e;cases e;let d':Data.î vs.R _=Data.dict es ep:=d;cases d'
  let D:∀{b:ĸ} {m:ņ->ĵ Ĳ},g.C.Ns b m->(wk g.C H).Ns b m:=λ{b m} ⟨o,es,ep,e,d,r⟩=>%[21,o,es,ep,O9 e<|U0 e d,d|r]
  let M:K.In (wk g.C H):=λb o e=>O9 (KX b o e) (by
   cases q:H b with
   | none=>rfl
   | some u=>have e':b=a:=hA b (by rw[q];simp);subst e';rw[hK (by rw[q];simp)]at e;cases e)
  let hM:Mod K mg (wk g.C H):=%[M,D L,%[0,mb,D B|hbb]|let %[mc,h1|h2]:=O;%[0,mc,D h1|h2]]
  let e0:yG P w K mg (wk g.C H) callerA [] g H:=%[rb,hM,λb o e=>aaB e,fq<|Uk _ _,trivial,λb B=>ŀ (show b∈([]:İ ĸ) from B) yi,hok|.of_eq hg]
  calc kc ((F _ M<|D L).run callerA [] g H %[[.H a]|[]] [.H a] [.H a] _ _ hr e0 (J g<|.H a) (.á rb .ê)<|Z H hO hS) λr s' h=>?_;cases r with
  | error e=>show(hCX H e s' h).ó
  | ok fl=>
   cases fl with
   | next=>show False.ó h
   | brk=>show False.ó h
   | cont=>show False.ó h
   | ret u=>
    let(v,H',os,bare,un,Y,r',q):=h;let q':v=.bl ĳ:=q;subst q';obtain rfl:u=Value.Ă ĳ:=r';calc%[rb,OldK.of_keep λb o e=>?_,os|bare];cases q:H b with
    | none=>show un.keep b o e q (by intro z;show ŀ (show b∈([]:İ ĸ) from z) yi) yi
    | some u=>
     rcases hO b with z|⟨ob,xs,z⟩;.rw[q]at z;cases z
     .let z2:=un.uU b ob _ z;let(e1,_):=hok b _ z;let(e2,_):=Y b _ z2;rw[e]at e1;cases e1;show e2
 cases hk:K.Å a with
 | some o=>have e:=KX a o hk;rw[ha]at e;cases e;refine G (λ_=>Ĵ) (λ_=>.Â rb) (.Ò %[35,_,vs.R,_,hk,rb,rb,rb,by rw[bu,N];show hl|by simpa using rv]) (λb u z=>by let z':(Ĵ:ĵ HO)=į u:=z;cases z') (λb z=>ŀ rb z) λz=>ŀ rb z
 | none=>
  refine G (λb=>if b=a then į (.iu {cls:=.Ä "list",data:=.î vs.R}<|.Æ<|ns.L V.M) else none) (λb=>?_) (.Â<|.Ò %[{cls:=.Ä "list",data:=.î vs.R}|if_pos rb]) (λb u z=>?_) (λb z=>?_) λ_=>hk
  .by_cases B:b=a;.show .Ò %[10,_,_|Ĺ B]
   .show .Â<|ķ B
  .by_cases B:b=a
   .let z':=(Ĺ B).Ð.À z;cases z';subst B;show%[ha|%[19,by rw[ab];show hl,vs,_,rv|ha]]
   .let z':=(ķ B).Ð.À z;cases z'
  .by_cases B:b=a;.show B
   .show ŀ (ķ B) z
abbrev KOf {K:W.Ì}{h:Ň}(_:K.In h):W.Ì:=K
def aaM {l:W.OpenLaw}{n k:ı}{g:İ ņ}{XP:(ņ->ĵ Ĳ)->Ň->Prop}{YP:ň->Ň->Prop}{d:DefRec}{K:Params->W.Ì}{CX:ň->yF}{sp:ň->Sp}{x:ņ}(hn:l.most=į n)(O:n<=Ľ)(L:d.ã.defaults=[])(hr:eE k callerA)(hY:∀(w:ň) (h:Ň),YP w h->(K w.ã).In h)(F:∀(w:ň) (mg:ņ->ĵ Ĳ) (J:ĸ) (h:Ň),(K w.ã).In h->h.Ns mainGlobals mg->mg d.name=į (.H J)->
   ∃fd:FuncData,(∀(s:ļ) (u:Ĳ),Š s fd %[[u]|[]] [(x,u)])/\
    ∀base:Ň,(K w.ã).In base->base.Ns mainGlobals mg->jY l.Ñ w (K w.ã) mg base (CX w) k J fd [x] (sp w))
  (M:∀(w:ň) (H:Hp) (a:ĸ) (ns:İ Ŀ),ns.v<=n->Only H->aP (K w.ã) H a (ns.L V.M)->sp w [.H a] H (λv _=>v=.bl ĳ) λ_ _ _=>ŗ)
  (N:∀(w:ň) (H:Hp) (s:ļ) (e:Ĳ) (s':ļ),CX w [] H s (λ_ _ _=>ŗ) e s'->ŗ) :
  W.WalkO q g XP YP l.row.toRowW d [] (λf vs=>PySem.call f vs):=by
 calc Att.Nx hn L λw s₀ s₁ mg mb J o pm cd doc a vs ns G Y ho hd hcd Z D B bV hg=>?_;let KX:=hY w _ Y;let(fd,hb,hF):=F w mg J _ KX G.T.g Z;show Yb KX G.T.g G.T.b G.T.builtins G.T.nolimit hg D B (ap bV O) hr hF hb (λH hO hS=>M w H a ns bV hO hS) λH e s'=>N w H s₁ e s'
def inClass (s:Ŋ)(j:ı):Ŋ:=match s with| .ClassDef _ _ _ body _ _ _ _ _ _ _=>body.Î j (.Pass %[(0),(0),(0)|0])| _=>.Pass %[(0),(0),(0)|0]
def gZ (s:Ŋ):Arguments:=match s with| .FunctionDef _ a _ _ _ _ _ _ _ _=>a| _=>{posonlyargs:=[],args:=[],vararg:=Ĵ,kwonlyargs:=[],kw_defaults:=[],kwarg:=Ĵ,defaults:=[]}
def eV (s:Ŋ):İ Ŋ:=match s with| .FunctionDef _ _ b _ _ _ _ _ _ _=>b| _=>[]
def aJ (s:Ŋ):Ŕ:=match s with| .FunctionDef _ _ _ _ _ _ sc _ _ _=>sc| _=>{kind:=.function,names:=[],isGenerator:=Ķ,isCoroutine:=Ķ}
abbrev ug:yF:=λ_ _ _ _ _ _=>ŗ
abbrev E0:XK:=λ_ _ _=>ŗ
def fB:Passes ug X E0:=λ_ _ _ _ _ _ _ h=>h.ó
structure vG (K:W.Ì)(x qual:ņ)(st:Ŋ)(f:ĸ)(fd:Ş):Prop where
 ex:∃(oc:Value) (od:ĵ ĸ) (kV doc pm:Value) (an:ĵ ĸ) (bA ct:Value) (osl:ł (ĵ Ĳ)),
  fd=W.fnOf x qual (gZ st) (eV st) (aJ st) .Û kV doc pm an bA ct/\K.Å f=į %[oc,od,.func fd|osl]/\W.codeIn K bA qual=ĳ
 kp:W.ĩ K (.H f)=ĳ
section
variable {P:ń}{w:ň}{K:W.Ì}{mg:ņ->ĵ Ĳ}{base:Ň}
def vG.ok {x qual:ņ}{st:Ŋ}{N ps:İ ņ}{k:ı}{sp:Sp}(F:vG K x qual st f fd)(S:aV N ps (aJ st))(len:∀vs H Q E,sp vs H Q E->vs.v=ps.v)(d:∀(bA:Ĳ) (A:ŉ) (outer:İ Env) (s:ļ) (H:Hp) (vs:İ V) (Q:VK) (E:XK),eE k (A.deeper<|envOfC qual (aJ st) s.n f bA)->sp vs H Q E->
   ∃t,GK (rZ ug P w K mg base N qual (aJ st) f bA A outer s H E).GX (eV st) t/\t {nx:=λ_ H'=>Q .đ H',rt:=Q} (start N vs) H):jY P w K mg base ug (k+1) f fd ps sp:=by
 let(oc,od,kV,doc,pm,an,bA,ct,osl,rfl,D,B):=F.ex;calc aen D B S len λA outer s H vs Q E hr g=>?_;let(t,h,q):=d bA A outer s H vs Q E hr g;show%[0,t,h.GX|q]
def vG.binds {x qual:ņ}{st:Ŋ}{ps:İ ņ}(F:vG K x qual st f fd)(h:∀(kV doc pm:Ĳ) (an:ĵ ĸ) (bA ct:Ĳ) (us:İ Ĳ),us.v=ps.v->bindArgs (W.fnOf x qual (gZ st) (eV st) (aJ st) .Û kV doc pm an bA ct) %[us|[]]=pure (ps.zip us)):j6 K fd ps []:=by let(oc,od,kV,doc,pm,an,bA,ct,osl,rfl,g,d):=F.ex;show .ĝ<|h kV doc pm an bA ct
def yL {x qual:ņ}{st:Ŋ}{f:ĸ}{oc:Ĳ}{od an:ĵ ĸ}{osl:ł (ĵ Ĳ)}{kV doc pm bA ct:Ĳ}(l:K.Å f=į %[oc,od,.func<|W.fnOf x qual (gZ st) (eV st) (aJ st) .Û kV doc pm an bA ct|osl])(c:W.codeIn K bA qual=ĳ)(k:W.ĩ K (.H f)=ĳ):vG K x qual st f (W.fnOf x qual (gZ st) (eV st) (aJ st) .Û kV doc pm an bA ct):=%[%[10,oc,od|%[32,kV,doc,pm,an,bA,ct,osl,rb,l|c]]|k]
end
def mX (hr:eE k A):A.ß+1<cLine:=fw (kz (by decide:1<=64) _) hr.ß
def aH (h:n<=1000):n<Ľ:=fw h yk
section
variable {X:Cx}
def pv (i:ı){x:ņ}{pos:Pos}(N:Ŷ (X.N[i]?=į x) ŷ)(hv:Ŷ (Ul X.Ê.ċ x) ž)(hd:Ŷ ((x==("__debug__":ņ))=Ķ) Ÿ)(d:Ŷ ((x==("__classdict__":ņ))=Ķ) Ÿ):PE X (.è x pos) (cT i):=acj N hv hd d
end
def bZ {A B:Prop}(h:B):if Ķ=ĳ then A else B:=by rw[ķ b8];show h
def cu {A B:Prop}(h:A):if ĳ=ĳ then A else B:=by rw[Ĺ rfl];show h
def jr {c A B:Prop} [ť c] (h1:c->A)(d:¬c->B):if c then A else B:=by
 by_cases h:c
 .rw[Ĺ h];show h1 h
 .rw[ķ h];show d h
def RM {c A B:Prop} [ť c] (d:c)(h:B):if (!Ļ c)=ĳ then A else B:=by rw[aS d];show bZ h
def aB (H H':Hp):Prop:=∀b o,H b=į o->H' b=į o
def aB.refl (H):aB H H:=λ_ _ h=>h
def aB.trans (a:aB H H1)(b:aB H1 H2):aB H H2:=λc o h=>b c o (a c o h)
def aB.free (e:aB H H')(h:H' l=Option.Û):H l=Option.Û:=by
 cases q:H l with| none=>rfl| some o=>rw[e l o q]at h;cases h
def aB.seq {K:W.Ì}{xs:İ V}(e:aB H H')(h:aP K H a xs):aP K H' a xs:=by
 rcases h with(h|⟨o,h⟩)|h;.show .Â<|.Â<|e _ _ h
 .show .Â<|.Ò %[o|e _ _ h]
 .show .Ò h
section
variable {I:Type}[Ŏ I]
def z9:∀{l:İ I} {k:I},l.Ö->¬k∈l->(l++[k]).Ö:=by intro l k h hk;show lS.Ù %[h,yi|λa ha b d e=>hk (by rw[<-am.mp d,<-e];show ha)]
end
def blk (X:Cx)(scope:Ŕ)(cl:İ (ņ×ĸ))(C:ĸ)(x:ņ)(s₀:ļ)(H₀:Hp)(fp:İ ĸ):Cx:={X with N:=x::X.N,s₀:=s₀,H₀:=H₀,env:=compEnvC scope cl C X.Ê,outer:=X.stack,ex:=fp,fn:=λ_=>Ķ,pn:=[],xe:=λ_ _=>ŗ}
structure fY (X:Cx)(scope:Ŕ)(x:ņ):Prop where
 kind:scope.þ=.function
 Dc:∀y∈scope.Þ,y.2≠.ù
 names:∀y∈scope.Þ,y.2=.ā->scope.Þ.Å y.1=į .ā
 hx:scope.Þ.Å x=į .ā
 free:∀y∈scope.Þ,y.2=.Ó->X.Ê.Į y.1=į .ù\/X.Ê.Į y.1=į .Ó
 out:∀y∈X.N,scope.Þ.Å y≠į .ā
 nd:X.N.Ö
def O_ (sc:Ŕ)(N:İ ņ)(scope:Ŕ)(x:ņ):ō:=scope.þ == .function&&scope.Þ.ĝ (λy=>y.2 != .ù)&&scope.Þ.ĝ (λy=>y.2 != .ā||scope.Þ.Å y.1==į .ā)&&scope.Þ.Å x==į .ā &&
 scope.Þ.ĝ (λy=>y.2 != .Ó||sc.Þ.Å y.1==į .ù||sc.Þ.Å y.1==some .Ó)&&N.ĝ (λy=>scope.Þ.Å y != į .ā)
def fY.of {X:Cx}(N:X.N.Ö)(h:O_ X.Ê.ċ X.N scope x=ĳ):fY X scope x:=by
 unfold O_ at h;simp only[dP,iE,Bool.or_eq_true,bne_iff_ne,beq_iff_eq,ne_eq]at h;let(((((h1,D),F),q),g),B):=h;calc%[h1,λy d=>D y d,λy d e=>(F y d).resolve_left λz=>z e,q,λy d e=>?_,λy d=>B y d|N];rcases g y d with(z|z)|z;.show ŀ e z
 .show .Â z
 .show .Ò z
theorem jc {I:Type}:∀{l:İ (ņ×I)} {x:ņ} {a:I},l.Å x=į a->(x,a)∈l
 | [],_,_,h=>by simp at h
 | (y,b)::r,x,a,h=>by
  rw[kG]at h;split at h
  .rename_i e;let e':x=y:=by simpa using e
   cases h;subst e';show a4
  .show av _<|jc h
theorem wI {env:Env}:∀(names:İ (ņ×ř)),(∀y∈names,y.2=.Ó->∃c,env.cells.Å y.1=į c)->∀d:İ (ņ×ĸ),(∀n c,d.Å n=į c->env.cells.Å n=į c)->
  ∃cl,(ű names d (λ(p:ņ×ř) (G:İ (ņ×ĸ))=>if (p.2==NameKind.Ó)=ĳ then (do let a <- cellOf env p.1;pure (ForInStep.yield<|(p.1,a)::G)) else (pure (ForInStep.yield G):Sem _)):Sem (İ<|ņ×ĸ))=pure cl/\
   (∀n c,cl.Å n=į c->env.cells.Å n=į c)/\(∀n,(∃c,d.Å n=į c)->∃c,cl.Å n=į c)/\∀n,(n,NameKind.Ó)∈names->∃c,cl.Å n=į c
 | [],_,d,ha=>%[7,d,yi,ha,λ_ h=>h|λ_ h=>by simp at h]
 | (n,k)::r,hf,d,ha=>by
  let hr:∀y∈r,y.2=.Ó->∃c,env.cells.Å y.1=į c:=λy J=>hf y<|av _ J;by_cases hk:k=.Ó
  .subst hk;let(c,F):=hf (n,.Ó) a4 rfl;let(cl,e,h1,g,D):=wI r hr ((n,c)::d) (λn' c' h=>by
    rw[kG]at h;split at h
    .rename_i q;let q':n'=n:=by simpa using q
     cases h;subst q';show F
    .show ha n' c' h)
   refine%[7,cl,?_,h1,λn' h=>g n' ?_|λn' h=>?_]
   .rw[ku];simp only[beq_self_eq_true,if_true];let M:cellOf env n=pure c:=by unfold cellOf;rw[F]
    rw[M];simp only[pure_bind];show e
   .let(c',B):=h;rw[kG];split;.show%[c|rb]
    .show%[c'|B]
   .rcases a8.mp h with q|q
    .calc g n' %[c|?_];cases q;rw[kG,beq_self_eq_true]
    .show D n' q
  .let L:(k==NameKind.Ó)=Ķ:=by simpa using hk
   let(cl,e,h1,g,D):=wI r hr d ha;refine%[7,cl,?_,h1,g|λn' h=>?_]
   .rw[ku];simp only[L,bq,if_false,pure_bind];show e
   .rcases a8.mp h with q|q;.cases q;show ŀ rb hk
    .show D n' q
theorem g_ {env:Env}:∀{names:İ (ņ×ř)} {x:ņ} {k:ř},
  (names.L λ(n,k)=>if (k==NameKind.Ó&&env.ċ.þ == .function&&env.Į n==į .ù) then (n,NameKind.ù) else (n,k)).Å x=į k->names.Å x=į k\/(k=.ù/\names.Å x=į .Ó)
 | [],_,_,h=>by simp at h
 | (n,j)::r,x,k,h=>by
  let g:=@g_ env r x k;let h':List.Å x ((if (j==NameKind.Ó&&env.ċ.þ == .function&&env.Į n==į .ù)=ĳ then (n,NameKind.ù) else (n,j))::_)=į k:=h;by_cases d:(j==NameKind.Ó&&env.ċ.þ == .function&&env.Į n==į .ù)=ĳ
  .rw[Ĺ d]at h';cases hx:x==n with
   | true=>
    simp only[kG,hx]at h' ⊢;cases h';have:j=.Ó:=by simp at d;show d.1.1
    show .Ò %[rb|by rw[this]]
   | false=>simp only[kG,hx]at h' ⊢;show g h'
  .rw[ķ d]at h';cases hx:x==n with| true=>simp only[kG,hx]at h' ⊢;show .Â h'| false=>simp only[kG,hx]at h' ⊢;show g h'
def RN (I:ı->ļ->Prop)(turn:∀n s,I n s->ĺ (ľ prog w) A (pyNext it) (λr d=>match r with
   | none=>R (.ok .next) d
   | some v=>ĺ (ľ prog w) A (letOwnedTupleGo target it v) (λ_ s₀=>ĺ (ľ prog w) A (assign target env v) (λ_ D=>
     ĺ (ľ prog w) A (ű ifs ĳ λc r=>if r=ĳ then do let ok <- isTrue c env (ŏ c env);pure (ForInStep.yield ok) else pure (ForInStep.yield r)) (λok g=>
      if ok=ĳ then ĺ (ľ prog w) A (ŏ elt env) (λx G=>ĺ (ľ prog w) A (call (.Ô "list.append") [acc,x]) (λ_ B=>∃m,m<n/\I m B) (λ_ _=>ŗ) G) (λ_ _=>ŗ) g
      else ∃m,m<n/\I m g) (λ_ _=>ŗ) D) (λ_ _=>ŗ) s₀) (λ_ _=>ŗ) d) (λ_ _=>ŗ) s)
  (n) (h:I n s) :
  codeAny (ľ prog w) A (.compLoop (.ListComp elt [%[target,iter,ifs|0]] scope pos) 0 it acc env) R s:=by
 calc codeAny_loop rb I (λn s M=>?_) n h;show ĺ _ A ((compTurn (.ListComp elt [%[target,iter,ifs|0]] scope pos) 0 it acc env).onRaise λx=>do noteFrame x env;theTreesLotGoes x) _ _ s;calc wpAny_noted ?_;rw[compTurn_list];calc aa<|rh<|aa<|gg (turn n s M) (λr d q=>?_) λ_ _ h'=>h'.ó;cases r with
 | none=>show ag q
 | some v=>
  calc aa<|gg q (λ_ s₀ h₀=>?_) λ_ _ h'=>h'.ó;calc aa<|gg h₀ (λ_ D L=>aa<|gg L (λok g F=>?_) λ_ _ h'=>h'.ó) λ_ _ h'=>h'.ó;cases ok with| false=>show ag %[rb|F]| true=>show aa<|aa<|gg F (λx G J=>aa<|gg J (λ_ B N=>ag<|ag %[rb|N]) λ_ _ h'=>h'.ó) λ_ _ h'=>h'.ó
def PTs (X:Cx)(ifs:İ ŋ)(t:TT):Prop:=∀(ao:AC) (s:ļ) (I:St) (H:Hp) (Q:ō->Hp->Prop),aL X ao I H s->t I H Q->
  ĺ (ľ X.Ñ X.w) X.A (ű ifs ĳ λc r=>if r=ĳ then do let ok <- isTrue c X.Ê (ŏ c X.Ê);pure (ForInStep.yield ok) else pure (ForInStep.yield r)) (TP X ao I Q) X.xe s
structure Ve (X:Cx)(ifs:İ ŋ)(t:TT):Prop where
 out:PTs X ifs t
def jt:TT:=λ_ H Q=>Q ĳ H
def dD  : Ve X [] jt:=⟨λ_ _ _ H _ I h=>wpAny_tests_nil %[0,H,I|h]⟩
def vH (h:QT X c t):Ve X [c] t:=⟨λao s T H Q I q=>wpAny_tests_one<|h.Ý ao s T H Q I q⟩
def d8 (n i:ı)(P:Prop):Prop:=∃m',m'<n-i/\m'=n-(i+1)/\i+1<=n/\P
abbrev Bw (n i:ı)(D:ĸ)(ys:İ V)(P:İ V->Hp->Prop)(y:V)(H3:Hp):Prop:=H3 D=į (.Æ ys)/\ys.v<Ľ/\d8 n i (P (ys++[y])<|upd H3 D<|.Æ<|ys++[y])
abbrev sy (J:It)(D:ĸ)(H:Hp)(R:Hp->Prop)(B:V->Hp->VK->(Hp->Prop)->Prop):Prop:=∃W:ı->ı->İ V->Hp->Prop,(∃m,W 0 m [] (upd H D<|.Æ []))/\
 ∀i m ys H,W i m ys H->(J.stop i H/\R H)\/(J.go i H/\∀x H',J.Aw i H x H'->B x H' (λy H3=>H3 D=į (.Æ ys)/\ys.v<Ľ/\∃m',m'<m/\W (i+1) m' (ys++[y]) (upd H3 D<|.Æ<|ys++[y])) λH2=>∃m',m'<m/\W (i+1) m' ys H2)
def Fo {J:It}{D:ĸ}{H:Hp}{R:Hp->Prop}{B:V->Hp->VK->(Hp->Prop)->Prop}(n:ı)(d:ı->İ V->Hp->Prop)(G:d 0 [] (upd H D<|.Æ []))(q:∀i ys H,i<n->d i ys H->J.go i H/\∀x H',J.Aw i H x H'->B x H' (Bw n i D ys<|d<|i+1) λH2=>d8 n i (d (i+1) ys H2))(F:∀ys H,d n ys H->J.stop n H/\R H):sy J D H R B:=by
 calc%[0,λi m ys H=>m=n-i/\i<=n/\d i ys H,%[2,n,yi,bE _|G]|?_];intro i m ys H z;let(rfl,hi,p):=z;by_cases g:i<n;.show .Ò<|q i ys H g p
 .let e:i=n:=yf;subst e;show .Â<|F ys H p
def z_ {q:Hp->İ V->Prop}{B:V->Hp->VK->(Hp->Prop)->Prop}{xs:İ V}{D:ĸ}{H:Hp}{R:Hp->Prop}(d:ı->İ V->Hp->Prop)(F:d 0 [] (upd H D<|.Æ []))(g:∀i ys H,i<=xs.v->d i ys H->q H xs)(hs:∀i x ys H,xs[i]?=į x->d i ys H->B x H (Bw xs.v i D ys<|d<|i+1) λH2=>d8 xs.v i (d (i+1) ys H2))(hd:∀ys H,d xs.v ys H->R H):sy (ItS q) D H R B:=Fo xs.v d F (λi ys H h p=>%[%[3,xs,xs[i],g i ys H (ay h) p|by simp[h]]|λx H' ⟨e,y⟩=>by subst e;show hs i x ys _ (y xs<|g i ys _ (ay h) p) p]) λys H p=>%[%[0,xs,g _ ys H (ai _) p|ai _]|hd ys H p]
abbrev Kh (I:St)(tt:TT)(te:TE)(x:V)(H:Hp)(k:VK)(l:Hp->Prop):Prop:=tt (į x::I) H λb H2=>if b=ĳ then te (į x::I) H2 k else l H2
def JD (wi:TI)(tt:TT)(te:TE):TE:=λI H Q=>wi I H λJ H1=>∀D,H1 D=Ĵ->sy J D H1 (Q<|.H D) (Kh I tt te)
def dY (X:Cx)(scope:Ŕ)(cl:İ (ņ×ĸ))(C:ĸ)(N:İ ņ)(s₀:ļ)(H₀:Hp)(fp:İ ĸ):Cx:={X with N:=N,s₀:=s₀,H₀:=H₀,env:=compEnvC scope cl C X.Ê,outer:=X.stack,ex:=fp,fn:=λ_=>Ķ,pn:=[],xe:=λ_ _=>ŗ}
structure gJ (X:Cx)(scope:Ŕ)(ns N2:İ ņ)(f:St->St):Prop where
 kind:scope.þ=.function
 Dc:∀y∈scope.Þ,y.2≠.ù
 names:∀y∈scope.Þ,y.2=.ā->scope.Þ.Å y.1=į .ā
 free:∀y∈scope.Þ,y.2=.Ó->X.Ê.Į y.1=į .ù\/X.Ê.Į y.1=į .Ó
 afv:∀σ:St,(f σ).v=σ.v
 afw:N2.v=X.N.v
 out:∀(σ:St) (i:ı) (y:ņ) (v:V),N2[i]?=į y->(f σ)[i]?=į (į v)->X.N[i]?=į y/\σ[i]?=į (į v)/\scope.Þ.Å y≠į .ā
def G9 (X:Cx)(tg:ŋ)(k:ı)(TP:V->Hp->(St->Prop)->Prop):Prop:=∀(ao:AC) (s:ļ) (pre rest:St) (H:Hp) (v:V) (u:Ĳ) (Q:St->Prop),pre.v=k->aL X ao (pre++rest) H s->bH v u->TP v H Q->
  ĺ (ľ X.Ñ X.w) X.A (assign tg X.Ê u) (λ_ s'=>∃d,d.v=k/\aL X ao (d++rest) H s'/\Q d) (λ_ _=>ŗ) s
def Dd (TP:V->Hp->(St->Prop)->Prop)(f:St->St)(I:St)(tt:TT)(te:TE)(x:V)(H:Hp)(k:VK)(l:Hp->Prop):Prop:=TP x H λpre=>tt (pre++f I) H λb H2=>if b=ĳ then te (pre++f I) H2 k else l H2
def yM (f:St->St)(k:ı)(wi:TI)(TP:V->Hp->(St->Prop)->Prop)(tt:TT)(te:TE):TE:=λI H Q=>wi I H λJ H1=>∀D,H1 D=Ĵ->sy J D H1 (Q<|.H D) (Dd TP f I tt te)
def yN {X:Cx}{O iter tg:ŋ}{ns N2:İ ņ}{f:St->St}{TP:V->Hp->(St->Prop)->Prop}{ifs:İ ŋ}{scope:Ŕ}{pos:Pos}{wi:TI}{tt:TT}{te:TE}(hc:X.ĭ=ĳ)(ok:gJ X scope ns N2 f)(hi:PI X tg iter wi)(hg:∀cl C s₀ H₀ fp,G9 (dY X scope cl C (ns++N2) s₀ H₀ fp) tg ns.v TP)(ht:∀cl C s₀ H₀ fp,PTs (dY X scope cl C (ns++N2) s₀ H₀ fp) ifs tt)(he:∀cl C s₀ H₀ fp,PE (dY X scope cl C (ns++N2) s₀ H₀ fp) O te)(hs:Ŷ (∀x,foldedSetIterable iter X.Ê x=pure x) ź){use:ĵ (Ĳ->Sem š)}{RR:AB}{p1:Pos}{ao:AC}{s:ļ}{P:St}{H:Hp}{Q:V->Hp->Prop}(I:aL X ao P H s)(h:yM f ns.v wi TP tt te P H Q)(fin:∀(D C:ĸ) (Z:Hp) (s5:ļ) (m:ņ->ĵ Ĳ),s5.C.Ns C m->(∀h',Heap.ă C s5.C h'->aL X ao P Z {s5 with heap:=h' })->mq X ao Z C->Q (.H D) Z->compPost (ľ X.Ñ X.w) X.A X.xe use RR (.H D) C (.ok .next) s5):ĺ (ľ X.Ñ X.w) X.A (comprehension (.ListComp O [%[tg,iter,ifs|0]] scope pos) scope X.Ê p1 (newList []) Ķ (ŏ iter X.Ê) use) RR X.xe s:=by
 let(cl,hcl,B,_,hall):=wI (env:=X.env) scope.Þ (λy hy e=>I.ok.has y.1<|ok.Ó y hy e) [] (λ_ _ z=>by simp at z);let hclos:closureFor scope X.Ê=pure cl:=by unfold closureFor;simp only[bind_pure];show hcl
 calc wpAny_comprehension_free (use:=use) (E:=X.xe) (cl:=cl) rb hs hclos ok.þ ok.Þ<|bD (hi ao s P H _ I h) λv s1 h1=>bD h1 λitv s2 Y=>?_;let(it,fp,tn,J,H2,e,I2,T,st2,f2,R):=Y;subst e;let(W,(m0,w0),turn):=R s2.n I2.à;calc fg<|wpAny_newFunctionEnv ok.Dc (by intro y hy;simp at hy) (λh₁ hns₁ hsb₁=>?_) ok.þ;dsimp only at hns₁ hsb₁ ⊢;let F:aL X ao P (upd H2 s2.n<|.Æ []) {s2 with heap:=s2.C.Ï {cls:=.Ä "list",data:=.î ([]:İ Ĳ).R} }:=I2.X4 (t':=s2.toks) (ys:=[]) (its:=[]) .ê<|bE _;generalize hH3:upd H2 s2.n (HO.Æ [])=H3 at *
 generalize hs3:s2.C.Ï {cls:=.Ä "list",data:=.î ([]:İ Ĳ).R}=hp3 at *
 generalize hD:s2.heap.objs.size=D at *
 generalize hC:hp3.objs.size=C at *
 let hDC:D<C:=by rw[<-hC,<-hs3,eS,hD];show eW _
 let L:∀b o,hp3.Á b=į o->h₁.Á b=į o:=λb o e=>(hsb₁.2 b (by rw[<-hC];show bb<|a6 e)).À<|af _ e;let fpl:∀b∈fp,b<C:=λb g=>by let(o,e,_):=T.obj _ _ st2 b g;rw[<-hC,<-hs3,eS];show fh<|a6 e
 let f3:∀b∈fp,mq X ao H3 b:=λb g=>by let(o,e,_):=T.obj _ _ st2 b g;calc%[?_|(f2 b g).2];rw[<-hH3,aM (by rw[<-hD];show bb<|a6 e)];show(f2 b g).1
 let acP:∀b∈fp,b∉frs X.stack:=λb g z=>by
  let(_,g1,g2,_):=f3 b g;rcases a8.mp (F.J0 b z) with q|q;.show g1 q
  .show g2 q
 let YOk:(dY X scope cl C (ns++N2) {s2 with heap:=hp3} H3 fp).Ok:=by
  calc%[I.ok.mod,?_,I.ok.glob,I.ok.blt,fq hC,?_,?_,?_,I.ok.hd,I.ok.frames,.Â rb,?_,?_,?_,?_,?_,?_|?_];.show ok.þ
  .show λa b c h1 Y=>I.ok.inj a b c (B a c h1)<|B b c Y
  .intro a ha;calc hall a ?_;rcases ha with z|z
   .rcases g_ (env:=X.env) z with q|⟨_,q⟩;.show ŀ rb<|ok.Dc _<|jc q
    .show jc q
   .rcases g_ (env:=X.env) z with q|⟨q,_⟩;.show jc q
    .cases q
  .intro a c hf;cases hf
  .intro b g;refine%[bb<|fpl b g|λa c h1=>(f3 b g).2.2.2.2.1 a c<|B a c h1]
  .show F.bs
  .show ap I.ok.CP F.sz
  .intro b o e g;rcases(f3 b g).2.2.2.1 with z|z;.show I.ok.JX b o e z
   .show ŀ (a7 (a6 e)<|ap I.ok.CP z)<|iO _
  .show acP
  .show F.stack
  .show F.Ou
 let Y0:aL (dY X scope cl C (ns++N2) {s2 with heap:=hp3} H3 fp) [] (List.É ns.v Ĵ++f P) H3 {s2 with heap:=h₁,toks:=s2.Ü+([]:İ (ņ×Ĳ)).v}:=by
  refine%[YOk,rb,F.bare,Un.Ħ L,%[0,_,hns₁|?_],?_,?_,?_,λp hp=>by simp[dY]at hp,F.ð.Ħ L|?_]
  .intro i y v e1 e2 e3;by_cases cg:i<ns.v
   .rw[ck (by rw[ee];show cg),List.getElem?_replicate,Ĺ cg]at e2;simp at e2
   .obtain⟨i,rfl⟩:∃k,i=ns.v+k:=%[i-ns.v|by simp_all]
    let e1a:(ns++N2)[ns.v+i]?=į y:=e1;rw[dS yf,iq]at e1a;rw[dS (by rw[ee];lia),ee,iq]at e2;let(e1',e2',hout):=ok.Ý P i y v e1a e2;let G:(y,NameKind.Ó)∈scope.Þ:=by
     let key:∀k,(relabel scope X.Ê).Þ.Å y=į k->k≠.ā->k=.ù\/k=.Ó->(y,NameKind.Ó)∈scope.Þ:=λk q n hk=>by
      rcases g_ (env:=X.env) q with z|⟨_,z⟩
      .rcases hk with rfl|rfl;.show ŀ rb<|ok.Dc _<|jc z
       .show jc z
      .show jc z
     rcases e3 with z|z|z
     .rcases g_ (env:=X.env) z with q|⟨q,_⟩;.show ŀ q hout
      .cases q
     .show key _ z yk<|.Â rb
     .show key _ z yk<|.Ò rb
    let hk:=ok.Ó _ G rfl;let(m,hn,hl):=F.loc;let(u,r,q):=hl i y v e1' e2' (by rcases hk with z|z;show .Ò<|.Â z;show .Ò<|.Ò z);refine%[0,u,r|.Ò %[?_|?_]]
    .rcases e3 with z|z|z
     .rcases g_ (env:=X.env) z with q|⟨q,_⟩;.show ŀ q hout
      .cases q
     .show .Â z
     .show .Ò z
    .rcases q with⟨z,_⟩|⟨_,c,hc',hcell⟩
     .rcases hk with q|q <;> (rw[z]at q;cases q)
     .let(c',hc2):=hall y G;have:c'=c:=by have:=B y c' hc2;rw[hc']at this;show(bo this).Ð
      subst this;let(o,ho,hd):=hcell;show%[27,c',hc2,o,L _ _ ho|hd]
  .intro a c h1;let(v,o,ho,hd):=F.ù a c (B a c h1);show%[3,v,o,L _ _ ho|hd]
  .show H3 C=Ĵ;show F.ð.à<|fq hC
  .show λa c h1=>F.nU a c<|B a c h1
  .show (List.É ns.v Ĵ++f P).v=(ns++N2).v;rw[aE,aE,ee,ok.afv,I.len,ok.afw]
 let back:∀(s':ļ) (v:St) (H':Hp) (h':Ň),aL (dY X scope cl C (ns++N2) {s2 with heap:=hp3} H3 fp) [] v H' s'->Heap.ă C s'.C h'->(∀b∈fp,H' b=Ĵ)->aL X ao P H' {s' with heap:=h' }:=by
  intro s' v H' h' I' sb fr;let GJ:∀b o,hp3.Á b=į o->b≠C:=λb o e=>by rw[<-hC];show bb<|a6 e
  let U:Un (frs X.stack) fp H3 H' hp3 s'.C:=I'.ö;refine F.call' (ch:=fp) (H':=H') (s':={s' with heap:=h' }) I'.os %[λb o e n h1 Y=>(sb.2 b<|GJ b o e).À<|U.keep b o e n h1 Y,λb o e n h1 Y=>?_,U.Ó,λb o e Y=>?_,U.tups,U.uU|U.wj] (λb ob e=>?_) I'.bare λb g=>?_
  .let(sl,q):=U.slot b o e n h1 Y;show%[sl|(sb.2 b<|GJ b o e).À q]
  .let(o',q):=U.there b o e Y;show%[o'|(sb.2 b<|GJ b o e).À q]
  .let fC:H' C=Ĵ:=I'.Ó;calc(I'.ð b ob e).stay (λc w' hc q=>(sb.2 c ?_).À q) (λ_ q=>q) λ_ _ q=>q;rintro rfl;rcases hc with rfl|hc
   .rw[fC]at e;cases e
   .rw[fC]at hc;cases hc
  .let(_,g1,_,g3,g4,g5):=f3 b g;show%[g3,g1,g4|g5]
 let M:∀{H':Hp},(∀b∈fp,H' b=Ĵ)->∀b∈fp,mq (dY X scope cl C (ns++N2) {s2 with heap:=hp3} H3 fp) [] H' b:=λhn b g=>%[hn b g,bb<|fpl b g,acP b g,.Â g,λa c h1=>(f3 b g).2.2.2.2.1 a c<|B a c h1|λp hp=>by simp[dY]at hp]
 let st₁:tn 0 h₁:=T.keep _ _ _ st2 λb _ o e=>L b o (by rw[<-hs3];show af _ e);let loop:codeAny (ľ X.Ñ X.w) X.A (.compLoop (.ListComp O [%[tg,iter,ifs|0]] scope pos) 0 (.H it) (.H D)<|compEnvC scope cl C X.Ê) (compPost (ľ X.Ñ X.w) X.A X.xe use RR (.H D) C)
   {s2 with heap:=h₁,toks:=s2.Ü+([]:İ (ņ×Ĳ)).v}:=by
  calc RN (λn s'=>∃i v ys H',v.v=ns.v/\aL (dY X scope cl C (ns++N2) {s2 with heap:=hp3} H3 fp) [] (v++f P) H' s'/\tn i s'.C/\(∀b∈fp,H' b=Ĵ)/\W i n ys H') ?_ m0 %[5,0,List.É ns.v Ĵ,[],H3,ee,Y0,st₁,λb g=>(f3 b g).1|w0];intro n s4 z;let(i,v,ys,Z,hv4,I4,dR,Pa,w4):=z;rcases turn i n ys Z w4 with⟨stop,qn⟩|⟨go,step⟩
  .refine bD (T.done (dY X scope cl C (ns++N2) {s2 with heap:=hp3} H3 fp) rb rb rb hc i [] s4 (v++f P) Z _ I4 (M Pa) dR stop) λr s5 ⟨hr,I5⟩=>?_
   subst hr;let(m,hn,_):=id I5.loc;show fin D C Z s5 m hn (λh' sb=>back s5 (v++f P) Z h' I5 sb Pa) %[I5.Ó|(F.mz (H':=H3) (fq hC)<|F.ð.à<|fq hC).2] qn
  .calc bD (T.item (dY X scope cl C (ns++N2) {s2 with heap:=hp3} H3 fp) rb rb rb hc i [] s4 (v++f P) Z _ I4 (M Pa) dR go) λr s5 N=>?_;let(u,hr,h5):=N
   subst hr;calc bD h5 λ_ s6 N=>?_;let(y,H6,I6,r6,y6,st6,fr6):=N;let I6':=I6.pinned (M fr6)<|T.obj _ _ st6;calc bD (hg cl C {s2 with heap:=hp3} H3 fp _ s6 v (f P) H6 y u _ hv4 I6' r6<|step y H6 y6) λ_ s7 N=>?_;let(pre,hpre,I7',q7):=N;calc bD (ht cl C {s2 with heap:=hp3} H3 fp _ s7 _ H6 _ I7' q7) λb s8 N=>?_;let(H8,I8,q8):=N;let Vf:∀{P':St} {H':Hp} {s':ļ},aL (dY X scope cl C (ns++N2) {s2 with heap:=hp3} H3 fp) ([]++yD fp s6.C) P' H' s'->tn (i+1) s'.C/\∀b∈fp,H' b=Ĵ:=λ{P' H' s'} I9=>by calc%[T.keep _ _ _ st6 λb g o e=>(I9.pin (b,o)<|dq _<|dq _<|nZ g e).1|λb g=>?_];let(o,e,d):=T.obj _ _ st6 b g;show(I9.pin (b,o)<|dq _<|dq _<|nZ g e).2.1
   cases b with
   | false=>let(m',hm,w'):=q8;let(k1,k2):=Vf I8;show%[0,m',hm|%[5,i+1,pre,ys,H8,hpre,I8.nD,k1,k2|w']]
   | true=>have q8':te (pre++f P) H8 _:=q8;show ĺ _ _ (ŏ O _) _ _ _;calc bD (he cl C {s2 with heap:=hp3} H3 fp _ s8 _ H8 _ I8 q8') λz s9 N=>?_;let(zv,H9,I9,r9,hD9,hz9,m',hm,w'):=N;calc bD (fU (X:=dY X scope cl C (ns++N2) {s2 with heap:=hp3} H3 fp) _ s9 _ H9 (.H D) [zv] (.H D) [z] (λ_ H'=>H'=upd H9 D (.Æ<|ys++[zv])) I9 rb (.á r9 .ê) %[15,D,ys,zv,rb,rb,hD9,hz9|rb]) λ_ s10 N=>?_;let(_,Pb,I10,_,e10):=N;subst e10;let(k1,k2):=Vf I10;show%[0,m',hm|%[5,i+1,pre,ys++[zv],_,hpre,I10.nD,k1,k2|w']]
 show codeAny_compStart_list loop<|T.self X.A 0 _ _ _ st₁ loop
def pF {scope:Ŕ}{N:İ ņ}(B:N.Ö)(g:N[0]?=į x)(hx:scope.Þ.Å x=į .ā):G9 (dY X scope cl C N s₀ H₀ fp) (.è x pos) 1 (λv _ Q=>Q [į v]):=by intro ao s pre rest H v u Q hp I r q;let(G,rfl):=List.length_eq_one_iff.mp hp;calc bD (o9 (X:=dY X scope cl C N s₀ H₀ fp) (i:=0) B g (.Â<|lookup_relabel_local hx) (.Ò<|lookup_relabel_local hx) ao s _ H v u (λT' H'=>H'=H/\T'=į v::rest) I r %[rb|rb]) λ_ s' F=>?_;let(T',H',I',d,D):=F;subst d D;show%[2,[į v],rb,I'|q]
def gk {X:Cx}(B:X.ĭ=ĳ)(ok:fY X scope x)(hi:QI X (.è x px) iter wi)(J:∀cl C s₀ H₀ fp,Ve (blk X scope cl C x s₀ H₀ fp) ifs tt)(g:∀cl C s₀ H₀ fp,QE (blk X scope cl C x s₀ H₀ fp) elt te)(hs:Ŷ (∀x,foldedSetIterable iter X.Ê x=pure x) ź):QE X (.ListComp elt [%[.è x px,iter,ifs|0]] scope pos) (JD wi tt te):=⟨λao s T H Q I h=>by
 let e:∀cl C s₀ H₀ fp,dY X scope cl C ([x]++X.N) s₀ H₀ fp=blk X scope cl C x s₀ H₀ fp:=λ_ _ _ _ _=>rfl;let nd:([x]++X.N).Ö:=kR.Ù %[λz=>ok.Ý x z ok.hx|ok.nd];let G:gJ X scope [x] X.N id:=%[ok.þ,ok.Dc,ok.Þ,ok.Ó,λ_=>rfl,rb|λT i y v d L=>%[d,L|ok.Ý y<|ax d]]
 rw[eval_ListComp];show yN B G hi.Ý (λcl C s₀ H₀ fp=>pF nd rb ok.hx) (λcl C s₀ H₀ fp=>(λcl C s₀ H₀ fp=>(J cl C s₀ H₀ fp).Ý) cl C s₀ H₀ fp) (λcl C s₀ H₀ fp=>(λcl C s₀ H₀ fp=>(g cl C s₀ H₀ fp).Ý) cl C s₀ H₀ fp) hs I h λD C M N m hn bk _ q=>%[0,m,hn|λh' F=>%[1,.H D,M,bk h' F,rb|q]]⟩
def d8.mk {P:Prop}(h:i<n)(p:P):d8 n i P:=%[7,_,rj h<|eW _,rb,h|p]
def uh {K:W.Ì}{a D:ĸ}{xs:İ V}{te:TE}{I:St}{H:Hp}{R:Hp->Prop}(d:ı->İ V->Hp->Prop)(q:d 0 [] (upd H D<|.Æ []))(g:∀i ys H,i<=xs.v->d i ys H->aP K H a xs)(hs:∀i x ys H,xs[i]?=į x->d i ys H->te (į x::I) H (Bw xs.v i D ys<|d<|i+1))(hd:∀ys H,d xs.v ys H->R H):sy (Itl K a) D H R (Kh I jt te):=z_ d q g hs hd
def wJ {lo:Ŀ}{n:ı}{D:ĸ}{te:TE}{I:St}{H:Hp}{R:Hp->Prop}(d:ı->İ V->Hp->Prop)(g:d 0 [] (upd H D<|.Æ []))(hs:∀i ys H,i<n->d i ys H->te (į (.M<|lo+i)::I) H (Bw n i D ys<|d<|i+1))(hd:∀ys H,d n ys H->R H):sy (Oz lo n) D H R (Kh I jt te):=Fo n d g (λi ys H h p=>%[h|λx H' y=>by let(rfl,rfl):=y;show hs i ys _ h p]) λys H p=>%[ai _|hd ys H p]
def S (l:İ ı):ņ:=⟨l.R⟩
def JF (l):(S l).ñ.I=l:=rfl
def iI (l):(S l).v=l.v:=rfl
def qZ (h:S a=S b):a=b:=Ő (λs:ņ=>s.ñ.I) h
def acQ (z:ņ):S z.ñ.I=z:=by cases z;rfl
def aes (a b):S a++S b=S (a++b):=by
 show (⟨a.R++b.R⟩:ņ)=⟨(a++b).R⟩
 simp
def aai (a b):Ļ (V.X (S a)=V.X (S b))=Ļ (a=b):=by
 by_cases e:a=b;.subst e;simp
 .rw[aw e,aw];intro z;injection z with z;show e<|qZ z
section
variable {X:Cx}{a b c e o:ŋ}{pos:Pos}
def aaN (l){j pos}(h:x=S l):PE X (.Ć (.X x) j pos) (tC<|.X<|S l):=by rw[h];show acn
def Aa:R2:=λx y H Q=>∃i j,x=.X (S i)/\y=.X (S j)/\i.v+j.v<=Ľ/\Q (.X<|S<|i++j) H
def h_:fL X (binaryOp .Add) Aa:=by intro ao s T H x y v u Q I d g h;let(i,j,rfl,rfl,hz,q):=h;show Ru ao s T H _ _ v u Q I d g %[4,S i,S j,rb,rb,hz|by rw[aes];show q]
def aeu:R2:=λx y H Q=>∃l i c,x=.X (S l)/\y=.M i/\l.v<=Ľ/\lV l i=į c/\Q (.X<|S [c]) H
def uV:O7 X aeu:=by intro value d ao s T H x y v u Q I D B h hs;let(l,i,c,rfl,rfl,hz,g,q):=h;show acI value d ao s T H _ _ v u Q I D B %[15,S l,i,c,rb,rb,hz,g|q] hs
def aev:İ V->Hp->VK->Prop:=λxs H Q=>∃l,xs=[.X (S l)]/\l.v<=Ľ/\Q (.M l.v) H
def cI:fM X (.Ô "len") aev:=by intro ao s T H xs us Q I r h;let(l,rfl,hz,q):=h;show Kc ao s T H _ us Q I r %[2,S l,rb,hz|q]
def afx:R2:=λx y H Q=>∃i j,x=.X (S i)/\y=.X (S j)/\Q (.bl<|Ļ<|i=j) H
def sH:fL X (compareOp .Eq) afx:=by intro ao s T H x y v u Q I d g h;let(i,j,rfl,rfl,q):=h;show jk ao s T H _ _ v u Q I d g %[rb|by rw[aai];show q]
def afy:R2:=λx y H Q=>∃i j,x=.X (S i)/\y=.X (S j)/\Q (.bl<|!Ļ (i=j)) H
def sI:fL X (compareOp .NotEq) afy:=by intro ao s T H x y v u Q I d g h;let(i,j,rfl,rfl,q):=h;show JB ao s T H _ _ v u Q I d g %[rb|by rw[aai];show q]
def afz:R2:=λx y H Q=>∃c l,x=.X (S [c])/\y=.X (S l)/\Q (.bl<|Ļ<|c∈l) H
def Kl:fL X (compareOp .In) afz:=by
 intro ao s T H x y v u Q I d g h;let(c,l,rfl,rfl,q):=h;show Uv ao s T H _ _ v u Q I d g %[1,S [c],S l,rb,rb|by
  let e:=StrLaws.found_one (S l) c;rw[JF]at e;rw[show (S [c])=(⟨#[c]⟩:ņ) from rb,e];show q]
def jZ (l:İ ı)(lo hi:ĵ Ŀ):İ ı:=(l.Í<|HT.fX l.v 0 lo).È (HT.fX l.v l.v hi-HT.fX l.v 0 lo)
def Pg (lo hi)(n):Builtin.Str.strSliceIndices lo hi 1 n=(List.å<|HT.fX n n hi-HT.fX n 0 lo).L (λk=>HT.fX n 0 lo+k):=by
 let g:∀(v:Ŀ) (d:ı),max (0:Ŀ) (min (if v<0 then v+(n:Ŀ) else v) (n:Ŀ))=((HT.fX n d (į v):ı):Ŀ):=λv d=>by rw[<-HT.aaG];split <;> grind
 let q:∀a b:ı,sliceRange (a:Ŀ) (b:Ŀ) 1=(List.å<|b-a).L (λk=>a+k):=λa b=>by
  simp only[sliceRange,show ((1:Ŀ) > 0)=True from by simp,if_true];by_cases B:(a:Ŀ)<b
  .let D:(((b:Ŀ)-a+1-1)/1).Õ=b-a:=by first|simp|(simp;done)|(simp;lia)
   simp only[B,if_true,D];calc d6 λk _=>?_;lia
  .have:b-a=0:=by simp_all
   simp[B,this]
 unfold Builtin.Str.strSliceIndices;simp only[show ((1:Ŀ) > 0)=True from by simp,if_true];cases lo with
 | none=>
  cases hi with| none=>show q 0 n| some j=>dsimp only;rw[g j n];show q 0 _
 | some i=>
  cases hi with| none=>dsimp only;rw[g i 0];show q _ n| some j=>dsimp only;rw[g i 0,g j n];show q _ _
def Vg (l)(lo hi):Txt.slice (S l) lo hi=S (jZ l lo hi):=by
 let D:HT.fX l.v l.v hi<=l.v:=HT.acG _ _ (ai _) _;let d:((Builtin.Str.strSliceIndices lo hi 1 (S l).v).ø ((S l).ñ[·]?))=jZ l lo hi:=by
  rw[Pg];let h:=StrLaws.picks l (HT.fX l.v l.v hi-HT.fX l.v 0 lo)<|HT.fX l.v 0 lo;unfold jZ;by_cases g:HT.fX l.v 0 lo<=HT.fX l.v l.v hi
  .let F:=h (by simp_all);rw[iI];simpa [S] using F
  .let e:HT.fX l.v l.v hi-HT.fX l.v 0 lo=0:=Nat.sub_eq_zero_of_le yf;rw[iI,e];simp
 unfold Txt.slice;split
 .rename_i g;let B:(Builtin.Str.strSliceIndices lo hi 1 (S l).v).v=l.v:=by
   simp at g;simpa [iI] using g
  let q:HT.fX l.v l.v hi-HT.fX l.v 0 lo=l.v:=by rw[Pg,iI]at B;simpa using B
  let G:HT.fX l.v 0 lo=0\/l.v=0:=yf;let e:jZ l lo hi=l:=by
   unfold jZ;rw[q];rcases G with z|z;.rw[z];simp
   .have:l=[]:=md.mp z;subst this;simp
  rw[e]
 .rw[d];rfl
def RP:V->ĵ Ŀ->ĵ Ŀ->Hp->VK->Prop:=λx lo hi H Q=>∃l,x=.X (S l)/\l.v<=Ľ/\Q (.X<|S<|jZ l lo hi) H
def part_of {o:ĵ Ŀ}(p:IsPart v o):∃l:ĵ (Ŀ×Tok),v=partValue l/\l.L (·.1)=o:=by
 cases p with| none=>show%[0,Ĵ,rb|rb]| int i t=>show%[0,į (i,t),rb|rb]
def wK:SlR X RP:=by intro ao s T H x v vl D lo hi sl Q I g hs pl B h;let(l,rfl,hz,q):=h;let(t,rfl):=g;let(p1,rfl,rfl):=part_of pl;let(p2,rfl,rfl):=part_of B;calc%[1,"str",_,wn.Å,typeIs_str _ _ _|?_];calc wpAny_getItem_str_slice (l:=p1) (u:=p2) (st:=none) hs rb ?_;let e:=Vg l (p1.L (·.1)) (p2.L (·.1));let d:(Txt.slice (S l) (p1.L (·.1)) (p2.L (·.1))).v<=Ľ:=ap (Txt.slice_le _ _ _) hz;calc post_val_or_str %[d|λt' k=>?_];let e':(if ((Option.L (λx:Ŀ×Tok=>x.1) Ĵ).Î 1==1&&(slicePicked (S l) p1 p2 Ĵ).v==(S l).v)=ĳ then S l else ⟨((slicePicked (S l) p1 p2 Ĵ).ø ((S l).ñ[·]?)).R⟩)=S (jZ l (p1.L (·.1)) (p2.L (·.1))):=e;show%[1,.X (S (jZ l (p1.L (·.1)) (p2.L (·.1)))),H,I.tok _,%[t'|congrArg (λz=>Value.X z t') e']|q]
abbrev Ts (ls:AA):İ V:=ls.L λl=>V.X (S l)
def aaj (K:W.Ì):İ V->Hp->VK->Prop:=λxs H Q=>∃x n t b,xs=[x,.ty n]/\n6 K H x t/\W.kitOne K t (.Ä n)=į b/\Q (.bl b) H
def jd:fM X (.Ô "isinstance") (aaj X.K):=by intro ao s T H xs us Q I r h;let(x,n,t,b,rfl,ty,k,q):=h;let(u,w',rfl,r1,d):=vals2 r;cases d;show UG I r1 ty k λtk=>%[1,.bl b,H,I.tok tk,rb|q]
def aew:R2:=λx y H Q=>∃l n,x=.X (S l)/\y=.M (n:ı)/\1<=n/\n<1000/\l.v<1000/\Q (.X<|S (List.É n l).Ë) H
theorem Km (l:İ ı):∀(n:ı) (d:ł ı),((List.É n l.R).ć (· ++ ·) d).I=d.I++(List.É n l).Ë
 | 0,d=>by simp
 | n+1,d=>by rw[ic,rS,Km l n,ic];simp
def aaO:fL X (binaryOp .Mult) aew:=by
 intro ao s T H x y v u Q I G F h;let(l,n,rfl,rfl,h1,L,J,q):=h;let(t,rfl):=G;let(t',rfl):=F;let d:l.v*n<=1000*1000:=i4 (ay J)<|ay L;let B:(1000*1000:ı)<=Ľ:=by decide
 calc PySem.P.mul_str ?_ ?_ ?_ ?_;.rw[aw yi,aw yf];rfl
 .intro _ _;let e:(2^63-1:Ŀ)/(n:Ŀ)>=1000:=by
   calc Int.le_ediv_of_mul_le (ii fv h1) ?_;have:(1000:Ŀ)*(n:Ŀ)<=1000*1000:=by lia
   lia
  rw[iI];lia
 .intro _ _;show Ļ (_ > _)=Ķ;rw[aw];rw[iI,cq];lia
 .rw[ķ yf];let g:(⟨(List.É (n:Ŀ).Õ (S l).ñ).ć (· ++ ·) #[]⟩:ņ)=S (List.É n l).Ë:=by
   let e:=Km l n #[];rw[cq];unfold S;congr 1;apply mr.mp;simpa using e
  rw[g];split
  .rename_i D;let e:(List.É n l).Ë=l:=by
    simp at D;rcases D with z|z
    .have:n=1:=by lia
     subst this;simp
    .have:l=[]:=by simpa [S,Str.length] using z
     subst this;simp
   rw[e]at q;show%[1,.X<|S l,H,I,%[t|rb]|q]
  .calc%[14,?_,.X<|S (List.É n l).Ë,H,I.tok _,%[_|rb]|q];rw[iI,len_rep,gz];show ap d B
def Fp (ls:AA):Txt.join (S []) (ls.L S)=S ls.Ë:=by
 unfold Txt.join Builtin.Str.glued;let g:∀(ls:AA) (d:ł ı),((ls.L S).ć (λd p=>d++(S []).ñ++p.ñ) d).I=d.I++ls.Ë:=by
  intro ls
  induction ls with| nil=>intro d;simp| cons l r ih=>intro d;rw[bS,rS,ih];simp[S]
 unfold S;congr 1;apply mr.mp;cases ls with| nil=>rfl| cons l r=>have:=g r (S l).ñ;let e:(List.L S<|l::r).Í 1=List.L S r:=rfl;show (((List.L S<|l::r).Í 1).ć _ (S l).ñ).I=_;rw[e];show this.À (by simp[S])
def rJoin (K:W.Ì):V->İ V->Hp->VK->Prop:=λx vs H Q=>∃p ls,x=.X (S [])/\vs=[.H p]/\aP K H p (Ts ls)/\ls.Ë.v<=1000/\Q (.X<|S ls.Ë) H
def Ph:∀{ls:AA} {us:İ Ĳ},Vals (Ts ls) us->Ř us (ls.L S):=by
 intro ls us h
 induction ls generalizing us with
 | nil=>cases h;show .ê
 | cons l r ih=>
  cases h with| cons q t=>let(t',rfl):=q;show .á (S l) t'<|ih t
def Pj (ls:AA):((ls.L S).L (·.v)).sum=ls.Ë.v:=by
 induction ls with| nil=>rfl| cons l r ih=>rw[bS,bS,List.sum_cons,ih,eC,aE,iI]
def rN:Az X "str.join" (rJoin X.K):=by
 intro ao s T H x vs v us Q I g D h;let(p,ls,rfl,rfl,B,hz,q):=h;let(t,rfl):=g;let(u,rfl,d):=vals1 D;cases d;let(its,r,pl,_):=I.ğ B;refine join_list pl.ÿ (ys:=ls.L S) (by simpa using Ph r) ?_ λt' k=>?_
 .rw[Pj];show _+_*0<=_;lia
 .show%[1,.X<|S ls.Ë,H,I.tok k,%[t'|congrArg (λz=>Value.X z t')<|Fp ls]|q]
end
structure q_ (K:W.Ì)(mg:ņ->ĵ Ĳ)(name:ņ)(st:Ŋ)(ps:İ ņ):Prop where
 ex:∃f fd,vG K name name st f fd/\j6 K fd ps []/\mg name=į (.H f)
structure Df (P:ń)(w:ň)(K:W.Ì)(mg:ņ->ĵ Ĳ)(base:Ň)(name:ņ)(k:ı)(ps:İ ņ)(sp:Sp):Prop where
 ex:∃f fd,jY P w K mg base ug k f fd ps sp/\j6 K fd ps []/\mg name=į (.H f)/\W.ĩ K (.H f)=ĳ
def q_.ok {K:W.Ì}{mg:ņ->ĵ Ĳ}{name:ņ}{st:Ŋ}{N ps:İ ņ}{k:ı}{sp:Sp}(D:q_ K mg name st ps)(S:aV N ps (aJ st))(len:∀vs H Q E,sp vs H Q E->vs.v=ps.v)(d:∀(f:ĸ) (bA:Ĳ) (A:ŉ) (outer:İ Env) (s:ļ) (H:Hp) (vs:İ V) (Q:VK) (E:XK),eE k (A.deeper<|envOfC name (aJ st) s.n f bA)->sp vs H Q E->
   ∃t,GK (rZ ug P w K mg base N name (aJ st) f bA A outer s H E).GX (eV st) t/\t {nx:=λ_ H'=>Q .đ H',rt:=Q} (start N vs) H):Df P w K mg base name (k+1) ps sp:=by
 let(f,fd,F,b,g):=D.ex;show%[f,fd,F.ok S len<|d f,b,g|F.kp]
section
variable {X:Cx}{x:ņ}{p pos:Pos}{e:ŋ}{es:İ ŋ}{t:TA}
def aY (D:Df X.Ñ X.w X.K X.mg X.ö x k ps sp)(hr:eE k X.A)(B:Gl X x)(ha:QA X (e::es) t)(q:Ŷ ((x==("__debug__":ņ))=Ķ) Ÿ)(hs:Ŷ (Ņ (e::es) X.Ê=(Ķ,ŏ e X.Ê)::Ņ es X.Ê) ŷ)(d:Ŷ ((backTo pos<|Ņ es X.Ê).Ğ (·.1)=Ķ) ŷ):QE X (.ġ (.è x p) (e::es) [] pos) (qX sp [] E0 t):=⟨by
 let(f,fd,G,b,g,kp):=D.ex;show aaE G hr B g kp b .ê fB ha.Ý q hs d⟩
end
theorem aB.upd (h:H p=Ĵ):aB H (upd H p o):=λb o' e=>by rw[aM (aQ e h)];show e
def aB.bB (s:aB H H')(h:H p=Ĵ):aB H (L2.ì H' p o):=λb o' e=>by rw[aM (aQ e h)];show s b o' e
def noStar:ŋ->ō
 | .Starred ..=>false
 | _=>true
def aaP (h:noStar e=ĳ):Ņ (e::es) env=(Ķ,ŏ e env)::Ņ es env:=by cases e <;> first|rfl|cases h
section
variable {X:Cx}{es:İ ŋ}{t:TA}
def Bx {i j pos}(h:QA X es t):QA X (.Ć (.M i) j pos::es) (dM (tC<|.M i) t):=⟨Fl Uq h.Ý<|aaP rb⟩
end
def Yc {K:W.Ì}{h:Ň}{mg:ņ->ĵ Ĳ}{name:ņ}{st:Ŋ}{ps:İ ņ}{f:ĸ}{oc:Ĳ}{od an:ĵ ĸ}{osl:ł (ĵ Ĳ)}{kV doc pm bA ct:Ĳ}(X:K.In h)(G:h.Ns mainGlobals mg)(a:W.nsIn K mainGlobals name=į (į<|.H f))(l:K.Å f=į %[oc,od,.func<|W.fnOf name name (gZ st) (eV st) (aJ st) .Û kV doc pm an bA ct|osl])(c:W.codeIn K bA name=ĳ)(k:W.ĩ K (.H f)=ĳ)(d:∀(kV doc pm:Ĳ) (an:ĵ ĸ) (bA ct:Ĳ) (us:İ Ĳ),us.v=ps.v->bindArgs (W.fnOf name name (gZ st) (eV st) (aJ st) .Û kV doc pm an bA ct) %[us|[]]=pure (ps.zip us)):q_ K mg name st ps:=%[f,_,yL l c k,(yL l c k).binds d|wE X G a]
def acR {K:W.Ì}{h:Ň}{mg:ņ->ĵ Ĳ}{st:Ŋ}{x:ņ}{f g:ĸ}{oc:Ĳ}{od an:ĵ ĸ}{osl:ł (ĵ Ĳ)}{kV doc pm bA ct:Ĳ}(X:K.In h)(G:h.Ns mainGlobals mg)(d:mg "law"=į (.H g))(a:W.nsIn K mainGlobals "law"=į (į<|.H f))(l:K.Å f=į %[oc,od,.func<|W.fnOf "law" "law" (gZ st) (eV st) (aJ st) .Û kV doc pm an bA ct|osl])(c:W.codeIn K bA "law"=ĳ)(k:W.ĩ K (.H f)=ĳ)(q:∀(kV doc pm:Ĳ) (an:ĵ ĸ) (bA ct v:Ĳ),bindArgs (W.fnOf "law" "law" (gZ st) (eV st) (aJ st) .Û kV doc pm an bA ct) %[[v]|[]]=pure [(x,v)]):∃fd:FuncData,vG K "law" "law" st g fd/\∀(s:ļ) (v:Ĳ),Š s fd %[[v]|[]] [(x,v)]:=by let e:=d.Ð.À<|wE X G a;cases e;show%[0,_,yL l c k|λs v=>.of_eq<|q kV doc pm an bA ct v]
def RQ (K:W.Ì):Sp:=λvs H Q _=>∃(a:Addr) (ns:İ Ŀ),vs=[.H a]/\aP K H a (ns.L V.M)/\ns.v<=63/\∀H',Q (.bl ĳ) H'
def aaQ {x:ņ}{l:W.OpenLaw}{g:İ ņ}{L:(ņ->ĵ Ĳ)->Ň->Prop}{Y:ň->Ň->Prop}{d:DefRec}{K:Params->W.Ì}(hn:l.most=į 63)(B:d.ã.defaults=[])(M:∀(w:ň) (h:Ň),Y w h->(K w.ã).In h)(F:∀(w:ň) (mg:ņ->ĵ Ĳ) (D:ĸ) (h:Ň),(K w.ã).In h->h.Ns mainGlobals mg->mg d.name=į (.H D)->
   ∃fd:FuncData,(∀(s:ļ) (u:Ĳ),Š s fd %[[u]|[]] [(x,u)])/\∀base:Ň,(K w.ã).In base->base.Ns mainGlobals mg->jY l.Ñ w (K w.ã) mg base ug 20 D fd [x] (RQ<|K w.ã)) :
  W.WalkO q g L Y l.row.toRowW d [] (λf vs=>PySem.call f vs):=
 L2.aaM (n:=63) (k:=20) (x:=x) (CX:=λ_=>ug) (sp:=λw=>RQ (K w.ã)) hn yk B %[rb,yk|yk] M F (λ_ _ a ns J _ G=>%[4,a,ns,rb,G,J|λ_=>rfl]) λ_ _ _ _ _ z=>z
namespace RV
def yO:Manifest.owners.Å (String.ofList ['d','e','s','r','e','v','e','r'].â)=į Manifest.sig_reversed:=by kernel_rfl
def slot_next:Ŵ "reversed" "__next__" "reversed.__next__":=
 .of (owner:="reversed") (n:="__next__") (by rw[typeLookup_type,builtinLookup_eq_fast];kernel_rfl) yo yo yo
  (by first|show .Â yo|show .Ò yo) (by rw[isSubtype_type];kernel_rfl)
def G_:Ŵ "reversed" "__iter__" "reversed.__iter__":=
 .of (owner:="reversed") (n:="__iter__") (by rw[typeLookup_type,builtinLookup_eq_fast];kernel_rfl) yo yo yo
  (by first|show .Â yo|show .Ò yo) (by rw[isSubtype_type];kernel_rfl)
def yP:Ŵ "reversed" "__length_hint__" "reversed.__length_hint__":=
 .of (owner:="reversed") (n:="__length_hint__") (by rw[typeLookup_type,builtinLookup_eq_fast];kernel_rfl) yo yo yo
  (by first|show .Â yo|show .Ò yo) (by rw[isSubtype_type];kernel_rfl)
def aex:typeLookup (.Ä "reversed") "__len__"=pure Ĵ:=by rw[typeLookup_type,builtinLookup_eq_fast];kernel_rfl
def Vh:typeLookup (.Ä "str") "__reversed__"=pure Ĵ:=by rw[typeLookup_type,builtinLookup_eq_fast];kernel_rfl
def entry_next:entryFor table "reversed.__next__"=į Builtin.«reversed.__next__»:=entryFor_of_tree yn
def RW:entryFor table "reversed.__length_hint__"=į Builtin.«reversed.__length_hint__»:=entryFor_of_tree yn
def RX:entryFor table "reversed.__iter__"=į Builtin.«dict_keyiterator.__iter__»:=entryFor_alias (id':="dict_keyiterator.__iter__") yn (by first|rfl|decide +kernel|(unfold String.splitOn;simp +decide [String.splitOnAux])) yo yn
def args_next (a):argsOk "reversed.__next__" %[[a]|[]]:=by unfold argsOk;rw[signature?_of (id:="reversed.__next__") (n:=['_','_','t','x','e','n','_','_']) (o:=['d','e','s','r','e','v','e','r']) yn yO];kernel_rfl
def Vi (a):argsOk "reversed.__iter__" %[[a]|[]]:=by unfold argsOk;rw[signature?_of (id:="reversed.__iter__") (n:=['_','_','r','e','t','i','_','_']) (o:=['d','e','s','r','e','v','e','r']) yn yO];kernel_rfl
def Vj (a):argsOk "reversed.__length_hint__" %[[a]|[]]:=by unfold argsOk;rw[signature?_of (id:="reversed.__length_hint__") (n:=['_','_','t','n','i','h','_','h','t','g','n','e','l','_','_']) (o:=['d','e','s','r','e','v','e','r']) yn yO];kernel_rfl
def Vk:Ŵ "reversed" "__init__" "object.__init__":=
 .of (owner:="object") (n:="__init__") (by rw[typeLookup_type,builtinLookup_eq_fast];kernel_rfl) yo yo yo
  (by first|show .Â yo|show .Ò yo) (by rw[isSubtype_type];kernel_rfl)
def called:TypeCalled "reversed" "reversed.__new__" "object.__init__":=%[yo,PySem.F.create_reversed,%[10,_,_|PySem.F.mro_reversed],PySem.F.made_reversed,PySem.F.plain_reversed_new,PySem.F.sub_reversed_self|Vk]
def Yd (x:ņ)(t:Tok)(i:Ŀ):Obj:={cls:=.Ä "reversed",data:=.ë #[.X x t,ő i]}
def lG (h:Ň)(a:ĸ)(x:ņ)(t:Tok)(i:Ŀ):Prop:=∃o,h.Á a=į o/\o.cls=.Ä "reversed"/\o.Ĉ=.ë #[.X x t,ő i]
section
variable {prog:ń}{w:ň}{A:ŉ}{E:AB}{s:ļ}
def lG.typeIs (h:lG s.C a x t i):s.Ā (.H a) "reversed":=let %[o,ho,hc|_]:=h;%[0,o,ho|hc]
def aaR (x:ņ)(t:Tok)(hz:x.v<=Ľ):ů (Builtin.«reversed.__new__» %[[.Ä "reversed",.X x t]|[]]) (λ_ R s=>∀k,R (.ok<|.ret<|.H s.n) {s with heap:=s.C.Ï<|Yd x t<|(x.v:Ŀ)-1,toks:=k}):=
 .of_wp λprog w A R s h=>by
  let d:¬(x.v:Ŀ)>=2^63:=by rw[sizeLine_eq]at hz;lia
  unfold Builtin.«reversed.__new__»;refine aa<|hG (newClass_reversed _) ?_
  try dsimp only
  calc aa<|hG (a:=()) (by first|rfl|kernel_rfl) ?_;refine aa<|hG (a:=()) (by first|rfl|kernel_rfl) ?_
  try dsimp only
  refine aa<|i7 (typeIs_str s x t) Vh ?_
  try dsimp only
  let g:=wn.Å;let q:isSubtype (.Ä "str") (.Ä "dict")=pure Ķ:=by rw[isSubtype_type];kernel_rfl
  wp_walk using PySem.P.len_str d
  show%[0,_,rb|h _]
def Jk {x:ņ}(hz:x.v<=Ľ)(h:∀k,Q (.H s.n) {s with heap:=s.C.Ï<|Yd x t<|(x.v:Int)-1,toks:=k}):wpAny (model prog w) A (call (.Ä "reversed") [.X x t]) Q E s:=by calc callType_new called yk (PySem.F.typeCall_reversed_1 _) (PySem.F.newCall_reversed_1 _) (λobj=>F.args_object_init_2 obj _) PySem.F.entry_reversed_new (aaR x t hz) λk=>?_;show%[%[0,_,aI _ rb|rb]|h k]
def next_item {i:ı}{c:ı}{x:ņ}(d:lG s.C it x t (i:Ŀ))(hx:x.ñ[i]?=į c)(hz:x.v<=Ľ)(D:∀h' u k,lG h' it x t ((i:Ŀ)-1)->Heap.ă it s.C h'->Q (į<|.X ⟨#[c]⟩ u) {s with heap:=h',toks:=k}):ĺ (ľ prog w) A (pyNext<|.H it) Q E s:=by
 let(o,g,B,hd):=id d;let hi:i<x.v:=(wP.mp hx).1;let hr:(Ļ ((i:Ŀ) < -(2^63:Ŀ))||Ļ ((i:Ŀ)>=2^63))=Ķ:=by rw[sizeLine_eq]at hz;rw[aw yf,aw yf];rfl
 let q:(seqIndex? (i:Ŀ) x.v).bind (x.ñ[·]?)=į c:=StrLaws.at_nonneg yf (by simpa using hx);unfold pyNext;refine aa (iP (eR (name:=Str.ú "__next__") d.Ċ slot_next
 <|c_ slot_next d.Ċ entry_next ?_<|args_next _))
 unfold Builtin.«reversed.__next__»;refine aa<|hG (a:=(Value.H it,[])) rb ?_
 try dsimp only
 calc aa<|fm g hd (x:=.X x t) rb ?_;calc aa<|fm g hd (x:=ő (i:Ŀ)) rb ?_;show ĺ _ _ (if (i:Ŀ)<0 then _ else _) _ _ s;rw[ķ yf];calc aa<|i7 (typeIs_str s x t) wn.Å ?_;rw[ķ yi];calc aa<|wpAny_mkInt ?_;calc aa<|iP<|PySem.P.getItem_str hr q ?_;dsimp only;calc aa<|fm (s:={s with toks:=s.Ü+1+1}) g hd (x:=ő (i:Ŀ)) rb ?_;show ĺ _ _ (setField (.H it) 1 (ő<|(i:Int)-1) >>= λ_=>ret _) _ _ _;calc aa<|ij (s:={s with toks:=s.Ü+1+1}) g hd yi ?_;calc ag %[0,_,rb|ag<|D _ _ _ ?_<|gh ..];show%[2,_,ej _ g<|jn<|dQ hd _,(pM ..).À B|by
  rw[dQ hd];simp]
def next_end (F:A.ï=Ĵ)(d:lG s.C it x t (-1))(G:∀h',Heap.ExtBut it s.C h'->Q Ĵ {s with heap:=h' }):ĺ (ľ prog w) A (pyNext<|.H it) Q E s:=by
 let(o,g,J,hd):=id d;unfold pyNext;refine aa (iP (eR (name:=Str.ú "__next__") d.Ċ slot_next
 <|c_ slot_next d.Ċ entry_next ?_<|args_next _))
 unfold Builtin.«reversed.__next__»;refine aa<|hG (a:=(Value.H it,[])) rb ?_
 try dsimp only
 calc aa<|fm g hd (x:=.X x t) rb ?_;calc aa<|fm g hd (x:=ő (-1)) rb ?_;show ĺ _ _ (if (-1:Ŀ)<0 then _ else _) _ _ s;rw[Ĺ yk];calc aa<|fA ?_;calc aa ?_;show ĺ _ _ (setField (.H it) 1 (ő<|-1) >>= λ_=>setField (.H it) 0 .Û) _ _ _;calc aa<|ij g hd yi ?_;let q:=dQ hd λfs=>fs.í 1<|ő<|-1;let B:=ej (Obj.mapFields λx=>x.í 1<|ő<|-1) g<|jn<|dQ hd _;calc ij (s:={s with heap:=s.C.ě it<|Obj.mapFields λx=>x.í 1<|ő<|-1}) B q yi ?_;calc aa ?_;show ĺ _ _ (newExc (.Ä "StopIteration") [] >>= _) _ _ _;calc aa ?_;simp only[newExc,newTuple];calc aa<|fg ?_ yz;calc aa (m:=firstArgMember _ _)<|hG (a:=Value.none) (by first|rfl|(simp only[firstArgMember];rfl)) ?_;calc fg ?_ yz;simp only[raiseNew];refine aa<|wS ?_
 first|rw[show A.ė.ï=Ĵ from F]|rw[F]
 calc aa<|ag<|wpAny_throw ?_;calc aa<|hV (T:="StopIteration") (b:=true) %[0,_,aI _ rb|rb] isSubtype_stop ?_;calc ag<|G _ ?_;intro b ob D e;calc af _<|af _ ?_;show(fk _ _<|ib D).À<|(fk _ _<|ib D).À e
def yQ (d:lG s.C it x t i)(h:Q (.H it) s):ĺ (ľ prog w) A (pyIter<|.H it) Q E s:=by calc xh d.Ċ G_<|c_ G_ d.Ċ RX ?_<|Vi _;show ĺ _ _ (ret<|.H it) _ _ s;show ag %[40,_,rb,"reversed",_,d.Ċ,slot_next.Å|h]
def Dg (x:ņ)(i:ı)(v:Ĳ):Prop:=∃c u,x.ñ[x.ñ.E-1-i]?=į c/\v=.X ⟨#[c]⟩ u
def walks {prog:ń}{w:ň}{A:ŉ}(J:A.ï=Ĵ)(I:ĸ)(x:ņ)(t:Tok)(hz:x.v<=Ľ):Ų prog w A I [I] [I] x.ñ.E (Dg x) (λi h=>i<=x.ñ.E/\lG h I x t ((x.ñ.E:Ŀ)-1-(i:Ŀ))) where
 sub:=λ_ q=>q
 frame:=λ_ _ _ st hk=>let %[hi,o,ho|r]:=st;%[11,hi,o,hk I yi o ho|r]
 item:=λi s Q E hi st B=>by
  let e:(x.ñ.E:Ŀ)-1-(i:Ŀ)=((x.ñ.E-1-i:ı):Ŀ):=by grind
  let d:=st.2;rw[e]at d;let hx:x.ñ[x.ñ.E-1-i]?=į (x.ñ[x.ñ.E-1-i]' yf):=b5 yf;calc next_item d hx hz λh' u k g F=>?_;let L:((x.ñ.E-1-i:ı):Ŀ)-1=(x.ñ.E:Ŀ)-1-((i+1:ı):Ŀ):=yf
  rw[L]at g;show B _ h' k %[3,_,_,hx|rb] %[hi|g] λb o q D=>F.ä b o (λh=>q (by simp[h])) D
 done:=λs Q E st B=>by let e:(x.ñ.E:Ŀ)-1-(x.ñ.E:Ŀ)=-1:=yf;let d:=st.2;rw[e]at d;show next_end J d λh' G=>B h' s.Ü λb o q D=>G b o (λh=>q (by simp[h])) D
 self:=λ_ _ _ _ st B=>yQ st.2 B
def hint (g:lG s.C it x t i)(hz:x.v<=Ľ)(hi:i<x.v)(h:∀u k,s.Ü<=k->Q (.M (i+1) u) {s with toks:=k}):ĺ (ľ prog w) A (call (.Ô "reversed.__length_hint__") [.H it]) Q E s:=by
 let d:¬(x.v:Ŀ)>=2^63:=by rw[sizeLine_eq]at hz;lia
 let(o,q,B,hd):=id g;calc c_ yP g.Ċ RW ?_<|Vj _;unfold Builtin.«reversed.__length_hint__»;calc aa<|hG (a:=Value.H it) rb ?_;calc aa<|fm q hd (x:=.X x t) rb ?_;rw[ķ yi];calc aa<|PySem.P.len_str d ?_;calc aa (m:=asInt? _)<|ag ?_;dsimp only;calc aa<|fm (s:={s with toks:=s.Ü+1+1}) q hd (x:=ő i) rb ?_;show ĺ _ _ (if (x.v:Ŀ)<i+1 then _ else _) _ _ _;rw[ķ yf];show ĺ _ _ (retInt<|i+1) _ _ _;show aa<|wpAny_mkInt<|ag %[0,_,rb|h _ _ (by show s.Ü<=s.Ü+1+1+1;lia)]
def Ny (hh:A.ï=Ĵ)(hit:lG s.C I x t ((x.ñ.E:Ŀ)-1))(hz:x.v<=Ľ)(hQ:∀(s':ļ) (d:ł Ĳ),(∀b o,b≠I->s.C.Á b=į o->s'.C.Á b=į o)->s'.gens=s.gens->s'.drawn=s.drawn->s'.os=s.os->Ŧ (Dg x) d x.ñ.E->Q d.I s'):ĺ (ľ prog w) A (collect<|.H I) Q E s:=by
 let W:=(walks (prog:=prog) (w:=w) (A:=A.in1) hh I x t hz).toS;let hI:I<s.n:=by let(o,O,_):=hit;show a6 O
 let L:s.n∉[I]:=λhm=>by rw[<-am.mp hm]at hI;show iO _ hI
 let Z:s.n≠I:=λe=>L (by simp[e]);let fin:∀s' d,Moved [I] (λa b=>b=a) s s'->Ŧ (Dg x) d x.ñ.E->Q d.I s':=λs' d hm ha=>hQ s' d (λb o G e=>hm.C b o (λh=>G<|am.mp h) e) hm.gens hm.drawn hm.os ha
 unfold collect;calc aa<|vT<|gE F.entry_proto_collect ?_;rw[gL F.plain_proto_collect _];show ĺ _ A.ė (newList [] >>= λl=>again (.Ô "list.__iadd__" %[[l,.H I]|[]])) _ _ s;calc aa<|fg ?_;calc ag %[plainId_quiet F.plain_list_iadd _|gE F.entry_list_iadd ?_];rw[gL F.plain_list_iadd _];let g:lG (s.C.Ï {cls:=.Ä "list",data:=.î ([]:İ Ĳ).R}) I x t ((x.ñ.E:Ŀ)-1):=let %[o,O|r]:=hit;%[0,o,af _ O|r]
 let hT:Shared.Ā {s with heap:=s.C.Ï {cls:=.Ä "list",data:=.î ([]:İ Ĳ).R} } (.H I) "reversed":=lG.Ċ (s:={s with heap:=s.C.Ï {cls:=.Ä "list",data:=.î ([]:İ Ĳ).R} }) g;let h1:Builtin.List.listSameRef (.H s.n) (.H I)=Ķ:=by simp[Builtin.List.listSameRef,Z]
 show ĺ _ A.ė (Builtin.List.listExtendWith (.H s.n) (.H I)<|.H s.n) _ _ _;unfold Builtin.List.listExtendWith;calc aa<|uA hT ?_;rw[ķ (by rw[h1];decide)];calc aa<|yQ g ?_;calc aa<|dL ?_;unfold Builtin.List.listLengthHint;calc aa<|i7 hT aex ?_;show ĺ _ A.ė (specialOf (Value.H I) (Str.ú "__length_hint__") >>= _) _ _ _;refine aa<|i7 hT yP.Å ?_
 (generalize J:("reversed.__length_hint__":œ)=id0;(fail_if_success (clear J id0));wp_delta;rw[show splitId id0=į ("reversed","__length_hint__") from by subst J;decide +kernel];subst J)
 calc aa<|hV (b:=true) hT (by rw[isSubtype_type];kernel_rfl) ?_;show ĺ _ A.ė (rule "list.length-hint.hint" >>= _) _ _ _;calc aa<|fA ?_;refine aa<|hG (yP.bind _) ?_
 try dsimp only
 refine aa<|iP<|hint g hz (by show (x.ñ.E:Ŀ)-1<x.ñ.E;lia) λu k hk=>?_
 try dsimp only
 refine aa (m:=asInt? _)<|ag ?_
 try dsimp only
 let e1:(x.ñ.E:Ŀ)-1+1=(x.ñ.E:Ŀ):=yf;rw[e1];let D:x.ñ.E<=Ľ:=hz;rw[ķ (by simp[Builtin.List.listFitsIndex];rw[sizeLine_eq]at D;lia)];rw[ķ yf];rw[ķ (by simp[Builtin.List.listTooLong];show D)];calc ag ?_;let M:(s.C.Ï {cls:=.Ä "list",data:=.î ([]:İ Ĳ).R}).Á s.n=į {cls:=.Ä "list",data:=.î ([]:İ Ĳ).R}:=aI _ rfl;let st0:0<=x.ñ.E/\lG (s.C.Ï {cls:=.Ä "list",data:=.î ([]:İ Ĳ).R}) I x t ((x.ñ.E:Ŀ)-1-((0:ı):Ŀ)):=%[bE _|by simpa using g]
 let Y:s.Ü<=k:=hk;split
 .calc aa<|fA ?_;calc aa ?_;show ĺ _ A.ė (updateSeq s.n (·.Ï .Û) >>= λ_=>updateSeq s.n (·.pop)) _ _ _;calc aa<|rX M rb ?_;let hS₂:=ej (Obj.ē (·.Ï Value.Û)) M rfl;calc rX hS₂ rb ?_;let hS₃:=ej (Obj.ē (·.pop)) hS₂ rfl;let oth:∀b o,b≠s.n->(s.C.Ï {cls:=.Ä "list",data:=.î ([]:İ Ĳ).R}).Á b=į o->
    (((s.C.Ï {cls:=.Ä "list",data:=.î ([]:İ Ĳ).R}).ě s.n (Obj.ē (·.Ï Value.Û))).ě s.n (Obj.ē (·.pop))).Á b=į o:=
   λb o G e=>(fk _ _<|ib G).À<|(fk _ _<|ib G).À e
  refine ag %[plainId_quiet F.plain_extend_loop _|uB W D _ L _ x.ñ.E 0 _ _ _ rb (bE _)
   %[bE _|let %[o,O|r]:=st0.2;%[0,o,oth I o (ib Z) O|r]] hS₃ (ItemsOf.ê _) λs' q c' hm N B=>?_]
  show ĺ _ A (load s.n >>= _) _ _ s';calc aa<|xo N ?_;calc ag<|fin s' q %[λb o G e=>hm.C b o (λz=>?_)<|oth b o (bb<|a6 e)<|af _ e,hm.gens,hm.drawn,hm.os|ap Y hm.Ü] B;rcases a8.mp z with h|h;.show ŀ (a6 e) (by rw[h];show iO _)
  .show G h
 .calc ag %[plainId_quiet F.plain_extend_loop _|uB W D _ L _ x.ñ.E 0 _ _ _ rb (bE _) st0 M (ItemsOf.ê _) λs' q c' hm N B=>?_];show ĺ _ A (load s.n >>= _) _ _ s';calc aa<|xo N ?_;calc ag<|fin s' q %[λb o G e=>hm.C b o (λz=>?_)<|af _ e,hm.gens,hm.drawn,hm.os|ap Y hm.Ü] B;rcases a8.mp z with h|h;.show ŀ (a6 e) (by rw[h];show iO _)
  .show G h
def aaS (h:Ŧ (Dg x) (strValues l).R x.ñ.E):l.L (·.1)=x.ñ.I.â.L λc=>(⟨#[c]⟩:ņ):=by
 let(h1,g):=h;let B:l.v=x.ñ.E:=by
  let e:(strValues l).v=l.v:=by simp[strValues]
  simpa [e] using h1
 calc fi λj=>?_;by_cases d:j<l.v
 .let hv:(strValues l).R[j]?=į (.X l[j].1 l[j].2):=by simp[strValues,d]
  let(c,u,q,e):=g j _ hv;injection e with e1 e2;rw[a_,ae d,a_,ui (by rw[bn];lia)];have:x.ñ.I[x.ñ.I.v-1-j]?=į c:=by simpa using q
  rw[this];simp[e1]
 .rw[b9 (by simp;show iF d),b9 (by simp;simp_all)]
def Ye {x sep:ņ}(hh:A.ï=Ĵ)(D:lG s.C I x t ((x.ñ.E:Ŀ)-1))(hz:x.v+x.v*sep.v<=16777216)(hq:∀s':ļ,(∀b o,b≠I->s.C.Á b=į o->s'.C.Á b=į o)->s'.gens=s.gens->s'.drawn=s.drawn->s'.os=s.os->∀t' k,Q (.X (Txt.join sep<|x.ñ.I.â.L λc=>(⟨#[c]⟩:ņ)) t') {s' with toks:=k}):ĺ (ľ prog w) A (call (.Ô "str.join") [.X sep u,.H I]) Q E s:=by
 let hsz:x.v<=Ľ:=by rw[sizeLine_eq];lia
 calc sM<|nS F.slot_str_join.plain F.entry_str_join<|F.slot_str_join.check _ _ _ _ _ _ _ _ (typeIs_str _ _ _) (F.args_str_join_2 _ _) ?_;rw[join_tree_other];calc aa<|uA D.Ċ ?_;show ĺ _ A.ė ((pyIter<|.H I).tryCatch _ >>= λit=>collect it >>= λG=>joinTail sep G) _ _ s;calc aa<|wpAny_tryCatch<|yQ D ?_;calc aa<|Ny hh D hsz λs' L h1 h2 h3 Z d=>?_;let(l,N):=exists_strValues L.I λv hv=>by let(j,Y,rfl):=Array.mem_iff_getElem.mp (qB.mp hv);let(c,u,_,e):=d.2 j _ (b5 Y);show%[10,_,_|e]
 rw[<-N];let B:Ŧ (Dg x) (strValues l).R x.ñ.E:=by rw[N];simpa using d
 let O:=aaS B;let hok:=joinOk_of (sep:=sep) (ys:=l.L (·.1)) (by
  rw[O,ab,gm,bn];let e:((x.ñ.I.â.L λc=>(⟨#[c]⟩:ņ)).L (·.v)).sum=x.ñ.E:=by
   rw[c8];have:((λy:ņ=>y.v) ∘ λc=>(⟨#[c]⟩:ņ))=λ_=>1:=rfl;rw[this];let M:∀l:İ ı,(l.L λ_=>1).sum=l.v:=λl=>by
    induction l with| nil=>rfl| cons a r ih=>rw[bS,List.sum_cons,ih,bv];lia
   rw[M,gm,bn]
  rw[e];show hz)
 unfold JoinOk at hok;rw[Bool.not_eq_true']at hok;let g:Gives (joinTail sep<|strValues l) (joinMade sep l):=by
  let J:=gives_joinTail sep l hok;cases l with
  | nil=>show J
  | cons p r=>cases r with| nil=>show J| cons q r'=>show J
 calc g prog w A (wants Q E) s'<|post_join l %[joinFit_length hok|λt' k=>?_];rw[O];show hq s' h1 h2 h3 Z t' k
end
end RV
section
variable {X:Cx}{o e:ŋ}{to te:TE}{apos cpos rpos p:Pos}
def Yg (to te:TE):TE:=λT H Q=>to T H λx H1=>x=.X (S [])/\te T H1 λy H2=>∃l,y=.X (S l)/\l.v<=1000/\∀H',aB H2 H'->Q (.X<|S l.â) H'
def RZ (hc:X.ĭ=ĳ)(M:QE X o to)(hg:Gl X "reversed")(hm:X.mg "reversed"=Ĵ)(L:QE X e te)(d:Ŷ (attributeBase o "join" X.Ê (ŏ o X.Ê)=ŏ o X.Ê) ŷ)(B:Ŷ (((backTo cpos<|starEach [.ġ (.è "reversed" p) [e] [] rpos] X.Ê).ĝ (λx=>!x.1)&&(backToKw cpos<|keywordEach [] X.Ê).ĝ (λx=>x.1.č)
   && Ļ (([.ġ (.è "reversed" p) [e] [] rpos]:İ ŋ).v+([]:İ ŕ).v+(if ([]:İ ŕ).ę then 0 else 1)<30))=ĳ) ŷ) (g:Ŷ ((apos.endLine==cpos.line)=ĳ) ŷ) (hs:Ŷ (Ņ [e] X.Ê=[(Ķ,ŏ e X.Ê)]) ŷ):QE X (.ġ (.Ą o "join" apos) [.ġ (.è "reversed" p) [e] [] rpos] [] cpos) (Yg to te):=⟨by
 intro ao s T H Q I h;calc tq d B g rb<|bD (M.Ý ao s T H _ I h) λv s1 F=>?_;let(x,H1,I1,r1,ex,q1):=F;subst ex;let(t,rfl):=r1;calc⟨23,"str","str.join",cw,fE,fF,typeIs_str s1 _ t,(λ_ z=>nomatch z),?_⟩;calc iX rb<|nN ?_;show ĺ _ _ (spliced [(Ķ,ŏ (.ġ (.è "reversed" p) [e] [] rpos) X.Ê)]) _ _ s1;calc fT ?_;calc kH<|mF I1 hg hm PyProof.ô.boot_reversed ?_ yk yk;calc gr (bD (Fl L.Ý UJ hs rpos ao s1 T H1 (λvs H2=>match vs with|[y]=>∃l,y=.X (S l)/\l.v<=1000/\∀H',aB H2 H'->Q (.X<|S l.â) H'|_=>False) I1 q1) λus s2 F=>?_) hs rfl;let(vs,H2,I2,r2,q2):=F;obtain⟨y,rfl⟩:∃y,vs=[y]:=by
  match vs,q2 with| [y],_=>show%[y|rb]
 let(l,O,hl,q):=q2;subst O;let(u,rfl,ru):=vals1 r2;let(N,rfl):=ru;let hz:(S l).v<=Ľ:=ay<|aH hl;calc RV.Jk hz λk=>?_;let I3:aL X ao T H2 {s2 with heap:=s2.C.Ï<|RV.Yd (S l) N<|((S l).v:Int)-1,toks:=k}:=I2.Ħ λb ob z=>af _ z;let fp:=I2.mz (b:=s2.heap.objs.size) (ai _) I2.à;calc lL ?_;calc RV.Ye (I.ok.hd hc) %[2,_,aI _ rb,rb|rb] (by rw[iI,iI];simp;show hz) λD k1 J k3 G t' k'=>?_;let I4:aL X ao T H2 {D with toks:=k' }:=by let(Y,Z,f2,f3,f4,f5):=fp;let I5:=I3.ħ (h':=D.heap) (t':=k') (it:=s2.heap.objs.size) (λb ob hb z=>k1 b ob hb z) Y Z f3 f4 f5;let(h',g',d',t'',o'):=D;simp only at J k3 G;subst J k3 G;show I5
 let e:Txt.join (S []) ((S l).ñ.I.â.L λc=>(⟨#[c]⟩:ņ))=S l.â:=by
  have:=Fp<|l.â.L λc=>[c];rw[c8]at this;rw[JF];calc Eq.À this ?_;congr 1;generalize l.reverse=m
  induction m with| nil=>rfl| cons c r ih=>rw[bS,eC,ih];rfl
 show%[1,.X<|S l.â,H2,I4,%[t'|congrArg (λz=>Value.X z t') e]|q H2<|aB.Č _]⟩
end
def QW.qt (h:QW X e t):QT X e t:=⟨h.Ý.pt⟩
section
variable {X:Cx}{tg:ŋ}
def c7 (hp:Ū (ľ X.Ñ X.w) X.A X.Ê X.xe)(B:X.ĭ=ĳ)(hi:QI X tg iter wi)(q:QG X tg g)(d:vq X body tb)(hs:Ŷ (∀x,foldedSetIterable iter X.Ê x=pure x) ź):QS X (.For tg iter body [] pos) (acy wi g tb):=⟨acz hp B hi.Ý q.Ý d.Ý hs⟩
end
section
variable {X:Cx}{pos:Pos}
def bL (N:X.N.Ö)(hi:X.N[i]?=į x)(hx:Loc X.Ê.ċ x)(hf:Ŷ (X.fn x=ĳ\/X.Ê.ċ.Þ.Å x=į .ā) Ż):QG X (.è x pos) (nW i):=⟨o9 N hi hx hf⟩
def mK {es:İ ŋ}{k:ı}{t:GZ}{n:ı}(g:X.ĭ=ĳ)(h:Z_ X es t)(hn:Ŷ ((assignEach es X.Ê).v=n) ŷ)(d:Ŷ ((assignEach es X.Ê).findIdx? (·.1)=Ĵ) ŷ):QG X (.Ě es k pos) (Ro X.K n t):=⟨J3 g h.Ý hn d⟩
def jV  : Z_ X [] Rn:=⟨Fi⟩
def cM (h1:QG X e t)(d:Z_ X es u)(hs:Ŷ ((assignEach (e::es) X.Ê).L (·.2)=assign e X.Ê::(assignEach es X.Ê).L (·.2)) ŷ):Z_ X (e::es) (wz t u):=⟨o_ h1.Ý d.Ý hs⟩
end
section
variable {X:Cx}{e:ŋ}{es:İ ŋ}{te:TE}{t:TA}
def aF {i j pos}:QE X (.Ć (.M i) j pos) (tC<|.M i):=⟨Uq⟩
def aA  : QA X [] kJ:=⟨UJ⟩
def ak (ha:QE X e te)(hr:QA X es t)(hs:Ŷ (Ņ (e::es) X.Ê=(Ķ,ŏ e X.Ê)::Ņ es X.Ê) ŷ):QA X (e::es) (dM te t):=⟨Fl ha.Ý hr.Ý hs⟩
def qv (i:ı){x:ņ}{pos:Pos}(N:Ŷ (X.N[i]?=į x) ŷ)(hv:Ŷ (Ul X.Ê.ċ x) ž)(hd:Ŷ ((x==("__debug__":ņ))=Ķ) Ÿ)(d:Ŷ ((x==("__classdict__":ņ))=Ķ) Ÿ):QE X (.è x pos) (cT i):=⟨pv i N hv hd d⟩
def aG {X:Cx}{x:ņ}{pos:Pos}:=@qv X 0 x pos
def aU {X:Cx}{x:ņ}{pos:Pos}:=@qv X 1 x pos
def bw {X:Cx}{x:ņ}{pos:Pos}:=@qv X 2 x pos
def bO {X:Cx}{x:ņ}{pos:Pos}:=@qv X 3 x pos
def cD {X:Cx}{x:ņ}{pos:Pos}:=@qv X 4 x pos
def cV {X:Cx}{x:ņ}{pos:Pos}:=@qv X 5 x pos
def fj {X:Cx}{x:ņ}{pos:Pos}:=@qv X 6 x pos
def iJ {X:Cx}{x:ņ}{pos:Pos}:=@qv X 7 x pos
def jl {X:Cx}{x:ņ}{pos:Pos}:=@qv X 8 x pos
def rA {X:Cx}{x:ņ}{pos:Pos}:=@qv X 9 x pos
def bU (l){j pos}(h:x=S l):QE X (.Ć (.X x) j pos) (tC<|.X<|S l):=⟨aaN l h⟩
end
def rfg {as:İ ĸ}{n:ı}{x:V}(h:(as.L V.H)[n]?=į x):∃h:n<as.v,V.H as[n]=x:=by
 let hn:n<as.v:=by have:=(al.mp h).1;simpa using this
 rw[a_,ae hn]at h;show%[hn|bo h]
def q_.cH {K:W.Ì}{mg:ņ->ĵ Ĳ}{name:ņ}{st:Ŋ}{N ps:İ ņ}{k:ı}{sp:Sp}(D:q_ K mg name st ps)(S:aV N ps (aJ st))(d:∀(f:ĸ) (bA:Ĳ) (A:ŉ) (outer:İ Env) (s:ļ) (H:Hp) (vs:İ V) (Q:VK) (E:XK),eE k (A.deeper<|envOfC name (aJ st) s.n f bA)->sp vs H Q E->
   ∃t,vq (rZ ug P w K mg base N name (aJ st) f bA A outer s H E).GX (eV st) t/\t {nx:=λ_ H'=>Q .đ H',rt:=Q} (start N vs) H) (len:Ŷ (∀vs H Q E,sp vs H Q E->vs.v=ps.v) ſ):Df P w K mg base name (k+1) ps sp:=
 D.ok S len λf bA A outer s H vs Q E hr h=>let %[t,a|b]:=d f bA A outer s H vs Q E hr h;%[0,t,a.Ý|b]
def vG.cH {K:W.Ì}{mg:ņ->ĵ Ĳ}{x qual:ņ}{st:Ŋ}{N ps:İ ņ}{k:ı}{sp:Sp}(F:vG K x qual st f fd)(S:aV N ps (aJ st))(d:∀(bA:Ĳ) (A:ŉ) (outer:İ Env) (s:ļ) (H:Hp) (vs:İ V) (Q:VK) (E:XK),eE k (A.deeper<|envOfC qual (aJ st) s.n f bA)->sp vs H Q E->
   ∃t,vq (rZ ug P w K mg base N qual (aJ st) f bA A outer s H E).GX (eV st) t/\t {nx:=λ_ H'=>Q .đ H',rt:=Q} (start N vs) H) (len:Ŷ (∀vs H Q E,sp vs H Q E->vs.v=ps.v) ſ):jY P w K mg base ug (k+1) f fd ps sp:=
 F.ok S len λbA A outer s H vs Q E hr h=>let %[t,a|b]:=d bA A outer s H vs Q E hr h;%[0,t,a.Ý|b]
section
variable {prog:ń}{w:ň}{A:ŉ}{E:AB}{s:ļ}
def Dh (J:ĺ (ľ prog w) A.ė (collect v) (λvs s1=>∃ss,Ř vs ss/\vs.v<64/\
   ∀(h':Ň) (g:İ Ĳ) (d:İ ņ) (e:ı),(∀b o,s1.C.Á b=į o->h'.Á b=į o)->h'.Á s1.n=į (seqObj "list" g.R e)->Ř g d->d.ò ss->sortedS d=ĳ->
    Q (.H s1.n) {s1 with heap:=h' }) E s):ĺ (ľ prog w) A (call (.Ô "sorted") [v]) Q E s:=by
 calc r0 kind_sorted plain_sorted entry_sorted (args_sorted1 _) ?_;unfold Builtin.«sorted»;calc aa (m:=checkCount "sorted" 1 1 _)<|ag ?_;calc aa<|bD J λvs s1 ⟨ss,q,B,h⟩=>?_;calc aa<|tI ?_;let L:(s1.C.Ï<|seqObj "list" vs.R 0).Á s1.n=į (seqObj "list" vs.R 0):=aI _ rfl;refine aa (dL (c_ slot_list_sort (s:={s1 with heap:=s1.C.Ï<|seqObj "list" vs.R 0}) %[0,_,L|rb] entry_list_sort
  (list_sort_treeK (s:={s1 with heap:=s1.C.Ï<|seqObj "list" vs.R 0}) strKind_oneLt L q.keysOf (λN O rest e=>keyKind_strs (by rw[<-e];show q)) B λst' hp hs=>%[0,_,rb|?_])<|args_list_sort _))
 let(d,h1,M,G):=sorted_out_str q hp hs;let(e,F):=sortedHeap_at (vs:=vs) (out:=(arrOf st').L (·.2)) L;calc ag %[0,_,rb|h _ ((arrOf st').L (·.2)).I d e (λb o z=>?_) (by rw[uC];show F) h1 M G];let D:b<s1.n:=a6 z;rw[sortedHeap_old (bb D) (by rw[eS];show fh D)];show af _ z
end
def Yh (h:Ŧ (SignAt x) vs x.ñ.E):Ř vs.I (x.ñ.I.L λc=>(⟨#[c]⟩:ņ)):=by
 let q:∀(l:İ Ĳ) (m:İ ı),l.v=m.v->(∀(j:ı) v,l[j]?=į v->∃c u,m[j]?=į c/\v=.X ⟨#[c]⟩ u)->Ř l (m.L λc=>(⟨#[c]⟩:ņ)):=by
  intro l
  induction l with
  | nil=>
   intro m d _;cases m with| nil=>show .ê| cons c r=>simp at d
  | cons a r ih=>
   intro m d hv;cases m with
   | nil=>simp at d
   | cons c m=>
    let(c',u,e,rfl):=hv 0 a rfl;let e':c=c':=by simpa using e
    subst e';show .á _ u<|ih m (by simpa using d) λj v g=>hv (j+1) v g
 calc q _ _ (by simpa using h.1) λj v g=>?_;let(c,u,B,D):=h.2 j v (by simpa using g);show%[3,c,u,by simpa using B|D]
section
variable {X:Cx}
def sJ:∀{ss:İ ņ} {us:İ Ĳ},Ř us ss->Vals (ss.L V.X) us:=by
 intro _ _ h
 induction h with| nil=>show .ê| cons x t r ih=>show .á %[t|rb] ih
def acS:İ V->Hp->VK->Prop:=λxs H Q=>∃l,xs=[.X (S l)]/\l.v<64/\∀(p:ĸ) (d:İ ı),H p=Ĵ->d.ò l->Q (.H p) (upd H p<|.Æ<|Ts<|d.L λc=>[c])
def Kp (O:X.ĭ=ĳ):fM X (.Ô "sorted") acS:=by
 intro ao s T H xs us Q I r h;let(l,rfl,D,q):=h;let(u,rfl,ru):=vals1 r;let(t,rfl):=ru;let hz:(S l).ñ.E<=Ľ:=by show l.v<=Ľ;show ay<|aH yf
 calc Dh<|wpAny_collect_str (A:=X.A.in1) (I.ok.hd O) (S l) t (λs1 M k1 L k3 J g=>?_) hz;let Y:=Yh g;calc%[2,_,Y,?_|λh' B d e kk N F pm _=>?_];.rw[bn,g.1];show D
 let I1:aL X ao T H s1:=by let Z:=I.Ħ (h':=s1.heap) (t':=s1.toks) k1;let(h',g',d',t'',o'):=s1;simp only at L k3 J;subst L k3 J;show Z
 let G:(d.L λy=>y.ñ.I.headD 0).ò l:=by have:=pm.L λy:ņ=>y.ñ.I.headD 0;rw[c8]at this;let e:((λy:ņ=>y.ñ.I.headD 0) ∘ λc=>(⟨#[c]⟩:ņ))=id:=rfl;rw[e,kF,JF]at this;show this
 let es:d=(d.L λy=>y.ñ.I.headD 0).L λc=>(⟨#[c]⟩:ņ):=by rw[c8];calc(kF _).Ð.À<|d6 λy hy=>?_;let(c,_,rfl):=a5.mp (pm.æ.mp hy);rfl
 let hn:H s1.n=Ĵ:=I1.à;let hv:Vals (Ts<|(d.L λy=>y.ñ.I.headD 0).L λc=>[c]) B:=by have:=sJ F;rw[es]at this;simpa [Ts,S,xi] using this
 let hl:(Ts<|(d.L λy=>y.ñ.I.headD 0).L λc=>[c]).v<=Ľ:=by rw[ab,ab,G.length_eq];show ay<|aH yf
 refine%[1,.H s1.n,_,I1.ģ (o:=.Æ _) (t':=s1.toks) kk (ai _) %[19,hl,B,e,hv|N],rb|q _ _ hn G]
end
def Its (l:İ ı):It:=%[λi _=>i<l.v,λi H x H'=>H'=H/\∃c,l[i]?=į c/\x=.X (S [c])|λi _=>l.v<=i]
def Yi {P:ń}{w:ň}{K:W.Ì}{tg:ŋ}{ty:œ}(g:ty="str_ascii_iterator"\/ty="str_iterator")(l:İ ı)(t:Tok)(it:ĸ):Turn P w K tg (Its l) [it] it (λi h=>i<=l.v/\h.Ģ it ty (S l) t i) where
 mem:=by simp
 obj:=λi h st b q=>by
  let e:b=it:=by simpa using q
  subst e;let(_,o,e,c,d):=st;show%[0,o,e|λv z=>by rw[d]at z;cases z]
 keep:=λi h h' st k=>%[st.1|let %[o,ho|r]:=st.2;%[0,o,k it yi o ho|r]]
 item:=by
  intro X hP hw hK D i ao s T H E I hf st J;subst hP hw hK;let(O,Y,f2,M,L,N):=hf it yi;let G:i<(S l).ñ.E:=J;let F:∀(v:Ĳ) (h':Ň) (tk:ı),SignAt (S l) i v->h'.Ģ it ty (S l) t (i+1)->(∀b o,b∉[it]->s.C.Á b=į o->h'.Á b=į o)->
    ∃u,į v=į u/\ĺ (ľ X.Ñ X.w) X.A (letOwnedTupleGo tg (.H it) u) (λ_ s2=>∃x H',aL X ao T H' s2/\bH x u/\(Its l).Aw i H x H'/\(i+1<=l.v/\s2.C.Ģ it ty (S l) t (i+1))/\∀b∈[it],H' b=Ĵ) E {s with heap:=h',toks:=tk}:=by
   intro v h' tk hv st' B;let(c,u,Z,rfl):=hv;let I1:aL X ao T H {s with heap:=h',toks:=tk}:=I.ħ (λb o q e=>B b o (by simpa using q) e) O Y M L N;let(o,e,c2,d2):=id st';refine%[0,_,rb|CV (s:={s with heap:=h',toks:=tk}) e c2 d2 (by rcases g with rfl|rfl <;> decide) %[6,.X<|S [c],H,I1,%[u|rb],%[11,rb,c,by simpa [S] using Z|rb],%[J|st']|λb q=>(hf b q).1]]
  rcases g with rfl|rfl;.show(Walks.strAscii (prog:=X.prog) (w:=X.w) (I.ok.hd D) it (S l) t).item i s _ _ G st.2 λv h' tk hv st' B=>F v h' tk hv st' B
  .show(Walks.strWide (prog:=X.prog) (w:=X.w) (I.ok.hd D) it (S l) t).item i s _ _ G st.2 λv h' tk hv st' B=>F v h' tk hv st' B
 done:=by
  intro X hP hw hK D i ao s T H E I hf st J;subst hP hw hK;let(O,Y,f2,M,L,N):=hf it yi;let hi:i=(S l).ñ.E:=mP st.1 J;let st':=st.2;rw[hi]at st';rcases g with rfl|rfl
  .show(Walks.strAscii (prog:=X.prog) (w:=X.w) (I.ok.hd D) it (S l) t).done s _ _ st' λh' tk B=>%[rb|I.ħ (λb o q e=>B b o (by simpa using q) e) O Y M L N]
  .show(Walks.strWide (prog:=X.prog) (w:=X.w) (I.ok.hd D) it (S l) t).done s _ _ st' λh' tk B=>%[rb|I.ħ (λb o q e=>B b o (by simpa using q) e) O Y M L N]
 self:=λA i s Q E st h=>by
  rcases g with rfl|rfl;.show wpAny_pyIter_striter_ascii st.2 h
  .show wpAny_pyIter_striter_wide st.2 h
def Vl {a b c:İ ı}(h1:¬b<a)(q:¬c<b):¬c<a:=by let g:a<=b:=h1;let d:b<=c:=q;show List.le_trans g d
theorem Hf:∀(r:İ ņ) (p:ņ),risingS p r=ĳ->(∀x∈r,¬x.ñ.I<p.ñ.I)/\(r.L λy=>y.ñ.I).Ã (λa b=>Ļ (b<a)=Ķ)
 | [],_,_=>%[λ_ h=>by simp at h|List.Ã.ê]
 | y::r,p,h=>by
  rw[risingS,dP]at h;let d:¬y.ñ.I<p.ñ.I:=by have:=h.1;simpa [ltCps_eq] using this
  let(h1,q):=Hf r y h.2;refine%[λx hx=>?_|?_]
  .rcases a8.mp hx with e|e;.rw[e];show d
   .show Vl d<|h1 x e
  .rw[bS];calc List.Ã.á (λb g=>?_) q;let(x,hx,rfl):=a5.mp g;show aw<|h1 x hx
def Hg (ss)(h:sortedS ss=ĳ):(ss.L λy=>y.ñ.I).Ã (λa b=>Ļ (b<a)=Ķ):=by
 cases ss with| nil=>show List.Ã.ê| cons x r=>let(h1,g):=Hf r x h;rw[bS];calc List.Ã.á (λb d=>?_) g;let(y,q,rfl):=a5.mp d;show aw<|h1 y q
section
variable {X:Cx}{tg:ŋ}
def afA (tl:TE):TI:=λT H R=>tl T H λx H1=>∃l,x=.X (S l)/\R (Its l) H1
def yR (g:QE X l tl):QI X tg l (afA tl):=⟨by
 intro ao s T H R I h;calc bD (g.Ý ao s T H _ I h) λv s1 D=>?_;let(x,H1,I1,r1,q1):=D;let(l,e,q):=q1;subst e;let(t,rfl):=r1;calc pT ?_;let d:strIterType (S l)="str_ascii_iterator"\/strIterType (S l)="str_iterator":=by unfold strIterType;split <;> simp
 calc%[12,s1.n,[s1.n],_,_,H1,rb,I1.Ħ (t':=s1.toks) λb o e=>af _ e,Yi d l t _,%[25,bE _,_,aI _ rb,rb|rb],λb B=>?_|q];let e:b=s1.n:=by simpa using B
 subst e;show I1.mz (ai _)<|I1.ð.à<|ai _⟩
def wL {l:İ ı}{D:ĸ}{te:TE}{T:St}{H:Hp}{R:Hp->Prop}(d:ı->İ V->Hp->Prop)(q:d 0 [] (upd H D<|.Æ []))(hs:∀i c ys H,l[i]?=į c->d i ys H->te (į (.X<|S [c])::T) H (Bw l.v i D ys<|d<|i+1))(hd:∀ys H,d l.v ys H->R H):sy (Its l) D H R (Kh T jt te):=Fo l.v d q (λi ys H h p=>%[h|λx H' y=>by let(rfl,c,g,rfl):=y;show hs i c ys _ g p]) λys H p=>%[ai _|hd ys H p]
def nH (N:X.ĭ=ĳ):fM X (.Ô "all") (λxs H Q=>∃(p:Addr) (bs:İ ō),xs=[.H p]/\aP X.K H p (bs.L V.bl)/\Q (.bl<|bs.ĝ id) H):=by
 intro ao s T H xs us Q I r h;let(p,bs,rfl,Z,q):=h;let(u,rfl,B):=vals1 r;cases B;let(its,F,pl,hz):=I.ğ Z;let J:p≠s.n:=by let(o,M,_):=pl.ÿ;show bb<|a6 M
 let O:∀(i:ı) (v:Ĳ),its[i]?=į v->v=.Ă (bs.Î i ĳ):=λi v hv=>by
  let d:=F.v;let hi:i<bs.v:=by have:=(al.mp hv).1;simp at d;simp_all
  let(u,L,B):=F.get (i:=i) (x:=.bl bs[i]) (by simp[hi]);rw[hv]at L;cases L;cases B;simp[List.getD,hi]
 calc call_all_walk<|nE pl.ÿ ?_;refine%[60,s.n,_,_,_,_,_,λi=>bs.Î i ĳ,rb,Walks.ğ (A:=X.A.in1) (I.ok.hd N) s.n p J its.R,%[%[2,_,aI _ rb,rb|rb]|pl.ÿ.at λo e=>af _ e],?_|λh' tk Y=>?_]
 .intro i v s' Q' E' hv g;let e:=O i v (by simpa using hv);subst e;show eM g
 .let I1:aL X ao T H {s with heap:=h',toks:=tk}:=I.Ħ λb o e=>Y b o (by
   intro hm;have:b=s.n:=by simpa using hm
   subst this;show ŀ (a6 e)<|iO _)<|af _ e
  calc%[1,.bl<|bs.ĝ id,H,I1,?_|q];show Value.Ă _=Value.Ă _;let d:its.R.E=bs.v:=by have:=F.v;simp at this;simp[this]
  rw[d];congr 1;let D:∀bs:İ ō,(List.å bs.v).ĝ (λi=>bs.Î i ĳ)=bs.ĝ id:=λbs=>by
   rw[mM,iE,iE];constructor
   .intro h x hx;let(i,hi,rfl):=cn.mp hx;have:=h i<|b3.Ù hi;simpa [List.getD,hi] using this
   .intro h i hi;let G:=b3.mp hi;have:=h bs[i]<|be _;simpa [List.getD,G] using this
  show D bs
def Yj:R2:=λx y H Q=>∃i j,x=.X (S i)/\y=.X (S j)/\Q (.bl<|!Ļ (j<i)) H
def vI:fL X (compareOp .LtE) Yj:=by intro ao s T H x y v u Q I g d h;let(i,j,rfl,rfl,q):=h;let(t,rfl):=g;let(t',rfl):=d;show x9 %[1,.bl _,H,I,rb|q]
abbrev bM (l:İ ı):Key:=Sum.Ò (S l)
def Kq (hc:X.ĭ=ĳ):fM X (.Ô "sorted") (λxs H Q=>∃(d:Addr) (kvs:İ (Key×V)) (ws:AA),xs=[.H d]/\H d=į (.dK kvs)/\kvs.L (·.1)=ws.L bM/\ws.v<64/\
  ∀(p:ĸ) (F:AA),H p=Ĵ->F.ò ws->F.Ã (λa b=>Ļ (b<a)=Ķ)->Q (.H p) (upd H p<|.Æ<|Ts F)):=by
 intro ao s T H xs us Q I r h;let(d,kvs,ws,rfl,hd,hk,h64,q):=h;let(u,rfl,ru):=vals1 r;cases ru;let(hz,lo,vs,L,dd):=RL I.ð hd;let(ep,hat):=dd.dictAt;let Y:=KV.keys L;let O:vs.v=ws.v:=by let h1:=KV.v L;let h2:=Ő List.v hk;simp at h2;lia
 calc Dh<|W.kdu_collect (A:=X.A.in1) (W.kdl_dict (knd:=cG X.Ñ X.w) (kvs:=vs) (ep:=ep) lo) (I.ok.hd hc) hat (by rw[O];show ay<|aH yf) λh' tk N kk D=>?_;let hS:Ř N.I (ws.L S):=by
  let key:∀(l:İ Ĳ) (m:AA),l.v=m.v->(∀(j:ı) v,l[j]?=į v->∃c,m[j]?=į c/\∃u,v=.X (S c) u)->Ř l (m.L S):=by
   intro l
   induction l with
   | nil=>intro m G _;cases m with|nil=>show .ê|cons c r=>simp at G
   | cons a r ih=>
    intro m G hv;cases m with
    | nil=>simp at G
    | cons c m=>
     let(c',e,u,rfl):=hv 0 a rfl;let e':c=c':=by simpa using e
     subst e';show .á _ u<|ih m (by simpa using G) λj v hj=>hv (j+1) v hj
  calc key _ _ (by rw[bn,D.1,O]) λj v hj=>?_;let(k,x,hx,hi):=D.2 j v (by simpa using hj);let B:(ws.L bM)[j]?=į k:=by rw[<-hk,Y,a_,hx];rfl
  rw[a_]at B;cases hw:ws[j]? with
  | none=>rw[hw]at B;cases B
  | some c=>
   rw[hw]at B;let e:bM c=k:=by simpa using B
   subst e;calc%[0,c,rb|?_];rcases dj (show ji (Sum.Ò<|S c) v=ĳ from hi) with⟨i,t,M,_⟩|⟨y,t,M,e2⟩;.cases M
   .cases M;show%[t|e2]
 let I1:aL X ao T H {s with heap:=h',toks:=tk}:=I.Ħ kk;calc%[2,_,hS,by rw[bn,D.1,O];show h64|λh2 J g e k2 he Z pm so=>?_];let es:g=(g.L λy=>y.ñ.I).L S:=by rw[c8];calc(kF _).Ð.À<|d6 λy _=>?_;show(acQ y).Ð
 let qj:(g.L λy=>y.ñ.I).ò ws:=by have:=pm.L λy:ņ=>y.ñ.I;rw[c8]at this;let e:((λy:ņ=>y.ñ.I) ∘ S)=id:=rfl;rw[e,kF]at this;show this
 let hv:Vals (Ts<|g.L λy=>y.ñ.I) J:=by have:=sJ Z;rw[es]at this;simpa [Ts,xi] using this
 let G:(Ts<|g.L λy=>y.ñ.I).v<=Ľ:=by rw[ab,qj.length_eq];show ay<|aH yf
 refine%[1,.H h'.Q.E,_,I1.ģ (o:=.Æ _) (t':=tk) k2 (ai _) %[19,G,J,e,hv|he],rb|q _ _ I1.à qj<|Hg g so]
def QI.or (h1:QI X tg iter w1)(d:QI X tg iter w2):QI X tg iter (λT H R=>w1 T H R\/w2 T H R):=⟨λao s T H R I h=>by
 rcases h with h|h;.show h1.Ý ao s T H R I h
 .show d.Ý ao s T H R I h⟩
end
def aP.keep {K:W.Ì}{xs:İ V}(k:∀b o,H b=į o->b≠p->H' b=į o)(hp:∀o,H p=į o->(∀ys,o≠.Æ ys)/\∀u ys,o≠.iu u (.Æ ys))(h:aP K H a xs):aP K H' a xs:=by
 rcases h with(h|⟨o,h⟩)|h;.show .Â<|.Â<|k _ _ h λe=>(hp _<|e ▸ h).1 _ rb
 .show .Â<|.Ò %[o|k _ _ h λe=>(hp _<|e ▸ h).2 _ _ rb]
 .show .Ò h
def bf.keep {K:W.Ì}{xs:İ V}(k:∀b o,H b=į o->b≠p->H' b=į o)(hp:∀o,H p=į o->(∀ys,o≠.Ç ys)/\∀u ys,o≠.iu u (.Ç ys))(h:bf K H a xs):bf K H' a xs:=by
 rcases h with(h|⟨o,h⟩)|h;.show .Â<|.Â<|k _ _ h λe=>(hp _<|e ▸ h).1 _ rb
 .show .Â<|.Ò %[o|k _ _ h λe=>(hp _<|e ▸ h).2 _ _ rb]
 .show .Ò h
section
variable {X:Cx}
def afB:V->İ V->Hp->VK->Prop:=λx vs H Q=>∃l,x=.X (S l)/\vs=[]/\l.v<=1000/\(∀c∈l,c<128)/\Q (.X<|S<|l.L up1) H
def acT:Az X "str.upper" afB:=by
 intro ao s T H x vs v us Q I B D h;let(l,rfl,rfl,hz,ha,q):=h;let(t,rfl):=B;let g:=D.zero;subst g;let d:Builtin.Str.tooLong (Txt.upper<|S l).v=Ķ:=fit_upper (by rw[iI];lia);calc call_gives F.slot_str_upper (typeIs_str s _ t) F.entry_str_upper (F.args_str_upper_1 _) (gives_str_upper (S l) t d) %[fit_le d|?_];let e:Txt.upper (S l)=S (l.L up1):=by rw[upper_ascii (x:=S l) ha];simp[S]
 show%[1,.X<|S<|l.L up1,H,I.tok _,%[s.Ü|congrArg (λz=>Value.X z s.Ü) e]|q]
def afC:V->İ V->Hp->VK->Prop:=λx vs H Q=>∃l,x=.X (S l)/\vs=[]/\l.v<=1000/\(∀c∈l,c<128)/\Q (.X<|S<|l.L lo1) H
def Di:Az X "str.lower" afC:=by
 intro ao s T H x vs v us Q I B D h;let(l,rfl,rfl,hz,ha,q):=h;let(t,rfl):=B;let g:=D.zero;subst g;let d:Builtin.Str.tooLong (Txt.lower<|S l).v=Ķ:=fit_lower (by rw[iI];lia);calc call_gives F.slot_str_lower (typeIs_str s _ t) F.entry_str_lower (F.args_str_lower_1 _) (gives_str_lower (S l) t d) %[fit_le d|?_];let e:Txt.lower (S l)=S (l.L lo1):=by rw[lower_ascii (x:=S l) ha];simp[S]
 show%[1,.X<|S<|l.L lo1,H,I.tok _,%[s.Ü|congrArg (λz=>Value.X z s.Ü) e]|q]
end
def Pk {I:Type}{xs:İ I}(hn:xs.v=n)(h:0<n)(c):∃v,lV xs (c%(n:Ŀ))=į v/\v∈xs:=by
 let g:0<=c%(n:Ŀ):=i8 _ yf;let h1:c%(n:Ŀ)<n:=f6 _<|ii fv h;obtain⟨k,hk⟩:∃k:Nat,c%(n:Ŀ)=(k:Ŀ):=%[(c%(n:Ŀ)).Õ|yf]
 rw[hk];let d:k<xs.v:=by simp_all
 show%[0,xs[k],bh (by simp[d])|be _]
inductive Dt where
 | non|int (i:Ŀ)|str (l:İ ı)|tup (ds:İ Dt)|lst (ds:İ Dt)
mutual
def toP:Dt->Ś
 | .đ=>.Û
 | .M i=>.M i
 | .X l=>.X (S l)
 | .Ç ds=>.Ĕ (cW ds)
 | .Æ ds=>.ğ (cW ds)
def cW:İ Dt->İ Ś
 | []=>[]
 | d::ds=>toP d::cW ds
end
mutual
theorem wM:∀d e:Dt,PyData.eqv (toP d) (toP e)=ĳ↔d=e
 | .đ,.đ=>by simp[toP,PyData.eqv]
 | .đ,.M _=>by simp[toP,PyData.eqv]
 | .đ,.X _=>by simp[toP,PyData.eqv]
 | .đ,.Ç _=>by simp[toP,PyData.eqv]
 | .đ,.Æ _=>by simp[toP,PyData.eqv]
 | .M _,.đ=>by simp[toP,PyData.eqv]
 | .M _,.M _=>by simp[toP,PyData.eqv]
 | .M _,.X _=>by simp[toP,PyData.eqv]
 | .M _,.Ç _=>by simp[toP,PyData.eqv]
 | .M _,.Æ _=>by simp[toP,PyData.eqv]
 | .X _,.đ=>by simp[toP,PyData.eqv]
 | .X _,.M _=>by simp[toP,PyData.eqv]
 | .X a,.X b=>by simp only[toP,PyData.eqv,beq_iff_eq,Dt.str.injEq];show%[qZ|λz=>by rw[z]]
 | .X _,.Ç _=>by simp[toP,PyData.eqv]
 | .X _,.Æ _=>by simp[toP,PyData.eqv]
 | .Ç _,.đ=>by simp[toP,PyData.eqv]
 | .Ç _,.M _=>by simp[toP,PyData.eqv]
 | .Ç _,.X _=>by simp[toP,PyData.eqv]
 | .Ç ds,.Ç es=>by simp only[toP,PyData.eqv,Dt.tup.injEq];show Ks ds es
 | .Ç _,.Æ _=>by simp[toP,PyData.eqv]
 | .Æ _,.đ=>by simp[toP,PyData.eqv]
 | .Æ _,.M _=>by simp[toP,PyData.eqv]
 | .Æ _,.X _=>by simp[toP,PyData.eqv]
 | .Æ _,.Ç _=>by simp[toP,PyData.eqv]
 | .Æ ds,.Æ es=>by simp only[toP,PyData.eqv,Dt.lst.injEq];show Ks ds es
theorem Ks:∀ds es:İ Dt,PyData.eqvAll (cW ds) (cW es)=ĳ↔ds=es
 | [],[]=>by simp[cW,PyData.eqvAll]
 | [],_::_=>by simp[cW,PyData.eqvAll]
 | _::_,[]=>by simp[cW,PyData.eqvAll]
 | d::ds,e::es=>by simp only[cW,PyData.eqvAll,dP,List.cons.injEq];rw[wM d e,Ks ds es]
end
open Classical in
def Fq (d e:Dt):PyData.eqv (toP d) (toP e)=Ļ (d=e):=by
 by_cases h:d=e;.rw[aS h];show(wM d e).Ù h
 .rw[aw h];cases z:PyData.eqv (toP d) (toP e) with| false=>rfl| true=>show ŀ ((wM d e).mp z) h
mutual
inductive fG (K:W.Ì) (H:Hp):ı->Dt->V->Prop
 | non {n}:fG K H n .đ .đ
 | int {n} (i:Ŀ):fG K H n (.M i) (.M i)
 | str {n} (l:İ ı) (h:∀c∈l,c<128):fG K H n (.X l) (.X<|S l)
 | tup {n a ds xs} (h:bf K H a xs) (hs:j7 K H n ds xs):fG K H (n+1) (.Ç ds) (.H a)
 | lst {n a ds xs} (h:aP K H a xs) (hs:j7 K H n ds xs):fG K H (n+1) (.Æ ds) (.H a)
inductive j7 (K:W.Ì) (H:Hp):ı->İ Dt->İ V->Prop
 | nil {n}:j7 K H n [] []
 | cons {n d ds x xs} (h:fG K H n d x) (hs:j7 K H n ds xs):j7 K H n (d::ds) (x::xs)
end
def Pn (h:∀c∈l,c<128):PyData.strOk (S l)=ĳ:=by unfold PyData.strOk;show l.R.ĝ _=ĳ;rw[Array.all_eq_true_iff_forall_mem];intro x hx;have:=h x (by simpa using hx);show aS yf
def fG.lay {K:W.Ì}:∀{n:ı} {d:Dt} {x:V},fG K H n d x->(toP d).canLay0=ĳ/\(toP d).depth<=n:=by
 intro n d x h;calc fG.rec (motive_1:=λn d _ _=>(toP d).canLay0=ĳ/\(toP d).depth<=n) (motive_2:=λn d _ _=>PyData.canLayAll0 (cW d)=ĳ/\PyData.depthAll (cW d)<=n) ?_ (λ_=>?_) (λl h=>?_) (λ_ _ i=>?_) (λ_ _ i=>?_) ?_ (λ_ _ a b=>?_) h;.simp[toP,PyData.canLay0,PyData.depth]
 .simp[toP,PyData.canLay0,PyData.depth]
 .simp only[toP,PyData.canLay0,PyData.depth];show%[Pn h|bE _]
 .simp only[toP,PyData.canLay0,PyData.depth];show%[i.1|e6 i.2]
 .show%[i.1|e6 i.2]
 .simp[cW,PyData.canLayAll0,PyData.depthAll]
 simp only[cW,PyData.canLayAll0,PyData.depthAll,dP];show%[%[a.1|b.1]|Nat.max_le.Ù %[a.2|b.2]]
def fG.same {K:W.Ì}(sm:aB H H')(st:∀a xs,bf K H a xs->bf K H' a xs):∀{n:ı} {d:Dt} {x:V},fG K H n d x->fG K H' n d x:=by intro n d x h;show fG.rec (motive_1:=λn d x _=>fG K H' n d x) (motive_2:=λn d x _=>j7 K H' n d x) .đ .M .X (λh _ i=>.Ç (st _ _ h) i) (λh _ i=>.Æ (sm.î h) i) .ê (λ_ _=>.á) h
def aB.acU {K:W.Ì}{xs:İ V}(e:aB H H')(h:bf K H a xs):bf K H' a xs:=by
 rcases h with(h|⟨o,h⟩)|h;.show .Â<|.Â<|e _ _ h
 .show .Â<|.Ò %[o|e _ _ h]
 .show .Ò h
def fG.mv {K:W.Ì}(sm:aB H H'){n:ı}{d:Dt}{x:V}(h:fG K H n d x):fG K H' n d x:=h.same sm λ_ _=>sm.acU
section
variable {X:Cx}
def fG.reads {ao:AC}{T:St}{H:Hp}{s:ļ}(I:aL X ao T H s):∀{n:ı} {d:Dt} {x:V} {u:Ĳ},fG X.K H n d x->bH x u->∃as,Ť s.C u (toP d) as:=by
 intro n d x u h r;calc fG.rec (motive_1:=λ_ d x _=>∀u,bH x u->∃as,Ť s.C u (toP d) as) (motive_2:=λ_ d x _=>∀u,Vals x u->∃as,ś s.C u (cW d) as) (λu r=>?_) (λi u r=>?_) (λl h u r=>?_) (λh _ i u r=>?_) (λh _ i u r=>?_) (λu r=>?_) (λ_ _ i j u r=>?_) h u r;.cases r;show%[[]|by rw[toP];show .Û]
 .let(t,rfl):=r;show%[[]|by show .M i t]
 .let(t,rfl):=r;show%[[]|by show .X _ t]
 .cases r;let(its,D,pl,_):=I.Ĕ h;let(as,ra):=i _ D;let(o,g,B,n,hd):=pl;show%[as|by show .Ĕ g B hd (by simpa using ra)]
 .cases r;let(its,D,pl,_):=I.ğ h;let(as,ra):=i _ D;let(o,g,B,n,hd):=pl.ÿ;show%[_::as|by show .ğ g B hd (by simpa using ra)]
 .cases r;show%[[]|by rw[cW];show .ê]
 cases r with| cons q t=>let(as,a):=i _ q;let(bs,b):=j _ t;show%[as++bs|by show .á a b]
def fG.shaped {K:W.Ì}{n:ı}{d:Dt}{x:V}(h:fG K H n d x)(hn:n<=64):SeqAt.shaped (toP d)=ĳ:=by unfold SeqAt.shaped;rw[h.lay.1,aS (ap h.lay.2 hn)];rfl
open Classical in
def Yk (K:W.Ì)(g:ō):R2:=λx y H Q=>∃n d e,n<=64/\fG K H n d x/\fG K H n e y/\Q (.bl<|if g then !Ļ (d=e) else Ļ (d=e)) H
def Ku (D:X.A.ß+64<cLine):fL X (compareOp .Eq) (Yk X.K Ķ):=by intro ao s T H x y v u Q I F B h;let(n,d,e,hn,hd,g,q):=h;let(as,ra):=hd.reads I F;let(bs,G):=g.reads I B;calc SeqAt.compareEq_shaped ra G (hd.shaped hn) (g.shaped hn) D %[1,.bl _,H,I,rb|?_];rw[Fq];show q
def acV (D:X.A.ß+64<cLine):fL X (compareOp .NotEq) (Yk X.K ĳ):=by intro ao s T H x y v u Q I F B h;let(n,d,e,hn,hd,g,q):=h;let(as,ra):=hd.reads I F;let(bs,G):=g.reads I B;calc SeqAt.compareNe_shaped ra G (hd.shaped hn) (g.shaped hn) D %[1,.bl _,H,I,rb|?_];rw[Fq];show q
def acW (K:W.Ì):V->İ V->Hp->VK->Prop:=λx vs H Q=>∃p ls,x=.X (S [])/\vs=[.H p]/\bf K H p (Ts ls)/\ls.Ë.v<=1000/\Q (.X<|S ls.Ë) H
def BJ:Az X "str.join" (acW X.K):=by
 intro ao s T H x vs v us Q I g D h;let(p,ls,rfl,rfl,B,hz,q):=h;let(t,rfl):=g;let(u,rfl,d):=vals1 D;cases d;let(its,r,pl,_):=I.Ĕ B;refine join_tuple pl (ys:=ls.L S) (by simpa using Ph r) ?_ λt' k=>?_
 .rw[Pj];show _+_*0<=_;lia
 .show%[1,.X<|S ls.Ë,H,I.tok k,%[t'|congrArg (λz=>Value.X z t')<|Fp ls]|q]
end
def wN {K:W.Ì}{a D:ĸ}{xs:İ V}{te:TE}{I:St}{H:Hp}{R:Hp->Prop}(d:ı->İ V->Hp->Prop)(q:d 0 [] (upd H D<|.Æ []))(g:∀i ys H,i<=xs.v->d i ys H->bf K H a xs)(hs:∀i x ys H,xs[i]?=į x->d i ys H->te (į x::I) H (Bw xs.v i D ys<|d<|i+1))(hd:∀ys H,d xs.v ys H->R H):sy (Ox K a) D H R (Kh I jt te):=z_ d q g hs hd
section
variable {X:Cx}{x:ņ}{pos:Pos}
def lH (g:Gl X x)(hm:∃t,X.mg x=į (.X (S l) t))(hd:Ŷ ((x==("__debug__":ņ))=Ķ) Ÿ):QE X (.è x pos) (tC<|.X<|S l):=let %[t|e]:=hm;Ow g e %[t|rb] hd
def R6 (g:Gl X x)(hm:∃t,X.mg x=į (.M i t))(hd:Ŷ ((x==("__debug__":ņ))=Ķ) Ÿ):QE X (.è x pos) (tC<|.M i):=let %[t|e]:=hm;Ow g e %[t|rb] hd
def acX (d:QE X o to)(hi:QE X i ti)(hs:XF X t)(ha:Ŷ (∀v,assign (.Ġ o i pos) X.Ê v=(do
   let ov <- holding [v] (ŏ o X.Ê)
   let iv <- holding [v,ov] (ŏ i X.Ê)
   standAt pos
   holding [v,ov,iv] (setItem ov iv v)
   release [v,ov,iv] [])) ź):QG X (.Ġ o i pos) (acs to ti t):=⟨acu d.Ý hi.Ý hs ha⟩
end
def nQ:bootBuiltins "all"=į (.Ô "all"):=by decide +kernel
def Hh:bootBuiltins "any"=į (.Ô "any"):=by decide +kernel
def Yl {K:W.Ì}(X:K.In h)(G:h.Ns mainGlobals mg)(a:W.nsIn K mainGlobals x=į (į<|.X (S l) t)):∃t,mg x=į (.X (S l) t):=%[t|wE X G a]
def Ym {K:W.Ì}(X:K.In h)(G:h.Ns mainGlobals mg)(a:W.nsIn K mainGlobals x=į (į<|.M i t)):∃t,mg x=į (.M i t):=%[t|wE X G a]
section
variable {X:Cx}
def rO (K:W.Ì)  (h:Ŷ (X.K=K) ŷ):O7 X (RG K):=by subst h;show dN
def Kv (K:W.Ì)  (h:Ŷ (X.K=K) ŷ):fM X (.Ô "isinstance") (aaj K):=by subst h;show jd
def Yn (K:W.Ì)  (h:Ŷ (X.K=K) ŷ):Az X "str.join" (rJoin K):=by subst h;show rN
def acY {name:ņ}{apos cpos:Pos}{T id:œ}(K:W.Ì)(pa:Ů T)(slot:Ŵ T name id)(D:typeOf (.Ô id)=pure (.Ä "method_descriptor"))(hm:Az X id r)(F:QE X o to)(ha:QA X (e::es) t)(g:Ŷ (attributeBase o name X.Ê (ŏ o X.Ê)=ŏ o X.Ê) ŷ)(B:Ŷ (((backTo cpos<|starEach (e::es) X.Ê).ĝ (λx=>!x.1)&&(backToKw cpos<|keywordEach [] X.Ê).ĝ (λx=>x.1.č)
   && Ļ ((e::es).v+([]:İ ŕ).v+(if ([]:İ ŕ).ę then 0 else 1)<30))=ĳ) ŷ) (q:Ŷ ((apos.endLine==cpos.line)=ĳ) ŷ) (hs:Ŷ (Ņ (e::es) X.Ê=(Ķ,ŏ e X.Ê)::Ņ es X.Ê) ŷ) (d:Ŷ ((backTo cpos<|Ņ es X.Ê).Ğ (·.1)=Ķ) ŷ) (h:Ŷ (X.K=K) ŷ):QE X (.ġ (.Ą o name apos) (e::es) [] cpos) (U6 K T r to t):=by subst h;show dO pa slot D hm F ha g B q hs d
end
def cA (l:İ ı):İ ı:=l.takeWhile λc=>c != 46
def cj (l:İ ı):İ ı:=(l.â.takeWhile λc=>c != 46).â
theorem wO:∀{l:İ ı} {i:ı},l[i]?=į 46->(∀k,k<i->l[k]?≠į 46)->cA l=l.È i
 | [],i,h,_=>by simp at h
 | c::l,0,h,_=>by
  have:c=46:=by simpa using h
  subst this;simp[cA]
 | c::l,i+1,h,hk=>by let q:c≠46:=λe=>hk 0 yf (by simp[e]);let g:=wO (l:=l) (i:=i) (by simpa using h) (λk d=>by have:=hk (k+1)<|tN d;simpa using this);unfold cA at g ⊢;rw[wT (by simpa using q),g,vz]
def yS (h:46∉l):cA l=l:=by
 unfold cA
 induction l with| nil=>rfl| cons c r ih=>have d:c≠46:=λe=>h (by rw[e];show a4);rw[wT (by simpa using d),ih λz=>h (av _ z)]
def Hi (h:46∉l):cj l=l:=by have:=yS (l:=l.reverse) (by simpa using h);unfold cA at this;unfold cj;rw[this,List.reverse_reverse]
def Kw (h:l[i]?=į 46)(hk:∀k,i<k->l[k]?≠į 46):cj l=l.Í (i+1):=by
 let hi:i<l.v:=(al.mp h).1;let e:cA l.â=l.â.È (l.v-(i+1)):=by
  refine wO ?_ λk d=>?_
  .rw[ui (df yf yf),show l.v-1-(l.v-(i+1))=i by lia];show h
  .rw[ui (by simp[cE,c9]at *;lia)];show hk _ (by simp[cE,c9]at *;lia)
 unfold cA at e;unfold cj;rw[e,List.take_reverse,List.reverse_reverse,show l.v-(l.v-(i+1))=i+1 by rw[ff (by assumption)]]
def JG (l)(i j):Builtin.Str.strSub (S l) i j=S ((l.È j).Í i):=by unfold Builtin.Str.strSub S;congr 1;apply mr.mp;simp[List.drop_take]
section
variable {X:Cx}
def Vm (l):(Txt.partition (S l)<|S [46]).1=S (cA l):=by
 rcases partition_head (S l) (S [46]) with⟨e,h⟩|⟨i,e,h,hk⟩
 .rw[e,yS λhm=>?_];let(i,hi):=uj.mp hm;show h i<|(i5 (S l) 46 i).Ù hi
 .rw[e,JG,x_,wO (l:=l) ((i5 (S l) 46 i).mp h) λk d z=>hk k d ((i5 (S l) 46 k).Ù z)]
def R7 (l):(Txt.rpartition (S l)<|S [46]).2.2=S (cj l):=by
 unfold Txt.rpartition;rcases StrLaws.last_spec (S l) (S [46]) with⟨e,h⟩|⟨i,e,h,hk⟩
 .rw[e];show S l=_;rw[Hi λhm=>?_];let(i,hi):=uj.mp hm;show h i<|(i5 (S l) 46 i).Ù hi
 .rw[e];show Builtin.Str.strSub (S l) (i+1) l.v=_;rw[JG,de (ai _),Kw (l:=l) ((i5 (S l) 46 i).mp h) λk d z=>hk k d ((i5 (S l) 46 k).Ù z)]
def aey:V->İ V->Hp->VK->Prop:=λx vs H Q=>∃l,x=.X (S l)/\vs=[.X (S [46])]/\l.v<=1000/\∀(p:ĸ) (b c:ņ),H p=Ĵ->Q (.H p) (upd H p<|.Ç [.X (S<|cA l),.X b,.X c])
def aaT:Az X "str.partition" aey:=by
 intro ao s T H x vs v us Q I g B h;let(l,rfl,rfl,hz,q):=h;let(t,rfl):=g;let(u,rfl,d):=vals1 B;let(D,rfl):=d;let hsz:(S l).v<=Ľ:=ay<|aH hz;calc call_meets F.slot_str_partition (typeIs_str _ _ _) F.entry_str_partition (F.args_str_partition_2 _ _) (meets_str_partition (S l) (S [46]) t D rb hsz) ?_;let e:=Vm l;let q':=λb c=>q s.n b c<|I.ð.à<|ai _;rw[<-e]at q';unfold Txt.partition at q'
 revert q'
 cases Builtin.Str.occurrences (S l) (S [46]) 0 (S l).v 1 with| nil=>intro q';calc%[1,.H s.n,_,I.ģ (o:=.Ç _) (t':=s.Ü+1) (λb ob z=>af _ z) (ai _) ?_,rb|q' Str.empty Str.empty];show%[11,zsz 3,_,.á %[_|rb]<|.á %[_|rb]<|.á %[_|rb] .ê|%[31,_,aI _ rb,rb,0|rb]]| cons i r=>intro q';calc%[1,.H s.n,_,I.ģ (o:=.Ç _) (t':=s.Ü+1+1) (λb ob z=>af _ z) (ai _) ?_,rb|q' (S [46])<|Builtin.Str.strSub (S l) (i+(S [46]).v) (S l).v];show%[11,zsz 3,_,.á %[_|rb]<|.á %[_|rb]<|.á %[_|rb] .ê|%[31,_,aI _ rb,rb,0|rb]]
def acZ:V->İ V->Hp->VK->Prop:=λx vs H Q=>∃l,x=.X (S l)/\vs=[.X (S [46])]/\l.v<=1000/\∀(p:ĸ) (a b:ņ),H p=Ĵ->Q (.H p) (upd H p<|.Ç [.X a,.X b,.X (S<|cj l)])
def Yo:Az X "str.rpartition" acZ:=by
 intro ao s T H x vs v us Q I g B h;let(l,rfl,rfl,hz,q):=h;let(t,rfl):=g;let(u,rfl,d):=vals1 B;let(D,rfl):=d;let hsz:(S l).v<=Ľ:=ay<|aH hz;calc call_meets F.slot_str_rpartition (typeIs_str _ _ _) F.entry_str_rpartition (F.args_str_rpartition_2 _ _) (meets_str_rpartition (S l) (S [46]) t D rb hsz) ?_;let e:=R7 l;let q':=λb c=>q s.n b c<|I.ð.à<|ai _;rw[<-e]at q';unfold Txt.rpartition at q'
 revert q'
 cases Builtin.Str.lastOccurrence (S l) (S [46]) 0 (S l).v with| none=>intro q';calc%[1,.H s.n,_,I.ģ (o:=.Ç _) (t':=s.Ü+1) (λb ob z=>af _ z) (ai _) ?_,rb|q' Str.empty Str.empty];show%[11,zsz 3,_,.á %[_|rb]<|.á %[_|rb]<|.á %[_|rb] .ê|%[31,_,aI _ rb,rb,0|rb]]| some i=>intro q';calc%[1,.H s.n,_,I.ģ (o:=.Ç _) (t':=s.Ü+1+1) (λb ob z=>af _ z) (ai _) ?_,rb|q' (Builtin.Str.strSub (S l) 0 i)<|S [46]];show%[11,zsz 3,_,.á %[_|rb]<|.á %[_|rb]<|.á %[_|rb] .ê|%[31,_,aI _ rb,rb,0|rb]]
end
def Yp {X:Cx}{d iter tg:ŋ}{ns N2:İ ņ}{f:St->St}{TP:V->Hp->(St->Prop)->Prop}{ifs:İ ŋ}{scope:Ŕ}{wi:TI}(F:X.ĭ=ĳ)(ok:gJ X scope ns N2 f)(hi:PI X tg iter wi)(B:∀cl C s₀ H₀ fp,G9 (dY X scope cl C (ns++N2) s₀ H₀ fp) tg ns.v TP)(J:∀cl C s₀ H₀ fp,PTs (dY X scope cl C (ns++N2) s₀ H₀ fp) ifs tt)(g:∀cl C s₀ H₀ fp,PE (dY X scope cl C (ns++N2) s₀ H₀ fp) d te)(hs:Ŷ (∀x,foldedSetIterable iter X.Ê x=pure x) ź):PE X (.ListComp d [%[tg,iter,ifs|0]] scope pos) (yM f ns.v wi TP tt te):=λao s T H Q I h=>by rw[eval_ListComp];show yN F ok hi B J g hs I h λD C L M m hn bk _ q=>%[0,m,hn|λh' G=>%[1,.H D,L,bk h' G,rb|q]]
def fV (ks:İ ı):ı->St->St
 | _,[]=>[]
 | i,v::r=>(if ks.contains i=ĳ then Ĵ else v)::fV ks (i+1) r
theorem Hj (ks):∀(i:ı) (I:St),(fV ks i I).v=I.v
 | _,[]=>rfl
 | i,_::r=>by rw[fV,bv,bv,Hj ks (i+1) r]
theorem Hl (ks):∀(i:ı) (I:St) (j:ı) (v:V),(fV ks i I)[j]?=į (į v)->ks.contains (i+j)=Ķ/\I[j]?=į (į v)
 | _,[],j,v,h=>by simp[fV]at h
 | i,x::r,0,v,h=>by
  rw[fV]at h;cases e:ks.contains i with| true=>rw[e]at h;simp at h| false=>rw[e]at h;show⟨by first|rfl|show e,by simpa using h⟩
 | i,x::r,j+1,v,h=>by rw[fV,sQ]at h;let(a,b):=Hl ks (i+1) r j v h;show%[by rw[show i+(j+1)=i+1+j by lia];show a|by rw[sQ];show b]
def ac0 (sc:Ŕ)(N:İ ņ)(scope:Ŕ)(N2:İ ņ)(ks:İ ı):ō:=scope.þ == .function&&scope.Þ.ĝ (λy=>y.2 != .ù)&&scope.Þ.ĝ (λy=>y.2 != .ā||scope.Þ.Å y.1==į .ā) &&
 scope.Þ.ĝ (λy=>y.2 != .Ó||sc.Þ.Å y.1==į .ù||sc.Þ.Å y.1==į .Ó)&&N2.v==N.v &&
 (List.å N.v).ĝ (λi=>ks.contains i||(N2[i]? == N[i]? && (N[i]?.L λy=>scope.Þ.Å y != į .ā)==į ĳ))
def gJ.of {X:Cx}(N2)(ks)(h:ac0 X.Ê.ċ X.N scope N2 ks=ĳ):gJ X scope ns N2 (fV ks 0):=by
 unfold ac0 at h;simp only[dP,iE,Bool.or_eq_true,bne_iff_ne,beq_iff_eq,ne_eq]at h;let(((((h1,M),G),J),q),F):=h;refine%[h1,λy d=>M y d,λy d e=>(G y d).resolve_left λz=>z e,λy d e=>?_,Hj ks 0,q|λI i y v g L=>?_]
 .rcases J y d with(z|z)|z;.show ŀ e z
  .show .Â z
  .show .Ò z
 .let(a,b):=Hl ks 0 I i v L;rw[iS]at a;let hi:i<X.N.v:=by rw[<-q];show(al.mp g).1
  rcases F i (b3.Ù hi) with z|⟨D,B⟩;.rw[a]at z;cases z
  .rw[<-D,g]at B;rw[D]at g;show%[g,b|by simpa using B]
def Pq {X:Cx}{scope:Ŕ}{N:İ ņ}(K:W.Ì)(F:X.ĭ=ĳ)(B:N.Ö)(G:N[0]?=į x)(h1:N[1]?=į y)(hx:scope.Þ.Å x=į .ā)(g:scope.Þ.Å y=į .ā)(L:Ŷ (X.K=K) ŷ):G9 (dY X scope cl C N s₀ H₀ fp) (.Ě [.è x px,.è y py] k pos) 2 (λv H Q=>∃a p q,v=.H a/\bf K H a [p,q]/\Q [į p,į q]):=by
 subst L;intro ao s pre rest H v u Q hp I r q;let(a,p,q',rfl,J,q):=q;obtain⟨d,p1,rfl⟩:∃d p1,pre=[d,p1]:=by
  match pre,hp with| [d,p1],_=>show%[10,d,p1|rb]
 let P:PG (dY X scope cl C N s₀ H₀ fp) (.Ě [.è x px,.è y py] k pos) (Ro X.K 2<|wz (nW 0)<|wz (nW 1) Rn):=J3 (X:=dY X scope cl C N s₀ H₀ fp) F<|o_ (o9 (i:=0) B G (.Â<|lookup_relabel_local hx)<|.Ò<|lookup_relabel_local hx)<|o_ (o9 (i:=1) B h1 (.Â<|lookup_relabel_local g)<|.Ò<|lookup_relabel_local g) Fi;refine bD (P ao s _ H (.H a) u (λT' H'=>H'=H/\T'=į p::į q'::rest) I r
  %[41,a,[p,q'],rb,J,rb,p,[q'],rb,q',[],rb,rb|%[rb|rb]]) λ_ s' ⟨T',H',I',D,M⟩=>?_
 subst D M;show%[2,[į p,į q'],rb,I'|q]
def Ab {X:Cx}{scope:Ŕ}{N:İ ņ}(K:W.Ì)(F:X.ĭ=ĳ)(g:N.Ö)(G:N[0]?=į x)(h1:N[1]?=į y)(O:N[2]?=į z)(hx:scope.Þ.Å x=į .ā)(B:scope.Þ.Å y=į .ā)(hz:scope.Þ.Å z=į .ā)(L:Ŷ (X.K=K) ŷ):G9 (dY X scope cl C N s₀ H₀ fp) (.Ě [.è x px,.è y py,.è z pz] k pos) 3 (λv H Q=>∃a p q r,v=.H a/\bf K H a [p,q,r]/\Q [į p,į q,į r]):=by
 subst L;intro ao s pre rest H v u Q hp I r q;let(a,p,q',r',rfl,J,q):=q;obtain⟨d,p1,p2,rfl⟩:∃d p1 p2,pre=[d,p1,p2]:=by
  match pre,hp with| [d,p1,p2],_=>show%[18,d,p1,p2|rb]
 let P:PG (dY X scope cl C N s₀ H₀ fp) (.Ě [.è x px,.è y py,.è z pz] k pos) (Ro X.K 3<|wz (nW 0)<|wz (nW 1)<|wz (nW 2) Rn):=J3 (X:=dY X scope cl C N s₀ H₀ fp) F<|o_ (o9 (i:=0) g G (.Â<|lookup_relabel_local hx)<|.Ò<|lookup_relabel_local hx)<|o_ (o9 (i:=1) g h1 (.Â<|lookup_relabel_local B)<|.Ò<|lookup_relabel_local B)<|o_ (o9 (i:=2) g O (.Â<|lookup_relabel_local hz)<|.Ò<|lookup_relabel_local hz) Fi;refine bD (P ao s _ H (.H a) u (λT' H'=>H'=H/\T'=į p::į q'::į r'::rest) I r
  %[1,a,[p,q',r'],rb,J|%[19,rb,p,[q',r'],rb|%[3,q',[r'],rb|%[4,r',[],rb,rb,rb|rb]]]]) λ_ s' ⟨T',H',I',D,M⟩=>?_
 subst D M;show%[2,[į p,į q',į r'],rb,I'|q]
def je {X:Cx}{d iter tg:ŋ}{ns N2:İ ņ}{f:St->St}{TP:V->Hp->(St->Prop)->Prop}{ifs:İ ŋ}{scope:Ŕ}{wi:TI}(B:X.ĭ=ĳ)(ok:gJ X scope ns N2 f)(hi:QI X tg iter wi)(q:∀cl C s₀ H₀ fp,G9 (dY X scope cl C (ns++N2) s₀ H₀ fp) tg ns.v TP)(D:∀cl C s₀ H₀ fp,Ve (dY X scope cl C (ns++N2) s₀ H₀ fp) ifs tt)(g:∀cl C s₀ H₀ fp,QE (dY X scope cl C (ns++N2) s₀ H₀ fp) d te)(hs:Ŷ (∀x,foldedSetIterable iter X.Ê x=pure x) ź):QE X (.ListComp d [%[tg,iter,ifs|0]] scope pos) (yM f ns.v wi TP tt te):=⟨Yp B ok hi.Ý q (λcl C s₀ H₀ fp=>(D cl C s₀ H₀ fp).Ý) (λcl C s₀ H₀ fp=>(g cl C s₀ H₀ fp).Ý) hs⟩
def wQ (n i:ı)(D:ĸ)(TP:V->Hp->(St->Prop)->Prop)(f:St->St)(I:St)(tt:TT)(te:TE)(x:V)(H:Hp)(ys:İ V)(P:İ V->Hp->Prop):Prop:=Dd TP f I tt te x H (Bw n i D ys P) λH2=>d8 n i (P ys H2)
def Ba {K:W.Ì}{a:ĸ}{f:St->St}{I:St}{tt:TT}{te:TE}:=@z_ (λH=>aP K H a) (Dd (λv _ Q=>Q [į v]) f I tt te)
def Dj {K:W.Ì}{a:ĸ}{f:St->St}{I:St}{tt:TT}{te:TE}:=@z_ (λH=>bf K H a) (Dd (λv _ Q=>Q [į v]) f I tt te)
def R8 {l:İ ı}{f:St->St}{tt:TT}{D:ĸ}{te:TE}{I:St}{H:Hp}{R:Hp->Prop}(d:ı->İ V->Hp->Prop)(q:d 0 [] (upd H D<|.Æ []))(hs:∀i c ys H,l[i]?=some c->d i ys H->wQ l.v i D (λv _ Q=>Q [į v]) f I tt te (.X<|S [c]) H ys (d<|i+1))(hd:∀ys H,d l.v ys H->R H):sy (Its l) D H R (Dd (λv _ Q=>Q [į v]) f I tt te):=Fo l.v d q (λi ys H h p=>%[h|λx H' y=>by let(rfl,c,g,rfl):=y;show hs i c ys _ g p]) λys H p=>%[ai _|hd ys H p]
def uW {K KT:W.Ì}{a:ĸ}{f:St->St}{I:St}{tt:TT}{te:TE}:=@z_ (λH=>aP K H a) (Dd (λv H Q=>∃a p q r,v=.H a/\bf KT H a [p,q,r]/\Q [į p,į q,į r]) f I tt te)
def Dk {K KT:W.Ì}{a:ĸ}{f:St->St}{I:St}{tt:TT}{te:TE}:=@z_ (λH=>bf K H a) (Dd (λv H Q=>∃a p q r,v=.H a/\bf KT H a [p,q,r]/\Q [į p,į q,į r]) f I tt te)
def aak (h:te ([į x]++f I) H λy d=>d D=į (.Æ ys)/\ys.v<Ľ/\d8 n i (P (ys++[y])<|upd d D<|.Æ<|ys++[y])):wQ n i D (λv _ Q=>Q [į v]) f I jt te x H ys P:=by show (if ĳ=ĳ then (te ([į x]++f I) H λy d=>d D=į (.Æ ys)/\ys.v<Ľ/\d8 n i (P (ys++[y])<|upd d D<|.Æ<|ys++[y])) else d8 n i (P ys H));rw[Ĺ rfl];show h
def aez {KT:W.Ì}{n i:ı}{p q:V}{f:St->St}{x:V}{ys:İ V}{P:İ V->Hp->Prop}(hx:x=.H a)(g:bf KT H a [p,q])(h:te ([į p,į q]++f I) H λy d=>d D=į (.Æ ys)/\ys.v<Ľ/\d8 n i (P (ys++[y])<|upd d D<|.Æ<|ys++[y])):wQ n i D (λv H Q=>∃a p q,v=.H a/\bf KT H a [p,q]/\Q [į p,į q]) f I jt te x H ys P:=by calc%[21,a,p,q,hx,g|?_];show (if ĳ=ĳ then (te ([į p,į q]++f I) H λy d=>d D=į (.Æ ys)/\ys.v<Ľ/\d8 n i (P (ys++[y])<|upd d D<|.Æ<|ys++[y])) else d8 n i (P ys H));rw[Ĺ rfl];show h
def JH {KT:W.Ì}{n i:ı}{p q r:V}{f:St->St}{x:V}{ys:İ V}{P:İ V->Hp->Prop}(hx:x=.H a)(g:bf KT H a [p,q,r])(h:te ([į p,į q,į r]++f I) H λy d=>d D=į (.Æ ys)/\ys.v<Ľ/\d8 n i (P (ys++[y])<|upd d D<|.Æ<|ys++[y])):wQ n i D (λv H Q=>∃a p q r,v=.H a/\bf KT H a [p,q,r]/\Q [į p,į q,į r]) f I jt te x H ys P:=by calc%[43,a,p,q,r,hx,g|?_];show (if ĳ=ĳ then (te ([į p,į q,į r]++f I) H λy d=>d D=į (.Æ ys)/\ys.v<Ľ/\d8 n i (P (ys++[y])<|upd d D<|.Æ<|ys++[y])) else d8 n i (P ys H));rw[Ĺ rfl];show h
section
variable {X:Cx}
def aaU:V->İ V->Hp->VK->Prop:=λx vs H Q=>∃(l:Addr) (us:AA) (w:İ ı),x=.H l/\vs=[.X (S w)]/\H l=į (.Æ<|Ts us)/\w∈us/\us.v<=1000/\Q .đ (upd H l<|.Æ<|Ts<|us.Đ w)
def strEq (w:İ ı)(u:Ĳ):ō:=match u with| .X z _=>z.ñ.I==w| _=>false
def Vn {us:AA}:us.Đ w=us.eraseIdx (us.Ĝ w):=by
 induction us with
 | nil=>rfl
 | cons a r ih=>
  by_cases h:a=w;.subst h;simp
  .rw[List.erase_cons_tail (by simpa using h),List.idxOf_cons,cond_eq_ite,ķ (by simpa using h),sT,ih]
def Vo:O8 X "list.remove" aaU:=by
 intro ao s T H x vs v us Q I O Y h;let(l,ls,w,rfl,rfl,D,hw,hz,q):=h;cases O;let(u,rfl,N):=Y.one;let(t,rfl):=N;let(z,its,n,r,J,e):=I.yK D;let G:its.v=ls.v:=by rw[<-J,ab]
 let Z:ls.Ĝ w<ls.v:=qr hw;let get:∀(m:ı) (hm:m<its.R.E),∃(tk:Tok) (d:m<ls.v),its.R[m]=.X (S ls[m]) tk:=λm hm=>by
  let d:m<ls.v:=by simp at hm;simp_all
  let(u1,g,s1):=r.get (i:=m) (x:=.X (S ls[m])) (by simp[d]);let(tk,rfl):=s1;calc%[10,tk,d|?_];rw[ae hm]at g;simpa using g
 refine call_meets F.slot_list_remove %[0,_,e|rb] F.entry_list_remove (F.args_list_remove_2 _ _) (PySem.MeetsSeq.list_remove l its.R n (.X (S w) t) (strEq w) (λy M=>?_) (ls.Ĝ w) (by rw[bu];simp_all) ?_ (λm hm B=>?_) (by rw[bu,G];show ay<|aH hz)) %[e|?_]
 .let(m,hm,rfl):=Array.mem_iff_getElem.mp M;let(tk,_,g):=get m hm;rw[g];show PySem.SeqRoads2.EqGives.X _ _ _ _
 .let(tk,d,g):=get (ls.Ĝ w) (by rw[bu];lia);rw[g];show (ls[ls.Ĝ w]==w)=ĳ;rw[List.getElem_idxOf];simp
 .let(tk,d,g):=get m hm;rw[g];show (ls[m]==w)=Ķ;have:=List.not_of_lt_findIdx (p:=λa=>a==w) (xs:=ls)<|show m<ls.findIdx (λa=>a==w) from B;simpa using this
 .refine%[1,.đ,_,I.RK (its':=its.eraseIdx (ls.Ĝ w)) D e ?_ ?_ ?_,rb|q]
  .rw[Array.eraseIdxIfInBounds,dif_pos (by rw[bu];lia)];simp
  .rw[Vn];let hv:=Vals.eraseIdx (ls.Ĝ w) r;let L:∀(xs:AA) (i:ı),Ts (xs.eraseIdx i)=(Ts xs).eraseIdx i:=by
    intro xs
    induction xs with
    | nil=>intro i;rfl
    | cons a r ih=>
     intro i;cases i with| zero=>rfl| succ i=>rw[sT,Ts,bS,Ts,bS,sT];congr 1;show ih i
   rw[L];show hv
  .rw[ab];show ap (qE ..)<|ay<|aH hz
def afD (t:TS):TS:=λD T H=>∃d:St->Hp->Prop,t {D with nx:=d} T H/\∀T' H',d T' H'->D.nx T' H'
def kW {st:Ŋ}(h:QS X st t):QS X st (afD t):=⟨λao s T H D I ⟨F,a,b⟩=>by
 calc bD (h.Ý ao s T H _ I a) λf s' q=>?_;cases f with
 | next=>let(T7,B,d,g):=q;show%[3,T7,B,d|b _ _ g]
 | cont=>show q
 | brk=>show q
 | ret v=>show q⟩
end
end L2
namespace L2
open PySem PySem.Spec PyProof.Rows PySem.W
def ac1 (H:Hp)(cf:ĸ->ı)(a:ĸ):Prop:=∃(x y:Nat) (rest:İ V),H a=į (.Ç<|.M x :: .M y::rest)/\y<1000/\cf a=x*1000+y/\(rest=[]\/∃z,rest=[.X z])
section
variable {X:Cx}{pos:Pos}
def ac2 (K:W.Ì):İ V->Hp->VK->Prop:=λxs H Q=>∃(L:Addr) (as:İ ĸ) (cf:ĸ->ı),xs=[.H L]/\aP K H L (as.L V.H)/\as.v<64/\(∀a∈as,ac1 H cf a)/\(as.L cf).Ö/\
 ∀(p:ĸ) (as':İ ĸ),H p=Ĵ->as'.ò as->(as'.L cf).Ã (·<·)->Q (.H p) (upd H p<|.Æ<|as'.L V.H)
def Ho:∀{as:İ ĸ} {us:İ Ĳ},Vals (as.L V.H) us->us=as.L Value.H:=by
 intro as us h
 induction as generalizing us with
 | nil=>cases h;rfl
 | cons a as ih=>
  cases h with| cons r t=>cases r;rw[bS,ih t]
def Hq:∀(as:İ ĸ),Vals (as.L V.H) (as.L Value.H):=by
 intro as
 induction as with| nil=>show .ê| cons a as ih=>show .á rb ih
open Classical in
def ac3 (K:W.Ì)(g:ō):R2:=λx y H Q=>∃n d es,n<=60/\fG K H n d x/\fG K H n (.Ç es) y/\Q (.bl<|if g then !Ļ (d∈es) else Ļ (d∈es)) H
open Classical in
theorem Pr (d:Dt):∀es:İ Dt,((cW es).Ğ λy=>PyData.eqv y<|toP d)=Ļ (d∈es)
 | []=>by simp[cW]
 | e::es=>by
  rw[cW,oB,Pr d es,Fq];by_cases z:e=d;.subst z;simp
  .let z':¬d=e:=λy=>z y.Ð
   simp[z,z']
def Ft {o i:ŋ}{td ty:TE}(g:X.A.ß+1<cLine)(d:QE X o td)(hi:QE X i ty)(hs:X6 i):QE X (.Ġ o i pos) (aah td ty):=⟨aaL g d.Ý hi.Ý hs⟩
def BP:QE X (.Dict [] [] pos) U_:=⟨X8⟩
def ac4:İ V->Hp->VK->Prop:=λxs H Q=>∃l:İ ı,xs=[.X (S l)]/\l.v<=1000/\∀p,H p=Ĵ->Q (.H p) (upd H p<|.Æ<|Ts<|l.L λc=>[c])
theorem Hr:∀(l:İ ı) (us:İ Ĳ),us.v=l.v->(∀(i c:ı),l[i]?=į c->∃t,us[i]?=į (.X (S [c]) t))->Vals (Ts<|l.L λc=>[c]) us
 | [],[],_,_=>.ê
 | [],_::_,h,_=>by simp at h
 | _::_,[],h,_=>by simp at h
 | c::l,u::us,h,k=>by let(t,e):=k 0 c rfl;let e:u=.X (S [c]) t:=bo e;show .á %[t|e]<|Hr l us (by simpa using h) λi d hd=>k (i+1) d hd
def R9 (D:X.ĭ=ĳ):fM X (.Ä "list") ac4:=by
 intro ao s T H xs us Q I r h;let(l,rfl,G,q):=h;let(u,rfl,J):=vals1 r;let(t,rfl):=J;let hz:l.v<=Ľ:=ay<|aH G;calc call_list_str (I.ok.hd D) (S l) t (λh' tk d c' hk F g=>?_) (by show l.R.E<=_;simpa using hz);let hsz:d.E=l.v:=by rw[g.1];show l.R.E=_;simp
 calc%[1,.H s.n,_,I.ģ (o:=.Æ (Ts<|l.L λc=>[c])) (t':=tk) hk (ai _) %[19,by rw[ab,ab];show hz,d.I,c',?_|by simpa using F],rb|q _<|I.ð.à<|ai _];calc Hr l d.I (by rw[bn];show hsz) λi c D=>?_;let hi:i<d.E:=by rw[hsz];show(al.mp D).1
 let(L,M,B,N):=g.2 i d[i] (by simp[hi]);let B:l.R[i]?=į L:=B;rw[List.getElem?_toArray,D]at B;let B:=bo B;show%[M|by rw[ci,b5 hi,N,B];rfl]
end
end L2
namespace L2
open PySem PySem.Spec PyProof.Rows
def aaV {X:Cx}{ix:ı}{B:ņ}{F d:Pos}{q iter tg:ŋ}{ns N2:İ ņ}{f:St->St}{TP:V->Hp->(St->Prop)->Prop}{ifs:İ ŋ}{scope:Ŕ}{pos:Pos}{wi:TI}{tt:TT}{te:TE}(hN:X.N.Ö)(M:X.N[ix]?=į B)(Bb:Loc X.Ê.ċ B)(Z:X.ĭ=ĳ)(ok:gJ X scope ns N2 f)(hi:PI X tg iter wi)(O:∀cl C s₀ H₀ fp,G9 (dY X scope cl C (ns++N2) s₀ H₀ fp) tg ns.v TP)(ht:∀cl C s₀ H₀ fp,PTs (dY X scope cl C (ns++N2) s₀ H₀ fp) ifs tt)(Y:∀cl C s₀ H₀ fp,PE (dY X scope cl C (ns++N2) s₀ H₀ fp) q te)(hs:Ŷ (∀x,foldedSetIterable iter X.Ê x=pure x) ź)(J:Ŷ (swapsWith (.ListComp q [%[tg,iter,ifs|0]] scope pos) (į<|.è B F) d.line X.Ê=pure ĳ) ŷ)(hf:Ŷ (X.fn B=ĳ\/X.Ê.ċ.Þ.Å B=į .ā) Ż):PS X (.Assign [.è B F] (.ListComp q [%[tg,iter,ifs|0]] scope pos) d) (J4 (yM f ns.v wi TP tt te)<|nW ix):=λao s T H De I h=>by
 rw[exec_Assign_Name_used _ _ _ _ J];calc aa<|rh<|aa<|aa ?_;calc bD (Q:=λ_ s'=>∃T' H',aL X ao T' H' s'/\De.nx T' H') ?_ λ_ s' hq=>ag<|ag hq;calc yN (use:=į (assign (.è B F) X.Ê)) Z ok hi O ht Y hs I h λD C H4 s5 m hn bk g qn=>?_;calc xb<|ud (bk s5.C<|Heap.ă.Č _ _) hN M Bb (show bH (.H D) (.H D) from rb) (λs6 I6 ⟨a,G,ha⟩ _=>?_) hf;let L:C≠a:=by
  rcases ha with z|z;.rw[z];show g.2.1
  .show λy=>g.2.2.2.2.1 _ _ z y.Ð
 let(o,es,ep,N,e2):=hn;refine%[0,m,%[30,o,es,ep,(G.2 C L).À N|e2]|λh' sb=>%[3,_,H4,I6.ħ (t':=s6.toks) (λb o hb e=>(sb.2 b hb).À e) g.1 g.2.1 g.2.2.2.1 g.2.2.2.2.1 g.2.2.2.2.2|qn]]
def Pu {X:Cx}{ix:ı}{B:ņ}{G g:Pos}{q iter tg:ŋ}{ns N2:İ ņ}{f:St->St}{TP:V->Hp->(St->Prop)->Prop}{ifs:İ ŋ}{scope:Ŕ}{pos:Pos}{wi:TI}{tt:TT}{te:TE}(Y:X.N.Ö)(F:X.N[ix]?=į B)(N:Loc X.Ê.ċ B)(M:X.ĭ=ĳ)(ok:gJ X scope ns N2 f)(hi:QI X tg iter wi)(J:∀cl C s₀ H₀ fp,G9 (dY X scope cl C (ns++N2) s₀ H₀ fp) tg ns.v TP)(O:∀cl C s₀ H₀ fp,Ve (dY X scope cl C (ns++N2) s₀ H₀ fp) ifs tt)(L:∀cl C s₀ H₀ fp,QE (dY X scope cl C (ns++N2) s₀ H₀ fp) q te)(hs:Ŷ (∀x,foldedSetIterable iter X.Ê x=pure x) ź)(D:Ŷ (swapsWith (.ListComp q [%[tg,iter,ifs|0]] scope pos) (į<|.è B G) g.line X.Ê=pure ĳ) ŷ)(hf:Ŷ (X.fn B=ĳ\/X.Ê.ċ.Þ.Å B=į .ā) Ż):QS X (.Assign [.è B G] (.ListComp q [%[tg,iter,ifs|0]] scope pos) g) (J4 (yM f ns.v wi TP tt te)<|nW ix):=⟨aaV Y F N M ok hi.Ý J (λa b c d e=>(O a b c d e).Ý) (λa b c d e=>(L a b c d e).Ý) hs D hf⟩
end L2
namespace L2
open PySem PySem.Spec PyProof.Rows PySem.W
open AutoSeq1 (wpAny_loadPart')
section
variable {prog:ń}{w:ň}{A:ŉ}{E:AB}{s:ļ}
def Yq (t:s.C.Ĩ u a i)(p:s.C.IsTuple a g)(hx:g[i]?=į x)(q:∀h',h'.Ĩ u a (i+1)->Heap.ă u s.C h'->Q x {s with heap:=h' }):ĺ (ľ prog w) A (Builtin.Ī.nextOf<|.H u) Q E s:=by let(o,d,G,hd):=id t;let(J,B,_,L,D):=p;unfold Builtin.SmallTypes.nextOf;calc aa<|eR (name:=Str.ú "__next__") t.Ċ m4<|c_ m4 t.Ċ F.entry_tuple_iterator_next ?_<|F.args_tuple_iterator_next_1 _;show ĺ _ _ (Ŭ (.H u) 0 >>= _) _ _ s;calc aa<|fm d hd (x:=.H a) rb ?_;show ĺ _ _ (if (Value.H a==Value.Û)=ĳ then _ else _) _ _ s;rw[ķ (show ¬((Value.H a==Value.Û)=ĳ) from b8)];show ĺ _ _ (Ŭ (.H u) 1 >>= _) _ _ s;calc aa<|fm d hd (x:=.M i 0) rb ?_;show ĺ _ _ (seqItems? (.H a) >>= _) _ _ s;calc aa<|ik B D ?_;simp only[cq,hx];calc aa<|ij d hd yi<|ag %[0,x,rb|ag<|q _ ?_<|gh ..];show%[2,_,ej _ d<|jn<|dQ hd _,(pM ..).À G|by rw[dQ hd];simp[rawInt]]
def Px (G:A.ï=Ĵ)(t:s.C.Ĩ u a i)(p:s.C.IsTuple a g)(hx:g[i]?=Ĵ)(q:∀h' e,Heap.ExtBut u s.C h'->(∃o,h'.Á e=į o/\o.cls=.Ä "StopIteration")->E (.H e) {s with heap:=h' }):ĺ (ľ prog w) A (Builtin.Ī.nextOf<|.H u) Q E s:=by
 let(o,d,J,hd):=id t;let(M,B,_,L,D):=p;unfold Builtin.SmallTypes.nextOf;calc aa<|eR (name:=Str.ú "__next__") t.Ċ m4<|c_ m4 t.Ċ F.entry_tuple_iterator_next ?_<|F.args_tuple_iterator_next_1 _;show ĺ _ _ (Ŭ (.H u) 0 >>= _) _ _ s;calc aa<|fm d hd (x:=.H a) rb ?_;show ĺ _ _ (if (Value.H a==Value.Û)=ĳ then _ else _) _ _ s;rw[ķ (show ¬((Value.H a==Value.Û)=ĳ) from b8)];show ĺ _ _ (Ŭ (.H u) 1 >>= _) _ _ s;calc aa<|fm d hd (x:=.M i 0) rb ?_;show ĺ _ _ (seqItems? (.H a) >>= _) _ _ s;calc aa<|ik B D ?_;simp only[cq,hx]
 first|refine aa<|fA<|aa<|ij d hd yi ?_|refine aa<|ij d hd yi ?_
 show ĺ _ _ (newExc (.Ä "StopIteration") [] >>= _) _ _ _;calc aa ?_;simp only[newExc,newTuple];calc aa<|fg ?_ yz;calc aa (m:=firstArgMember _ _)<|hG (a:=Value.none) (by first|rfl|(simp only[firstArgMember];rfl)) ?_;calc fg ?_ yz;simp only[raiseNew];refine aa<|wS ?_
 first|rw[show A.ė.ï=Ĵ from G]|rw[G]
 calc aa<|ag<|wpAny_throw ?_;show q _ _ (((gh ..).ä.Ï _).Ï _) %[0,_,aI _ rb|rb]
def ac5 (G:A.ï=Ĵ)(u a:ĸ)(B:a≠u)(g:ł Ĳ):ŵ prog w A u [u,a] g.E (λi v=>g[i]?=į v) (λi h=>h.Ĩ u a i/\h.IsTuple a g) where
 live:=λ_ _ st=>let %[o,ho|_]:=st.1;%[o|ho]
 frame:=λ_ _ _ st hk=>%[st.1.at λo e=>hk u yi o e|let %[o,ho|r]:=st.2;%[0,o,hk a yi o ho|r]]
 item:=λi s Q E hi st F=>by calc Yq st.1 st.2 (x:=g[i]) (by simp[hi]) λh' d q=>?_;show F _ h' s.Ü (by simp[hi]) %[d|let %[o,ho|r]:=st.2;%[0,o,q.ä a o B ho|r]] q
 done:=λs Q E st D=>Px G st.1 st.2 yi D
def newT (a)(g)(n)(dct)(sl):ů (Builtin.«enumerate.__new__» %[[.Ä "enumerate",.H a]|[]]) (λ_ R s=>s.C.Á a=į {cls:=.Ä "tuple",dict:=dct,data:=.î g n,slots:=sl}/\
   R (.ok<|.ret<|.H (s.C.Ï {cls:=.Ä "tuple_iterator",data:=.ë #[.H a,.M 0 0]}).Q.E)
    {s with heap:=(s.C.Ï {cls:=.Ä "tuple_iterator",data:=.ë #[.H a,.M 0 0]}).Ï {cls:=.Ä "enumerate",data:=.ë #[.Û,.Ă Ķ,.H s.n,ő 0,.Û,.Û]} }):=
 .of_wp λprog w A R s h=>by
  let(hp,g,d,tk,os):=s;let(q,h):=h;let B:=sub_enumerate;let L:Heap.IsTuple (Shared.C %[hp,g,d,tk|os]) a _:=%[31,_,q,rb,n|rb]
  wp_walk using uS q
  refine wpAny_stack_any λst=>ag ?_
  split
  .rename_i c _ _ _ _ _;cases(c==Value.Ä "enumerate")
   .wp_walk using uS q,oI L
    show%[0,_,rb|h]
   .wp_walk using uS q,oI L
    show%[0,_,rb|h]
  .wp_walk using uS q,oI L
   show%[0,_,rb|h]
def aeA (L:s.C.IsTuple a g)(q:∀h',Ũ h' (s.n+1) s.n 0 .Û->h'.Ĩ s.n a 0->h'.Q.E=s.n+2->(∀b o,s.C.Á b=į o->h'.Á b=į o)->Q (.H<|s.n+1) {s with heap:=h' }):ĺ (ľ prog w) A (call (.Ä "enumerate") [.H a]) Q E s:=by
 let((c,B,dt,sl),G,d,n,hd):=L;replace d:c=.Ä "tuple":=d;replace hd:dt=.î g n:=hd;subst d hd;calc callType_new si yk (F.typeCall_enumerate_1 _) (F.newCall_enumerate_1 _) (λobj=>F.args_object_init_2 obj _) F.entry_enumerate_new (newT a g n B sl) %[G|?_];let hz:(s.C.Ï {cls:=.Ä "tuple_iterator",data:=.ë #[.H a,.M 0 0]}).Q.E=s.n+1:=eS ..;show _/\_;rw[hz];let D:Ũ ((s.C.Ï {cls:=.Ä "tuple_iterator",data:=.ë #[.H a,.M 0 0]}).Ï {cls:=.Ä "enumerate",data:=.ë #[.Û,.Ă Ķ,.H s.n,ő 0,.Û,.Û]}) (s.n+1) s.n 0 .Û:=by have:=aI (s.C.Ï {cls:=.Ä "tuple_iterator",data:=.ë #[.H a,.M 0 0]}) (o:={cls:=.Ä "enumerate",data:=.ë #[.Û,.Ă Ķ,.H s.n,ő 0,.Û,.Û]}) rfl;rw[hz]at this;show this
 show%[%[0,_,D|rb]|q _ D %[2,_,af _<|aI _ rb,rb|rb] (by rw[eS,hz]) λb o x=>af _<|af _ x]
end
section
variable {X:Cx}{ao:AC}{T:St}{H:Hp}{s:ļ}{h':Ň}
def aL.Fw {t':ı}{fp:İ ĸ}(I:aL X ao T H s)(k:∀b o,b∉fp->s.C.Á b=į o->h'.Á b=į o)(hf:∀b∈fp,mq X ao H b):aL X ao T H {s with heap:=h',toks:=t' }:=by
 let g:∀b u,H b=į u->b∉fp:=λb u e z=>by rw[(hf b z).1]at e;cases e
 refine I.step (g':=s.gens) (d':=s.drawn) (ch:=fp) (λb G=>?_) (λb o _ _ d e _=>k b o d e) (λb o _ _ d e _=>%[o.slots|k b o d e]) (λ_ _ _ _ n=>n)
  (λb o d e=>%[o|k b o d e]) (λ_ _ e=>e) (λ_ _ _ e=>e) (λb ps e=>%[#[]|by rw[e];simp]) (λm hm=>?_) (λb u e=>?_) I.bare
 .let(N,L,M,F,D,J):=hf b G;show%[F,L,D|J]
 .let(o,es,ep,B,r):=hm;show%[30,o,es,ep,k _ o (λz=>(hf _ z).2.1 rb) B|r]
 .refine(I.ð b u e).stay (λc v d q=>k c v ?_ q) (λ_ q=>q) λ_ _ q=>q
  rcases d with z|z;.rw[z];show g b u e
  .show g c _ z
def aL.pair {e it:ĸ}{i tk:ı}{x:V}{u:Ĳ}{h1 B:Ň}(I:aL X ao T H s)(hf:∀b∈[e,it],mq X ao H b)(le:e<s.n)(li:it<s.n)(L:bH x u)(Z:h1.Á s.n=į {cls:=.Ä "tuple",data:=.î #[.M i tk,u]})(hk:∀b o,b≠e->b≠it->s.C.Á b=į o->h1.Á b=į o)(hs:Heap.ă e h1 B):aL X ao T (upd H s.n<|.Ç [.M i,x]) {s with heap:=B,toks:=tk+1}/\∀b∈[e,it],upd H s.n (.Ç [.M i,x]) b=Ĵ:=by
 let I2:aL X ao T (upd H s.n<|.Ç [.M i,x]) {s with heap:=s.C.Ï {cls:=.Ä "tuple",data:=.î #[.M i tk,u]},toks:=tk+1}:=I.ģ (λb v e=>af _ e) (ai _) %[11,zsz 2,[.M i tk,u],.á %[tk|rb]<|.á L .ê|%[31,_,aI _ rb,rb,_|rb]]
 let ne:∀b∈[e,it],b≠s.n:=λb d=>by
  rcases a8.mp d with z|z;.rw[z];show bb le
  .rw[am.mp z];show bb li
 let fr:∀b∈[e,it],upd H s.n (.Ç [.M i,x]) b=Ĵ:=λb d=>by rw[aM (ne b d)];show(hf b d).1
 let I3:=aL.Fw (s:={s with heap:=s.C.Ï {cls:=.Ä "tuple",data:=.î #[.M i tk,u]},toks:=tk+1}) (h':=B) (fp:=[e,it]) (t':=tk+1) I2 (λb o d g=>?_) λb d=>?_
 .show%[I3|fr]
 .let q:b≠e:=λz=>d (by simp[z])
  let D:b≠it:=λz=>d (by simp[z]);rw[hs.2 b q];rcases u7 g with⟨O,J⟩|z
  .rw[O,J];show Z
  .show hk b o q D z
 .let(f0,Y,G,M,F,N):=hf b d;show%[fr b d,Y,G,M,F|N]
end
def Yr (K:W.Ì)(a:ĸ):It:=%[λi H=>∃xs x,bf K H a xs/\xs[i]?=į x,λi H v H'=>∃T y,H T=Ĵ/\v=.H T/\(∀xs,bf K H a xs->xs[i]?=į y)/\H'=upd H T (.Ç [.M i,y])|λi H=>∃xs,bf K H a xs/\xs.v<=i]
def Ky (l:İ ı):It:=%[λi _=>i<l.v,λi H v H'=>∃T c,H T=Ĵ/\v=.H T/\l[i]?=į c/\H'=upd H T (.Ç [.M i,.X (S [c])])|λi _=>l.v<=i]
section
variable {prog:ń}{w:ň}{A:ŉ}{E:AB}{s:ļ}
def Nz {it:ĸ}{fp:İ ĸ}{n:ı}{g:ı->Ĳ->Prop}{St:ı->Ň->Prop}(D:ŵ prog w A it fp n g St)(k:ı):ŵ prog w A it fp (k+n) (λj v=>∃i,j=k+i/\g i v) (λj h=>∃i,j=k+i/\St i h) where
 live:=λj h ⟨i,_,st⟩=>D.live i h st
 frame:=λj h h' ⟨i,e,st⟩ hk=>%[0,i,e|D.frame i h h' st hk]
 item:=λj s Q E F ⟨i,e,st⟩ B=>by subst e;show D.item i s Q E (by simp_all) st λv h' tk hp st' d=>B v h' tk %[0,i,rb|hp] %[0,i+1,rb|st'] d
 done:=λs Q E ⟨i,e,st⟩ q=>by
  have:i=n:=by lia
  subst this;show D.done s Q E st q
end
def yU (l:İ ı)(k:ı):It:=%[λi _=>i<l.v,λi H v H'=>∃T c,H T=Ĵ/\v=.H T/\l[i]?=į c/\H'=upd H T (.Ç [.M ((k+i:ı):Ŀ),.X (S [c])])|λi _=>l.v<=i]
def Dl {P:ń}{w:ň}{K:W.Ì}{elts:İ ŋ}{x1}{pos:Pos}{ty:œ}(L:ty="str_ascii_iterator"\/ty="str_iterator")(l:İ ı)(k:ı)(t:Tok)(it e:ĸ):Turn P w K (.Ě elts x1 pos) (yU l k) [e,it] e (λi h=>e≠it/\i<=l.v/\(∃d,Ũ h e it ((k+i:ı):Ŀ) d)/\h.Ģ it ty (S l) t i) where
 mem:=by simp
 obj:=λi h st b J=>by
  let(_,_,(d,q),o,B,_,hd):=st;rcases a8.mp J with z|z;.show%[0,_,by rw[z];show q|λv y=>by cases y]
  .show%[0,o,by rw[am.mp z];show B|λv y=>by rw[hd]at y;cases y]
 keep:=λi h h' st k=>by let(n,le,(d,q),o,B,r):=st;show%[n|%[20,le,%[d|k e yi _ q],o,k it yi o B|r]]
 item:=by
  intro X N hw hK hc i ao s T H E I hf st O;subst N hw hK;let(ne,le,(d,q),hs):=st;let M:X.A.ė.ï=Ĵ:=by simp[I.ok.hd hc]
  let hg':k+i<k+(S l).ñ.E:=rn O k;let F:∀(D:ŵ X.Ñ X.w X.A.ė it [it] (S l).ñ.E (λi v=>∃c u,(S l).ñ[i]?=į c/\v=.X ⟨#[c]⟩ u) (λi h=>h.Ģ it ty (S l) t i)),
    ĺ (ľ X.Ñ X.w) X.A (pyNext<|.H e) (λr s1=>∃u,r=į u/\ĺ (ľ X.Ñ X.w) X.A (letOwnedTupleGo (.Ě elts x1 pos) (.H e) u) (λ_ s2=>∃x H',aL X ao T H' s2/\bH x u/\(yU l k).Aw i H x H'/\(e≠it/\i+1<=l.v/\(∃d,Ũ s2.C e it ((k+(i+1):ı):Ŀ) d)/\s2.C.Ģ it ty (S l) t (i+1))/\∀b∈[e,it],H' b=Ĵ) E s1) E s:=by
   intro D;calc wpAny_pyNext_enum_itemD (Nz D k) q %[0,i,rb|hs] hg' ne (by simp[ne]) λx h' tk N B g hT hsz hk=>?_;let(i',ei,c,u,Z,rfl):=N;let(i'',ei2,g):=g;obtain rfl:i'=i:=by lia
   obtain rfl:i''=i'+1:=by lia
   calc%[0,_,rb|wpAny_letOwnedTupleGo_enum B λh2 he2 G=>?_];let(o,ho2,r2):=g;let(oi,Y,_):=id hs;let(I3,fr):=aL.pair (i:=k+i') (x:=.X (S [c])) I hf (a6 q) (a6 Y) %[u|rb] hT hk G;refine%[6,.H s.n,_,I3,rb,%[4,s.n,c,I.ð.à<|ai _,rb,by simpa [S] using Z|rb],%[ne|%[20,O,%[_|by simpa [Int.add_assoc] using he2],o,(G.2 it<|ib ne).À ho2|r2]]|fr]
  rcases L with rfl|rfl;.show F<|Draws.strAscii M it (S l) t
  .show F<|Draws.strWide M it (S l) t
 done:=by
  intro X N hw hK hc i ao s T H E I hf st O;subst N hw hK;let(ne,le,(d,q),hs):=st;let M:X.A.ė.ï=Ĵ:=by simp[I.ok.hd hc]
  let hi:i=(S l).ñ.E:=mP le O;let g:=hs;rw[hi]at g;let(f0,f1,f2,f3,f4,f5):=hf it yi;rcases L with rfl|rfl
  .show wpAny_pyNext_enum_endD (Draws.strAscii M it (S l) t) q g λh' eb=>%[rb|I.ħ (t':=s.toks) (λb o J e=>eb b o J e) f0 f1 f3 f4 f5]
  .show wpAny_pyNext_enum_endD (Draws.strWide M it (S l) t) q g λh' eb=>%[rb|I.ħ (t':=s.toks) (λb o J e=>eb b o J e) f0 f1 f3 f4 f5]
 self:=λA i s Q E st h=>by let(_,_,(d,q),_):=st;show pV q h
def R_ {K:W.Ì}{elts:İ ŋ}{x1}{ty:œ}(d:ty="str_ascii_iterator"\/ty="str_iterator")(l:İ ı)(t:Tok)(it e:ĸ):Turn P w K (.Ě elts x1 pos) (Ky l) [e,it] e (λi h=>e≠it/\i<=l.v/\(∃g,Ũ h e it i g)/\h.Ģ it ty (S l) t i):=by
 let h:=Dl (P:=P) (w:=w) (K:=K) (elts:=elts) (x1:=x1) (pos:=pos) d l 0 t it e;let q:yU l 0=Ky l:=by unfold yU Ky;simp only[iS]
 simp only[iS]at h;rw[q]at h;show h
def Sd {P:ń}{w:ň}{K:W.Ì}{elts:İ ŋ}{x1}{pos:Pos}(a it e:ĸ):Turn P w K (.Ě elts x1 pos) (Yr K a) [e,it] e (λi h=>(e≠it/\a≠e/\a≠it)/\(∃d,Ũ h e it i d)/\h.Ĩ it a i) where
 mem:=by simp
 obj:=λi h st b hb=>by
  let(_,(d,g),o,q,_,hd):=st;rcases a8.mp hb with z|z;.show%[0,_,by rw[z];show g|λv y=>by cases y]
  .show%[0,o,by rw[am.mp z];show q|λv y=>by rw[hd]at y;cases y]
 keep:=λi h h' st k=>by let(n,(d,g),o,q,r):=st;show%[20,n,%[d|k e yi _ g],o,k it yi o q|r]
 item:=by
  intro X J hw hK Z i ao s C H E I hf st Y;subst J hw hK;let((ne,D,B),(d,g),hs):=st;let(xs,x,L,hx):=Y;let(its,rv,p,hz):=I.Ĕ L;let(v,hv,ru):=rv.get hx;let hh:X.A.ė.ï=Ĵ:=by simp[I.ok.hd Z]
  let hit:i<its.R.E:=by have:=(al.mp hv).1;simpa using this
  let hpa:s.C.IsTuple a its.R:=p;calc wpAny_pyNext_enum_itemD (ac5 hh it a B its.R) g %[hs|hpa] hit ne (by simp[ne,D.symm]) λy h' tk J q hs' M hsz hk=>?_;calc%[0,_,rb|wpAny_letOwnedTupleGo_enum q λh2 he2 G=>?_];let((o,ho2,r2),_):=hs';let(oi,N,_):=id hs;let ey:y=v:=by
   let h1:its[i]?=į y:=by simpa using J
   rw[hv]at h1;show(bo h1).Ð
  subst ey;let(I3,fr):=aL.pair (x:=x) I hf (a6 g) (a6 N) ru M hk G;refine%[6,.H s.n,_,I3,rb,%[4,s.n,x,I.ð.à<|ai _,rb,λys hy=>by rw[I.GR hy L];show hx|rb],%[20,%[ne,D|B],%[_|by simpa using he2],o,(G.2 it<|ib ne).À ho2|r2]|fr]
 done:=by
  intro X J hw hK Z i ao s C H E I hf st Y;subst J hw hK;let((ne,D,B),(d,g),hs):=st;let(xs,L,hx):=Y;let(its,rv,p,hz):=I.Ĕ L;let hl:=rv.v;let hh:X.A.ė.ï=Ĵ:=by simp[I.ok.hd Z]
  let(f0,f1,f2,f3,f4,f5):=hf it yi;let M:s.Ā (.H e) "enumerate":=%[0,_,g|rb]
  unfold pyNext;calc aa<|iP<|eR (name:=Str.ú "__next__") M F.slot_enumerate_next<|c_ F.slot_enumerate_next M F.entry_enumerate_next ?_<|F.args_enumerate_next_1 _;show ĺ _ _ (Ŭ (.H e) 2 >>= _) _ _ _;calc aa<|fm g rb (x:=.H it) rb ?_;calc aa<|Px hh hs (show s.C.IsTuple a its.R from p) (by simp;simp_all) λh' x he' hx'=>?_;let(o,q,O):=hx';calc aa<|hV (T:="StopIteration") (b:=true) %[0,o,q|O] isSubtype_stop ?_;show ag %[rb|I.ħ (t':=s.toks) (λb o hb e=>he' b o hb e) f0 f1 f3 f4 f5]
 self:=λA i s Q E st h=>by let(_,(d,g),_):=st;show pV g h
section
variable {X:Cx}{elts:İ ŋ}{x1:ı}{tp:Pos}
def ac6 (ta:TA):TI:=λT H R=>ta T H λvs H1=>∃l,vs=[.X (S l)]/\R (Ky l) H1
def ac7 (K:W.Ì)(ta:TA):TI:=λT H R=>ta T H λvs H1=>∃a,vs=[.H a]/\(∃xs,bf K H1 a xs)/\R (Yr K a) H1
def Ys (D:Gl X "enumerate")(hm:X.mg "enumerate"=Ĵ)(ha:QA X [a] ta)(hs:Ŷ (Ņ [a] X.Ê=[(Ķ,ŏ a X.Ê)]) ŷ):QI X (.Ě elts x1 tp) (.ġ (.è "enumerate" p) [a] [] pos) (ac6 ta):=⟨by
 intro ao s T H R I h;calc Call_<|mF I D hm boot_enumerate<|gr (bD (ha.Ý pos ao s T H _ I h) λus s1 G=>?_) hs rb;let(vs,H1,I1,r1,q1):=G;let(l,e,q):=q1;subst e;cases r1 with
 | cons r rr=>
  cases rr;let(t,rfl):=r;let d:strIterType (S l)="str_ascii_iterator"\/strIterType (S l)="str_iterator":=by unfold strIterType;split <;> simp
  calc call_enumerate_str λh' B g hsz hk=>pV B ?_;calc%[12,s1.n+1,[s1.n+1,s1.n],_,_,H1,rb,I1.Ħ (t':=s1.toks) hk,R_ d l t s1.n _,%[xw _,bE _,%[_|B]|g],λb F=>?_|q];rcases a8.mp F with z|z
  .rw[z];show I1.mz (km _)<|I1.ð.à<|km _
  .rw[am.mp z];show I1.mz (ai _)<|I1.ð.à<|ai _⟩
def Kz (F:Gl X "enumerate")(hm:X.mg "enumerate"=Ĵ)(ha:QA X [a] ta)(hs:Ŷ (Ņ [a] X.Ê=[(Ķ,ŏ a X.Ê)]) ŷ):QI X (.Ě elts x1 tp) (.ġ (.è "enumerate" p) [a] [] pos) (ac7 X.K ta):=⟨by
 intro ao s T H R I h;calc Call_<|mF I F hm boot_enumerate<|gr (bD (ha.Ý pos ao s T H _ I h) λus s1 M=>?_) hs rb;let(vs,H1,I1,r1,q1):=M;let(a,e,(xs,L),q):=q1;subst e;cases r1 with
 | cons r rr=>
  cases rr;cases r;let(its,N,D,hz):=I1.Ĕ L;let d:a<s1.n:=by
   let(o,G,_):=(show s1.C.IsTuple a its.R from D)
   show a6 G
  calc aeA (show s1.C.IsTuple a its.R from D) λh' B g hsz hk=>pV B ?_;calc%[12,s1.n+1,[s1.n+1,s1.n],_,_,H1,rb,I1.Ħ (t':=s1.toks) hk,Sd a s1.n _,%[%[xw _,bb<|fh d|bb d],%[_|B]|g],λb J=>?_|q];rcases a8.mp J with z|z
  .rw[z];show I1.mz (km _)<|I1.ð.à<|km _
  .rw[am.mp z];show I1.mz (ai _)<|I1.ð.à<|ai _⟩
end
def Hs {K:W.Ì}{a:ĸ}{xs:İ V}{g:TG}{tb:TS}{D:Ends}{I:St}{H:Hp}(d:ı->St->Hp->Prop)(B:d 0 I H)(q:∀i I H,i<=xs.v->d i I H->bf K H a xs)(hs:∀i x I H T,xs[i]?=į x->d i I H->H T=Ĵ->g (.H T) I (upd H T<|.Ç [.M i,x]) λI2 H2=>tb {D with nx:=d<|i+1,ct:=d<|i+1,bk:=D.nx} I2 H2)(hd:∀I H,d xs.v I H->D.nx I H):Fj (Yr K a) g tb D I H:=Rr xs.v d B (λi I H h p=>%[%[3,xs,xs[i],q i I H (ay h) p|by simp[h]]|λx H' y=>by let(T,y,G,rfl,F,rfl):=y;show hs i y I _ T (F xs<|q i I H (ay h) p) p G]) λI H p=>%[%[0,xs,q _ I H (ai _) p|ai _]|hd I H p]
def Vp {l:İ ı}{f:St->St}{tt:TT}{KT:W.Ì}{D:ĸ}{te:TE}{I:St}{H:Hp}{R:Hp->Prop}(d:ı->İ V->Hp->Prop)(B:d 0 [] (upd H D<|.Æ []))(hs:∀i c ys H T,l[i]?=some c->d i ys H->H T=none->wQ l.v i D (λv H Q=>∃a p q,v=.H a/\bf KT H a [p,q]/\Q [į p,į q]) f I tt te (.H T) (upd H T<|.Ç [.M i,.X (S [c])]) ys (d<|i+1))(hd:∀ys H,d l.v ys H->R H):sy (Ky l) D H R (Dd (λv H Q=>∃a p q,v=.H a/\bf KT H a [p,q]/\Q [į p,į q]) f I tt te):=Fo l.v d B (λi ys H h p=>%[h|λx H' y=>by let(T,c,F,rfl,g,rfl):=y;show hs i c ys H T g p F]) λys H p=>%[ai _|hd ys H p]
section
variable {X:Cx}
def KC (N:X.ĭ=ĳ):fM X (.Ô "any") (λxs H Q=>∃(p:Addr) (bs:İ ō),xs=[.H p]/\aP X.K H p (bs.L V.bl)/\Q (.bl<|bs.Ğ id) H):=by
 intro ao s T H xs us Q I r h;let(p,bs,rfl,Z,q):=h;let(u,rfl,B):=vals1 r;cases B;let(its,F,pl,hz):=I.ğ Z;let J:p≠s.n:=by let(o,M,_):=pl.ÿ;show bb<|a6 M
 let O:∀(i:ı) (v:Ĳ),its[i]?=į v->v=.Ă (bs.Î i Ķ):=λi v hv=>by
  let d:=F.v;let hi:i<bs.v:=by have:=(al.mp hv).1;simp at d;simp_all
  let(u,L,B):=F.get (i:=i) (x:=.bl bs[i]) (by simp[hi]);rw[hv]at L;cases L;cases B;simp[List.getD,hi]
 calc call_any_walk<|nE pl.ÿ ?_;refine%[60,s.n,_,_,_,_,_,λi=>bs.Î i Ķ,rb,Walks.ğ (A:=X.A.in1) (I.ok.hd N) s.n p J its.R,%[%[2,_,aI _ rb,rb|rb]|pl.ÿ.at λo e=>af _ e],?_|λh' tk Y=>?_]
 .intro i v s' Q' E' hv g;let e:=O i v (by simpa using hv);subst e;show eM g
 .let I1:aL X ao T H {s with heap:=h',toks:=tk}:=I.Ħ λb o e=>Y b o (by
   intro hm;have:b=s.n:=by simpa using hm
   subst this;show ŀ (a6 e)<|iO _)<|af _ e
  calc%[1,.bl<|bs.Ğ id,H,I1,?_|q];show Value.Ă _=Value.Ă _;let d:its.R.E=bs.v:=by have:=F.v;simp at this;simp[this]
  rw[d];congr 1;let D:∀bs:İ ō,(List.å bs.v).Ğ (λi=>bs.Î i Ķ)=bs.Ğ id:=λbs=>by
   rw[mM,xy,xy];constructor
   .intro z;let(i,hi,h):=z;let G:=b3.mp hi;show%[0,bs[i],be _|by simpa [List.getD,G] using h]
   .intro z;let(x,hx,h):=z;let(i,hi,rfl):=cn.mp hx;show%[0,i,b3.Ù hi|by simpa [List.getD,hi] using h]
  show D bs
end
structure ZA (z ti to u v a b:ĸ):Prop where
 q1:ti≠z
 q2:to≠z
 q3:u≠z
 q4:v≠z
 q5:ti≠to
 q6:ti≠u
 q7:ti≠v
 q8:to≠u
 q9:to≠v
 p1:u≠v
 p2:a≠z
 p3:a≠to
 p4:a≠u
 p5:a≠v
 p6:b≠z
 p7:b≠to
 p8:b≠u
 p9:b≠v
section
variable {X:Cx}{ao:AC}{T:St}{H:Hp}{s:ļ}
def aL.aeB {fp:İ ĸ}{tk:ı}{x y:V}{p q:Ĳ}{B:Ň}(I:aL X ao T H s)(hf:∀b∈fp,mq X ao H b)(lt:∀b∈fp,b<s.n)(L:bH x p)(D:bH y q)(Z:B.Á s.n=į {cls:=.Ä "tuple",data:=.î #[p,q]})(hk:∀b o,b∉fp->s.C.Á b=į o->B.Á b=į o):aL X ao T (upd H s.n<|.Ç [x,y]) {s with heap:=B,toks:=tk}/\∀b∈fp,upd H s.n (.Ç [x,y]) b=Ĵ:=by
 let I2:aL X ao T (upd H s.n<|.Ç [x,y]) {s with heap:=s.C.Ï {cls:=.Ä "tuple",data:=.î #[p,q]},toks:=tk}:=I.ģ (λb v e=>af _ e) (ai _) %[11,zsz 2,[p,q],.á L<|.á D .ê|%[31,_,aI _ rb,rb,_|rb]]
 let fr:∀b∈fp,upd H s.n (.Ç [x,y]) b=Ĵ:=λb d=>by rw[aM (bb<|lt b d)];show(hf b d).1
 let I3:=aL.Fw (s:={s with heap:=s.C.Ï {cls:=.Ä "tuple",data:=.î #[p,q]},toks:=tk}) (h':=B) (fp:=fp) (t':=tk) I2 (λb o d g=>?_) λb d=>?_
 .show%[I3|fr]
 .rcases u7 g with⟨O,J⟩|z;.rw[O,J];show Z
  .show hk b o d z
 .let(f0,Y,G,M,F,N):=hf b d;show%[fr b d,Y,G,M,F|N]
def Vq:bootBuiltins "zip"=į (.Ä "zip"):=by decide +kernel
end
end L2
namespace HT
open PySem PySem.Spec PyProof.Rows
end HT
namespace L2
open PySem PySem.Spec PyProof.Rows PySem.W
section
variable {a:ĸ}
abbrev zl1 (h:Ň)(a:ĸ):Ň:=h.Ï {cls:=.Ä "list_iterator",data:=.ë #[.H a,.M 0 0]}
end
def SetT (w:ň)(h:Ň)(a:ĸ)(es:ł (Ŀ×Ĳ))(ep:ı)(t:Ō):Prop:=∃o,h.Á a=į o/\o.ExactSet/\o.Ĉ=.ĉ es ep t/\t.fits es.E=ĳ/\(w.ã.é "set-order"=ĳ\/t.led=ĳ)/\(t.plain=Ķ\/es.E=0)
def pG (e:Ŀ×Ĳ):İ ı:=match e.2 with| .X x _=>x.cps.toList| _=>[]
structure yV (w:ň)(es:ł (Ŀ×Ĳ))(ws:AA):Prop where
 sh:∀e∈es.I,∃(l:İ ı) (u:Tok),e=(hashStr w<|S l,.X (S l) u)
 nd:(es.I.L pG).Ö
 mem:∀l,l∈es.I.L pG↔l∈ws
def SetT.mv {h h':Ň}(m:SetT w h a es ep t)(k:∀o,h.Á a=į o->h'.Á a=į o):SetT w h' a es ep t:=let %[o,p|q]:=m;%[0,o,k _ p|q]
def SetT.ty {s:ļ}(m:SetT w s.C a es ep t):s.Ā (.H a) "set":=let %[o,p,q|_]:=m;%[0,o,p|q.1]
def SetT.lt (m:SetT w h a es ep t):a<h.Q.E:=let %[o,p|_]:=m;a6 p
def yV.el (prog)(m:yV w es ws):ElemsOf (PySem.strKind prog w) es.I:=λe d=>by let(l,u,rfl):=m.sh e d;show%[%[0,S l,strKind_is _ _ _ _|rb]|rb]
def Vr (t:Ō)(n):(t.orStandIn n).led=t.led:=by unfold SetTable.orStandIn;split <;> rfl
def aaW (t)(es)(h)(x):(layNew t es h x).2.1.led=t.led:=by
 unfold layNew;split;.show Vr _ _
 .rfl
def Vs (t)(es)(n):(relayAll t es n).2.1.led=t.led:=by
 unfold relayAll SetTable.relaid SetTable.laid;cases h:SetTable.layClean (SetTable.sizeAbove n-1) (es.L (·.1)) with| none=>rfl| some o=>dsimp only[bind,Option.bind,pure];split <;> rfl
def NK (t:Ō)(es)(n)(hp:t.plain=Ķ):(relayAll t es n).2.1.plain=Ķ:=by
 unfold relayAll SetTable.relaid SetTable.laid;cases h:SetTable.layClean (SetTable.sizeAbove n-1) (es.L (·.1)) with
 | none=>rfl
 | some o=>
  dsimp only[bind,Option.bind,pure];split;.show hp
  .rfl
def yV.perm {es d:ł (Ŀ×Ĳ)}(m:yV w es ws)(p:d.I.ò es.I):yV w d ws:=%[λe g=>m.sh e<|p.æ.mp g,(p.L pG).nodup_iff.Ù m.nd|λl=>(p.L pG).æ.À<|m.mem l]
section
variable {prog:ń}{w:ň}{A:ŉ}{E:AB}{s:ļ}{a:ĸ}{es:ł (Ŀ×Ĳ)}{ep:ı}{t:Ō}{ws:AA}
def rB {d:ł (Ŀ×Ĳ)}{t':Ō}(m:SetT w s.C a es ep t)(hf:t'.fits d.E=ĳ)(F:t'.led=t.led)(hp:t'.plain=Ķ)(hz:d.E<scanBound)(q:∀h',Heap.ă a s.C h'->SetT w h' a d (ep+1) t'->Q () {s with heap:=h' }):ĺ (ľ prog w) A (storeSet a d t') Q E s:=by let(o,D,g,hd,_,G,_):=m;calc wpAny_storeSet_of D hd (q _ (gh s.C a<|Obj.putSet d t') ?_)<|fits_of_scanBound hz;let B:=ej (Obj.putSet d t') D (by rw[putSet_of d t' hd];rfl);rw[putSet_of d t' hd]at B;show%[36,_,B,g,rb,hf,by rw[F];show G|.Â hp]
def Yt (m:SetT w s.C a es ep t)(el:yV w es ws)(hz:es.E+1<scanBound)(q:∀b h' B G t',Heap.ă a s.C h'->SetT w h' a B G t'->yV w B (ws++[l])->B.E<=es.E+1->Q b {s with heap:=h' }):ĺ (ľ prog w) A (setAddHashed a (.X (S l) u)<|hashStr w<|S l) Q E s:=by
 let hel:=el.el prog;let hkey:(PySem.strKind prog w).is (S l) (.X (S l) u)=ĳ:=strKind_is _ _ _ _;let(o,ho,hex,hd,hf,hb,hp):=id m;unfold setAddHashed setAddHashedIn;calc dL<|aa<|fR ho hd hf ?_;dsimp only;rw[byScan_of (knd:=PySem.strKind prog w) rb (ay hz) hel];simp only[↓reduceIte];unfold setAddByScan;calc aa ?_;calc aa<|fA ?_;calc aa<|wpAny_setScan_of (knd:=PySem.strKind prog w) hkey ho hd hf hel ?_;let cg:∀e∈es.I,(PySem.strKind prog w).is (S l) e.2=Ļ (pG e=l):=λe M=>by
  let(l',u',rfl):=el.sh e M;show (Value.isStrOf (S l)<|.X (S l') u')=Ļ (l'=l);by_cases e:l'=l;.subst e;simp[Value.isStrOf]
  .have:¬S l=S l':=λz=>e (qZ z).Ð
   simp[Value.isStrOf,e,this]
   try show λz=>this z.Ð
 cases hr:List.findIdx? (λe=>(PySem.strKind prog w).is (S l) e.2) es.I with
 | some j=>
  dsimp only;let(hj,hpj,_):=List.findIdx?_eq_some_iff_getElem.mp hr;let hl:l∈es.I.L pG:=a5.Ù %[0,_,be hj|by have:=cg _<|be hj;rw[hpj]at this;simpa using this.symm];calc ag<|ag ?_;let e:s={s with heap:=s.C}:=by cases s;rfl
  rw[e];calc q _ s.C es ep t (Heap.ă.Č a s.C) m %[el.sh,el.nd|λl'=>?_]<|km _;rw[el.mem l',aT,am];show%[.Â|λz=>z.ó id λz=>z ▸ (el.mem l).mp hl]
 | none=>
  dsimp only;let hnl:l∉es.I.L pG:=λz=>by let(e,M,ek):=a5.mp z;let h1:=List.findIdx?_eq_none_iff.mp hr e M;rw[cg e M,ek]at h1;simp at h1
  let hgw:∀(b:ō) {s₁:ļ} {Q':š->ļ->Prop},Q' () s₁->ĺ (ľ prog w) A (match b with|true=>rule "set.scan.the-table-gave-way"|false=>pure ()) Q' E s₁:=λb s₁ Q' hq=>by cases b <;> first|show ag hq|show fA hq
  let g:=layNew_perm t es (hashStr w<|S l)<|.X (S l) u;let D:=layNew_fits t es (hashStr w<|S l)<|.X (S l) u;let Sg:=aaW t es (hashStr w<|S l)<|.X (S l) u;let agt:(PySem.strKind prog w).ü (S l)=hashStr w (S l):=rfl;generalize hL:layNew t es (hashStr w<|S l) (.X (S l) u)=L at g D Sg ⊢;let(d,t1,J,gave):=L;dsimp only at g D Sg ⊢;rw[gv]at g;let Z:d.E=es.E+1:=by rw[<-bn,g.length_eq,aE,bn];rfl
  let el1:yV w d (ws++[l]):=by
   let el0:yV w (es.Ï (hashStr w<|S l,.X (S l) u)) (ws++[l]):=by
    refine%[λe M=>?_,?_|λl'=>?_]
    .rw[gv]at M;rcases aT.mp M with M|M;.show el.sh e M
     .rw[am]at M;show%[10,l,u|M]
    .rw[gv,b4];calc lS.Ù %[el.nd,yi|λx hx y hy=>?_];have:y=l:=am.mp hy;subst this;show λz=>hnl<|z ▸ hx
    .rw[gv,b4,aT,aT,el.mem l'];rfl
   show el0.perm (by rw[gv];show g)
  let fin:∀{R:ĵ ō->ļ->Prop} (F:Ō),F.fits d.E=ĳ->F.led=t.led->F.plain=Ķ->(∀h' B G t',Heap.ă a s.C h'->SetT w h' a B G t'->yV w B (ws++[l])->B.E<=es.E+1->R (į ĳ) {s with heap:=h' })->
    ĺ (ľ prog w) A (do
     storeSet a d F
     if (!J&&F.tooFull)=ĳ then do
       (match (relayAll F d<|SetTable.grown d.E).2.2 with|true=>rule "set.scan.the-table-gave-way"|false=>pure ())
       storeSet a (relayAll F d<|SetTable.grown d.E).1 (relayAll F d<|SetTable.grown d.E).2.1
       pure (į ĳ)
      else pure (į ĳ)) R E s:=by
   intro R F hf2 hl2 hp2 hR;calc aa<|rB m hf2 hl2 hp2 (by simp_all) λh1 Py m1=>?_;split
   .let N:=relayAll_perm F d<|SetTable.grown d.E;let O:=relayAll_fits F d<|SetTable.grown d.E;let Y:=Vs F d<|SetTable.grown d.E;let Yu:=NK F d (SetTable.grown d.E) hp2;generalize hRl:relayAll F d (SetTable.grown d.E)=Rl at N O Y Yu ⊢;let(es2,t3,gave2):=Rl;dsimp only at N O Y Yu ⊢;let hsz:es2.E=d.E:=by rw[<-bn,N.length_eq,bn]
    calc aa<|hgw _ ?_;calc aa<|rB (s:={s with heap:=h1}) m1 O Y Yu (by simp[*]) λh2 sb2 m2=>?_;show ag<|hR h2 es2 _ t3 (Py.À sb2) m2 (el1.perm N) (by simp[*])
   .show ag<|hR h1 d _ F Py m1 el1<|fq Z
  calc aa<|hgw _ ?_;let hbv:hashByValue 8 (.X (S l) u)=pure Ķ:=by simp[hashByValue]
  cases hp1:t1.plain with| true=>simp only[↓reduceIte];calc aa ?_;rw[hbv];calc ag ?_;simp only[bq,↓reduceIte];show fin {t1 with plain:=Ķ} (SetTable.fits_plain_off D) Sg rb λh' B G t' sb m' e' z=>by dsimp only;show ag<|q _ h' B G t' sb m' e' z| false=>simp only[bq,↓reduceIte];calc aa<|ag ?_;simp only[↓reduceIte];show fin t1 D Sg hp1 λh' B G t' sb m' e' z=>by dsimp only;show ag<|q _ h' B G t' sb m' e' z
end
def jf (w:ň)(a:ĸ)(ws:AA)(k:ı):Ň->Prop:=λh=>∃es ep t,SetT w h a es ep t/\yV w es ws/\es.E<=k
def jf.mv {h h':Ň}(m:jf w a ws n h)(k:∀o,h.Á a=į o->h'.Á a=į o):jf w a ws n h':=let %[es,ep,t,q|r]:=m;%[30,es,ep,t,q.mv k|r]
section
variable {prog:ń}{w:ň}{A:ŉ}{I:ĸ}{fp wr:İ ĸ}{n:ı}{P:ı->Ĳ->Prop}{St:ı->Ň->Prop}{R:ų->ļ->Prop}
def Vt (W:Ų prog w A.ė I fp wr n P St)(S0)(q:S0∉fp)(val:ı->İ ı)(B:∀i v,P i v->∃t,v=.X (S<|val i) t)(d:n+1<scanBound):∀(k i:ı) (s:ļ),n-i=k->i<=n->St i s.C->jf w S0 ((List.å i).L val) i s.C->
   (∀h' tk,(∀b o,b∉S0::wr->s.C.Á b=į o->h'.Á b=į o)->jf w S0 ((List.å n).L val) n h'->R (.ok<|.ret .Û) {s with heap:=h',toks:=tk})->
   codeAny (ľ prog w) A (.Ô "set.update.loop" %[[.H S0,.H I]|[]]) R s:=by
 let G:S0∉wr:=λh=>q<|W.sub _ h;let sub:∀b,b∉S0::wr->b∉wr:=λb d h=>d<|av _ h;intro k
 induction k with
 | zero=>intro i s hk hi g J L;let cg:i=n:=yf;subst cg;calc gE oz ?_;rw[gL iA _];show ĺ _ A.ė (pyNext (.H I) >>= _) _ _ s;calc aa<|W.done s _ _ g λh' tk hm=>?_;show ĺ _ A.ė (ret Value.Û) _ _ _;show ag<|L h' tk (λb o d e=>hm b o (sub b d) e)<|J.mv λo e=>hm S0 o G e
 | succ k ih=>
  intro i s hk hi g J L;let F:i<n:=Nat.lt_of_sub_eq_succ hk;calc gE oz ?_;rw[gL iA _];show ĺ _ A.ė (pyNext (.H I) >>= _) _ _ s;calc aa<|W.item i s _ _ F g λv h1 tk hP D hm=>?_;let(t,rfl):=B i v hP;let(es,ep,tb,m1,e1,z1):=J.mv (h':=h1) λo e=>hm S0 o G e;show ĺ _ A.ė (holding [Value.X (S<|val i) t] (setAdd S0<|.X (S<|val i) t) >>= _) _ _ _;calc aa<|dL ?_;unfold setAdd;calc dL ?_;calc aa<|(PySem.strKind prog w).pyHash (k:=S (val i)) (strKind_is _ _ _ _) ?_;calc Yt (s:={s with heap:=h1,toks:=tk+1}) m1 e1 yf λb Z N M t2 Y m2 e2 z2=>?_;refine ag %[plainId_quiet iA _|ih (i+1) _ (gN yf) F (W.frame _ h1 _ D λb d o e=>?_) %[21,N,M,t2,m2,by rw[f_,b4];show e2|yf] λh3 O Dm m3=>?_]
  .show Z.Á b=į o;rw[Y.2 b (λh:b=S0=>q (by rw[<-h];show d))];show e
  .calc L h3 O (λb o d e=>Dm b o d ?_) m3;show Z.Á b=į o;rw[Y.2 b (λh:b=S0=>d (by rw[h];show a4))];show hm b o (sub b d) e
end
section
variable {prog:ń}{w:ň}{A:ŉ}{E:AB}{s:ļ}
variable {X:Cx}
def yd (a)(h:Q₁ (.H s.n) {s with heap:=s.C.Ï {cls:=.Ä "set",dict:=Ĵ,data:=.ĉ #[] 0<|.à 0 0<|!w.ã.é "set-order"} }):codeAny (ľ prog w) A (.call (.Ô "set.__new__") %[[.Ä "set",a]|[]]) (wants Q₁ E) s:=by
 calc u8 ?_;show ĺ _ A.ė (do checkBuiltinCall "set.__new__" %[[.Ä "set",a]|[]];again (.Ô "set.__new__" %[[.Ä "set",a]|[]])) _ _ s;calc aa<|hG (F.newCall_set_1 a)<|ag %[plainId_quiet F.plain_set_new _|gE F.entry_set_new ?_];rw[gL F.plain_set_new _];unfold Builtin.«set.__new__» Builtin.Frozenset.newClass;let q:=sub_set_self;let(hp,g,d,tk,os):=s;dsimp only
 wp_walk
 calc og<|ag ?_;dsimp only;simp only[newObj];calc aa<|wpAny_alloc<|ag ?_;show ag h
def Sh {h:Ň}(e:h.Á a=į {cls:=.Ä "set",dict:=Ĵ,data:=.ĉ #[] 0<|.à 0 0<|!w.ã.é "set-order"}):jf w a [] 0 h:=%[21,#[],0,_,⟨36,_,e,%[rb,rb|rb],rb,rb,by cases q:w.ã.é "set-order" <;> simp[SetTable.fresh,q],.Ò rb⟩,%[λe d=>by simp at d,yi|λl=>by simp]|ai _]
def Vu (Y:A.ï=Ĵ)(M:∀(A':ŉ) (E':AB) (Q':š->ļ->Prop) (h1:Ň),A'.ï=Ĵ->h1.Q.E=s.n+1->jf w s.n [] 0 h1->(∀b o,s.C.Á b=į o->h1.Á b=į o)->
   (∀h' tk,(∀b o,s.C.Á b=į o->h'.Á b=į o)->jf w s.n ws n h'->Q' () {s with heap:=h',toks:=tk})->
   ĺ (ľ prog w) A' (Builtin.Frozenset.updateFrom "set.__init__" s.n src) Q' E' {s with heap:=h1})
  (h:∀h' tk,(∀b o,s.C.Á b=į o->h'.Á b=į o)->jf w s.n ws n h'->Q (.H s.n) {s with heap:=h',toks:=tk}) :
  ĺ (ľ prog w) A (call (.Ä "set") [src]) Q E s:=by
 let(c,tl,q):=ga.mro;let g:=ga.made;let G:=ga.sub;calc sM<|u8 ?_;show ĺ _ _ (callAny (.Ä "set") _) _ _ _;calc ag %[wo _ yo|gE xj ?_];rw[wq (weight_type_call_type "set" [src] []) rfl];let h1:=ga.notType;let h2:=ga.canCreate;let L:=F.typeCall_set_1 src
 repeat (any_goals (first|assumption|wp_step))
 calc kc (yd src (E:=E) (Q₁:=λobj J=>obj=.H s.n/\J={s with heap:=s.C.Ï {cls:=.Ä "set",dict:=Ĵ,data:=.ĉ #[] 0<|.à 0 0<|!w.ã.é "set-order"} }) %[rb|rb]) λr J hr=>?_;cases r with
 | error e=>show hr
 | ok fl=>
  cases fl with
  | ret obj=>
   let(rfl,rfl):=hr;let B:(s.C.Ï {cls:=.Ä "set",dict:=Ĵ,data:=.ĉ #[] 0<|.à 0 0<|!w.ã.é "set-order"}).Á s.n=į {cls:=.Ä "set",dict:=Ĵ,data:=.ĉ #[] 0<|.à 0 0<|!w.ã.é "set-order"}:=aI _ rfl;let hT:Shared.Ā {s with heap:=s.C.Ï {cls:=.Ä "set",dict:=Ĵ,data:=.ĉ #[] 0<|.à 0 0<|!w.ã.é "set-order"} } (.H s.n) "set":=%[0,_,B|rb]
   let O:=ga.init.Å;let N:=ga.init.bind<|.H s.n
   repeat (any_goals (first|assumption|wp_step))
   refine kc (nS (R:=wants (λr D=>r=.Û/\∃h' tk,D={s with heap:=h',toks:=tk}/\(∀b o,s.C.Á b=į o->h'.Á b=į o)/\jf w s.n ws n h') E) ga.init.plain F.entry_set_init<|check_set_init_1 hT ?_) λr₂ D d=>?_
   .unfold Builtin.«set.__init__» noKeywords;generalize Z:Builtin.Frozenset.updateFrom=U
    wp_walk
    subst Z;calc M _ _ _ _ (by simp[Y]) (eS ..) (Sh B) (λb o e=>af _ e) λh' tk k m=>?_;calc ag ?_;show%[14,rb,h',tk,rb,k|m]
   .cases r₂ with
    | error e=>show d
    | ok fl₂=>
     cases fl₂ with
     | ret r=>
      let(rfl,h',tk,rfl,k,m):=d
      repeat (any_goals (first|assumption|wp_step))
      show h _ _ k m
     | _=>show d.ó
  | _=>show hr.ó
def Vv (hh:A.ï=Ĵ)(M:s.C.IsList l items)(hS:jf w S0 [] 0 s.C)(hne:S0≠l)(Z:S0<s.n)(g:∀i v,items[i]?=į v->∃t:Tok,v=Value.X (S<|val i) t)(O:items.E+1<scanBound)(q:∀h' tk,(∀b o,b≠S0->s.C.Á b=į o->h'.Á b=į o)->jf w S0 ((List.å items.E).L val) items.E h'->Q () {s with heap:=h',toks:=tk}):ĺ (ľ prog w) A (Builtin.Frozenset.updateFrom "set.__init__" S0<|.H l) Q E s:=by
 let(ol,J,D,nl,B):=id M;let(ocls,Y,N,G):=ol;simp only at D B;subst D;subst B;let hsls:=F.sub_list_set;let hslf:=F.sub_list_frozenset;let hnd:(Value.Ä "list" == Value.Ä "dict")=Ķ:=by decide
 unfold Builtin.Frozenset.updateFrom;generalize hPI:pyIter=PI
 wp_walk
 subst hPI;calc nE M ?_;calc aa<|vT ?_;let L:l<s.n:=a6 J;let d:l≠s.n:=bb L;refine Vt (Walks.ğ (by simp[hh]) _ l d items) S0 (by simp only[a8,h8,or_false,not_or];show%[bb Z|hne]) val g O (items.E-0) 0 _ rb (bE _)
  %[%[2,_,aI _ rb,rb|rb]|M.Ï _] (hS.mv λo e=>af _ e) λh' tk k m=>?_
 calc ag ?_;calc q h' tk (λb o O e=>k b o ?_<|af _ e) m;simp only[a8,h8,or_false,not_or];show%[O|bb<|a6 e]
def jf.ext (m:jf w a ws n h):cQ P w H h a (.ext<|jf w a ws n):=by calc%[m,?_|λh1 g p k=>p.mv k];let(es,ep,t,(o,d,_),_):=m;show%[o|d]
def Vw (ws:AA):(List.å ws.v).L (λi=>ws.Î i [])=ws:=by
 apply fi;intro i;rw[a_];by_cases h:i<ws.v;.rw[ie h,ae h];simp[List.getD,h]
 .rw[b9 (by simpa using h),b9 (by simpa using h)];rfl
def Vx (w:ň)(K:W.Ì):İ V->Hp->VK->Prop:=λxs H Q=>∃(a:Addr) (ws:AA),xs=[.H a]/\aP K H a (Ts ws)/\ws.v<=1000/\
 ∀p,H p=Ĵ->Q (.H p) (upd H p<|.ext<|jf w p ws ws.v)
def Ss (M:X.ĭ=ĳ):fM X (.Ä "set") (Vx X.w X.K):=by
 intro ao s T H xs us Q I r h;let(p,ws,rfl,O,hz,q):=h;let(u,rfl,g):=vals1 r;cases g;let(its,J,pl,N):=I.ğ O;let F:=J.v;rw[ab]at F;let D:p<s.n:=by let(o,L,_):=pl.ÿ;show a6 L
 let d:∀(i:ı) (v:Ĳ),its.R[i]?=į v->∃t:Tok,v=Value.X (S<|ws.Î i []) t:=λi v hv=>by
  let hv:its[i]?=į v:=by simpa using hv
  let hi:i<ws.v:=by have:=(al.mp hv).1;simp_all
  let(u,G,g):=J.get (i:=i) (x:=.X (S ws[i])) (by simp[hi]);rw[hv]at G;cases G;let(t,e):=g;show%[t|by rw[e];simp[List.getD,hi]]
 let hsz:its.R.E=ws.v:=by simp[F]
 refine Vu (ws:=ws) (n:=ws.length) (I.ok.hd M) (λA' E' Q' h1 B s1 Y k1 q1=>?_) λh' tk k m=>?_
 .refine Vv (s:={s with heap:=h1}) B (pl.ÿ.at λo e=>k1 _ o e) Y (jS D) (by show s.n<h1.Q.E;simp_all) d (by rw[hsz];show ws.v+1<4096;lia) λh' tk k m=>?_
  rw[hsz,Vw]at m;show q1 h' tk (λb o e=>k b o (bb<|a6 e)<|k1 b o e) m
 .show%[1,.H s.n,_,I.ģ (o:=.ext _) (t':=tk) k (ai _) m.ext,rb|q _ I.à]
end
theorem wR {I:Type}:∀(l:İ I) (i:ı) (h:i<l.v),(l[i]::l.eraseIdx i).ò l
 | a::l,0,h=>.Č _
 | a::l,i+1,h=>(List.ò.swap a _ _).À ((wR l i (by simpa using h)).á a)
def um {I:Type}(d:ı->ı)(xs:ł I):(pickOrder d xs).I.ò xs.I:=by
 let g:∀(f k:ı) (l:İ I) (o:ł I),f=l.v->(pickOrder.go d f k l o).I.ò (o.I++l):=by
  intro f
  induction f with
  | zero=>intro k l o e;cases l with|nil=>simp[pickOrder.go]|cons a r=>simp at e
  | succ f ih=>intro k l o e;let q:0<l.v:=yf;let hi:d k%l.v<l.v:=qS _ q;unfold pickOrder.go;rw[ae hi];dsimp only;calc(ih _ _ _ (by rw[List.length_eraseIdx,Ĺ hi];lia)).À ?_;rw[gv,bz];show jI _ (by simpa using wR _ _ hi)
 have:=g xs.E 0 xs.I #[] yi;simpa [pickOrder] using this
section
variable {prog:ń}{w:ň}{A:ŉ}{E:AB}{s:ļ}
def Jl (hn:n≠0)(h:∀i d,i<n->Q i {s with drawn:=d}):ĺ (ľ prog w) A (choose src n) Q E s:=λ_ _ _=>%[hn|h _ _<|qS _<|Nat.pos_of_ne_zero hn]
theorem Bc {I:Type}:∀(n:ı) (xs:İ I) {s:ļ} {Q:İ I->ļ->Prop},n=xs.v->(∀ys d,ys.ò xs->Q ys {s with drawn:=d})->ĺ (ľ prog w) A (drawOrder n xs) Q E s
 | 0,xs,s,Q,e,h=>by have:xs=[]:=md.mp e.Ð;subst this;unfold drawOrder;show ag<|h [] s.drawn .ê
 | n+1,[],s,Q,e,h=>by simp at e
 | n+1,x::xs,s,Q,e,h=>by unfold drawOrder;calc aa<|Jl yi λi d hi=>?_;rw[ae hi];dsimp only;calc aa<|Bc n _ (by rw[List.length_eraseIdx,Ĺ hi];simp_all) λys d' p=>ag ?_;calc h _ d' ?_;show((p.á _).À<|wR _ _ hi)
end
end L2
namespace PySem.F
def bR:Ŵ "set_iterator" "__next__" "set_iterator.__next__":=
 .of (owner:="set_iterator") (n:="__next__") (by rw[typeLookup_type,builtinLookup_eq_fast];kernel_rfl) yo yo yo
  (by first|show .Â yo|show .Ò yo) (by rw[isSubtype_type];kernel_rfl)
def mL:Ŵ "set_iterator" "__iter__" "set_iterator.__iter__":=
 .of (owner:="set_iterator") (n:="__iter__") (by rw[typeLookup_type,builtinLookup_eq_fast];kernel_rfl) yo yo yo
  (by first|show .Â yo|show .Ò yo) (by rw[isSubtype_type];kernel_rfl)
def fW:entryFor table "set_iterator.__next__"=į Builtin.«set_iterator.__next__»:=entryFor_of_tree yn
def Dp:entryFor table "set.__iter__"=į Builtin.«frozenset.__iter__»:=entryFor_alias (id':="frozenset.__iter__") yn rb yo yn
def ql:Manifest.owners.Å (String.ofList ['r','o','t','a','r','e','t','i','_','t','e','s'].â)=į Manifest.sig_set_iterator:=by kernel_rfl
def fO (a):argsOk "set_iterator.__next__" %[[a]|[]]:=by unfold argsOk;rw[signature?_of (id:="set_iterator.__next__") (n:=['_','_','t','x','e','n','_','_']) (o:=['r','o','t','a','r','e','t','i','_','t','e','s']) yn ql];kernel_rfl
def sO:entryFor table "set_iterator.__iter__"=į Builtin.«dict_keyiterator.__iter__»:=entryFor_alias (id':="dict_keyiterator.__iter__") yn rb yo yn
def sS (a):argsOk "set_iterator.__iter__" %[[a]|[]]:=by unfold argsOk;rw[signature?_of (id:="set_iterator.__iter__") (n:=['_','_','r','e','t','i','_','_']) (o:=['r','o','t','a','r','e','t','i','_','t','e','s']) yn ql];kernel_rfl
end PySem.F
namespace L2
open PySem PySem.Spec PyProof.Rows PySem.W
def dB (h:Ň)(it:ĸ)(first:Ĳ)(i:ı)(a:ĸ)(n ep:ı):Prop:=∃o,h.Á it=į o/\o.cls=.Ä "set_iterator"/\o.Ĉ=.ë #[first,.M i 0,.H a,.M n 0,.M ep 0]
def dB.ty {s:ļ}(x:dB s.C it f i a n ep):s.Ā (.H it) "set_iterator":=let %[o,p,q|_]:=x;%[0,o,p|q]
def dB.mv {h h':Ň}(x:dB h it f i a n ep)(k:∀o,h.Á it=į o->h'.Á it=į o):dB h' it f i a n ep:=let %[o,p|q]:=x;%[0,o,k _ p|q]
section
variable {prog:ń}{w:ň}{A:ŉ}{E:AB}{s:ļ}{a it:ĸ}{es:ł (Ŀ×Ĳ)}{ep i:ı}{t:Ō}{first:Ĳ}
def yg {slot k:ı}(x:dB s.C it (.M slot u) i a es.E ep)(m:SetT w s.C a es ep t)(hn:∀(A':ŉ) (E':AB) (Q':ĵ (Ĳ×ı)->ļ->Prop),Q' (į (v,k)) s->ĺ (ľ prog w) A' (setNext a slot i ep) Q' E' s)(q:∀h',dB h' it (.M k 0) (i+1) a es.E ep->Heap.ă it s.C h'->Q (į v) {s with heap:=h' }):ĺ (ľ prog w) A (pyNext<|.H it) Q E s:=by let T:=x.ty;let(y,g,J,d):=id x;let(o,D,L,hd,hf,_,_):=m;unfold pyNext;calc aa<|iP<|eR (name:=Str.ú "__next__") T F.bR<|c_ F.bR T F.fW ?_<|F.fO _;unfold Builtin.«set_iterator.__next__»;calc aa<|ag ?_;calc aa<|v0 g d ?_;dsimp only;calc aa<|oq D hd hf ?_;rw[ķ yi];calc aa ?_;simp only[cq];calc hn _ _ _ ?_;dsimp only;calc aa<|ij g d yi ?_;let B:=ej (Obj.mapFields (·.í 0<|ő (k:Ŀ))) g<|jn<|dQ d _;calc aa<|ij B (dQ d _) yi ?_;let G:=ej (Obj.mapFields (·.í 1<|ő<|(i:Ŀ)+1)) B<|jn<|dQ (dQ d _) _;calc ag %[0,_,rb|ag ?_];calc q _ %[2,_,G,(pM ..).À<|(pM ..).À J|?_]<|(gh ..).À<|gh ..;rw[dQ (dQ d _)];simp[rawInt]
def yW {slot:ı}(D:A.ï=Ĵ)(x:dB s.C it (.M slot u) i a es.E ep)(m:SetT w s.C a es ep t)(hn:∀(A':ŉ) (E':AB) (Q':ĵ (Ĳ×ı)->ļ->Prop),Q' Ĵ s->ĺ (ľ prog w) A' (setNext a slot i ep) Q' E' s)(q:∀h',Heap.ExtBut it s.C h'->Q Ĵ {s with heap:=h' }):ĺ (ľ prog w) A (pyNext<|.H it) Q E s:=by let T:=x.ty;let(y,d,J,g):=id x;let(o,B,G,hd,hf,_,_):=m;unfold pyNext;calc aa<|iP<|eR (name:=Str.ú "__next__") T F.bR<|c_ F.bR T F.fW ?_<|F.fO _;unfold Builtin.«set_iterator.__next__»;calc aa<|ag ?_;calc aa<|v0 d g ?_;dsimp only;calc aa<|oq B hd hf ?_;rw[ķ yi];calc aa ?_;simp only[cq];calc hn _ _ _ ?_;dsimp only;calc aa<|ij d g yi ?_;calc aa ?_;simp only[PySem.newExc,newTuple];calc aa<|fg ?_ yz;calc aa (m:=firstArgMember _ _)<|hG (a:=Value.none) (by first|rfl|(simp only[firstArgMember];rfl))<|fg ?_ yz;simp only[raiseNew];calc aa<|wS ?_;rw[show A.ė.ï=Ĵ from D];calc aa<|ag<|wpAny_throw ?_;calc aa (m:=Ŝ _ _)<|hV (T:="StopIteration") (b:=true) %[0,_,aI _ rb|rb] isSubtype_stop ?_;show ag<|q _<|((gh ..).ä.Ï _).Ï _
def Fx {J j:ı}{hv:Ŀ}(x:dB s.C it (.H tp) i a es.E ep)(m:SetT w s.C a es ep t)(h1:s.C.Á tp=į ot)(N:ot.Ĉ=.î ps J)(hp:ps[i]?=į (.M j u))(D:es[j]?=į (hv,v))(q:∀h',dB h' it (.H tp) (i+1) a es.E ep->Heap.ă it s.C h'->Q (į v) {s with heap:=h' }):ĺ (ľ prog w) A (pyNext<|.H it) Q E s:=by let T:=x.ty;let(y,g,L,d):=id x;let(o,B,M,hd,hf,_,_):=m;unfold pyNext;calc aa<|iP<|eR (name:=Str.ú "__next__") T F.bR<|c_ F.bR T F.fW ?_<|F.fO _;unfold Builtin.«set_iterator.__next__»;calc aa<|ag ?_;calc aa<|v0 g d ?_;dsimp only;calc aa<|oq B hd hf ?_;rw[ķ yi];calc aa<|ik h1 N ?_;dsimp only;simp only[cq,hp];calc aa ?_;unfold setNextDrawn;calc aa<|fR B hd hf ?_;dsimp only;rw[ķ yi];simp only[D];calc ag ?_;calc aa<|ij g d yi ?_;let G:=ej (Obj.mapFields (·.í 1<|ő<|(i:Ŀ)+1)) g<|jn<|dQ d _;calc ag %[0,_,rb|ag ?_];calc q _ %[2,_,G,(pM ..).À L|?_]<|gh ..;rw[dQ d];simp[rawInt]
def Jm (G:A.ï=Ĵ)(x:dB s.C it (.H tp) i a es.E ep)(m:SetT w s.C a es ep t)(h1:s.C.Á tp=į ot)(L:ot.Ĉ=.î ps pe)(hp:ps[i]?=Ĵ)(q:∀h',Heap.ExtBut it s.C h'->Q Ĵ {s with heap:=h' }):ĺ (ľ prog w) A (pyNext<|.H it) Q E s:=by let T:=x.ty;let(y,g,M,d):=id x;let(o,B,J,hd,hf,_,_):=m;unfold pyNext;calc aa<|iP<|eR (name:=Str.ú "__next__") T F.bR<|c_ F.bR T F.fW ?_<|F.fO _;unfold Builtin.«set_iterator.__next__»;calc aa<|ag ?_;calc aa<|v0 g d ?_;dsimp only;calc aa<|oq B hd hf ?_;rw[ķ yi];calc aa<|ik h1 L ?_;dsimp only;simp only[cq,hp];calc aa<|ij g d yi ?_;let D:=ej (Obj.mapFields (·.í 0<|ő 0)) g<|jn<|dQ d _;calc aa<|ij D (dQ d _) yi ?_;calc aa ?_;simp only[PySem.newExc,newTuple];calc aa<|fg ?_ yz;calc aa (m:=firstArgMember _ _)<|hG (a:=Value.none) (by first|rfl|(simp only[firstArgMember];rfl))<|fg ?_ yz;simp only[raiseNew];calc aa<|wS ?_;rw[show A.ė.ï=Ĵ from G];calc aa<|ag<|wpAny_throw ?_;calc aa (m:=Ŝ _ _)<|hV (T:="StopIteration") (b:=true) %[0,_,aI _ rb|rb] isSubtype_stop ?_;show ag<|q _<|(((gh ..).À<|gh ..).ä.Ï _).Ï _
def Yv (m:SetT w s.C a es ep t)(hz:es.E<=4000)(q1:(w.ã.é "set-order"=ĳ\/(w.ã.é "set-order"=Ķ/\es.E<=1))->Q (.H s.n) {s with heap:=s.C.Ï {cls:=.Ä "set_iterator",data:=.ë #[.M 0 0,.M 0 0,.H a,.M es.E 0,.M ep 0]} })(q2:∀(ps:İ ı) (d:Drawn),ps.ò (List.å es.E)->Q (.H<|s.n+1) {s with heap:=(s.C.Ï {cls:=.Ä "tuple",data:=.î (ps.L λi:Nat=>Value.M i 0).R}).Ï {cls:=.Ä "set_iterator",data:=.ë #[.H s.n,.M 0 0,.H a,.M es.E 0,.M ep 0]},drawn:=d}):ĺ (ľ prog w) A (pyIter<|.H a) Q E s:=by
 let T:=m.ty;let(o,g,q,hd,hf,B,hp):=m;calc xh T F.slot_set_iter<|c_ F.slot_set_iter T F.Dp ?_<|F.args_set_iter_1 _;unfold Builtin.«frozenset.__iter__» Builtin.Frozenset.slot0 Builtin.Frozenset.sizeOf;calc aa<|aa<|ag ?_;show ĺ _ _ (pure a) _ _ _;calc ag ?_;calc aa<|aa<|oq g hd hf<|ag ?_;unfold setDrawn setsByText;calc aa<|aa<|fR g hd hf ?_;dsimp only;calc aa<|aa<|og<|ag ?_;calc ag ?_;split
 .rename_i h;let h:(!w.ã.é "set-order" && (!t.plain&&Ļ (es.E > 1)))=ĳ:=h;calc aa<|Bc _ _ yi λps d pm=>?_;calc aa<|v_ ?_ (by rw[ab,pm.length_eq,cS];show ap hz yk);calc aa<|wpAny_setEpoch_of (a:=a) (o:=o) (es:=es) (ep:=ep) (t:=t) (af _ g) hd hf ?_;calc aa<|fg<|ag %[40,_,rb,"set_iterator",_,%[0,_,aI _ rb|rb],F.bR.Å|?_];have:=q2 ps d pm;simpa [rawInt,eS] using this
 .rename_i h;let h:¬(!w.ã.é "set-order" && (!t.plain&&Ļ (es.E > 1)))=ĳ:=h;calc aa<|ag ?_;calc aa<|wpAny_setEpoch_of g hd hf ?_;calc aa<|fg<|ag %[40,_,rb,"set_iterator",_,%[0,_,aI _ rb|rb],F.bR.Å|?_];have:=q1 (by
   cases e:w.ã.é "set-order" with
   | true=>show .Â rfl
   | false=>
    calc .Ò %[rb|?_];rcases hp with hp|hp;.simp[e,hp]at h;show h
    .lia)
  simpa [rawInt] using this
def Yw (q:s.Ā (.H a) "set")(h:Q Ķ s):ĺ (ľ prog w) A (Builtin.List.listLengthHint<|.H a) Q E s:=by
 unfold Builtin.List.listLengthHint;calc aa<|i7 q PySem.F.slot_set_len.Å ?_;generalize g:("set.__len__":œ)=id0
 wp_delta
 rw[show splitId id0=į ("set","__len__") from by subst g;decide +kernel];subst g;calc aa<|hV (T:="set") (b:=true) q (by rw[isSubtype_type];kernel_rfl) ?_;calc wpAny_ite_split (λd=>ŀ d yk) λ_=>?_;calc wpAny_ite_split (λ_=>?_) λd=>ŀ yo d;calc aa<|uA q ?_;show ag h
def BR (x:dB s.C it first i a n ep)(q:Q (.H it) s):ĺ (ľ prog w) A (pyIter<|.H it) Q E s:=by calc xh x.ty F.mL<|c_ F.mL x.ty F.sO ?_<|F.sS _;show ĺ _ _ (ret<|.H it) _ _ s;show ag %[40,_,rb,"set_iterator",_,x.ty,F.bR.Å|q]
def Sv {tp:ĸ}{ps:İ ı}(M:A.ï=Ĵ)(G:a≠it)(F:tp≠it)(hp:∀j∈ps,j<es.E)(L:ps.v=es.E):Ų prog w A it [it,tp,a] [it] es.E (λi v=>∃j e,ps[i]?=į j/\es[j]?=į e/\v=e.2)
   (λi h=>dB h it (.H tp) i a es.E ep/\SetT w h a es ep t/\∃d,h.Á tp=į d/\d.Ĉ=.î (ps.L λi:ı=>Value.M i 0).R 0) where
 sub:=λb q=>by simp at q;simp[q]
 frame:=λ_ _ _ st hk=>%[st.1.mv λo e=>hk it yi o e,st.2.1.mv λo e=>hk a yi o e|let %[d,h1|B]:=st.2.2;%[0,d,hk tp yi _ h1|B]]
 item:=λi s Q E hi st D=>by
  let(x,m,d,h1,B):=st;let g:i<ps.v:=by simp_all
  let J:=hp _<|be g;calc Fx x m h1 B (j:=ps[i]) (u:=0) (by simp[g]) (hv:=es[ps[i]].1) (v:=es[ps[i]].2) (by simp[J]) λh' x' k=>?_;show D _ h' s.Ü %[1,ps[i],es[ps[i]],by simp[g],by simp[J]|rb] %[20,x',m.mv λo e=>k.ä a o G e,d,k.ä tp d F h1|B] λb o q e=>k.ä b o (λy=>q (by simp[y])) e
 done:=λs Q E st D=>by let(x,m,d,h1,B):=st;show Jm M x m h1 B (by simp[L]) λh' k=>D h' s.Ü λb o q e=>k b o (λy=>q (by simp[y])) e
 self:=λi s Q E st D=>BR st.1 D
def Hu (m:SetT w s.C a es ep t)(d:w.ã.é "set-order"=ĳ)(h:Q (((pickOrder (w.ã.setOrder a ep) es)[i]?).L λe=>(e.2,slot)) s):ĺ (ľ prog w) A (setNext a slot i ep) Q E s:=by let(o,g,q,hd,hf,_,_):=m;unfold setNext setsByText;calc aa<|fR g hd hf ?_;dsimp only;calc aa<|aa<|og<|ag ?_;rw[Ĺ (by show d)];rw[ķ yi];unfold setWalk setsByText;calc aa ?_;calc aa<|fR g hd hf ?_;dsimp only;calc aa<|aa<|og<|ag ?_;rw[Ĺ (by show d)];calc aa<|og<|ag ?_;show ag h
def Dq (m:SetT w s.C a es ep t)(g:w.ã.é "set-order"=Ķ)(hz:es.E<=1)(h:Q (match es[SetTable.ĕ t.Ú slot]?,t.Ú[SetTable.ĕ t.Ú slot]? with|some (_,x),some j=>į (x,j+1)|_,_=>none) s):ĺ (ľ prog w) A (setNext a slot i ep) Q E s:=by
 let(o,q,B,hd,hf,d,_):=m;let d:t.led=ĳ:=by rcases d with z|z;rw[g]at z;cases z;show z
 unfold setNext setsByText;calc aa<|fR q hd hf ?_;dsimp only;calc aa<|aa<|og<|ag ?_;rw[ķ (by show ¬w.ã.é "set-order"=ĳ;rw[g];simp)];split
 .rename_i z;let z:(!t.plain&&Ļ (es.E > 1))=ĳ:=z;simp at z;lia
 .calc aa ?_;show ĺ _ _ (if (!t.led && !es.ę)=ĳ then unsupported "set:maker-not-led" else pure ()) _ _ _;rw[ķ (by rw[d];simp)];show ag<|ag h
def Vy (F:A.ï=Ĵ)(D:a≠it)(d:w.ã.é "set-order"=ĳ):Ų prog w A it [it,a] [it] es.E (λi v=>∃e,(pickOrder (w.ã.setOrder a ep) es)[i]?=į e/\v=e.2)
   (λi h=>dB h it (.M (0:ı) 0) i a es.E ep/\SetT w h a es ep t) where
 sub:=λb d=>by simp at d;simp[d]
 frame:=λ_ _ _ st hk=>%[st.1.mv λo e=>hk it yi o e|st.2.mv λo e=>hk a yi o e]
 item:=λi s Q E hi st g=>by
  let hsz:(pickOrder (w.ã.setOrder a ep) es).E=es.E:=by have:=(um (w.ã.setOrder a ep) es).Ę;simpa using this
  let B:i<(pickOrder (w.ã.setOrder a ep) es).E:=by simp_all
  calc yg (slot:=0) (k:=0) (v:=(pickOrder (w.ã.setOrder a ep) es)[i].2) st.1 st.2 (λA' E' Q' q=>Hu st.2 d (by rw[b5 B];show q)) λh' x' k=>?_;show g _ h' s.Ü %[0,_,by rw[b5 B]|rb] %[x'|st.2.mv λo e=>k.ä a o D e] λb o d e=>k.ä b o (λy=>d (by simp[y])) e
 done:=λs Q E st g=>by
  let hsz:(pickOrder (w.ã.setOrder a ep) es).E=es.E:=by have:=(um (w.ã.setOrder a ep) es).Ę;simpa using this
  refine yW F st.1 st.2 (λA' E' Q' q=>Hu st.2 d (by rw[o0 (fq hsz)];show q)) λh' k=>g h' s.Ü λb o d e=>k b o (λy=>d (by simp[y])) e
 self:=λi s Q E st g=>BR st.1 g
def Sw {p:ł ı}(h:p.E=1):SetTable.ĕ p 0=0:=by unfold SetTable.below;rw[h];simp[SetTable.below.go]
def Vz {p:ł ı}(h:p.E=1):SetTable.ĕ p (p.Î 0 0+1)=1:=by
 let⟨l⟩:=p
 match l,h with| [x],_=>simp[SetTable.below,SetTable.below.go]
def Sx (G:A.ï=Ĵ)(F:a≠it)(d:w.ã.é "set-order"=Ķ)(hz:es.E<=1):Ų prog w A it [it,a] [it] es.E (λi v=>∃e,es[i]?=į e/\v=e.2) (λi h=>∃slot:Nat,dB h it (.M slot 0) i a es.E ep/\SetT w h a es ep t/\t.Ú.E=es.E/\slot=(if i=0 then 0 else t.Ú.Î 0 0+1)) where
 sub:=λb d=>by simp at d;simp[d]
 frame:=λ_ _ _ st hk=>let %[slot,x,m|r]:=st;%[2,slot,x.mv λo e=>hk it yi o e,m.mv λo e=>hk a yi o e|r]
 item:=λi s Q E hi st g=>by
  let(slot,x,m,hp,hs):=st;let D:i=0:=yf;subst D;rw[Ĺ rfl]at hs;subst hs;let h1:es.E=1:=yf;let B:t.Ú.E=1:=yf;refine yg (slot:=0) (k:=t.Ú.Î 0 0+1) (v:=es[0].2) x m (λA' E' Q' q=>Dq m d hz ?_) λh' x' k=>?_
  .rw[Sw B,b5 hi,b5 (by lia:0<t.Ú.E)];let e:t.Ú.Î 0 0=t.Ú[0]:=by simp[Array.getD,B]
   rw[e]at q;show q
  .show g _ h' s.Ü %[0,es[0],by simp[h1]|rb] %[7,_,x',m.mv λo e=>k.ä a o F e,hp|rb] λb o d e=>k.ä b o (λy=>d (by simp[y])) e
 done:=λs Q E st g=>by
  let(slot,x,m,hp,hs):=st;calc yW G x m (λA' E' Q' q=>Dq m d hz ?_) λh' k=>g h' s.Ü λb o d e=>k b o (λy=>d (by simp[y])) e;rcases(show es.E=0\/es.E=1 by lia) with h0|h1
  .rw[o0 yf];show q
  .rw[ķ yf]at hs;subst hs;rw[Vz yf,o0 hz];show q
 self:=λi s Q E st g=>by let(slot,x,_):=st;show BR x g
end
def BW {l:İ Ĳ}(h:Ŧ P acc n)(B:l.v=n)(q:∀i v,P i v->l[i]?=į v):acc.I=l:=by
 apply fi;intro j;by_cases g:j<n
 .let d:j<acc.E:=by rw[h.1];show g
  let e:acc[j]?=į acc[j]:=by simp[d]
  rw[q j _ (h.2 j _ e),ci,e]
 .rw[b9 (by rw[bn,h.1];show iF g),b9 (by simp_all)]
section
variable {prog:ń}{w:ň}{A:ŉ}{E:AB}{s:ļ}{a:ĸ}{es:ł (Ŀ×Ĳ)}{ep i:ı}{t:Ō}
variable {X:Cx}
def BX {R:ų->ļ->Prop}{rs:ō}{n:ı}{P:ı->Ĳ->Prop}{St:ı->Ň->Prop}(W:Ų prog w A.ė I fp [I] n P St)(B:S0∉fp)(res:Ĳ)(c₀:ı)(N:s.C.Á S0=į {cls:=.Ä "list",data:=.î #[] c₀})(st:St 0 s.C)(hn:n<=Ľ)(hT:s.Ā (.H a) "set")(hR:∀h' tk d c',(∀b o,b≠S0->b≠I->s.C.Á b=į o->h'.Á b=į o)->h'.Á S0=į {cls:=.Ä "list",dict:=Ĵ,data:=.î d c',slots:=#[]}->Ŧ P d n->R (.ok<|.ret res) {s with heap:=h',toks:=tk}):ĺ (ľ prog w) A.ė (do
   let room <- holding [Value.H I] (Builtin.List.listLengthHint<|.H a)
   if room||rs then rule "list.extend.makes-room";Builtin.List.listTouch (.H S0)
   again (.Ô "list.extend.loop" %[[.H S0,.H I,res]|[]]))
   (λfin s'=>match fin with|.done f=>R (.ok f) s'|.again c'=>c'.quiet=ĳ/\codeAny (ľ prog w) A c' R s') (λe s'=>R (.error e) s') s:=by
 let G:∀(h:Ň) (Z tk:ı),St 0 h->(∀b o,b≠S0->s.C.Á b=į o->h.Á b=į o)->
   h.Á S0=į {cls:=.Ä "list",data:=.î #[] Z}->codeAny (ľ prog w) A (.Ô "list.extend.loop" %[[.H S0,.H I,res]|[]]) R {s with heap:=h,toks:=tk}:=by
  intro h Z tk O hk Y;calc uB W.toS hn S0 B res n 0 _ #[] Z rb (bE _) O Y (ItemsOf.ê _) λs' d c' hm hS' F=>?_;rw[Moved.eq_with hm];calc hR s'.C s'.Ü d c' (λb o q L e=>hm.C b o (λg=>?_)<|hk b o q e) hS' F;rcases a8.mp g with e'|g
  .show q e'
  .show L<|am.mp g
 calc aa<|dL<|Yw hT ?_;calc wpAny_ite_split (λ_=>?_) λ_=>ag %[plainId_quiet xp _|G _ c₀ _ st (λb o _ e=>e) N];calc aa<|fA ?_;calc aa ?_;show ĺ _ _ (updateSeq S0 (·.Ï .Û) >>= λ_=>updateSeq S0 (·.pop)) _ _ _;calc aa<|rX N rb ?_;let J:=ej (Obj.ē (·.Ï Value.Û)) N rfl;calc rX (hz:=by seq_fits) J rb ?_;let M:=ej (Obj.ē (·.pop)) J rfl;refine ag %[plainId_quiet xp _|G _ _ _ ?_ (λb o q e=>?_) M]
 .refine W.frame 0 _ _ st λb q o e=>?_
  let D:b≠S0:=λh=>B<|h ▸ q;show(fk _ _<|ib D).À<|(fk _ _<|ib D).À e
 .show(fk _ _<|ib q).À<|(fk _ _<|ib q).À e
def Sy (hh:A.ï=Ĵ)(m:SetT w s.C a es ep t)(hz:es.E<=4000)(S0)(Z:S0≠a)(res)(c₀)(N:s.C.Á S0=į {cls:=.Ä "list",data:=.î #[] c₀})(hR:∀h' tk d g c',(∀b o,b≠S0->s.C.Á b=į o->h'.Á b=į o)->h'.Á S0=į {cls:=.Ä "list",dict:=Ĵ,data:=.î g c',slots:=#[]}->g.I.ò (es.I.L (·.2))->R (.ok<|.ret res) {s with heap:=h',toks:=tk,drawn:=d}):ĺ (ľ prog w) A.ė (Builtin.List.listExtendWith (.H S0) (.H a) res)
   (λfin s'=>match fin with|.done f=>R (.ok f) s'|.again c'=>c'.quiet=ĳ/\codeAny (ľ prog w) A c' R s') (λe s'=>R (.error e) s') s:=by
 let Y:es.E<=Ľ:=ap hz yk;let J:=m.lt;let B:=a6 N;unfold Builtin.List.listExtendWith;calc aa<|uA (T:="set") m.ty ?_;let h1:Builtin.List.listSameRef (.H S0) (.H a)=Ķ:=by simp[Builtin.List.listSameRef,Z]
 let n1:(Value.Ä "set" == Value.Ä "list")=Ķ:=by decide
 let n2:(Value.Ä "set" == Value.Ä "tuple")=Ķ:=by decide
 simp only[h1,n1,n2,tF,bq,if_false];refine aa<|Yv m hz (λc=>?_) λps d pm=>?_
 .let m':SetT w (s.C.Ï {cls:=.Ä "set_iterator",data:=.ë #[.M 0 0,.M 0 0,.H a,.M es.E 0,.M ep 0]}) a es ep t:=m.mv λo e=>af _ e
  let hx:dB (s.C.Ï {cls:=.Ä "set_iterator",data:=.ë #[.M 0 0,.M 0 0,.H a,.M es.E 0,.M ep 0]}) s.n (.M (0:ı) 0) 0 a es.E ep:=%[2,_,aI _ rb,rb|rb]
  let F:S0∉[s.n,a]:=by simp only[a8,h8,or_false,not_or];show%[bb B|Z]
  rcases c with c|⟨c,c1⟩
  .refine BX (a:=a) (Vy (t:=t) hh (bb J) c) F res c₀ (af _ N) %[hx|m'] Y (SetT.ty (s:={s with heap:=_}) m') λh' tk g c' k D q=>?_
   let hsz:=(um (w.ã.setOrder a ep) es).Ę;calc hR h' tk s.drawn g c' (λb o M e=>k b o M (bb<|a6 e)<|af _ e) D ?_;rw[BW (l:=(pickOrder (w.ã.setOrder a ep) es).I.L (·.2)) q (by simpa using hsz) (λi v hv=>by let(e,L,rfl):=hv;simp[L])];show(um _ _).L _
  .refine BX (a:=a) (Sx (t:=t) hh (bb J) c c1) F res c₀ (af _ N) %[7,0,hx,m',?_|rb] Y (SetT.ty (s:={s with heap:=_}) m') λh' tk g c' k D q=>?_
   .let(o,_,_,_,hf,_):=m;simp only[SetTable.fits,dP,beq_iff_eq]at hf;show hf.1
   .calc hR h' tk s.drawn g c' (λb o M e=>k b o M (bb<|a6 e)<|af _ e) D ?_;rw[BW (l:=es.I.L (·.2)) q yi (λi v hv=>by let(e,L,rfl):=hv;simp[L])]
 .generalize G:s.C.Ï {cls:=.Ä "tuple",data:=.î (ps.L λi:ı=>Value.M i 0).R}=h1;let k1:∀b o,s.C.Á b=į o->h1.Á b=į o:=λb o e=>by rw[<-G];show af _ e
  let z1:h1.Q.E=s.n+1:=by rw[<-G];show eS ..
  let g1:h1.Á s.n=į {cls:=.Ä "tuple",data:=.î (ps.L λi:ı=>Value.M i 0).R}:=by rw[<-G];show aI _ rfl
  let m':SetT w (h1.Ï {cls:=.Ä "set_iterator",data:=.ë #[.H s.n,.M 0 0,.H a,.M es.E 0,.M ep 0]}) a es ep t:=m.mv λo e=>af _<|k1 _ _ e;let hx:dB (h1.Ï {cls:=.Ä "set_iterator",data:=.ë #[.H s.n,.M 0 0,.H a,.M es.E 0,.M ep 0]}) (s.n+1) (.H s.n) 0 a es.E ep:=%[2,_,by rw[<-z1];show aI _ rb,rb|rb]
  let hp:∀j∈ps,j<es.E:=λj O=>b3.mp<|pm.æ.mp O;let hl:ps.v=es.E:=by rw[pm.length_eq,cS]
  let F:S0∉[s.n+1,s.n,a]:=by simp only[a8,h8,or_false,not_or];show%[bb<|fh B,bb B|Z]
  calc BX (a:=a) (s:={s with heap:=h1.Ï {cls:=.Ä "set_iterator",data:=.ë #[.H s.n,.M 0 0,.H a,.M es.E 0,.M ep 0]},drawn:=d}) (Sv (t:=t) (tp:=s.heap.objs.size) (ps:=ps) hh (bb<|fh J) (bb<|eW _) hp hl) F res c₀ (af _<|k1 _ _ N) %[20,hx,m',_,af _ g1|rb] Y (SetT.ty (s:={s with heap:=_,drawn:=d}) m') λh' tk g c' k D q=>?_;calc hR h' tk d g c' (λb o M e=>k b o M (bb<|fh<|a6 e)<|af _<|k1 _ _ e) D ?_;rw[BW (l:=ps.L λj=>(es.Î j (0,.Û)).2) q (by simp[hl]) (λi v hv=>by let(j,e,O,L,rfl):=hv;rw[a_,O];simp[gu,L])]
  calc(pm.L _).À<|xF ?_;apply fi;intro j;rw[a_,a_];by_cases h:j<es.E;.rw[ie h];simp[h,gu]
  .rw[b9 (by simpa using h),b9 (by simpa using h)];rfl
def Bd (N:A.ï=Ĵ)(m:SetT w s.C a es ep t)(hz:es.E<=4000)(h:∀(h':Ň) (tk:ı) (d:Drawn) (F:İ Ĳ),(∀b o,s.C.Á b=į o->h'.Á b=į o)->F.ò (es.I.L (·.2))->R F {s with heap:=h',toks:=tk,drawn:=d}):ĺ (ľ prog w) A (collect<|.H a) R E s:=by
 let L:=m.lt;unfold collect;calc aa<|vT<|gE entry_proto_collect' ?_;rw[gL PySem.F.plain_proto_collect _];show ĺ _ A.ė (newList [] >>= λl=>again (.Ô "list.__iadd__" %[[l,.H a]|[]])) _ _ s;calc aa<|fg ?_;calc ag %[plainId_quiet PySem.F.plain_list_iadd _|gE entry_list_iadd' ?_];rw[gL PySem.F.plain_list_iadd _];let G:(s.C.Ï {cls:=.Ä "list",data:=.î ([]:İ Ĳ).R}).Á s.n=į {cls:=.Ä "list",data:=.î #[]}:=aI _ rfl;show ĺ _ A.ė (Builtin.List.listExtendWith (.H s.n) (.H a)<|.H s.n) _ _ _;let J:=Sy (prog:=prog) (A:=A) (s:={s with heap:=s.C.Ï {cls:=.Ä "list",data:=.î ([]:İ Ĳ).R} })
  (R:=λ(q:ų) (s':ļ)=>∃(h':Heap) (tk:Nat) (d:Drawn) (g:ł Ĳ) (c':Nat),q=.ok (.ret<|.H s.n)/\s'={s with heap:=h',toks:=tk,drawn:=d}/\
   (∀b o,s.C.Á b=į o->h'.Á b=į o)/\h'.Á s.n=į {cls:=.Ä "list",dict:=Ĵ,data:=.î g c',slots:=#[]}/\g.I.ò (es.I.L (·.2)))
  N (m.mv λo e=>af _ e) hz s.n (jS L) (.H s.n) 0 G
  λh' tk d g c' hk D B=>%[37,h',tk,d,g,c',rb,rb,λb o e=>hk b o (bb<|a6 e)<|af _ e,D|B]
 refine gg J (λM s' x=>?_) λe s' x=>?_
 .cases M with
  | done f=>let(h',tk,d,g,c',e,rfl,hk,D,B):=x;cases e;show ĺ _ A (load s.n >>= _) _ _ _;calc aa<|xo D ?_;show ag<|h h' tk d g.I hk B
  | again c₁=>calc%[x.1|kc x.2 λq O y=>?_];let(h',tk,d,g,c',rfl,rfl,hk,D,B):=y;show ĺ _ A (load s.n >>= _) _ _ _;calc aa<|xo D ?_;show ag<|h h' tk d g.I hk B
 .let(_,_,_,_,_,e,_):=x;cases e
def aL.aal {ao:AC}{C:St}{H:Hp}{s:ļ}(I:aL X ao C H s)(d:Drawn):aL X ao C H {s with drawn:=d}:=%[I.ok,I.os,I.bare,I.ö,I.loc,I.ù,I.Ó,I.nU,I.pin,I.ð|I.ď]
def Yx:∀(d:İ Ĳ),(∀v∈d,∃(l:İ ı) (u:Tok),v=.X (S l) u)->Ř d ((d.L λv=>pG (0,v)).L S):=by
 intro d h
 induction d with| nil=>show .ê| cons v r ih=>let(l,u,rfl):=h v a4;show .á _ u<|ih λv hv=>h v<|av _ hv
end
end L2
namespace L2
open PySem PySem.Spec PyProof.Rows PySem.SeqAt PySem.MeetsSeq PySem.MeetsSeq3 PySem.W
open AutoSeq1 (wpAny_loadPart')
def NP {X:Cx}(w)(d:X.ĭ=ĳ)(h:Ŷ (X.w=w) ŷ):fM X (.Ä "set") (Vx w X.K):=by subst h;show Ss d
end L2
namespace L2
open PySem PySem.Spec PyProof.Rows PySem.W
section
def aaX (h:(cG P w).is k v=ĳ):bH (kV k) v:=by
 rcases dj (show ji k v=ĳ from h) with⟨i,t,rfl,rfl⟩|⟨x,t,rfl,rfl⟩;.show%[t|rb]
 .show%[t|rb]
def VD (ok:iw P w H h)(e:H d=į (.iu o<|.dK kvs))(B:o.Ĉ=.dict es0 ep):kvs.v<=Ľ/\(d==sysModules)=Ķ/\∃vs,KV kvs vs/\h.DictAt (cG P w) d vs ep:=by
 let(q,z,y,vs,r,ob,es,G,g,c,D,F):=(show cQ P w H h d (.iu o<|.dK kvs) from ok d _ e)
 rw[q]at g;cases g;rw[B]at D;cases D;show%[20,z,y,vs,r|%[4,o,es0,q,c,B|F]]
end
end L2
namespace L2
open PySem PySem.Spec PyProof.Rows PySem.Builtin PySem.Builtin.Str
def Fy (x y z:ņ)(t u v c:Tok)(hf:((occurrences x y 0 x.v 1).ę||(y.v==0&&z.v==0))=Ķ->
   (u==0||v==0)=Ķ/\(u==v)=Ķ/\(y==z)=Ķ/\tooLong (x.v+(occurrences x y 0 x.v 1).v*z.v)=Ķ) :
  Gives («str.replace» %[[.X x t,.X y u,.X z v,.M 1 c]|[]]) (if ((occurrences x y 0 x.v 1).ę||(y.v==0&&z.v==0))=ĳ then .val (.X x t) else .X (glued z<|partsBetween x (occurrences x y 0 x.v 1) y.v)):=by
 show Gives (if ((occurrences x y 0 x.v 1).ę||(y.v==0&&z.v==0))=true then (rule "str.replace.nothing" >>= λ_=>ret (.X x t)) else
     (isSame (.X y u) (.X z v) >>= λsame=>if same=ĳ then (rule "str.replace.old-is-new" >>= λ_=>ret (.X x t)) else if tooLong (x.v+(occurrences x y 0 x.v 1).v*z.v)=ĳ then unsupported "str.replace:memory" else retStr (glued z<|partsBetween x (occurrences x y 0 x.v 1) y.v))) _
 cases B:((occurrences x y 0 x.v 1).ę||(y.v==0&&z.v==0))
 .let(D,d,g,q):=hf B;rw[isSame_str_other y z u v D d g,q];show .of_eq rfl
 .show .rule<|.of_eq rb
end L2
namespace L2
open PySem PySem.Spec PyProof.Rows
def gU (prog:ń)(w:ň)(A:ŉ)(s:ļ)(I:PyProof.ô.ĥ)(kn:ş):Prop:=∀(E:AB) (x y:Ĳ) (a b:I.α) (Q:ō->ļ->Prop),I.Ĥ x=į a->I.Ĥ y=į b->Q (I.blt a b) s->ĺ (ľ prog w) A (keyLt' kn x y) Q E s
def gU.one {I:PyProof.ô.ĥ}(h:I.OneLt):gU prog w A s I oneType':=λE x y a b Q ha d q=>by rw[keyLt'_oneType];show h prog w A E s x y a b ha d q
section
variable {prog:ń}{w:ň}{A:ŉ}{E:AB}{s:ļ}{K:PyProof.ô.ĥ}{kn:ş}
variable {W:Type}{le:W->W->Prop}
variable {ps:Ń->ı}
variable {X:Cx}
def bC {W:Type}{c:Prop}{d:ť c}{a b:Ţ Ł Sem W}{Q:W->Ł->Prop}{st:Ł}(g:c)(h:wpS (ľ prog w) A E s a Q st):wpS (ľ prog w) A E s (@ite _ c d a b) Q st:=by rw[Ĺ g];show h
def bx {W:Type}{c:Prop}{d:ť c}{a b:Ţ Ł Sem W}{Q:W->Ł->Prop}{st:Ł}(g:¬c)(h:wpS (ľ prog w) A E s b Q st):wpS (ľ prog w) A E s (@ite _ c d a b) Q st:=by rw[ķ g];show h
def yX {st:Ł}{x y:Ń}{a b:K.α}{Q:ĵ ō->Ł->Prop}(O:gU prog w A s K kn)(hk:kindOf st=kn)(ha:K.Ĥ x.1=į a)(d:K.Ĥ y.1=į b)(h:Q (į<|K.blt a b) st):wpS (ľ prog w) A E s (lt' x y) Q st:=by rw[lt'_eq];calc a9<|sN ?_;rw[hk];calc a9<|wpS_lift<|iP<|O _ x.1 y.1 a b _ ha d %[rb|?_];show bt h
def cN {st:Ł}{arr:ł Ń}{i:ı}(hi:i<arr.E){Q:Ń->Ł->Prop}(h:Q arr[i] st):wpS (ľ prog w) A E s (elem' arr i) Q st:=by rw[elem'_eq,b5 hi];show bt h
def ju (K:PyProof.ô.ĥ)(left:ō)(d:K.α)(arr:ł Ń)(i:ı):ō:=if left=ĳ then K.blt (KK K arr i) d else !K.blt d (KK K arr i)
def sV (d:Œ K arr)(hi:i<arr.E):K.Ĥ arr[i].1=į (KK K arr i):=by let(a,ha):=d arr[i] yi;unfold KK;rw[b5 hi];simp[ha]
def vJ {left:ō}{g:Ń}{B:K.α}{arr:ł Ń}{i:ı}{st:Ł}{Q:ĵ ō->Ł->Prop}(O:gU prog w A s K kn)(hk:kindOf st=kn)(d:K.Ĥ g.1=į B)(q:Œ K arr)(hi:i<arr.E)(h:Q (į<|ju K left B arr i) st):wpS (ľ prog w) A E s (do
   let p <- elem' arr i
   if left=ĳ then lt' p g
   else do
    let r <- lt' g p
    pure (r.L λb=>!b)) Q st:=by
 calc a9<|cN hi ?_;unfold ju at h;cases left with| true=>show yX O hk (sV q hi) d h| false=>show a9<|yX O hk d (sV q hi)<|bt h
def lJ {left:ō}{key:Ń}{O:K.α}{arr:ł Ń}{lo n hint:ı}{st:Ł}{Q:ĵ ı->Ł->Prop}(hO:gU prog w A s K kn)(hk:kindOf st=kn)(D:K.Ĥ key.1=į O)(J:Œ K arr)(hn:hint<n)(hsz:lo+n<=arr.E)(mono:∀i j,i<=j->j<n->ju K left O arr (lo+j)=ĳ->ju K left O arr (lo+i)=ĳ)(h:∀k,k<=n->(∀i,i<k->ju K left O arr (lo+i)=ĳ)->(∀i,k<=i->i<n->ju K left O arr (lo+i)=Ķ)->Q (į k) st):wpS (ľ prog w) A E s ((sortPriv% PySem.Builtin.gallop) left key arr lo n hint) Q st:=by
 show wpS _ _ _ _ (_ >>= _) _ _;dsimp only;generalize hbp:(λi=>ju K left O arr<|lo+i)=bp;let M:∀i,ju K left O arr (lo+i)=bp i:=λi=>by rw[<-hbp]
 let Z:∀i j,i<=j->j<n->bp j=Ķ\/bp i=ĳ:=λi j h1 g=>by
  cases e:bp j with| false=>show .Â rfl| true=>show .Ò (by rw[<-M];show mono i j h1 g (by rw[M];show e))
 let h':∀k,k<=n->(∀i,i<k->bp i=ĳ)->(∀i,k<=i->i<n->bp i=Ķ)->Q (į k) st:=λk h1 g d=>h k h1 (λi hi=>by rw[M];show g i hi) λi hi N=>by rw[M];show d i hi N
 let up:∀i j,i<=j->j<n->bp j=ĳ->bp i=ĳ:=λi j h1 g d=>by
  rcases Z i j h1 g with z|z;.rw[z]at d;cases d
  .show z
 let dn:∀i j,i<=j->j<n->bp i=Ķ->bp j=Ķ:=λi j h1 g d=>by
  rcases Z i j h1 g with z|z;.show z
  .rw[z]at d;cases d
 calc a9<|vJ hO hk D J (i:=lo+hint) yf ?_;rw[M];dsimp only;let fin:∀l0 Y,l0<=Y->Y<=n->(∀i,i<l0->bp i=ĳ)->(∀i,Y<=i->i<n->bp i=Ķ)->∀(f:ı->(ĵ (ĵ ı)×ı×ı)->Ţ Ł Sem (ū<|ĵ (ĵ ı)×ı×ı)) (F:(ĵ (ĵ ı)×ı×ı)->Ţ Ł Sem (ĵ ı)),
   (∀x l u (Q':ū (ĵ (ĵ ı)×ı×ı)->Ł->Prop),u<=n->(u<=l->Q' (.done (Ĵ,l,u)) st)->(l<u->Q' (.yield<|if bp (l+(u-l)/2)=ĳ then (Ĵ,l+(u-l)/2+1,u) else (Ĵ,l,l+(u-l)/2)) st)->wpS (ľ prog w) A E s (f x (Ĵ,l,u)) Q' st)->
   (∀l u,Q (į u) st->wpS (ľ prog w) A E s (F (Ĵ,l,u)) Q st)->
   wpS (ľ prog w) A E s (ű [0:n] ((Ĵ:ĵ (ĵ ı)),l0,Y) f >>= F) Q st:=by
  intro l0 Y hle hh t1 t2 f F hf hF;refine a9 (ko (gd (I:=λ(x:ı) (c:ĵ (ĵ ı)×ı×ı) (st':Ł)=>∃l u,c=(Ĵ,l,u)/\st'=st/\l<=u/\u<=n/\(∀i,i<l->bp i=ĳ)/\(∀i,u<=i->i<n->bp i=Ķ)/\u-l<=n-x)
   (Q:=λ(c:ĵ (ĵ ı)×ı×ı) (st':Ł)=>∃l u,c=(Ĵ,l,u)/\st'=st/\u<=l/\u<=n/\(∀i,i<l->bp i=ĳ)/\(∀i,u<=i->i<n->bp i=Ķ)) ?_ ?_ %[26,l0,Y,rb,rb,hle,hh,t1,t2|ve yf]) ?_)
  .intro x c st' _ hx z;let(l,u,rfl,rfl,g,d,G,B,h6):=z;calc hf x l u _ d (λz=>%[23,l,u,rb,rb,z,d,G|B]) λz=>?_;cases e:bp (l+(u-l)/2) with| true=>rw[Ĺ rfl];show%[26,_,_,rb,rb,by grind,d,λi hi=>up i _ (dA hi) (by grind) e,B|yf]| false=>rw[ķ yi];show%[26,_,_,rb,rb,yf,by grind,G,λi hi N=>dn _ i hi N e|yf]
  .intro c st' z;let(l,u,L,h1,g,d,G,B,h6):=z;show%[23,l,u,L,h1,yf,d,G|B]
  .intro c st' z;let(l,u,rfl,rfl,g,d,G,B):=z;show hF l u<|h' _ d (λi hi=>G i<|a7 hi g) B
 cases e0:bp hint with
 | true=>
  rw[Ĺ rfl];refine a9 (ko (gd (I:=λ(x:ı) (c:ĵ (ĵ ı)×ı×ı) (st':Ł)=>st'=st/\c.1=Ĵ/\c.2.1<n-hint/\c.2.1<c.2.2/\x+1<=c.2.2/\bp (hint+c.2.1)=ĳ)
   (Q:=λ(c:ĵ (ĵ ı)×ı×ı) (st':Ł)=>st'=st/\c.1=Ĵ/\c.2.1<n-hint/\c.2.1<c.2.2/\bp (hint+c.2.1)=ĳ/\(c.2.2>=n-hint\/bp (hint+c.2.2)=Ķ)) ?_ ?_ %[rb,rb,by dsimp only;show Nat.sub_pos_of_lt hn,by dsimp only;lia,by dsimp only;lia|e0]) ?_)
  .intro x c st' _ hx z;let(rfl,h1,g,d,G,B):=z;by_cases z:c.2.2>=n-hint
   .rw[Ĺ z];show bt %[rb,rb,g,d,B|.Â z]
   .rw[ķ z];calc a9<|vJ hO hk D J (i:=lo+(hint+c.2.2)) yf ?_;rw[M];dsimp only;cases e:bp (hint+c.2.2) with| true=>rw[ķ yi];show bt %[rb,rb,by dsimp only;show tP z,by dsimp only;lia,by dsimp only;lia|e]| false=>rw[Ĺ yi];show bt %[rb,rb,g,d,B|.Ò e]
  .intro c st' z;let(L,h1,g,d,G,B):=z;show%[L,h1,g,d,B|.Â<|ve yf]
  .intro c st' z;let(rfl,h1,g,d,G,B):=z;rw[h1];dsimp only;refine fin (hint+c.2.1+1) (hint+min c.2.2 (n-hint)) (kz (Nat.le_min.2 %[d|g]) _) (ap (kz (xv _ _) _)<|fq<|ed<|ay hn) (λi hi=>up i (hint+c.2.1) (dA hi) yf G) (λi hi N=>?_) _ _ ?_ ?_
   .rcases B with z|z;.rw[xz z,ed (ay hn)]at hi;show ŀ N<|Nat.not_lt.2 hi
    .show dn (hint+c.2.2) i yf N z
   .intro x l u Q' hun q1 q2;dsimp only;by_cases z:l>=u
    .rw[Ĺ z];show bt<|q1 z
    .rw[ķ z];calc a9<|vJ hO hk D J (i:=lo+(l+(u-l)/2)) (by grind) ?_;rw[M];dsimp only;let q2:=q2<|tP z;cases e:bp (l+(u-l)/2) with| true=>rw[e,Ĺ rfl]at q2;rw[Ĺ rfl];show bt q2| false=>rw[e,ķ yi]at q2;rw[ķ yi];show bt q2
   .show λl u q=>bt q
 | false=>
  rw[ķ yi];refine a9 (ko (gd (I:=λ(x:ı) (c:ĵ (ĵ ı)×ı×ı) (st':Ł)=>st'=st/\c.1=Ĵ/\c.2.1<=hint/\c.2.1<c.2.2/\x+1<=c.2.2/\bp (hint-c.2.1)=Ķ)
   (Q:=λ(c:ĵ (ĵ ı)×ı×ı) (st':Ł)=>st'=st/\c.1=Ĵ/\c.2.1<=hint/\c.2.1<c.2.2/\bp (hint-c.2.1)=Ķ/\(c.2.2>=hint+1\/bp (hint-c.2.2)=ĳ)) ?_ ?_ %[rb,rb,by dsimp only;lia,by dsimp only;lia,by dsimp only;lia|e0]) ?_)
  .intro x c st' _ hx z;let(rfl,h1,g,d,G,B):=z;by_cases z:c.2.2>=hint+1
   .rw[Ĺ z];show bt %[rb,rb,g,d,B|.Â z]
   .rw[ķ z];calc a9<|vJ hO hk D J (i:=lo+(hint-c.2.2)) (by grind) ?_;rw[M];dsimp only;cases e:bp (hint-c.2.2) with| true=>rw[Ĺ rfl];show bt %[rb,rb,g,d,B|.Ò e]| false=>rw[ķ yi];show bt %[rb,rb,by dsimp only;show iF z,by dsimp only;lia,by dsimp only;lia|e]
  .intro c st' z;let(L,h1,g,d,G,B):=z;show%[L,h1,g,d,B|.Â yf]
  .intro c st' z;let(rfl,h1,g,d,G,B):=z;rw[h1];dsimp only;refine fin (hint+1-min c.2.2 (hint+1)) (hint-c.2.1) (ap (rq (Nat.le_min.2 %[d|e6 g]) _)<|fq<|Nat.add_sub_add_right _ _ _) (ap (i9 _ _)<|ay hn) (λi hi=>?_) (λi hi N=>dn (hint-c.2.1) i hi N G) _ _ ?_ ?_
   .rcases B with z|z;.rw[xz z,mB]at hi;cases hi
    .show up i (hint-c.2.2) (fo yf) (fw (i9 _ _) hn) z
   .intro x l u Q' hun q1 q2;dsimp only;by_cases z:l>=u
    .rw[Ĺ z];show bt<|q1 z
    .rw[ķ z];calc a9<|vJ hO hk D J (i:=lo+(l+(u-l)/2)) yf ?_;rw[M];dsimp only;let q2:=q2 yf;cases e:bp (l+(u-l)/2) with| true=>rw[e,Ĺ rfl]at q2;rw[Ĺ rfl];show bt q2| false=>rw[e,ķ yi]at q2;rw[ķ yi];show bt q2
   .show λl u q=>bt q
structure Mg (le:W->W->Prop)(a b out:İ W)(i j:ı):Prop where
 ia:i<=a.v
 jb:j<=b.v
 perm:out.ò (a.È i++b.È j)
 up:out.Ã le
 KD:∀x∈out,∀y∈a.Í i,le x y
 KH:∀x∈out,∀y∈b.Í j,le x y
def wU (le:W->W->Prop)(a b r:İ W):Prop:=r.ò (a++b)/\r.Ã le
def Pz {out:İ W}(h:out.Ã le)(l:∀y∈out,le y x):(out++[x]).Ã le:=by rw[e8];calc%[h,s_ _ _|λy d z hz=>?_];rw[am.mp hz];show l y d
def jw {a:İ W}(h:i<a.v):a.Í i=a[i]::a.Í (i+1):=(r8 h)
def PB {a:İ W}(h:i<a.v):a.È (i+1)=a.È i++[a[i]]:=by rw[b6,ae h];rfl
def PJ {a:İ W}(h:a.Ã le)(hi:i<a.v):∀y∈a.Í (i+1),le a[i] y:=λy g=>by let d:(a.Í i).Ã le:=h.sublist<|kq i a;rw[jw hi]at d;show(f7.mp d).1 y g
def Mg.uo (m:Mg le a b out i j)(ha:a.Ã le)(hi:i<a.v)(h:∀y∈b.Í j,le a[i] y):Mg le a b (out++[a[i]]) (i+1) j:=by
 refine%[hi,m.jb,?_,Pz m.up λy d=>m.KD y d _ (by rw[jw hi];show a4),λx hx y d=>?_|λx hx y d=>?_]
 .rw[PB hi];calc(m.perm.Ĭ _).À ?_;rw[bz,bz];show jI _ uk
 .rcases aT.mp hx with z|z;.show m.KD x z y (by rw[jw hi];show av _ d)
  .rw[am.mp z];show PJ ha hi y d
 .rcases aT.mp hx with z|z;.show m.KH x z y d
  .rw[am.mp z];show h y d
def Mg.wV (m:Mg le a b out i j)(q:b.Ã le)(g:j<b.v)(h:∀y∈a.Í i,le b[j] y):Mg le a b (out++[b[j]]) i (j+1):=by
 refine%[m.ia,g,?_,Pz m.up λy d=>m.KH y d _ (by rw[jw g];show a4),λx hx y d=>?_|λx hx y d=>?_]
 .rw[PB g,<-bz];show m.perm.Ĭ _
 .rcases aT.mp hx with z|z;.show m.KD x z y d
  .rw[am.mp z];show h y d
 .rcases aT.mp hx with z|z;.show m.KH x z y (by rw[jw g];show av _ d)
  .rw[am.mp z];show PJ q g y d
theorem Mg.yZ {a b:İ W}(ha:a.Ã le):∀(k:ı) {out:İ W} {i:ı},Mg le a b out i j->i+k<=a.v->(∀t (g:t<a.v),i<=t->t<i+k->∀y∈b.Í j,le a[t] y)->Mg le a b (out++(a.Í i).È k) (i+k) j
 | 0,out,i,m,_,_=>by simpa using m
 | k+1,out,i,m,hk,h=>by let hi:i<a.v:=yf;let d:=Mg.yZ ha k (m.uo ha hi<|h i hi (ai _) yf) yf λt g h1 q=>h t g (ay h1) yf;rw[jw hi,vz];rw[bz,show i+1+k=i+(k+1) by lia]at d;show d
theorem Mg.za {a b:İ W}(q:b.Ã le):∀(k:ı) {out:İ W} {j:ı},Mg le a b out i j->j+k<=b.v->(∀t (B:t<b.v),j<=t->t<j+k->∀y∈a.Í i,le b[t] y)->Mg le a b (out++(b.Í j).È k) i (j+k)
 | 0,out,j,m,_,_=>by simpa using m
 | k+1,out,j,m,hk,h=>by let d:j<b.v:=yf;let g:=Mg.za q k (m.wV q d<|h j d (ai _) yf) yf λt B h1 D=>h t B yf yf;rw[jw d,vz];rw[bz,show j+1+k=j+(k+1) by lia]at g;show g
def Mg.done (m:Mg le a b out i j)(ha:a.Ã le)(d:b.Ã le)(h:i=a.v\/j=b.v):wU le a b (out++a.Í i++b.Í j):=by
 refine%[?_|?_]
 .let p:(out++(a.Í i++b.Í j)).ò ((a.È i++b.È j)++(a.Í i++b.Í j)):=m.perm.Ĭ _;rw[bz];calc p.À ?_;let e:a++b=(a.È i++a.Í i)++(b.È j++b.Í j):=by rw[cy,cy]
  rw[e,bz,bz];calc jI _ ?_;rw[<-bz,<-bz];show List.ò.Ĭ _ uk
 .rw[bz,e8];refine%[m.up,?_|λx hx y g=>?_]
  .rcases h with z|z;.rw[z,List.drop_length,List.nil_append];show d.sublist<|kq _ _
   .rw[z,List.drop_length,gy];show ha.sublist<|kq _ _
  .rcases aT.mp g with z|z;.show m.KD x hx y z
   .show m.KH x hx y z
def Mg.aan (m:Mg le a b out i j)(ha:a.Ã le)(d:b.Ã le)(h:∀x∈b.Í j,∀y∈a.Í i,le x y):wU le a b (out++b.Í j++a.Í i):=by
 refine%[?_|?_]
 .let p:(out++(b.Í j++a.Í i)).ò ((a.È i++b.È j)++(b.Í j++a.Í i)):=m.perm.Ĭ _;rw[bz];calc p.À ?_;let e:a++b=(a.È i++a.Í i)++(b.È j++b.Í j):=by rw[cy,cy]
  rw[e,bz,bz];calc jI _ ?_;rw[<-bz];show uk
 .rw[bz,e8];refine%[m.up,?_|λx hx y g=>?_]
  .rw[e8];show%[d.sublist<|kq _ _,ha.sublist<|kq _ _|h]
  .rcases aT.mp g with z|z;.show m.KH x hx y z
   .show m.KD x hx y z
def Mg.zero:Mg le a b [] 0 0:=%[bE _,bE _,yi,.ê,λx h=>by simp at h|λx h=>by simp at h]
def kf (K:PyProof.ô.ĥ)(p:Ń):K.α:=(K.Ĥ p.1).Î K.dflt
def kL (K:PyProof.ô.ĥ)(ps:Ń->ı)(p q:Ń):Prop:=K.kle (kf K p) (kf K q)/\(K.klt (kf K p) (kf K q)\/ps p<=ps q)
def kL.lt (h:K.klt (kf K p) (kf K q)):kL K ps p q:=%[KeyOrd.kle_of_klt h|.Â h]
def kL.lE (h:K.kle (kf K p) (kf K q))(g:ps p<=ps q):kL K ps p q:=%[h|.Ò g]
def rC {arr:ł Ń}(h:i<arr.E):KK K arr i=kf K arr[i]:=by unfold KK kf;rw[b5 h]
def mO (d:Œ K arr)(h:i<arr.E):K.Ĥ arr[i].1=į (kf K arr[i]):=by rw[sV d h,rC h]
structure jF (st st':Ł):Prop where
 kind:kindOf st'=kindOf st
 arr:arrOf st'=arrOf st
 pend:pendingOf st'=pendingOf st
 fail:failedOf st'=failedOf st
def jF.refl (st):jF st st:=%[rb,rb,rb|rb]
def lK {a:ł Ń}(h:a.I.Ã (kL K ps))(d:i<=j)(g:j<a.E):K.kle (kf K a[i]) (kf K a[j]):=by
 rcases mE d with z|z;.subst z;show oS _
 .have:=(fS.mp h) i j (by simpa using (by show my z g:i<a.E)) (by simpa using g) z;show(by simpa using this:kL K ps a[i] a[j]).1
def vK {a:ł Ń}(h:y∈a.I.Í i):∃t,∃(d:t<a.E),i<=t/\a[t]=y:=by
 let(t,d,e):=cn.mp h;let g:t<a.E-i:=by simpa using d
 show%[i+t,by grind,di _ _|by rw[<-e];simp]
def mY {g:ı}{st0 st:Ł}{Q:š->Ł->Prop}(d:jF st0 st)(h:∀st',jF st0 st'->Q () st'):wpS (ľ prog w) A E s ((sortPriv% PySem.Builtin.setMinGallop) g) Q st:=by show vi<|h _ %[d.þ,d.arr,d.pend|d.fail]
def vL {β W:Type}{J:β->Ţ Ł Sem W}{C:β->Prop}{m:Ţ Ł Sem W}{R:W->Ł->Prop}{st:Ł}(h1:∀o,C o->wpS (ľ prog w) A E s (J o) R st)(d:(∀o,C o->wpS (ľ prog w) A E s (J o) R st)->wpS (ľ prog w) A E s m R st):wpS (ľ prog w) A E s m R st:=d h1
def Ac {arr:ł Ń}(hx:x<arr.E):ju K Ķ kk arr x=ĳ↔K.kle (kf K arr[x]) kk:=by unfold ju;rw[ķ yi,rC hx];unfold KeyOrd.kle;simp
def KJ {arr:ł Ń}(hx:x<arr.E):ju K Ķ kk arr x=Ķ↔K.klt kk (kf K arr[x]):=by unfold ju;rw[ķ yi,rC hx];unfold KeyOrd.klt;simp
def Ad {arr:ł Ń}(hx:x<arr.E):ju K ĳ kk arr x=ĳ↔K.klt (kf K arr[x]) kk:=by unfold ju;rw[Ĺ rb,rC hx];rfl
def KN {arr:ł Ń}(hx:x<arr.E):ju K ĳ kk arr x=Ķ↔K.kle kk (kf K arr[x]):=by unfold ju;rw[Ĺ rb,rC hx];rfl
def VF {arr:ł Ń}(g:arr.I.Ã (kL K ps)){lo n:ı}(hn:lo+n<=arr.E):∀i j,i<=j->j<n->ju K Ķ kk arr (lo+j)=ĳ->ju K Ķ kk arr (lo+i)=ĳ:=λi j d q h=>by rw[Ac yf]at h ⊢;show fI (lK g (kz d _) yf) h
def VG {arr:ł Ń}(g:arr.I.Ã (kL K ps)){lo n:ı}(hn:lo+n<=arr.E):∀i j,i<=j->j<n->ju K ĳ kk arr (lo+j)=ĳ->ju K ĳ kk arr (lo+i)=ĳ:=λi j d q h=>by rw[Ad yf]at h ⊢;show kS (lK g yf yf) h
def NQ {a b:ł Ń}{st:Ł}{Q:ł Ń->Ł->Prop}(hO:gU prog w A s K kn)(hk:kindOf st=kn)(hka:Œ K a)(hkb:Œ K b)(ha:a.I.Ã (kL K ps))(hb:b.I.Ã (kL K ps))(a0:0<a.E)(b0:0<b.E)(hab:∀x∈a.I,∀y∈b.I,ps x<=ps y)(hlo:K.klt (kf K b[0]) (kf K a[0]))(hhi:∀j (D:j<b.E),K.klt (kf K b[j]) (kf K a[a.E-1]))(h:∀r st',wU (kL K ps) a.I b.I r.I->jF st st'->Q r st'):wpS (ľ prog w) A E s ((sortPriv% PySem.Builtin.mergeLo) a b) Q st:=by
 let lA:∀{i},(a.õ i).I=a.I.Í i:=by intro i;simp;show de yi
 let lB:∀{i},(b.õ i).I=b.I.Í i:=by intro i;simp;show de yi
 let sA:a.I.v=a.E:=yi;let sB:b.I.v=b.E:=yi;let gA:∀i (hi:i<a.E),a.I[i]'(by simpa using hi)=a[i]:=λi hi=>by simp
 let gB:∀i (hi:i<b.E),b.I[i]'(by simpa using hi)=b[i]:=λi hi=>by simp
 let hps:∀{i u} (hi:i<a.E) (d:u<b.E),ps a[i]<=ps b[u]:=λhi d=>hab _ yi _ yi;let aeC:∀{i j},i+1=a.E->∀x∈b.I.Í j,∀y∈a.I.Í i,kL K ps x y:=λ{i j} hi x hx y O=>by
  let(t,B,_,rfl):=vK hx;let(u,d,h1,rfl):=vK O;obtain rfl:u=a.E-1:=by first|lia|((try dsimp only);lia)
  show kL.lt<|hhi t B
 let mpA:∀{out:ł Ń} {i j:ı},Mg (kL K ps) a.I b.I out.I i j->(hi:i<a.E)->(∀u (d:u<b.E),j<=u->K.kle (kf K a[i]) (kf K b[u]))->Mg (kL K ps) a.I b.I (out.Ï a[i]).I (i+1) j:=λ{out i j} m hi q=>by
  have:=m.uo ha (by simpa using hi) λy O=>by let(u,d,h1,rfl):=vK O;rw[gA i hi];show kL.lE (q u d h1)<|hps hi d
  rw[gA i hi]at this;simpa using this
 let mpB:∀{out:ł Ń} {i j:ı},Mg (kL K ps) a.I b.I out.I i j->(D:j<b.E)->(∀u (d:u<a.E),i<=u->K.klt (kf K b[j]) (kf K a[u]))->Mg (kL K ps) a.I b.I (out.Ï b[j]).I i (j+1):=λ{out i j} m D q=>by
  have:=m.wV hb (by simpa using D) λy O=>by let(u,d,h1,rfl):=vK O;rw[gB j D];show kL.lt<|q u d h1
  rw[gB j D]at this;simpa using this
 let mbA:∀{out:ł Ń} {i j k:ı},Mg (kL K ps) a.I b.I out.I i j->i+k<=a.E->(∀t (B:t<a.E),i<=t->t<i+k->∀u (d:u<b.E),j<=u->K.kle (kf K a[t]) (kf K b[u]))->Mg (kL K ps) a.I b.I (out++a.õ i (i+k)).I (i+k) j:=λ{out i j k} m hk q=>by
  have:=Mg.yZ ha k m (by simpa using hk) λt B h1 h2 y O=>by
   let(u,d,h3,rfl):=vK O;let M:t<a.E:=by simpa using B
   rw[gA t M];show kL.lE (q t M h1 h2 u d h3)<|hps M d
  rw[gp];let e:(a.õ i<|i+k).I=(a.I.Í i).È k:=yi;rw[e];show this
 let mbB:∀{out:ł Ń} {i j k:ı},Mg (kL K ps) a.I b.I out.I i j->j+k<=b.E->(∀t (B:t<b.E),j<=t->t<j+k->∀u (d:u<a.E),i<=u->K.klt (kf K b[t]) (kf K a[u]))->Mg (kL K ps) a.I b.I (out++b.õ j (j+k)).I i (j+k):=λ{out i j k} m hk q=>by
  have:=Mg.za hb k m (by simpa using hk) λt B h1 h2 y O=>by
   let(u,d,h3,rfl):=vK O;let M:t<b.E:=by simpa using B
   rw[gB t M];show kL.lt<|q t M h1 h2 u d h3
  rw[gp];let e:(b.õ j<|j+k).I=(b.I.Í j).È k:=yi;rw[e];show this
 let wW:∀{out:ł Ń} {i j:ı} {st':Ł},jF st st'->Mg (kL K ps) a.I b.I out.I i j->(i=a.E\/j=b.E)->Q (out++a.õ i++b.õ j) st':=λ{out i j st'} e m z=>by calc h _ _ ?_ e;rw[gp,gp,lA,lB];show m.done ha hb (by rw[sA,sB];show z)
 let F:∀{out:ł Ń} {i j:ı} {st':Ł},jF st st'->Mg (kL K ps) a.I b.I out.I i j->i+1=a.E->Q (out++b.õ j++a.õ i) st':=λ{out i j st'} e m z=>by calc h _ _ ?_ e;rw[gp,gp,lA,lB];show m.aan ha hb<|aeC z
 show wpS _ _ _ _ (_ >>= _) _ _;refine a9<|wpS_lift<|fA %[rb|?_]
 skip
 calc a9<|cN b0 ?_;let m0:Mg (kL K ps) a.I b.I (#[b[0]]:ł Ń).I 0 1:=by have:=mpB (out:=#[]) (i:=0) (j:=0) Mg.zero b0 λu d _=>im hlo<|lK ha (bE _) d;simpa using this
 skip
 by_cases z1:1=b.E
 .calc bC (by simpa using z1) ?_;show bt<|wW (jF.Č _) m0<|.Ò z1
 calc bx (by simpa using z1) ?_;by_cases z2:0+1=a.E
 .calc bC (by simpa using z2) ?_;show bt<|F (jF.Č _) m0 z2
 calc bx (by simpa using z2) ?_;refine a9<|sN ?_
 skip
 refine a9 (ko (gd (I:=λ(x:ı) (c:ĵ (ł Ń)×ł Ń×ı×ı×ı) (st':Ł)=>∃out i j g,c=(Ĵ,out,i,j,g)/\jF st st'/\Mg (kL K ps) a.I b.I out.I i j/\i+1<a.E/\j<b.E/\x+1<=i+j)
  (Q:=λ(c:ĵ (ł Ń)×ł Ń×ı×ı×ı) (st':Ł)=>∃r q,c=(į r,q)/\Q r st') ?_ ?_ %[16,_,_,_,_,rb,jF.Č _,m0,yv,yv|yv]) ?_)
 .intro x c st1 _ hx z;let(out,i,j,g,rfl,e1,m1,hi,D,hc):=z
  try conv=>arg 5;dsimp -zeta only
  refine a9 (ko (gd (I:=λ(y:ı) (c:ĵ (ł Ń)×ł Ń×ı×ı×ı×ı) (st':Ł)=>∃out i' j' p q,c=(Ĵ,out,i',j',p,q)/\jF st st'/\Mg (kL K ps) a.I b.I out.I i' j'/\i'+1<a.E/\j'<b.E/\i+j+y<=i'+j')
   (Q:=λ(c:ĵ (ł Ń)×ł Ń×ı×ı×ı×ı) (st':Ł)=>(∃r q,c=(į r,q)/\Q r st')\/∃out i' j' p q,c=(Ĵ,out,i',j',p,q)/\jF st st'/\Mg (kL K ps) a.I b.I out.I i' j'/\i'+1<a.E/\j'<b.E/\i+j+1<=i'+j') ?_ ?_ %[12,_,_,_,_,_,rb,e1,m1,hi,D|yi]) ?_)
  .intro y c st2 _ O z;let(out,i,j,p,q,rfl,e2,m2,hi,D,hc):=z
   try conv=>arg 5;dsimp -zeta only
   calc a9<|cN D<|a9<|cN (show i<a.E from ay hi) ?_;refine a9<|yX hO (by rw[e2.kind];show hk) (mO hkb D) (mO hka yv) ?_
   try conv=>arg 5;dsimp -zeta only
   cases e:K.blt (kf K b[j]) (kf K a[i]) with
   | true=>
    calc bC rb ?_;refine a9<|cN D ?_
    try conv=>arg 5;dsimp -zeta only
    let G:=mpB m2 D λu d h1=>im e<|lK ha h1 d;by_cases z:j+1=b.E
    .calc bC (by simpa using z) ?_;show bt<|.Â %[3,_,_,rb|wW e2 G<|.Ò z]
    .calc bx (by simpa using z) ?_;by_cases z':q+1>=g
     .calc bC z' ?_;show bt<|.Ò %[12,_,_,_,_,_,rb,e2,G,hi,yv|yv]
     .calc bx z' ?_;show bt %[12,_,_,_,_,_,rb,e2,G,hi,yv|yv]
   | false=>
    calc bx yi ?_;refine a9<|cN (show i<a.E by first|lia|((try dsimp only);lia)) ?_
    try conv=>arg 5;dsimp -zeta only
    let G:=mpA m2 (show i<a.E by first|lia|((try dsimp only);lia)) λu d h1=>fI (show K.kle _ _ from e)<|lK hb h1 d;by_cases z:i+1+1=a.E
    .calc bC (by simpa using z) ?_;show bt<|.Â %[3,_,_,rb|F e2 G z]
    .calc bx (by simpa using z) ?_;by_cases z':p+1>=g
     .calc bC z' ?_;show bt<|.Ò %[12,_,_,_,_,_,rb,e2,G,yv,D|yv]
     .calc bx z' ?_;show bt %[12,_,_,_,_,_,rb,e2,G,yv,D|yv]
  .intro c st2 z;let(out,i',j',p,q,rfl,e2,m2,hi',hj',hc'):=z;exfalso;lia
  .rintro c st2 (⟨r,q,rfl,hq⟩|⟨out,i',j',p,q,rfl,e2,m2,hi',hj',hc'⟩)
   .try conv=>arg 5;dsimp -zeta only
    show bt %[3,_,_,rb|hq]
   .try conv=>arg 5;dsimp -zeta only
    refine a9<|wpS_lift<|fA %[rb|?_]
    try conv=>arg 5;dsimp -zeta only
    refine a9 (ko (gd (I:=λ(y:ı) (c:ĵ (ł Ń)×ł Ń×ı×ı×ı×ı×ı) (st':Ł)=>∃out Y Z g p q,c=(Ĵ,out,Y,Z,g,p,q)/\jF st st'/\Mg (kL K ps) a.I b.I out.I Y Z/\Y+1<a.E/\Z<b.E/\i'+j'+y<=Y+Z)
     (Q:=λ(c:ĵ (ł Ń)×ł Ń×ı×ı×ı×ı×ı) (st':Ł)=>(∃r q,c=(į r,q)/\Q r st')\/∃out Y Z g p q,c=(Ĵ,out,Y,Z,g,p,q)/\jF st st'/\Mg (kL K ps) a.I b.I out.I Y Z/\Y+1<a.E/\Z<b.E/\i'+j'<=Y+Z) ?_ ?_ %[45,_,_,_,_,_,_,rb,e2,m2,hi',hj'|fq rb]) ?_)
    .intro y c st3 _ O z;let(out,i,j,g,p,q,rfl,e3,G,hi,D,hc):=z
     try conv=>arg 5;dsimp -zeta only
     extract_lets -underBinder +onlyGivenNames l1 l2 l3 l4 l5 l6 l7 l8 l9 l10 l11 jp1
     let q4:l4=i:=rfl;let q4b:l3.fst=i:=rfl;let q6:l6=j:=rfl;let q6b:l5.fst=j:=rfl;let q8:l8=g:=rfl;let q8b:l7.fst=g:=rfl;refine vL (J:=λg':ı=>jp1 () g') (C:=λ_=>True) (λg' _=>?_) λhJ=>?_
     rotate_left
     .by_cases z:g > 1
      .calc bC z ?_;show hJ (g-1) trivial
      .calc bx z ?_;show hJ g trivial
     try conv=>arg 5;dsimp -zeta only
     calc a9<|mY e3 λdR e4=>?_;calc a9<|cN D ?_;calc a9<|lJ hO (by rw[e4.kind];show hk) (mO hkb D) hka (Nat.sub_pos_of_lt yf) (by grind) (VF ha<|fq<|ed<|ay<|Nat.lt_of_succ_lt hi) λk hk1 hk2 hk3=>?_;let kA:∀t (B:t<a.E),i<=t->t<i+k->K.kle (kf K a[t]) (kf K b[j]):=λt B h1 h2=>by have:=hk2 (t-i) (by grind);rw[show i+(t-i)=t from ed h1,Ac B]at this;show this
     let kB:∀t (B:t<a.E),i+k<=t->K.klt (kf K b[j]) (kf K a[t]):=λt B h1=>by have:=hk3 (t-i) (Nat.le_sub_of_add_le' h1)<|Nat.sub_lt_sub_right (o6 h1) B;rw[show i+(t-i)=t from ed (o6 h1),KJ B]at this;show this
     let L:i+k<a.E:=by
      rcases dE (i+k) a.E with z|z;.show z
      .let h1:=kA (a.E-1) (by grind) (fo yf) (by grind);show ŀ (hhi j D)<|ul h1
     try conv=>arg 5;dsimp -zeta only
     extract_lets -underBinder +onlyGivenNames ac jp2
     refine vL (J:=λo:ł Ń×ı=>jp2 () o.1 o.2) (C:=λo=>Mg (kL K ps) a.I b.I o.1.I o.2 j/\o.2=i+k/\o.2+1<a.E) (λo ho=>?_) λhJ=>?_
     .let(o1,o2):=o;let(mo,eo,qO):=ho;let eo:o2=i+k:=eo;subst eo;let mo:Mg (kL K ps) a.I b.I o1.I (i+k) j:=mo;let qO:i+k+1<a.E:=qO
      try conv=>arg 5;dsimp -zeta only
      refine a9<|cN D ?_
      try conv=>arg 5;dsimp -zeta only
      let m5:=mpB mo D λu d h1=>kB u d h1;by_cases z:j+1=b.E
      .calc bC (by simpa using z) ?_;show bt<|.Â %[3,_,_,rb|wW e4 m5<|.Ò z]
      calc bx (by simpa using z) ?_;calc a9<|cN L ?_;calc a9<|lJ hO (by rw[e4.kind];show hk) (mO hka L) hkb (fo yf) (by grind) (VG hb<|fq<|ed D) λN h1 h2 h3=>?_;let lb:∀t (B:t<b.E),j+1<=t->t<j+1+N->K.klt (kf K b[t]) (kf K a[i+k]):=λt B q1 q2=>by have:=h2 (t-(j+1)) (by grind);rw[show j+1+(t-(j+1))=t from ed q1,Ad B]at this;show this
      let la:∀t (B:t<b.E),j+1+N<=t->K.kle (kf K a[i+k]) (kf K b[t]):=λt B q1=>by have:=h3 (t-(j+1)) (Nat.le_sub_of_add_le' q1)<|Nat.sub_lt_sub_right (o6 q1) B;rw[show j+1+(t-(j+1))=t from ed (o6 q1),KN B]at this;show this
      try conv=>arg 5;dsimp -zeta only
      extract_lets -underBinder +onlyGivenNames bc jp3
      refine vL (J:=λo:ł Ń×ı=>jp3 () o.1 o.2) (C:=λo=>Mg (kL K ps) a.I b.I o.1.I (i+k) o.2/\o.2=j+1+N/\o.2<b.E) (λo ho=>?_) λhJ=>?_
      .let(o1,o2):=o;let(mo,eo,qO):=ho;let eo:o2=j+1+N:=eo;subst eo;let mo:Mg (kL K ps) a.I b.I o1.I (i+k) (j+1+N):=mo;let qO:j+1+N<b.E:=qO
       try conv=>arg 5;dsimp -zeta only
       refine a9<|cN L ?_
       try conv=>arg 5;dsimp -zeta only
       let m6:=mpA mo L λu d h1=>la u d h1;by_cases z:i+k+1+1=a.E
       .calc bC (by simpa using z) ?_;show bt<|.Â %[3,_,_,rb|F e4 m6 z]
       calc bx (by simpa using z) ?_;by_cases z':(Ļ (k<7)&&Ļ (N<7))=ĳ
       .calc bC z' ?_;show bt<|.Ò %[45,_,_,_,_,_,_,rb,e4,m6,yv,qO|yv]
       .calc bx z' ?_;show bt %[45,_,_,_,_,_,_,rb,e4,m6,yv,qO|yv]
      .by_cases z3:N > 0
       .refine bC z3 ?_
        try conv=>arg 5;dsimp -zeta only
        let m6:=mbB (k:=N) m5 yv λt B q1 q2 u d q3=>im (lb t B q1 q2)<|lK ha q3 d;by_cases z4:j+1+N=b.E
        .calc bC (by simpa using z4) ?_;show bt<|.Â %[3,_,_,rb|wW e4 m6<|.Ò z4]
        .calc bx (by simpa using z4) ?_;show hJ (_,_) %[m6,rb|by dsimp only;lia]
       .calc bx z3 ?_;obtain rfl:N=0:=ph z3;show hJ (_,_) %[m5,rb|by dsimp only;lia]
     .by_cases z3:k > 0
      .refine bC z3 ?_
       try conv=>arg 5;dsimp -zeta only
       let m6:=mbA (k:=k) G (ay L) λt B q1 q2 u d q3=>fI (kA t B q1 q2)<|lK hb q3 d;by_cases z4:i+k+1=a.E
       .calc bC (by simpa using z4) ?_;show bt<|.Â %[3,_,_,rb|F e4 m6 z4]
       .calc bx (by simpa using z4) ?_;calc bx (by simp;show bb L) ?_;show hJ (_,_) %[m6,rb|by dsimp only;lia]
      .calc bx z3 ?_;obtain rfl:k=0:=by first|lia|((try dsimp only);lia)
       show hJ (_,_) %[G,rb|by dsimp only;lia]
    .intro c st3 z;let(out,Y,Z,g,p,q,rfl,e3,G,hi2,hj2,hc2):=z;exfalso;lia
    .rintro c st3 (⟨r,q,rfl,hq⟩|⟨out,Y,Z,g,p,q,rfl,e3,G,hi2,hj2,hc2⟩)
     .try conv=>arg 5;dsimp -zeta only
      show bt %[3,_,_,rb|hq]
     .try conv=>arg 5;dsimp -zeta only
      calc a9<|mY e3 λdR e4=>?_;show bt %[16,_,_,_,_,rb,e4,G,hi2,hj2|yv]
 .intro c st1 z;let(out,i,j,g,rfl,e1,m1,hi,D,hc):=z;exfalso;lia
 .intro c st1 z;let(r,q,rfl,hq):=z;show bt hq
structure gw (K:PyProof.ô.ĥ)(ps:Ń->ı)(a b out:ł Ń)(n m:ı):Prop where
 na:n<=a.E
 mb:m<=b.E
 mg:Mg (λx y=>kL K ps y x) b.I.â a.I.â out.I (b.E-m) (a.E-n)
def vM {a:ł Ń}(h:a.I.Ã (kL K ps)):a.I.â.Ã (λx y=>kL K ps y x):=by rw[List.pairwise_reverse];show h
def sW {a:ł Ń}(h:n<=a.E):a.I.â.Í (a.E-n)=(a.I.È n).â:=by rw[List.drop_reverse];congr 2;simp;show ff h
def Ds {a:ł Ń}(hn:n<=a.E)(h:y∈a.I.â.Í (a.E-n)):∃u,∃(q:u<a.E),u<n/\a[u]=y:=by
 rw[sW hn,tS]at h;let(t,g,e):=cn.mp h;let d:t<n:=by have:=g;simp at this;simp_all
 show%[t,a7 d hn,d|by rw[<-e];simp]
def VH {a:ł Ń}(d:0<n)(hn:n<=a.E):∃h:a.E-n<a.I.â.v,a.I.â[a.E-n]=a[n-1]:=by calc%[by simp;show df yf yf|?_];rw[List.getElem_reverse];simp only[Array.getElem_toList,bn];congr 1;lia
def gw.uo (g:gw K ps a b out n m)(ha:a.I.Ã (kL K ps))(G:0<n)(B:n-1<a.E)(h:∀u (q:u<b.E),u<m->kL K ps b[u] a[n-1]):gw K ps a b (out.Ï a[n-1]) (n-1) m:=by
 let(h1,d):=VH G g.na;have:=g.mg.wV (vM ha) h1 λy D=>by let(u,q,F,rfl):=Ds g.mb D;rw[d];show h u q F
 rw[d]at this;let hn:=g.na;calc%[ay B,g.mb|?_];rw[show a.E-(n-1)=a.E-n+1 from gN yf];simpa using this
def gw.wV (g:gw K ps a b out n m)(B:b.I.Ã (kL K ps))(G:0<m)(J:m-1<b.E)(h:∀u (q:u<a.E),u<n->kL K ps a[u] b[m-1]):gw K ps a b (out.Ï b[m-1]) n (m-1):=by
 let(h1,d):=VH G g.mb;have:=g.mg.uo (vM B) h1 λy F=>by let(u,q,D,rfl):=Ds g.na F;rw[d];show h u q D
 rw[d]at this;let hm:=g.mb;calc%[g.na,yf|?_];rw[show b.E-(m-1)=b.E-m+1 by lia];simpa using this
theorem gw.yZ {a b:ł Ń}(ha:a.I.Ã (kL K ps)):∀(k:ı) {out:ł Ń} {n:ı},gw K ps a b out n m->k<=n->(∀t (q:t<a.E),n-k<=t->t<n->∀u (F:u<b.E),u<m->kL K ps b[u] a[t])->gw K ps a b (out++(a.õ (n-k) n).â) (n-k) m
 | 0,out,n,g,_,_=>by
  let e:(a.õ (n-0) n).â=#[]:=by simp;show mS _ _
  rw[e];simpa using g
 | k+1,out,n,g,hk,h=>by
  let hn:=g.na;let B:=gw.yZ ha k (g.uo ha yf (df yf yf)<|h (n-1) yf (rq yf _)<|vj yf yf) (xk hk) λt q h1 D=>h t q yf (by simp[cE,c9]at *;lia);let e:out++(a.õ (n-(k+1)) n).â=out.Ï a[n-1]++(a.õ (n-1-k)<|n-1).â:=by apply mr.mp;rw[gp,gp,gv,bz];congr 1;rw[qV,qV,show n-1-k=n-(k+1) from sk n 1 k];let d:=Array.extract_succ_right (as:=a) (i:=n-(k+1)) (j:=n-1) yf yf;rw[Nat.sub_add_cancel yf]at d;rw[d,gv,rL];rfl
  rw[e,show n-(k+1)=n-1-k from (sk n 1 k).Ð];show B
theorem gw.za {a b:ł Ń}(d:b.I.Ã (kL K ps)):∀(k:ı) {out:ł Ń} {m:ı},gw K ps a b out n m->k<=m->(∀t (B:t<b.E),m-k<=t->t<m->∀u (G:u<a.E),u<n->kL K ps a[u] b[t])->gw K ps a b (out++(b.õ (m-k) m).â) n (m-k)
 | 0,out,m,g,_,_=>by
  let e:(b.õ (m-0) m).â=#[]:=by simp;lia
  rw[e];simpa using g
 | k+1,out,m,g,hk,h=>by
  let hm:=g.mb;let D:=gw.za d k (g.wV d yf yf<|h (m-1) yf yf yf) yf λt B h1 F=>h t B yf yf;let e:out++(b.õ (m-(k+1)) m).â=out.Ï b[m-1]++(b.õ (m-1-k)<|m-1).â:=by apply mr.mp;rw[gp,gp,gv,bz];congr 1;rw[qV,qV,show m-1-k=m-(k+1) from sk m 1 k];let q:=Array.extract_succ_right (as:=b) (i:=m-(k+1)) (j:=m-1) yf yf;rw[Nat.sub_add_cancel yf]at q;rw[q,gv,rL];rfl
  rw[e,show m-(k+1)=m-1-k from (sk m 1 k).Ð];show D
def PL {a b r:ł Ń}(h:wU (λx y=>kL K ps y x) b.I.â a.I.â r.I.â):wU (kL K ps) a.I b.I r.I:=by calc%[?_|List.pairwise_reverse.mp h.2];calc(List.reverse_perm r.I).Ð.À<|h.1.À ?_;rw[<-rL];show List.reverse_perm _
def gw.done (g:gw K ps a b out n m)(ha:a.I.Ã (kL K ps))(d:b.I.Ã (kL K ps))(h:n=0\/m=0):wU (kL K ps) a.I b.I (a.õ 0 n++b.õ 0 m++out.â).I:=by calc PL ?_;have:=g.mg.done (vM d) (vM ha) (by simp;lia);rw[sW g.na,sW g.mb]at this;simpa using this
def gw.ac8 (g:gw K ps a b out n m)(ha:a.I.Ã (kL K ps))(B:b.I.Ã (kL K ps))(h:∀u (q:u<b.E),u<m->∀t (d:t<a.E),t<n->kL K ps b[u] a[t]):wU (kL K ps) a.I b.I (b.õ 0 m++a.õ 0 n++out.â).I:=by
 calc PL ?_;have:=g.mg.aan (vM B) (vM ha) λx hx y F=>by let(t,d,D,rfl):=Ds g.na hx;let(u,q,h1,rfl):=Ds g.mb F;show h u q h1 t d D
 rw[sW g.na,sW g.mb]at this;simpa using this
def gw.zero:gw K ps a b #[] a.E b.E:=%[ai _,ai _|by rw[mB,mB];show Mg.zero]
def NT {a b:ł Ń}{st:Ł}{Q:ł Ń->Ł->Prop}(hO:gU prog w A s K kn)(hk:kindOf st=kn)(hka:Œ K a)(hkb:Œ K b)(ha:a.I.Ã (kL K ps))(hb:b.I.Ã (kL K ps))(a0:0<a.E)(b0:0<b.E)(hab:∀x∈a.I,∀y∈b.I,ps x<=ps y)(hlo:K.klt (kf K b[0]) (kf K a[0]))(hhi:∀j (hj:j<b.E),K.klt (kf K b[j]) (kf K a[a.E-1]))(h:∀r st',wU (kL K ps) a.I b.I r.I->jF st st'->Q r st'):wpS (ľ prog w) A E s ((sortPriv% PySem.Builtin.mergeHi) a b) Q st:=by
 let hps:∀{i u} (hi:i<a.E) (F:u<b.E),ps a[i]<=ps b[u]:=λhi F=>hab _ yi _ yi;let hlow:∀t (d:t<a.E),K.klt (kf K b[0]) (kf K a[t]):=λt d=>im hlo<|lK ha (bE _) d;let wW:∀{out:ł Ń} {n m:ı} {st':Ł},jF st st'->gw K ps a b out n m->(n=0\/m=0)->Q (a.õ 0 n++b.õ 0 m++out.â) st':=λ{out n m st'} e g z=>h _ _ (g.done ha hb z) e;let G:∀{out:ł Ń} {n m:ı} {st':Ł},jF st st'->gw K ps a b out n m->m=1->Q (b.õ 0 m++a.õ 0 n++out.â) st':=λ{out n m st'} e g z=>h _ _ (g.ac8 ha hb λu F h1 t d h2=>by
  obtain rfl:u=0:=by simp_all
  show kL.lt<|hlow t d) e
 show wpS _ _ _ _ (_ >>= _) _ _;refine a9<|wpS_lift<|fA %[rb|?_]
 skip
 try conv=>arg 5;dsimp -zeta only
 calc a9<|cN (show a.E-1<a.E by first|lia|((try dsimp only);lia)) ?_;let m0:gw K ps a b (#[a[a.E-1]]:ł Ń) (a.E-1) b.E:=by have:=gw.uo (gw.zero (K:=K) (a:=a) (b:=b)) ha a0 yv λu F _=>kL.lt<|hhi u F;simpa using this
 try conv=>arg 5;dsimp -zeta only
 by_cases z1:a.E-1=0
 .calc bC (by simpa using z1) ?_;show bt<|wW (jF.Č _) m0<|.Â z1
 calc bx (by simpa using z1) ?_;by_cases z2:b.E=1
 .calc bC (by simpa using z2) ?_;show bt<|G (jF.Č _) m0 z2
 calc bx (by simpa using z2) ?_;refine a9<|sN ?_
 try conv=>arg 5;dsimp -zeta only
 refine a9 (ko (gd (I:=λ(x:ı) (c:ĵ (ł Ń)×ı×ı×ł Ń×ı) (st':Ł)=>∃n m out g,c=(Ĵ,n,m,out,g)/\jF st st'/\gw K ps a b out n m/\1<=n/\2<=m/\n+m+x+1<=a.E+b.E)
  (Q:=λ(c:ĵ (ł Ń)×ı×ı×ł Ń×ı) (st':Ł)=>∃r q,c=(į r,q)/\Q r st') ?_ ?_ %[16,_,_,_,_,rb,jF.Č _,m0,yv,yv|yv]) ?_)
 .intro x c st1 _ hx z;let(n,m,out,g,rfl,e1,m1,hn,hm,hc):=z
  try conv=>arg 5;dsimp -zeta only
  refine a9 (ko (gd (I:=λ(y:ı) (c:ĵ (ł Ń)×ı×ı×ł Ń×ı×ı) (st':Ł)=>∃n' m' out p q,c=(Ĵ,n',m',out,p,q)/\jF st st'/\gw K ps a b out n' m'/\1<=n'/\2<=m'/\n'+m'+y<=n+m)
   (Q:=λ(c:ĵ (ł Ń)×ı×ı×ł Ń×ı×ı) (st':Ł)=>(∃r q,c=(į r,q)/\Q r st')\/∃n' m' out p q,c=(Ĵ,n',m',out,p,q)/\jF st st'/\gw K ps a b out n' m'/\1<=n'/\2<=m'/\n'+m'+1<=n+m) ?_ ?_ %[12,_,_,_,_,_,rb,e1,m1,hn,hm|yi]) ?_)
  .intro y c st2 _ hy z;let(n,m,out,p,q,rfl,Z,B,hn,hm,hc):=z;let hna:=B.na;let hmb:=B.mb;let ln:n-1<a.E:=df yf yf;let L:m-1<b.E:=df yf yf
   try conv=>arg 5;dsimp -zeta only
   calc a9<|cN L<|a9<|cN ln ?_;refine a9<|yX hO (by rw[Z.kind];show hk) (mO hkb L) (mO hka ln) ?_
   try conv=>arg 5;dsimp -zeta only
   cases e:K.blt (kf K b[m-1]) (kf K a[n-1]) with
   | true=>
    refine bC rb ?_
    try conv=>arg 5;dsimp -zeta only
    refine a9<|cN ln ?_
    try conv=>arg 5;dsimp -zeta only
    let D:=B.uo ha hn ln λu F h1=>kL.lt<|kS (lK hb (show u<=m-1 from iL h1) L) e;by_cases z:n-1=0
    .calc bC (by simpa using z) ?_;show bt<|.Â %[3,_,_,rb|wW Z D<|.Â z]
    .calc bx (by simpa using z) ?_;by_cases z':p+1>=g
     .calc bC z' ?_;show bt<|.Ò %[12,_,_,_,_,_,rb,Z,D,yv,hm|yv]
     .calc bx z' ?_;show bt %[12,_,_,_,_,_,rb,Z,D,yv,hm|yv]
   | false=>
    refine bx yi ?_
    try conv=>arg 5;dsimp -zeta only
    refine a9<|cN L ?_
    try conv=>arg 5;dsimp -zeta only
    let D:=B.wV hb (ay hm) L λu F h1=>kL.lE (fI (lK ha (show u<=n-1 from iL h1) ln)<|show K.kle _ _ from e)<|hps F L;by_cases z:m-1=1
    .calc bC (by simpa using z) ?_;show bt<|.Â %[3,_,_,rb|G Z D z]
    .calc bx (by simpa using z) ?_;by_cases z':q+1>=g
     .calc bC z' ?_;show bt<|.Ò %[12,_,_,_,_,_,rb,Z,D,hn,yv|yv]
     .calc bx z' ?_;show bt %[12,_,_,_,_,_,rb,Z,D,hn,yv|yv]
  .intro c st2 z;let(n',m',out,p,q,rfl,Z,B,hn',hm',hc'):=z;exfalso;lia
  .rintro c st2 (⟨r,q,rfl,hq⟩|⟨n',m',out,p,q,rfl,Z,B,hn',hm',hc'⟩)
   .try conv=>arg 5;dsimp -zeta only
    show bt %[3,_,_,rb|hq]
   .try conv=>arg 5;dsimp -zeta only
    refine a9<|wpS_lift<|fA %[rb|?_]
    try conv=>arg 5;dsimp -zeta only
    refine a9 (ko (gd (I:=λ(y:ı) (c:ĵ (ł Ń)×ı×ı×ł Ń×ı×ı×ı) (st':Ł)=>∃O B out g p q,c=(Ĵ,O,B,out,g,p,q)/\jF st st'/\gw K ps a b out O B/\1<=O/\2<=B/\O+B+y<=n'+m')
     (Q:=λ(c:ĵ (ł Ń)×ı×ı×ł Ń×ı×ı×ı) (st':Ł)=>(∃r q,c=(į r,q)/\Q r st')\/∃O B out g p q,c=(Ĵ,O,B,out,g,p,q)/\jF st st'/\gw K ps a b out O B/\1<=O/\2<=B/\O+B<=n'+m') ?_ ?_ %[45,_,_,_,_,_,_,rb,Z,B,hn',hm'|fq rb]) ?_)
    .intro y c st3 _ hy z;let(n,m,out,g,p,q,rfl,e3,D,hn,hm,hc):=z;let hna:=D.na;let hmb:=D.mb;let ln:n-1<a.E:=by first|lia|((try dsimp only);lia)
     let L:m-1<b.E:=by first|lia|((try dsimp only);lia)
     try conv=>arg 5;dsimp -zeta only
     extract_lets -underBinder +onlyGivenNames l1 l2 l3 l4 l5 l6 l7 l8 l9 l10 l11 jp1
     let q4:l2=n:=rfl;let q4b:l1.fst=n:=rfl;let q6:l4=m:=rfl;let q6b:l3.fst=m:=rfl;let q8:l8=g:=rfl;let q8b:l7.fst=g:=rfl;refine vL (J:=λg':ı=>jp1 () g') (C:=λ_=>True) (λg' _=>?_) λhJ=>?_
     rotate_left
     .by_cases z:g > 1
      .calc bC z ?_;show hJ (g-1) trivial
      .calc bx z ?_;show hJ g trivial
     try conv=>arg 5;dsimp -zeta only
     calc a9<|mY e3 λdR e4=>?_;calc a9<|cN L ?_;calc a9<|lJ hO (by rw[e4.kind];show hk) (mO hkb L) hka (vj yf yf) (by simp[*]) (VF ha yv) λk hk1 hk2 hk3=>?_;let kA:∀t (d:t<a.E),t<k->K.kle (kf K a[t]) (kf K b[m-1]):=λt d h1=>by have:=hk2 t h1;rw[iS,Ac d]at this;show this
     let kB:∀t (d:t<a.E),k<=t->t<n->K.klt (kf K b[m-1]) (kf K a[t]):=λt d h1 h2=>by have:=hk3 t h1 h2;rw[iS,KJ d]at this;show this
     try conv=>arg 5;dsimp -zeta only
     extract_lets -underBinder +onlyGivenNames kx ac jp2
     let q10:kx=n-k:=rfl;let q11:ac=n-k:=rfl;refine vL (J:=λo:ı×ł Ń=>jp2 () o.1 o.2) (C:=λo=>gw K ps a b o.2 o.1 m/\o.1=k/\1<=o.1) (λo ho=>?_) λhJ=>?_
     .let(M,o2):=o;let(mo,eo,qO):=ho;let eo:M=k:=eo;subst eo;let mo:gw K ps a b o2 M m:=mo;let qO:1<=M:=qO;let lk:M-1<a.E:=df yf yf
      try conv=>arg 5;dsimp -zeta only
      try conv=>arg 5;dsimp -zeta only
      refine a9<|cN L ?_
      try conv=>arg 5;dsimp -zeta only
      let m5:=mo.wV hb yv L λu F h1=>kL.lE (kA u F h1)<|hps F L;by_cases z:m-1=1
      .calc bC (by simpa using z) ?_;show bt<|.Â %[3,_,_,rb|G e4 m5 z]
      calc bx (by simpa using z) ?_;calc a9<|cN lk ?_;calc a9<|lJ hO (by rw[e4.kind];show hk) (mO hka lk) hkb (by grind) yv (VG hb yv) λN h1 h2 h3=>?_;let lb:∀t (d:t<b.E),t<N->K.klt (kf K b[t]) (kf K a[M-1]):=λt d q1=>by have:=h2 t q1;rw[iS,Ad d]at this;show this
      let la:∀t (d:t<b.E),N<=t->t<m-1->K.kle (kf K a[M-1]) (kf K b[t]):=λt d q1 q2=>by have:=h3 t q1 q2;rw[iS,KN d]at this;show this
      let k20:0<N:=by
       rcases sn N with z|z
       .let h4:=la 0 b0 (fq z)<|xk hm;show ŀ (hlow (M-1) lk)<|ul h4
       .show z
      try conv=>arg 5;dsimp -zeta only
      extract_lets -underBinder +onlyGivenNames ky bc jp3
      refine vL (J:=λo:ı×ł Ń=>jp3 () o.1 o.2) (C:=λo=>gw K ps a b o.2 M o.1/\o.1=N/\2<=o.1) (λo ho=>?_) λhJ=>?_
      .let(p1,p2):=o;let(mo,eo,hp3):=ho;let eo:p1=N:=eo;subst eo;let mo:gw K ps a b p2 M p1:=mo;let hp3:2<=p1:=hp3
       try conv=>arg 5;dsimp -zeta only
       try conv=>arg 5;dsimp -zeta only
       refine a9<|cN lk ?_
       try conv=>arg 5;dsimp -zeta only
       let Y:=mo.uo ha qO lk λu F h1=>kL.lt<|lb u F h1;by_cases z:M-1=0
       .calc bC (by simpa using z) ?_;show bt<|.Â %[3,_,_,rb|wW e4 Y<|.Â z]
       calc bx (by simpa using z) ?_;by_cases z':(Ļ (n-M<7)&&Ļ (m-1-p1<7))=ĳ
       .calc bC z' ?_;show bt<|.Ò %[45,_,_,_,_,_,_,rb,e4,Y,yv,hp3|by grind]
       .calc bx z' ?_;show bt %[45,_,_,_,_,_,_,rb,e4,Y,yv,hp3|by grind]
      .by_cases z3:m-1-N > 0
       .refine bC z3 ?_
        try conv=>arg 5;dsimp -zeta only
        let Y:=gw.za hb (m-1-N) m5 (i9 _ _) λt d q1 q2 u F q3=>kL.lE (fI (lK ha (show u<=M-1 from iL q3) lk)<|la t d (ff h1 ▸ q1) q2)<|hps F d;rw[show m-1-(m-1-N)=N from ff h1]at Y;by_cases z4:N=1
        .calc bC (by simpa using z4) ?_;show bt<|.Â %[3,_,_,rb|G e4 Y z4]
        .calc bx (by simpa using z4) ?_;calc bx (by simp;show jS k20) ?_;show hJ (_,_) %[Y,rb|by dsimp only;lia]
       .calc bx z3 ?_;obtain rfl:N=m-1:=mP h1 (Nat.le_of_sub_eq_zero<|ph z3);show hJ (_,_) %[m5,rb|by dsimp only;lia]
     .by_cases z3:n-k > 0
      .refine bC z3 ?_
       try conv=>arg 5;dsimp -zeta only
       let Y:=gw.yZ ha (n-k) D (i9 _ _) λt d q1 q2 u F q3=>kL.lt<|kS (lK hb (show u<=m-1 from iL q3) L)<|kB t d (ff hk1 ▸ q1) q2;rw[show n-(n-k)=k from ff hk1]at Y;by_cases z4:k=0
       .calc bC (by simpa using z4) ?_;show bt<|.Â %[3,_,_,rb|wW e4 Y<|.Â z4]
       .calc bx (by simpa using z4) ?_;show hJ (_,_) %[Y,rb|by dsimp only;lia]
      .calc bx z3 ?_;obtain rfl:k=n:=mP hk1 (Nat.le_of_sub_eq_zero<|ph z3);show hJ (_,_) %[D,rb|by dsimp only;lia]
    .intro c st3 z;let(O,m2',out,g,p,q,rfl,e3,D,hn2,hm2,hc2):=z;exfalso;lia
    .rintro c st3 (⟨r,q,rfl,hq⟩|⟨O,m2',out,g,p,q,rfl,e3,D,hn2,hm2,hc2⟩)
     .try conv=>arg 5;dsimp -zeta only
      show bt %[3,_,_,rb|hq]
     .try conv=>arg 5;dsimp -zeta only
      calc a9<|mY e3 λdR e4=>?_;show bt %[16,_,_,_,_,rb,e4,D,hn2,hm2|yv]
 .intro c st1 z;let(n,m,out,g,rfl,e1,m1,hn,hm,hc):=z;exfalso;lia
 .intro c st1 z;let(r,q,rfl,hq):=z;show bt hq
def aaY {T:Type}{x:T}{Q:PUnit->T->Prop}{st:T}(h:Q ⟨⟩ x):wpS M A E s (set x:Ţ T Sem PUnit) Q st:=by unfold wpS;rw[StateT.run_set];show ag %[rb|h]
theorem KQ:∀(m:İ Ń) (n:ı) (o:ı) (P X S:İ Ń) (arr:ł Ń),arr.I=P++(X++S)->X.v=m.v->P.v=o+n->((m.zipIdx n).ć (λa (x:Ń×ı)=>a.í (o+x.2) x.1) arr).I=P++(m++S)
 | [],n,o,P,X,S,arr,e,h,_=>by obtain rfl:X=[]:=md.mp h;simpa using e
 | y::m,n,o,P,X,S,arr,e,h,hp=>by
  obtain⟨x,X',rfl⟩:∃x X',X=x::X':=by
   cases X with| nil=>simp at h| cons x X'=>show%[10,x,X'|rb]
  rw[tT,rS];let d:(arr.í (o+n) y).I=(P++[y])++(X'++S):=by rw[w_,e,<-hp,List.set_append_right _ _ (ai _),mB];simp
  have:=KQ m (n+1) o (P++[y]) X' S (arr.í (o+n) y) d (by simpa using h) (by simp;lia);simpa using this
def seg_at {arr:ł Ń}{P X S:İ Ń}(e:arr.I=P++(X++S)){t:ı}(d:t<X.v):∃h:P.v+t<arr.E,arr[P.v+t]=X[t]:=by
 let g:arr.E=P.v+(X.v+S.v):=by rw[<-bn,e];simp
 calc%[by simp_all;lia|?_];let h1:arr.I[P.v+t]?=į X[t]:=by rw[e,dS (di _ _),iq,ck d,ae d]
 rw[ci,b5 yf]at h1;show bo h1
def Du {X:İ Ń}(h:X.Ã (kL K ps))(d:i<=j)(g:j<X.v):K.kle (kf K X[i]) (kf K X[j]):=by
 rcases mE d with z|z;.subst z;show oS _
 .show((fS.mp h) i j (my z g) g z).1
def NZ {i sa na p1 sb nb p2:ı}{st:Ł}{Pl X Y Sl:İ Ń}{Q:ō->Ł->Prop}(hO:gU prog w A s K kn)(hk:kindOf st=kn)(hf:failedOf st=Ĵ)(F:Œ K (arrOf st))(h1:(pendingOf st)[i]?=į (sa,na,p1))(h2:(pendingOf st)[i+1]?=į (sb,nb,p2))(e:(arrOf st).I=Pl++(X++(Y++Sl)))(lP:Pl.v=sa)(lX:X.v=na)(lY:Y.v=nb)(hsb:sb=sa+na)(x0:0<na)(y0:0<nb)(uX:X.Ã (kL K ps))(uY:Y.Ã (kL K ps))(VJ:∀x∈X,∀y∈Y,ps x<=ps y)(h:∀st' Z,kindOf st'=kindOf st->failedOf st'=Ĵ->pendingOf st'=((pendingOf st).í i (sa,na+nb,p1)).eraseIdxIfInBounds (i+1)->(arrOf st').I=Pl++(Z++Sl)->Z.ò (X++Y)->Z.Ã (kL K ps)->Q ĳ st'):wpS (ľ prog w) A E s ((sortPriv% PySem.Builtin.mergeAt) i) Q st:=by
 subst hsb lP lX lY;let e':(arrOf st).I=(Pl++X)++(Y++Sl):=by rw[e];simp
 let gX:∀{t},(B:t<X.v)->∃h:Pl.v+t<(arrOf st).E,(arrOf st)[Pl.v+t]=X[t]:=λB=>seg_at e B;let gY:∀{t},(B:t<Y.v)->∃h:Pl.v+X.v+t<(arrOf st).E,(arrOf st)[Pl.v+X.v+t]=Y[t]:=λB=>by have:=seg_at e' B;rw[aE]at this;show this
 let hsz:(arrOf st).E=Pl.v+(X.v+(Y.v+Sl.v)):=by rw[<-bn,e];simp
 let(M,ey0):=gY y0;rw[xA]at M;let afE:(arrOf st)[Pl.v+X.v]=Y[0]:=ey0;show wpS _ _ _ _ (_ >>= _) _ _;calc a9<|sN ?_;rw[h1,h2]
 try conv=>arg 5;dsimp -zeta only
 calc a9<|aaY ?_;calc a9<|cN M ?_;refine a9<|lJ hO hk (mO F M) F x0 (show Pl.v+X.v<=(arrOf st).E from ay M) ?_ λk hk1 hk2 hk3=>?_
 .intro p q hpq hq hb;let(J,L):=gX hq;let(g3,g4):=gX (show p<X.v by lia);rw[Ac J,L]at hb;rw[Ac g3,g4];show fI (Du uX hpq hq) hb
 rw[afE]at hk2 hk3;let kA:∀x∈X.È k,K.kle (kf K x) (kf K Y[0]):=λx hx=>by
  let(t,B,rfl):=cn.mp hx;let g:t<k:=by simp at B;simp_all
  let(J,L):=gX (show t<X.v from a7 g hk1);have:=hk2 t g;rw[Ac J,L]at this;simpa using this
 let kB:∀x∈X.Í k,K.klt (kf K Y[0]) (kf K x):=λx hx=>by
  let(t,B,rfl):=cn.mp hx;let g:k+t<X.v:=by simp at B;(simp[cE,c9]at *;lia)
  let(J,L):=gX g;have:=hk3 (k+t) (di _ _) g;rw[KJ J,L]at this;simpa using this
 let yl:∀y∈Y,K.kle (kf K Y[0]) (kf K y):=λy D=>by let(t,B,rfl):=cn.mp D;show Du uY (bE _) B
 try conv=>arg 5;dsimp -zeta only
 by_cases z1:X.v-k=0
 .calc bC (by simpa using z1) ?_;calc bt<|h _ (X++Y) rb hf rb (by rw[bz];show e) (ya _) ?_;rw[e8];calc%[uX,uY|λx hx y D=>?_];have:X.È k=X:=de yf;show kL.lE (fI (kA x (by rw[this];show hx))<|yl y D)<|VJ x hx y D
 calc bx (by simpa using z1) ?_;let hkx:k<X.v:=yf;let el:Pl.v+k+(X.v-k)-1=Pl.v+(X.v-1):=gN yf;let hx1:X.v-1<X.v:=vj x0 Nat.one_pos;let(hl0,hl1):=gX hx1;let hel:Pl.v+k+(X.v-k)-1<(arrOf st).E:=by grind
 let ex:(arrOf st)[Pl.v+k+(X.v-k)-1]=X[X.v-1]:=by rw[<-hl1];congr 1
 let aeD:∀x∈X,K.kle (kf K x) (kf K X[X.v-1]):=λx hx=>by let(t,B,rfl):=cn.mp hx;show Du uX (iL B) hx1
 let afF:X[X.v-1]∈X.Í k:=by calc cn.Ù %[X.v-1-k,by simp;show fo yf|?_];rw[List.getElem_drop];congr 1;grind
 calc a9<|cN hel ?_;refine a9<|lJ hO hk (mO F hel) F (show Y.v-1<Y.v from vj y0 Nat.one_pos) (show Pl.v+X.v+Y.v<=(arrOf st).E by simp_all +arith) ?_ λd hy1 hy2 hy3=>?_
 .intro p q hpq hq hb;let(J,L):=gY hq;let(g3,g4):=gY (show p<Y.v by lia);rw[Ad J,L]at hb;rw[Ad g3,g4];show kS (Du uY hpq hq) hb
 rw[ex]at hy2 hy3;let yA:∀y∈Y.È d,K.klt (kf K y) (kf K X[X.v-1]):=λy D=>by
  let(t,B,rfl):=cn.mp D;let g:t<d:=by simp at B;lia
  let(J,L):=gY (show t<Y.v by lia);have:=hy2 t g;rw[Ad J,L]at this;simpa using this
 let yB:∀y∈Y.Í d,K.kle (kf K X[X.v-1]) (kf K y):=λy D=>by
  let(t,B,rfl):=cn.mp D;let g:d+t<Y.v:=by simp at B;lia
  let(J,L):=gY g;have:=hy3 (d+t) yf g;rw[KN J,L]at this;simpa using this
 try conv=>arg 5;dsimp -zeta only
 let k20:0<d:=by
  rcases sn d with z|z
  .subst z;let h3:=yB Y[0] yi;show ŀ (kB _ afF)<|ul h3
  .show z
 refine bx (by simp;show jS k20) ?_
 try conv=>arg 5;dsimp -zeta only
 let O:((arrOf st).õ (Pl.v+k)<|Pl.v+X.v).I=X.Í k:=by rw[vn,r_,e,List.drop_length_add_append,List.drop_append_of_le_length hk1];show List.take_left' (by simp;lia)
 let N:((arrOf st).õ (Pl.v+X.v)<|Pl.v+X.v+d).I=Y.È d:=by rw[vn,r_,e',show Pl.v+X.v=(Pl++X).v by simp,List.drop_left,iq,List.take_append_of_le_length hy1]
 generalize hga:(arrOf st).õ (Pl.v+k) (Pl.v+X.v)=a at O;generalize hgb:(arrOf st).õ (Pl.v+X.v) (Pl.v+X.v+d)=b at N
 extract_lets -underBinder +onlyGivenNames xx yy jp
 let hJ:∀r st',wU (kL K ps) a.I b.I r.I->kindOf st'=kindOf st->arrOf st'=arrOf st->failedOf st'=Ĵ->pendingOf st'=((pendingOf st).í i (Pl.v,X.v+Y.v,p1)).eraseIdxIfInBounds (i+1)->wpS (ľ prog w) A E s (jp r) Q st':=by
  intro r st' fr e1 e2 e3 e4;rw[O,N]at fr
  try conv=>arg 5;dsimp -zeta only
  calc a9<|vi<|a9<|sN ?_;let hZ:∀z∈r.I,z∈X.Í k\/z∈Y.È d:=λz hz=>aT.mp<|fr.1.æ.mp hz;let er:=KQ r.I 0 (Pl.v+k) (Pl++X.È k) (X.Í k++Y.È d) (Y.Í d++Sl) (arrOf st) (by
   rw[e];rw[bz,bz,<-bz (Y.È d),cy,<-bz (X.È k),cy]) fr.1.Ę.Ð (by simp;lia)
  refine cast (Ő (λq=>wpS (ľ prog w) A E s (pure q) Q _)<|show ĳ=_ from ?_)<|bt<|h _ (X.È k++(r.I++Y.Í d)) e1 e3 e4 ?_ ?_ ?_
  .show ĳ=(failedOf st').isNone;rw[e3];rfl
  .show (List.ć _ (arrOf st') r.I.zipIdx).I=_;rw[e2];calc Eq.À ?_<|er.À yi;rfl
  .let p1:(r.I++Y.Í d).ò ((X.Í k++Y.È d)++Y.Í d):=fr.1.Ĭ _;let p2:=jI (X.È k) p1;let e5:X.È k++((X.Í k++Y.È d)++Y.Í d)=X++Y:=by rw[bz,cy,<-bz,cy]
   rw[<-e5];show p2
  .rw[e8];refine%[uX.sublist<|tf _ _,?_|λx hx z hz=>?_]
   .rw[e8];calc%[fr.2,uY.sublist<|kq _ _|λz hz y D=>?_];rcases hZ z hz with q|q;.show kL.lE (fI (aeD z<|e9 q)<|yB y D)<|VJ z (e9 q) y<|e9 D
    .show kL.lt<|im (yA z q)<|yB y D
   .let hxy:K.kle (kf K x) (kf K Y[0]):=kA x hx;rcases aT.mp hz with q|q
    .rcases hZ z q with q|q;.show kL.lt<|kS hxy<|kB z q
     .show kL.lE (fI hxy<|yl z<|dm q)<|VJ x (dm hx) z<|dm q
    .show kL.lE (fI hxy<|yl z<|e9 q)<|VJ x (dm hx) z<|e9 q
 let hka:Œ K a:=λp hp=>by rw[O]at hp;show F p (by rw[e];simp[e9 hp])
 let hkb:Œ K b:=λp hp=>by rw[N]at hp;show F p (by rw[e];simp[dm hp])
 let sa:a.E=X.v-k:=by rw[<-bn,O];simp
 let sb:b.E=d:=by rw[<-bn,N];simp;lia
 let gb0:∀j (G:j<b.E),b[j]∈Y.È d:=λj G=>by rw[<-N];simp
 let gl:∀(G:a.E-1<a.E),a[a.E-1]=X[X.v-1]:=λG=>by
  let h4:a.I[a.E-1]?=į X[X.v-1]:=by rw[O,fz,sa,show k+(X.v-k-1)=X.v-1 by grind,ae yf]
  rw[ci,b5 G]at h4;show bo h4
 let afG:∀(G:0<b.E),b[0]=Y[0]:=λG=>by
  let h4:b.I[0]?=į Y[0]:=by rw[N,n9 k20,ae y0]
  rw[ci,b5 G]at h4;show bo h4
 let ga0:∀(G:0<a.E),a[0]∈X.Í k:=λG=>by rw[<-O];simp
 let ua:a.I.Ã (kL K ps):=by rw[O];show uX.sublist<|kq _ _
 let ub:b.I.Ã (kL K ps):=by rw[N];show uY.sublist<|tf _ _
 let hab:∀x∈a.I,∀y∈b.I,ps x<=ps y:=by rw[O,N];show λx hx y D=>VJ x (e9 hx) y<|dm D
 let a0:0<a.E:=yf;let b0:0<b.E:=yf;let hlo:K.klt (kf K b[0]) (kf K a[0]):=by rw[afG b0];show kB _<|ga0 a0
 let hhi:∀j (G:j<b.E),K.klt (kf K b[j]) (kf K a[a.E-1]):=λj G=>by rw[gl yf];show yA _<|gb0 j G
 by_cases z5:X.v-k<=d
 .calc bC z5 ?_;show a9<|NQ hO hk hka hkb ua ub a0 b0 hab hlo hhi λr st' fr q=>hJ r st' fr q.þ q.arr (q.fail.À hf) q.pend
 .calc bx z5 ?_;show a9<|NT hO hk hka hkb ua ub a0 b0 hab hlo hhi λr st' fr q=>hJ r st' fr q.þ q.arr (q.fail.À hf) q.pend
structure SG (st0 st:Ł)(lo hi:ı):Prop where
 kind:kindOf st=kindOf st0
 fail:failedOf st=failedOf st0
 pend:pendingOf st=pendingOf st0
 perm:(arrOf st).ò (arrOf st0)
 out:∀t:ı,t<lo\/hi<=t->(arrOf st)[t]?=(arrOf st0)[t]?
def SG.refl {st:Ł}{lo hi:ı}:SG st st lo hi:=%[rb,rb,rb,Array.ò.Č _|λ_ _=>rfl]
def SG.size {st0 st:Ł}{lo hi:ı}(g:SG st0 st lo hi):(arrOf st).E=(arrOf st0).E:=g.perm.size_eq
def SG.keys {st0 st:Ł}{lo hi:ı}(g:SG st0 st lo hi)(h:Œ K (arrOf st0)):Œ K (arrOf st):=λp hp=>h p ((ng.mp g.perm).æ.mp hp)
def SG.arr {st0 st:Ł}{lo hi:ı}(g:SG st0 st lo hi){xs:ł Ń}(hp:xs.ò (arrOf st))(q:∀t:ı,t<lo\/hi<=t->xs[t]?=(arrOf st)[t]?):SG st0 (setArr st xs) lo hi:=%[g.þ,g.fail,g.pend,hp.À g.perm|λt d=>(q t d).À<|g.Ý t d]
def pA (ps:Ń->ı)(xs:ł Ń)(i:ı):ı:=(xs[i]?.L ps).Î 0
def eF (h:xs[i]?=ys[j]?):pA ps xs i=pA ps ys j:=by unfold pA;rw[h]
def kA (K:PyProof.ô.ĥ)(ps:Ń->ı)(xs:ł Ń)(i j:ı):Prop:=K.kle (KK K xs i) (KK K xs j)/\(K.klt (KK K xs i) (KK K xs j)\/pA ps xs i<=pA ps xs j)
def kA.refl:kA K ps xs i i:=%[oS _|.Ò<|ai _]
def kA.lt (h:K.klt (KK K xs i) (KK K xs j)):kA K ps xs i j:=%[KeyOrd.kle_of_klt h|.Â h]
def kA.congr (h1:xs[i]?=ys[i']?)(d:xs[j]?=ys[j']?)(h:kA K ps ys i' j'):kA K ps xs i j:=by unfold kA;rw[KK_congr h1,KK_congr d,eF h1,eF d];show h
def j8 (K:PyProof.ô.ĥ)(ps:Ń->ı)(xs:ł Ń)(lo n:ı):Prop:=∀i j,i<=j->j<n->kA K ps xs (lo+i) (lo+j)
def qC (ps:Ń->ı)(xs:ł Ń)(lo m n:ı):Prop:=∀i k,m<=k->k<n->i<k->pA ps xs (lo+i)<=pA ps xs (lo+k)
def SG.pos {st0 st:Ł}{lo B m n:ı}(g:SG st0 st lo (lo+m))(hn:lo+n<=(arrOf st0).E)(hm:B<=m)(p:qC ps (arrOf st0) lo B n):qC ps (arrOf st) lo m n:=by
 intro i k h1 D M;let z:=g.E;rw[eF (g.Ý (lo+k)<|.Ò<|kz h1 _)];by_cases c:i<m
 .let F:(arrOf st).I.È lo=(arrOf st0).I.È lo:=by
   apply fi;intro t;rw[mI,mI];split
   .rename_i y;rw[ci,ci];show g.Ý t<|.Â y
   .rfl
  let O:(arrOf st).I.Í (lo+m)=(arrOf st0).I.Í (lo+m):=by apply fi;intro t;rw[fz,fz,ci,ci];show g.Ý _<|.Ò<|di _ _
  let sp:∀l:İ Ń,l=l.È lo++((l.Í lo).È m++l.Í (lo+m)):=λl=>by rw[<-List.drop_drop,cy,cy]
  let pm:=ng.mp g.perm;rw[sp (arrOf st).I,sp (arrOf st0).I,F,O]at pm;let J:=(List.perm_append_right_iff _).mp<|(xt _).mp pm;let hi:lo+i<(arrOf st).E:=yf;let N:(arrOf st)[lo+i]∈((arrOf st).I.Í lo).È m:=cn.Ù %[i,by simp;lia|yi];let(u,G,L):=cn.mp (J.æ.mp N);let q:u<m/\lo+u<(arrOf st0).E:=by simp at G;grind
  let d:(arrOf st0)[lo+u]=(arrOf st)[lo+i]:=by rw[<-L];simp
  have:=p u k (ap hm h1) D yf;rw[eF (xs:=arrOf st) (ys:=arrOf st0) (i:=lo+i) (j:=lo+u) (by rw[b5 hi,b5 q.2,d])];show this
 .rw[eF (g.Ý (lo+i)<|.Ò (by simp_all))];show p i k yf D M
def SG.mono {st0 st:Ł}{lo hi d:ı}(g:SG st0 st lo hi)(h:hi<=d):SG st0 st lo d:=%[g.þ,g.fail,g.pend,g.perm|λt q=>g.Ý t yf]
def rQ {st:Ł}{i j:ı}{Q:ĵ ō->Ł->Prop}(O:gU prog w A s K kn)(hk:kindOf st=kn)(d:Œ K (arrOf st))(hi:i<(arrOf st).E)(g:j<(arrOf st).E)(h:Q (į<|K.blt (KK K (arrOf st) i)<|KK K (arrOf st) j) st):wpS (ľ prog w) A E s ((sortPriv% PySem.Builtin.ltAt) i j) Q st:=
 by
 show wpS _ _ _ _ (ltAt' i j) Q st;rw[ltAt'_eq];calc a9<|sN ?_;show wpS _ _ _ _ (do let x <- elem' (arrOf st) i;let y <- elem' (arrOf st) j;lt' x y) Q st;show a9<|cN hi<|a9<|cN g<|yX O hk (sV d hi) (sV d g) h
def SJ {lo n ok:ı}{st:Ł}{Q:ō->Ł->Prop}(hO:gU prog w A s K kn)(hk:kindOf st=kn)(Z:Œ K (arrOf st))(hn:lo+n<=(arrOf st).E)(hok:ok<=n)(hs:j8 K ps (arrOf st) lo ok)(hp:qC ps (arrOf st) lo ok n)(h:∀st',SG st st' lo (lo+n)->j8 K ps (arrOf st') lo n->Q ĳ st'):wpS (ľ prog w) A E s ((sortPriv% PySem.Builtin.binarySort) lo n ok) Q st:=by
 show wpS _ _ _ _ (_ >>= _) _ _;refine a9 (ko (gd (I:=λ(k:ı) (c:ĵ ō×š) (st':Ł)=>c=(Ĵ,())/\SG st st' lo (lo+n)/\j8 K ps (arrOf st') lo (min k n)/\qC ps (arrOf st') lo k n)
  (Q:=λ(c:ĵ ō×š) (st':Ł)=>c=(Ĵ,())/\SG st st' lo (lo+n)/\j8 K ps (arrOf st') lo n) ?_ ?_ %[rb,SG.Č,?_|λi k q1=>hp i k yf]) ?_)
 .intro k c g hk1 M z;let(rfl,J,G,p1):=z;rw[xI (ay M)]at G;let z1:=J.E
  try conv=>arg 5;dsimp -zeta only
  refine a9 (ko (gd (I:=λ(x:ı) (c:ĵ ō×ı×ı) (st':Ł)=>∃l r,c=(Ĵ,l,r)/\st'=g/\l<=r/\r<=k/\r-l<=k-x/\(∀i,i<l->K.kle (KK K (arrOf g)<|lo+i) (KK K (arrOf g)<|lo+k))/\(∀i,r<=i->i<k->K.klt (KK K (arrOf g)<|lo+k) (KK K (arrOf g)<|lo+i)))
   (Q:=λ(c:ĵ ō×ı×ı) (st':Ł)=>∃l r,c=(Ĵ,l,r)/\st'=g/\l<=k/\(∀i,i<l->K.kle (KK K (arrOf g)<|lo+i) (KK K (arrOf g)<|lo+k))/\(∀i,l<=i->i<k->K.klt (KK K (arrOf g)<|lo+k) (KK K (arrOf g)<|lo+i))) ?_ ?_ ⟨26,0,k,rb,rb,bE _,ai _,i9 _ _,λi hi=>(by cases hi),λi h1 q=>(ŀ q<|Nat.not_lt_of_ge h1)⟩) ?_)
  .intro x c d _ hx z;let(l,r,rfl,rfl,h1,q,h3,N,O):=z
   try conv=>arg 5;dsimp -zeta only
   by_cases z:l>=r
   .calc bC z ?_;show bt %[6,l,r,rb,rb,ap h1 q,N|λi q1 q2=>O i (ap z q1) q2]
   refine bx z ?_
   try conv=>arg 5;dsimp -zeta only
   refine a9<|rQ hO (J.þ.À hk) (J.keys Z) yf yf ?_
   try conv=>arg 5;dsimp -zeta only
   cases e:K.blt (KK K (arrOf d)<|lo+k) (KK K (arrOf d)<|lo+(l+r)/2) with| true=>calc bC rb ?_;show bt %[26,l,(l+r)/2,rb,rb,yf,yf,yf,N|λi q1 q2=>im e (G _ _ q1 q2).1]| false=>calc bx yi ?_;show bt %[26,(l+r)/2+1,r,rb,rb,q0 yf,q,yf,λi q1=>fI (G i ((l+r)/2) (dA q1)<|q0 yf).1<|show K.kle _ _ from e|O]
  .intro c d z;let(l,r,rfl,rfl,h1,q,h3,N,O):=z;show%[6,l,r,rb,rb,ap h1 q,N|λi q1 q2=>O i (by simp_all;lia) q2]
  .intro c d z;let(l,r,rfl,rfl,h1,N,O):=z
   try conv=>arg 5;dsimp -zeta only
   let Yy:lo+k<(arrOf d).E:=yf;calc a9 ?_;show wpS _ _ _ _ (moveDown' (lo+k)<|lo+l) _ _;rw[moveDown'_eq];let kb:∀t,t<=k->(bubble (arrOf d) (lo+k)<|lo+k-(lo+l))[lo+t]?=if t=l then (arrOf d)[lo+k]? else if l<t then (arrOf d)[lo+(t-1)]? else (arrOf d)[lo+t]?:=λt ht=>by
    rw[getElem?_bubble Yy _ (i9 _ _)];by_cases q1:t=l;.rw[Ĺ (by rw[ff yf];lia),Ĺ q1]
    .rw[ķ (by rw[ff yf];lia),ķ q1];by_cases q2:l<t;.rw[Ĺ (by rw[ff yf];lia),Ĺ q2,show lo+t-1=lo+(t-1) from gN yf]
     .rw[ķ (by rw[ff yf];lia),ķ q2]
   let L:∀t,t<=k->t=l->(bubble (arrOf d) (lo+k)<|lo+k-(lo+l))[lo+t]?=(arrOf d)[lo+k]?:=λt h1 q=>by rw[kb t h1,Ĺ q]
   let B:∀t,t<=k->l<t->(bubble (arrOf d) (lo+k)<|lo+k-(lo+l))[lo+t]?=(arrOf d)[lo+(t-1)]?:=λt h1 q=>by rw[kb t h1,ķ (jS q),Ĺ q]
   let D:∀t,t<=k->t<l->(bubble (arrOf d) (lo+k)<|lo+k-(lo+l))[lo+t]?=(arrOf d)[lo+t]?:=λt h1 q=>by rw[kb t h1,ķ (bb q),ķ (by simp[xN];lia)]
   let Y:∀t,k<t->(bubble (arrOf d) (lo+k)<|lo+k-(lo+l))[lo+t]?=(arrOf d)[lo+t]?:=λt h1=>by rw[getElem?_bubble Yy _ (i9 _ _),ķ (by rw[ff yf];lia),ķ (by simp[*])]
   calc vi<|bt %[rb,J.arr (bubble_perm _ _ _) λt ht=>?_,?_|?_];.rw[getElem?_bubble Yy _ (i9 _ _),ķ (by rw[ff yf];lia),ķ (by rw[ff yf];lia)]
   .rw[xI M];intro i j F hj;show kA K ps (bubble (arrOf d) (lo+k)<|lo+k-(lo+l)) (lo+i)<|lo+j;rcases lT i l with i1|i1|i1
    .rcases lT j l with j1|j1|j1;.show kA.congr (D i yf i1) (D j yf j1)<|G _ _ F<|a7 j1 h1
     .show kA.congr (D i yf i1) (L j (dA hj) j1) %[N i i1|.Ò<|p1 i k (ai _) M<|a7 i1 h1]
     .show kA.congr (D i yf i1) (B j (dA hj) j1)<|G _ _ (fo yf)<|df yf yf
    .rcases mE F with j1|j1;.rw[j1];show kA.Č
     .show kA.congr (L i yf i1) (B j yf yf)<|kA.lt<|O (j-1) (iL yf)<|df yf yf
    .show kA.congr (B i (by calc ap (by assumption) ?_;lia) i1) (B j yf<|a7 i1 F)<|G _ _ (kU yf _)<|df yf yf
   .intro i k' q1 q2 q3;show pA ps (bubble (arrOf d) (lo+k)<|lo+k-(lo+l)) (lo+i)<=pA ps (bubble (arrOf d) (lo+k)<|lo+k-(lo+l)) (lo+k');rw[eF (Y k' q1)];rcases dE k i with y|y;.rw[eF (Y i y)];show p1 _ _ (ay q1) q2 q3
    .rcases lT i l with i1|i1|i1;.rw[eF (D i y i1)];show p1 _ _ yf q2 q3
     .rw[eF (L i y i1)];show p1 _ _ yf q2 yf
     .rw[eF (B i y i1)];show p1 _ _ yf q2<|fw (i9 _ _) q3
 .intro c g z;let(rfl,J,G,_):=z;refine%[rb,J|?_]
  rwa [show min (max (max ok 1) n) n=n by lia]at G
 .intro i j F hj;by_cases z:ok=0
  .obtain rfl:i=j:=by simp_all;lia
   show kA.Č
  .show hs i j F yf
 .intro c g z;let(rfl,J,G):=z;show bt<|h _ J G
def Ae {i j:ı}{st:Ł}{Q:š->Ł->Prop}(h:Q () (setArr st<|mirror (arrOf st) i j<|(j-i)/2)):wpS (ľ prog w) A E s ((sortPriv% PySem.Builtin.reverseSlice) i j) Q st:=by show wpS _ _ _ _ (reverseSlice' i j) _ _;rw[reverseSlice'_eq];show vi h
def SG.rev {st0 st:Ł}{lo hi i j:ı}(g:SG st0 st lo hi)(h1:lo<=i)(B:j<=hi)(d:j<=(arrOf st).E):SG st0 (setArr st<|mirror (arrOf st) i j<|(j-i)/2) lo hi:=g.arr (mirror_perm _ _ _ _) λt q=>by rw[getElem?_mirror_all d,ķ yf]
def Yz {lo m:ı}(h1:1<=m)(h:j8 K ps xs lo m)(q:K.kle (KK K xs<|lo+(m-1)) (KK K xs<|lo+m))(p:∀i,i<m->pA ps xs (lo+i)<=pA ps xs (lo+m)):j8 K ps xs lo (m+1):=λi j d g=>by
 rcases dE j m with z|z;.show h i j d z
 .obtain rfl:j=m:=by lia
  rcases dE i j with y|y;.show%[fI (h i (j-1) (iL y)<|vj (fw (bE _) y) Nat.one_pos).1 q|.Ò<|p i y]
  .obtain rfl:i=j:=mP d y;show kA.Č
def KY {lo n d:ı}{st:Ł}{f:ı->(ĵ (ĵ ı)×ı)->Ţ Ł Sem (ū<|ĵ (ĵ ı)×ı)}(F:1<=d)(L:d<=n)(G:j8 K ps (arrOf st) lo d)(J:qC ps (arrOf st) lo d n)(hf:∀x m (Q':ū (ĵ (ĵ ı)×ı)->Ł->Prop),1<=m->m<n->(K.blt (KK K (arrOf st)<|lo+m) (KK K (arrOf st)<|lo+m-1)=ĳ->Q' (.done (Ĵ,m)) st)->(K.blt (KK K (arrOf st)<|lo+m) (KK K (arrOf st)<|lo+m-1)=false->Q' (.yield (none,m+1)) st)->wpS (model prog w) A E s (f x (none,m)) Q' st):wpS (model prog w) A E s (forIn [d:n] ((none:Option (Option Nat)),d) f) (λc st'=>st'=st/\∃m,c=(Ĵ,m)/\1<=m/\d<=m/\m<=n/\j8 K ps (arrOf st) lo m/\(m=n\/K.klt (KK K (arrOf st)<|lo+m) (KK K (arrOf st)<|lo+m-1))) st:=by
 refine gd (I:=λ(x:ı) (c:ĵ (ĵ ı)×ı) (st':Ł)=>st'=st/\c=(Ĵ,x)/\d<=x/\j8 K ps (arrOf st) lo x) ?_ ?_ %[rb,rb,ai _|G]
 .intro x c B h1 D z;let(rfl,rfl,g,q):=z;refine hf x x _ (ap F g) D (λe=>%[rb|%[36,x,rb,yf,g,ay D,q|.Ò e]]) λe=>%[rb,rb,du g|Yz yf q ?_ λi y=>J i x g D y]
  rw[show lo+(x-1)=lo+x-1 by lia];show e
 .intro c B z;let(rfl,rfl,g,q):=z;rw[Nat.max_eq_right L]at g q ⊢;show%[rb|%[36,n,rb,ap F g,g,ai _,q|.Â rb]]
def lM (K:PyProof.ô.ĥ)(ps:Ń->ı)(xs:ł Ń)(lo n q:ı):Prop:=∀i j,i<=j->j<n->K.kle (KK K xs<|lo+j) (KK K xs<|lo+i)/\(K.klt (KK K xs<|lo+j) (KK K xs<|lo+i)\/(j<n-1-q/\pA ps xs (lo+j)<=pA ps xs (lo+i))\/n-1-q<=i)
def uq (K:PyProof.ô.ĥ)(ps:Ń->ı)(xs:ł Ń)(lo n:ı):Prop:=∀i j,i<=j->j<n->kA K ps xs (lo+j) (lo+i)
def lM.all {lo n:ı}(h:lM K ps xs lo n 0):uq K ps xs lo n:=λi j h1 d=>by
 let(a,b):=h i j h1 d;rcases b with b|b|b;.show%[a|.Â b]
 .show%[a|.Ò b.2]
 .obtain rfl:i=j:=by simp_all;lia
  show kA.Č
def uq.snoc {lo m:ı}(h1:1<=m)(h:uq K ps xs lo m)(q:K.klt (KK K xs<|lo+m) (KK K xs<|lo+m-1)):lM K ps xs lo (m+1) 0:=λi j d g=>by
 rcases dE j m with z|z
 .let(a,b):=h i j d z;show%[a|b.imp id λb=>.Â %[z|b]]
 .obtain rfl:j=m:=by lia
  rcases dE i j with y|y
  .let a:=(h i (j-1) yf yf).1;rw[show lo+(j-1)=lo+j-1 by lia]at a;let b:=im q a;show%[KeyOrd.kle_of_klt b|.Â b]
  .obtain rfl:i=j:=by lia
   show%[oS _|.Ò<|.Ò y]
def lM.same {lo m q:ı}(h1:1<=m)(B:q<m)(h:lM K ps xs lo m q)(g:KK K xs (lo+m-1)=KK K xs (lo+m)):lM K ps xs lo (m+1) (q+1):=λi j d D=>by
 rcases dE j m with z|z
 .let(a,b):=h i j d z;show%[a|b.imp id λb=>b.imp (λb=>%[yf|b.2]) λb=>by lia]
 .obtain rfl:j=m:=by lia
  rcases dE i j with y|y
  .let a:=h i (j-1) yf yf;rw[show lo+(j-1)=lo+j-1 by lia,g]at a;calc%[a.1|a.2.imp id λb=>.Ò ?_];rcases b with b|b <;> (simp[cE,c9]at *;lia)
  .obtain rfl:i=j:=by lia
   show%[oS _|.Ò<|.Ò<|i9 _ _]
def lM.turn {xs:ł Ń}{lo m q:ı}(hs:lo+m<=xs.E)(G:q<m)(h:lM K ps xs lo m q)(eq:∀t,m-1-q<=t->t<m->KK K xs (lo+t)=KK K xs (lo+m-1))(F:∀i j,m-1-q<=i->i<=j->j<m->pA ps xs (lo+i)<=pA ps xs (lo+j)):(∀t,KK K (mirror xs (lo+m-(q+1)) (lo+m)<|(lo+m-(lo+m-(q+1)))/2) t=KK K xs t)/\uq K ps (mirror xs (lo+m-(q+1)) (lo+m)<|(lo+m-(lo+m-(q+1)))/2) lo m:=by
 let g:∀t,KK K (mirror xs (lo+m-(q+1)) (lo+m)<|(lo+m-(lo+m-(q+1)))/2) t=KK K xs t:=KK_mirror_equal hs λu q1 q2=>by have:=eq (u-lo) (by simp_all;lia) yf;rw[show lo+(u-lo)=u by simp_all;lia]at this;show this
 let D:=λt=>getElem?_mirror_all (xs:=xs) (i:=lo+m-(q+1)) (j:=lo+m) hs t;generalize mirror xs (lo+m-(q+1)) (lo+m) ((lo+m-(lo+m-(q+1)))/2)=ys at g D ⊢;let d:∀t,m-1-q<=t->t<m->pA ps ys (lo+t)=pA ps xs (lo+(m-1-q+(m-1)-t)):=λt h1 B=>eF (by rw[D,Ĺ (by simp_all;lia)];congr 1;(simp[cE,c9]at *;lia));let out:∀t,t<m-1-q->pA ps ys (lo+t)=pA ps xs (lo+t):=λt h1=>eF (by rw[D,ķ (by simp[cE,c9]at *;lia)]);calc%[g|λi j h1 B=>?_];let(a,b):=h i j h1 B;unfold kA;rw[g,g];calc%[a|?_];rcases b with b|b|b
 .show .Â b
 .rw[out j b.1,out i yf];show .Ò b.2
 .rw[d j (ap b h1) B,d i b (fw h1 B)];show .Ò<|F _ _ (fo yf) (rq h1 _) yf
def VL {lo n:ı}{st:Ł}{Q:ĵ ı->Ł->Prop}(hO:gU prog w A s K kn)(hk:kindOf st=kn)(J:Œ K (arrOf st))(hn:lo+n<=(arrOf st).E)(n1:1<=n)(p0:qC ps (arrOf st) lo 0 n)(h:∀st' m,SG st st' lo (lo+n)->1<=m->m<=n->j8 K ps (arrOf st') lo m->qC ps (arrOf st') lo m n->Q (į m) st'):wpS (ľ prog w) A E s ((sortPriv% PySem.Builtin.countRun) lo n) Q st:=by
 let one:∀xs,j8 K ps xs lo 1:=λxs i j h1 h2=>by
  obtain rfl:i=j:=by simp_all
  show kA.Č
 show wpS _ _ _ _ (_ >>= _) _ _
 try conv=>arg 5;dsimp -zeta only
 refine a9<|ko (KY (K:=K) (ai 1) n1 (one _) (λi k q1=>p0 i k<|bE _) ?_) ?_
 .intro x m Q' h1 h2 q1 q2
  try conv=>arg 5;dsimp -zeta only
  refine a9<|rQ hO hk J yf (iN yf) ?_
  try conv=>arg 5;dsimp -zeta only
  cases e:K.blt (KK K (arrOf st)<|lo+m) (KK K (arrOf st)<|lo+m-1) with| true=>calc bC rb ?_;show bt<|q1 e| false=>calc bx yi ?_;show bt<|q2 e
 intro c d z;let(rfl,m,rfl,h1,_,h2,u1,h3):=z;let pm:qC ps (arrOf d) lo m n:=λi k q1=>p0 i k yf
 try conv=>arg 5;dsimp -zeta only
 by_cases z:m=n
 .calc bC (by simpa using z) ?_;show bt<|h _ _ SG.Č h1 h2 u1 pm
 calc bx (by simpa using z) ?_;let VN:K.klt (KK K (arrOf d)<|lo+m) (KK K (arrOf d)<|lo+m-1):=h3.resolve_left z
 extract_lets -underBinder +onlyGivenNames jp
 let zs1:lo+n<=(arrOf d).E:=hn;let hJ:∀G,SG d G lo (lo+(m+1))->lM K ps (arrOf G) lo (m+1) 0->(∀t,m<=t->(arrOf G)[lo+t]?=(arrOf d)[lo+t]?)->wpS (ľ prog w) A E s (jp ()) Q G:=by
  intro G g2 d2 un2
  try conv=>arg 5;dsimp -zeta only
  refine a9<|wpS_lift<|fA %[rb|?_]
  try conv=>arg 5;dsimp -zeta only
  refine a9 (ko (gd (I:=λ(x:ı) (c:ĵ (ĵ ı)×ı×ı) (st':Ł)=>∃q,c=(Ĵ,x,q)/\SG d st' lo (lo+x)/\lM K ps (arrOf st') lo x q/\q<x/\m+1<=x/\(∀t,x-1-q<=t->t<x->KK K (arrOf st') (lo+t)=KK K (arrOf st') (lo+x-1))/\∀t,x-1-q<=t->(arrOf st')[lo+t]?=(arrOf d)[lo+t]?)
   (Q:=λ(c:ĵ (ĵ ı)×ı×ı) (st':Ł)=>∃x q,c=(Ĵ,x,q)/\SG d st' lo (lo+x)/\lM K ps (arrOf st') lo x q/\q<x/\m+1<=x/\x<=n/\(∀t,x-1-q<=t->t<x->KK K (arrOf st') (lo+t)=KK K (arrOf st') (lo+x-1))/\∀t,x-1-q<=t->(arrOf st')[lo+t]?=(arrOf d)[lo+t]?) ?_ ?_ %[51,0,rb,g2,d2,kX _,ai _,λt q1 q2=>by rw[show lo+t=lo+(m+1)-1 by simp_all;lia]|λt q1=>un2 t q1]) ?_)
  .intro x c g hx1 hx2 z;let(q,rfl,F,L,M,D,eq,un):=z;let z3:=F.E;let pu:∀i j,x-1-q<=i->i<=j->j<x->pA ps (arrOf g) (lo+i)<=pA ps (arrOf g) (lo+j):=λi j y1 y2 y3=>by
    rw[eF (un i y1),eF (un j<|ap y1 y2)];rcases mE y2 with y|y;.rw[y];show ai _
    .show p0 i j (bE _) (my y3 hx2) y
   try conv=>arg 5;dsimp -zeta only
   refine a9<|rQ hO (F.þ.À hk) (F.keys J) yf (iN yf) ?_
   try conv=>arg 5;dsimp -zeta only
   skip
   cases e:K.blt (KK K (arrOf g)<|lo+x) (KK K (arrOf g)<|lo+x-1) with
   | true=>
    refine bC rb ?_
    skip
    let done:∀B,SG d B lo (lo+x)->(∀t,KK K (arrOf B) t=KK K (arrOf g) t)->uq K ps (arrOf B) lo x->(∀t,x<=t->(arrOf B)[lo+t]?=(arrOf g)[lo+t]?)->∃q,((Ĵ:ĵ (ĵ ı)),x+1,0)=(Ĵ,x+1,q)/\SG d B lo (lo+(x+1))/\lM K ps (arrOf B) lo (x+1) q/\q<x+1/\m+1<=x+1/\(∀t,x+1-1-q<=t->t<x+1->KK K (arrOf B) (lo+t)=KK K (arrOf B) (lo+(x+1)-1))/\∀t,x+1-1-q<=t->(arrOf B)[lo+t]?=(arrOf d)[lo+t]?:=λB g4 N O un4=>by calc%[51,0,rb,g4.Ø yi,O.snoc (ap (gT _ _) D) ?_,yf,du D,λt q1 q2=>by rw[show lo+t=lo+(x+1)-1 by lia]|λt q1=>(un4 t yf).À<|un t (by simp[cE,c9]at *;lia)];rw[N,N];show e
    by_cases Y:q > 0
    .calc bC Y ?_;calc a9<|Ae ?_;let(N,O):=L.turn yf M eq pu;show bt (done _ (F.rev (fo yf) (ai _) yf) N O λt Z=>by show (mirror (arrOf g) (lo+x-(q+1)) (lo+x) _)[lo+t]?=_;rw[getElem?_mirror_all yf,ķ (by simp[*])])
    .calc bx Y ?_;obtain rfl:q=0:=ph Y;show bt<|done _ F (λt=>rfl) L.ĝ λt _=>rfl
   | false=>
    calc bx yi ?_;refine a9<|rQ hO (F.þ.À hk) (F.keys J) (iN yf) yf ?_
    try conv=>arg 5;dsimp -zeta only
    cases e2:K.blt (KK K (arrOf g)<|lo+x-1) (KK K (arrOf g)<|lo+x) with
    | true=>calc bC rb ?_;show bt %[65,x,q,rb,F,L,M,D,yf,eq|un]
    | false=>
     calc bx yi ?_;let ek:KK K (arrOf g) (lo+x-1)=KK K (arrOf g) (lo+x):=K.total _ _ e2 e;calc bt %[51,q+1,rb,F.Ø yf,L.same yf M ek,tN M,yf,λt q1 q2=>?_|λt q1=>un t yf];rw[show lo+(x+1)-1=lo+x from rfl];rcases dE t x with y|y;.rw[eq t yf y,ek]
     .rw[show t=x by lia]
  .intro c g z;let(q,rfl,F,L,M,D,eq,un):=z;rw[Nat.max_eq_right yf]at F L M D eq un ⊢;show%[65,n,q,rb,F,L,M,D,ai _,eq|un]
  .intro c g z;let(x,q,rfl,F,L,M,D,hxn,eq,un):=z;let z3:=F.E
   try conv=>arg 5;dsimp -zeta only
   extract_lets -underBinder +onlyGivenNames lr ls n1 nq
   let q1:n1=x:=rfl;let q2:nq=q:=rfl
   conv=>arg 5;dsimp -zeta only[lr]
   extract_lets -underBinder +onlyGivenNames jp2
   let hJ2:∀B,SG d B lo (lo+x)->uq K ps (arrOf B) lo x->wpS (ľ prog w) A E s (jp2 ()) Q B:=by
    intro B g4 O;let Y:=g4.E
    try conv=>arg 5;dsimp -zeta only
    calc a9<|Ae ?_;let g5:=g4.rev (i:=lo) (j:=lo+x) (ai _) (ai _) yf;let u5:j8 K ps (arrOf<|setArr B<|mirror (arrOf B) lo (lo+x)<|(lo+x-lo)/2) lo x:=λi j q1 q2=>by
     let at5:∀t,t<x->(mirror (arrOf B) lo (lo+x)<|(lo+x-lo)/2)[lo+t]?=(arrOf B)[lo+(x-1-t)]?:=λt Z=>by rw[getElem?_mirror_all yf,Ĺ (by simp_all),show lo+(lo+x)-1-(lo+t)=lo+(x-1-t) from gN yf]
     show kA.congr (at5 i yf) (at5 j q2)<|O _ _ (rq q1 _)<|iN yf
    generalize setArr B (mirror (arrOf B) lo (lo+x)<|(lo+x-lo)/2)=G3 at g5 u5;let z5:=g5.E;let p5:qC ps (arrOf G3) lo x n:=g5.pos zs1 (bE _) p0;refine a9<|ko (KY (K:=K) (ap (gT _ _) D) hxn u5 p5 ?_) ?_
    .intro y p Q' h1 h2 q1 q2
     try conv=>arg 5;dsimp -zeta only
     refine a9<|rQ hO (g5.þ.À hk) (g5.keys J) yf (iN yf) ?_
     try conv=>arg 5;dsimp -zeta only
     cases e:K.blt (KK K (arrOf G3)<|lo+p) (KK K (arrOf G3)<|lo+p-1) with| true=>calc bC rb ?_;show bt<|q1 e| false=>calc bx yi ?_;show bt<|q2 e
    .intro c st6 z;let(rfl,p,rfl,h1,h0,h2,u6,_):=z;show bt<|h _ _ (g5.Ø<|kz hxn _) h1 h2 u6 λi k y1=>p5 i k<|ap h0 y1
   by_cases Y:q > 0
   .calc bC Y ?_;calc a9<|Ae ?_;calc hJ2 _ (F.rev (by simp_all;lia) (ai _) yf) (L.turn yf M eq λi j y1 y2 y3=>?_).2;rw[eF (un i y1),eF (un j yf)];rcases mE y2 with y|y;.rw[y];show ai _
    .show p0 i j (bE _) (a7 y3 hxn) y
   .calc bx Y ?_;obtain rfl:q=0:=by lia
    show hJ2 _ F L.ĝ
 by_cases z2:m > 1
 .calc bC z2 ?_;refine a9<|rQ hO hk J yf (iN yf) ?_
  try conv=>arg 5;dsimp -zeta only
  cases e:K.blt (KK K (arrOf d) lo) (KK K (arrOf d)<|lo+m-1) with
  | true=>calc bC rb ?_;show bt<|h _ _ SG.Č h1 h2 u1 pm
  | false=>
   calc bx yi ?_;calc a9<|Ae ?_;let eqA:∀t,t<m->KK K (arrOf d) (lo+t)=KK K (arrOf d) (lo+m-1):=λt Z=>by let a1:=(u1 t (m-1) (iL Z) yf).1;let a2:=(u1 0 t yf Z).1;rw[show lo+(m-1)=lo+m-1 by lia]at a1;rw[xA]at a2;show KeyOrd.kle_antisymm a1<|fI (show K.kle _ _ from e) a2
   let dn:lM K ps (arrOf d) lo m (m-1):=λi j q1 q2=>%[by rw[eqA i yf,eqA j q2];show oS _|.Ò<|.Ò yf]
   let(N,O):=dn.turn yf yf (λt _ Z=>eqA t Z) λi j y1 y2 y3=>by
    rcases mE y2 with y|y;.rw[y];show ai _
    .show p0 i j (bE _) (by grind) y
   rw[show lo+m-(m-1+1)=lo by simp_all]at N O;refine hJ _ ((SG.Č.rev (i:=lo) (j:=lo+m) (ai _) (ai _) yf).Ø yf) (uq.snoc h1 O ?_) λt Z=>?_
   .show K.klt (KK K (mirror (arrOf d) lo (lo+m)<|(lo+m-lo)/2)<|lo+m)<|KK K (mirror (arrOf d) lo (lo+m)<|(lo+m-lo)/2)<|lo+m-1;rw[N,N];show VN
   .show (mirror (arrOf d) lo (lo+m) _)[lo+t]?=_;rw[getElem?_mirror_all yf,ķ (by simp_all)]
 .calc bx z2 ?_;obtain rfl:m=1:=by lia
  calc hJ _ SG.Č (uq.snoc (ai _) (λi j q1 q2=>?_) VN) λt _=>rfl;obtain rfl:i=j:=by lia
  show kA.Č
def gW:ı->İ (İ Ń)->İ (ı×ı×ı)->Prop
 | _,[],[]=>True
 | o,r::rs,p::ps=>p.1=o/\p.2.1=r.v/\gW (o+r.v) rs ps
 | _,_,_=>False
def gW.len:∀{rs:İ (İ Ń)} {ps:İ (ı×ı×ı)} {o:ı},gW o rs ps->ps.v=rs.v:=by
 intro rs
 induction rs with
 | nil=>intro ps _ h;cases ps;rfl;cases h
 | cons r rs ih=>
  intro ps _ h;cases ps with
  | nil=>cases h
  | cons p ps=>rw[bv,bv,ih h.2.2]
def gW.app:∀{F G:İ (İ Ń)} {f g:İ (ı×ı×ı)} {o:ı},gW o F f->gW (o+F.Ë.v) G g->gW o (F++G) (f++g):=by
 intro F G f g o h1 d
 induction F generalizing f o with
 | nil=>cases f;simpa using d;cases h1
 | cons r F ih=>
  cases f with
  | nil=>cases h1
  | cons p f=>show%[h1.1,h1.2.1|ih h1.2.2 (by rw[eC,aE]at d;rw[l_];show d)]
def gW.split:∀{F G:İ (İ Ń)} {ps:İ (ı×ı×ı)} {o:ı},gW o (F++G) ps->∃f g,ps=f++g/\f.v=F.v/\gW o F f/\gW (o+F.Ë.v) G g:=by
 intro F G ps o h
 induction F generalizing ps o with
 | nil=>show%[4,[],ps,rb,rb,trivial|by simpa using h]
 | cons r F ih=>
  cases ps with
  | nil=>cases h
  | cons p ps=>let(f,g,e,l,h1,d):=ih h.2.2;calc%[4,p::f,g,by rw[e];rfl,by simp[l],%[h.1,h.2.1|h1]|?_];rw[eC,aE];rw[l_]at d;show d
structure eZ (K:PyProof.ô.ĥ)(ps:Ń->ı)(kn:ş)(a0:İ Ń)(st:Ł)(rs:İ (İ Ń))(rest:İ Ń):Prop where
 kind:kindOf st=kn
 fail:failedOf st=Ĵ
 keys:Œ K (arrOf st)
 perm:(arrOf st).I.ò a0
 arr:(arrOf st).I=rs.Ë++rest
 pend:gW 0 rs (pendingOf st).I
 up:∀r∈rs,r.Ã (kL K ps)
 ne:∀r∈rs,r≠[]
 sep:rs.Ã λX Y=>∀x∈X,∀y∈Y,ps x<=ps y
 far:∀x∈rs.Ë,∀y∈rest,ps x<=ps y
def keys_perm {a b:ł Ń}(p:a.I.ò b.I)(h:Œ K b):Œ K a:=λx hx=>h x (p.æ.mp hx)
def yh {a0:İ Ń}{i:ı}{st:Ł}{F G:İ (İ Ń)}{X Y rest:İ Ń}{Q:ō->Ł->Prop}(hO:gU prog w A s K kn)(R:eZ K ps kn a0 st (F++X::Y::G) rest)(hi:F.v=i)(h:∀st' Z,eZ K ps kn a0 st' (F++Z::G) rest->Q ĳ st'):wpS (ľ prog w) A E s ((sortPriv% PySem.Builtin.mergeAt) i) Q st:=by
 subst hi;let(f,g,ep,M,h1,h2):=R.pend.split;obtain⟨p,q,g',rfl⟩:∃p q g',g=p::q::g':=by
  match g,h2 with| p::q::g',_=>show%[18,p,q,g'|rb]
 let(pa,pb,pc):=p;let(qa,B,qc):=q;let(L,J,e3,D,O):=h2;let L:pa=0+F.Ë.v:=L;let J:pb=X.v:=J;let e3:qa=0+F.Ë.v+X.v:=e3;let D:B=Y.v:=D;let O:gW (0+F.Ë.v+X.v+Y.v) G g':=O;let nX:0<X.v:=vE.Ù<|R.ne X yi;let nY:0<Y.v:=vE.Ù<|R.ne Y yi;let at1:(pendingOf st)[F.v]?=į (pa,pb,pc):=by rw[<-ci,ep,<-M];simp
 let at2:(pendingOf st)[F.v+1]?=į (qa,B,qc):=by rw[<-ci,ep,<-M,dS (di _ _)];simp
 let(sF,sR,sC):=e8.mp R.sep;let(sX,sR):=f7.mp sR;let(sY,sG):=f7.mp sR;calc NZ (Pl:=F.flatten) (X:=X) (Y:=Y) (Sl:=G.Ë++rest) hO R.þ R.fail R.keys at1 at2 (by rw[R.arr];simp) yf J.Ð D.Ð (by simp_all) (by simp_all) yf (R.up X yi) (R.up Y yi) (sX Y a4) λst' Z k1 k2 k3 k4 d k6=>?_;let pm:(arrOf st').I.ò (arrOf st).I:=by rw[k4,R.arr];simp only[ox,eC,bz];calc jI _ ?_;rw[<-bz X];show d.Ĭ _
 refine h st' Z %[k1.À R.þ,k2,keys_perm pm R.keys,pm.À R.perm,by rw[k4];simp,?_,λr hr=>?_,λr hr=>?_,e8.Ù %[sF,f7.Ù %[λg hg z hz=>?_|sG]|λa ha b hb x hx y N=>?_]|λx hx=>R.far x ?_]
 .let e5:(pendingOf st').I=f++(pa,pb+B,pc)::g':=by
   rw[k3,Array.toList_eraseIdxIfInBounds,w_,ep,<-M];rw[List.set_append_right _ _ (ai _),mB,List.eraseIdx_append_of_length_le yf];simp
  rw[e5];refine gW.app h1 %[L,?_|?_]
  .show pb+B=Z.v;rw[d.length_eq,J,D,aE]
  .rw[d.length_eq,aE,<-l_];show O
 .rcases aT.mp hr with z|z;.show R.up r (by simp[z])
  .rcases a8.mp z with z|z;.rw[z];show k6
   .show R.up r (by simp[z])
 .rcases aT.mp hr with z|z;.show R.ne r (by simp[z])
  .rcases a8.mp z with z|z
   .rw[z];intro y;have:=d.Ę;rw[y,aE]at this;simp at this;simp_all
   .show R.ne r (by simp[z])
 .rcases aT.mp (d.æ.mp hz) with q|q;.show sX g (av _ hg) z q
  .show sY g hg z q
 .rcases a8.mp hb with q|q
  .rw[q]at N;rcases aT.mp (d.æ.mp N) with q|q;.show sC a ha X a4 x hx y q
   .show sC a ha Y (av _ a4) x hx y q
  .show sC a ha b (av _<|av _ q) x hx y N
 .let p2:(F++Z::G).Ë.ò (F++X::Y::G).Ë:=by
   simp only[ox,eC];calc jI _ ?_;rw[<-bz X];show d.Ĭ _
  show p2.æ.mp hx
def YB {W:Type}{l:İ W}(h:2<=l.v):∃F x y,l=F++[x,y]:=by
 calc%[18,l.È<|l.v-2,l[l.v-2],l[l.v-1]|?_];let d:l.Í (l.v-2)=[l[l.v-2],l[l.v-1]]:=by rw[jw (show l.v-2<l.v by lia),jw (show l.v-2+1<l.v by simp_all +arith),List.drop_eq_nil_of_le (by simp_all +arith)];congr 2;congr 1;lia
 rw[<-d,cy]
def sZ {rs:İ (İ Ń)}(h:∀r∈rs,r≠[]):rs.v<=rs.Ë.v:=by
 induction rs with| nil=>simp| cons r rs ih=>have h1:=vE.Ù<|h r a4;let d:=ih λx hx=>h x<|av _ hx;rw[bv,eC,aE];lia
def PN {β W:Type}{J:β->Ţ Ł Sem W}{C:β->Ł->Prop}{m:Ţ Ł Sem W}{R:W->Ł->Prop}{st:Ł}(h1:∀o st',C o st'->wpS (ľ prog w) A E s (J o) R st')(d:(∀o st',C o st'->wpS (ľ prog w) A E s (J o) R st')->wpS (ľ prog w) A E s m R st):wpS (ľ prog w) A E s m R st:=d h1
def gW.congr:∀{rs:İ (İ Ń)} {ps d:İ (ı×ı×ı)} {o:ı},gW o rs ps->d.L (λp=>(p.1,p.2.1))=ps.L (λp=>(p.1,p.2.1))->gW o rs d:=by
 intro rs ps d o h e
 induction rs generalizing ps d o with
 | nil=>
  cases ps
  .cases d;.trivial
   .simp at e
  .cases h
 | cons r rs ih=>
  cases ps with
  | nil=>cases h
  | cons p ps=>
   cases d with
   | nil=>simp at e
   | cons q d=>rw[bS,bS]at e;injection e with e1 e2;injection e1 with e3 e4;show%[e3.À h.1,e4.À h.2.1|ih h.2.2 e2]
def eZ.len {a0:İ Ń}{st:Ł}{rs:İ (İ Ń)}{rest:İ Ń}(R:eZ K ps kn a0 st rs rest):rs.Ë.v+rest.v=a0.v:=by rw[<-R.perm.length_eq,R.arr,aE]
def eZ.size {a0:İ Ń}{st:Ł}{rs:İ (İ Ń)}{rest:İ Ń}(R:eZ K ps kn a0 st rs rest):(arrOf st).E=a0.v:=by rw[<-R.perm.length_eq,bn]
def eZ.seg {a0:İ Ń}{st st':Ł}{rs:İ (İ Ń)}{rest:İ Ń}{n hi:ı}(R:eZ K ps kn a0 st rs rest)(g:SG st st' rs.Ë.v hi)(u:j8 K ps (arrOf st') rs.Ë.v n)(hn:n<=rest.v)(O:qC ps (arrOf st') rs.Ë.v n rest.v):∃F G,F.v=n/\F.Ã (kL K ps)/\eZ K ps kn a0 st' rs (F++G)/\(∀x∈F,∀y∈G,ps x<=ps y)/\G.Ã λx y=>ps x<=ps y:=by
 let z:=R.E;let z':=g.E;let ln:=R.ď;let Y:(arrOf st').I.È rs.Ë.v=rs.Ë:=by
  apply fi;intro t;rcases dE t rs.Ë.v with y|y;.rw[n9 y,ci,g.Ý t (.Â y),<-ci,R.arr,ck y]
  .rw[b9 (by rw[ba];grind),b9 y]
 let pm:(arrOf st').I.ò (arrOf st).I:=ng.mp g.perm;let M:(arrOf st').I=rs.Ë++(arrOf st').I.Í rs.Ë.v:=by
  conv=>lhs;rw[<-cy rs.Ë.v (arrOf st').I]
  rw[Y]
 let pr:((arrOf st').I.Í rs.Ë.v).ò rest:=by have:=pm;rw[M,R.arr]at this;show(xt _).mp this
 let d:∀t,(h:t<((arrOf st').I.Í rs.Ë.v).v)->pA ps (arrOf st') (rs.Ë.v+t)=ps ((arrOf st').I.Í rs.Ë.v)[t]:=λt h=>by
  let Z:rs.Ë.v+t<(arrOf st').E:=by rw[cp,bn]at h;(simp[cE,c9]at *;lia)
  unfold pA;rw[b5 Z];simp
 let N:=pr.Ę;calc%[6,((arrOf st').I.Í rs.Ë.v).È n,((arrOf st').I.Í rs.Ë.v).Í n,?_,?_,%[g.þ.À R.þ,g.fail.À R.fail,keys_perm pm R.keys,pm.À R.perm,?_,by rw[g.pend];show R.pend,R.up,R.ne,R.sep|?_],?_|?_];.rw[ba,cp,bn];grind
 .rw[fS];intro i j hi B q;let D:j<n:=by simp at B;lia
  let L:rs.Ë.v+j<(arrOf st').E:=by simp at B;lia
  have:=u i j (ay q) D;unfold kA at this;rw[rC (show rs.Ë.v+i<(arrOf st').E by calc a7 ?_ (by assumption);lia),rC L,d i (by rw[N];lia),d j (by rw[N];show a7 D hn)]at this;show K.kle _ _/\(K.klt _ _\/_<=_)
  simpa using this
 .rw[cy];show M
 .rw[cy];show λx hx y J=>R.far x hx y<|pr.æ.mp J
 .intro x hx y J;let(i,hi,rfl):=cn.mp hx;let(j,B,rfl):=cn.mp J;rw[ba]at hi;rw[cp]at B;have:=O i (n+j) (di _ _) yf yf;rw[d i yf,d (n+j) yf]at this;simpa [l_] using this
 .rw[fS];intro i j hi B q;rw[cp]at hi B;have:=O (n+i) (n+j) yf yf<|rn q _;rw[d (n+i) (by grind),d (n+j) yf]at this;simpa [l_] using this
def eZ.afH {a0:İ Ń}{st:Ł}{rs:İ (İ Ń)}{rest:İ Ń}{N:ı}(R:eZ K ps kn a0 st rs rest)(hr:rest.Ã λx y=>ps x<=ps y)(B:N<=rest.v):qC ps (arrOf st) rs.Ë.v 0 N:=λi k _ D g=>by
 let q:=R.ď;let z:=R.E;let d:∀t,(h:t<rest.v)->pA ps (arrOf st) (rs.Ë.v+t)=ps rest[t]:=λt h=>by unfold pA;rw[<-ci,R.arr,dS (di _ _),iq,ae h];rfl
 rw[d i yf,d k yf];show(fS.mp hr) i k yf yf g
def aaZ {c:Prop} [ť c] (h1:a+1<n)(d:b+1<n):(if c then a else b)+1<n:=by split <;> assumption
def Fz {a0:İ Ń}{i:ı}{st:Ł}{rs:İ (İ Ń)}{rest:İ Ń}{Q:ō->Ł->Prop}(O:gU prog w A s K kn)(R:eZ K ps kn a0 st rs rest)(hi:i+1<rs.v)(h:∀st' d,eZ K ps kn a0 st' d rest->d.v+1=rs.v->Q ĳ st'):wpS (ľ prog w) A E s ((sortPriv% PySem.Builtin.mergeAt) i) Q st:=by
 let e:rs=rs.È i++rs[i]::rs[i+1]::rs.Í (i+2):=by rw[<-jw hi,<-jw (show i<rs.v by lia),cy]
 let R':=R;rw[e]at R';calc yh O R' (by rw[ba];lia) λg Z q=>h g _ q ?_;rw[aE,ba,bv,cp]
 grind
def KZ {st:Ł}{Q:š->Ł->Prop}(hO:gU prog w A s K kn)(hk:kindOf st=kn)(hf:failedOf st=Ĵ)(hp:pendingOf st=#[])(hks:Œ K (arrOf st))(hps:(arrOf st).I.Ã λx y=>ps x<=ps y)(h:∀st',failedOf st'=Ĵ->(arrOf st').I.ò (arrOf st).I->(arrOf st').I.Ã (kL K ps)->Q () st'):wpS (ľ prog w) A E s (sortPriv% PySem.Builtin.sortRuns) Q st:=by
 obtain⟨N,hN⟩:∃N,(arrOf st).E=N:=%[_|rb]
 let hl:(arrOf st).I.v=N:=by rw[bn,hN]
 let R0:eZ K ps kn (arrOf st).I st [] (arrOf st).I:=%[hk,hf,hks,ya _,yi,by rw[hp];trivial,λr h=>by simp at h,λr h=>by simp at h,.ê|λx h=>by simp at h]
 generalize (arrOf st).I=a0 at hl R0 h hps;show wpS _ _ _ _ (_ >>= _) _ _;refine a9<|sN ?_
 try conv=>arg 5;dsimp -zeta only
 rw[hN];refine a9 (ko (gd (I:=λ(x:ı) (c:ĵ š×ı) (st':Ł)=>∃rs rest,c=(Ĵ,rs.Ë.v)/\eZ K ps kn a0 st' rs rest/\(x<=rs.Ë.v\/rest=[])/\rest.Ã λx y=>ps x<=ps y)
  (Q:=λ(c:ĵ š×ı) (st':Ł)=>∃rs l,c=(Ĵ,l)/\eZ K ps kn a0 st' rs []) ?_ ?_ %[4,[],a0,rb,R0,.Â yi|hps]) ?_)
 .intro x c O _ hx z;let(rs,rest,rfl,R,hpr,hrp):=z;let ln:=R.ď
  try conv=>arg 5;dsimp -zeta only
  by_cases z:rs.Ë.v>=N
  .calc bC z ?_;obtain rfl:rest=[]:=md.mp yf;show bt %[3,rs,_,rb|R]
  calc bx z ?_;let Bb:x<=rs.Ë.v:=by
   rcases hpr with y|y;.show y
   .rw[y,kr]at ln;simp_all
  let zs:=R.E;refine a9<|VL hO R.þ R.keys (show rs.Ë.v+(N-rs.Ë.v)<=(arrOf O).E by grind) (fo yf) (R.afH hrp (by simp_all +arith)) λD m M m1 m2 u2 p2=>?_
  try conv=>arg 5;dsimp -zeta only
  extract_lets -underBinder +onlyGivenNames nn jp
  let qn:nn=m:=rfl;refine PN (J:=λn:ı=>jp () n) (C:=λn B=>SG O B rs.Ë.v (rs.Ë.v+(N-rs.Ë.v))/\j8 K ps (arrOf B) rs.Ë.v n/\1<=n/\n<=N-rs.Ë.v/\qC ps (arrOf B) rs.Ë.v n (N-rs.Ë.v)) (λn B hc=>?_) λhJ=>?_
  .let(g3,u3,n1,n2,p3):=hc;let(sg,uw,ls,us,R3,fs,hr2):=R.seg g3 u3 yf (by rw[show rest.v=N-rs.Ë.v by lia];show p3)
   try conv=>arg 5;dsimp -zeta only
   refine a9<|sN ?_
   try conv=>arg 5;dsimp -zeta only
   extract_lets -underBinder +onlyGivenNames jp2
   refine PN (J:=λ_:š=>jp2 ()) (C:=λ_ L=>∃d,eZ K ps kn a0 L d (sg++uw)/\d.Ë.v=rs.Ë.v) (λ_ L hc=>?_) λhJ=>?_
   .let(d,g,l4):=hc
    try conv=>arg 5;dsimp -zeta only
    refine a9<|vi<|bt %[4,d++[sg],uw,?_,%[g.þ,g.fail,g.keys,g.perm,?_,?_,λr hr=>?_,λr hr=>?_,e8.Ù %[g.sep,s_ _ _|λa ha b hb x hx y hy=>g.far x (rc.Ù %[0,a,ha|hx]) y<|nI _ (by rw[<-am.mp hb];show hy)]|λx hx y hy=>?_],.Â ?_|hr2]
    .rw[ox,aE];simp[ls,l4]
    .show (arrOf L).I=_;rw[g.arr];simp
    .show gW 0 (d++[sg]) ((pendingOf L).Ï (rs.Ë.v,n,0)).I;rw[gv];show gW.app g.pend %[by rw[l4];simp,ls.Ð|trivial]
    .rcases aT.mp hr with y|y;.show g.up r y
     .rw[am.mp y];show us
    .rcases aT.mp hr with y|y;.show g.ne r y
     .rw[am.mp y];intro q;rw[q]at ls;simp at ls;lia
    .rw[ox,eC,List.flatten_nil,gy]at hx;rcases aT.mp hx with q|q;.show g.far x q y<|dq _ hy
     .show fs x q y hy
    .rw[ox,aE,eC,List.flatten_nil,gy,l4,ls];grind
   .cases hb:(pendingOf B).back? with
    | none=>
     try conv=>arg 5;dsimp -zeta only
     show hJ () B %[0,rs,R3|rb]
    | some v=>
     let(v1,v2,v3):=v
     try conv=>arg 5;dsimp -zeta only
     refine a9 (ko (gd (I:=λ(y:ı) (c:ĵ š×š) (st':Ł)=>c=(Ĵ,())/\∃d,eZ K ps kn a0 st' d (sg++uw)/\d.Ë.v=rs.Ë.v)
      (Q:=λ(c:ĵ š×š) (st':Ł)=>c=(Ĵ,())/\∃d,eZ K ps kn a0 st' d (sg++uw)/\d.Ë.v=rs.Ë.v) ?_ ?_ %[11,rb,rs,R3|rb]) ?_)
     .intro y c L _ hy z;let(rfl,d,g,l4):=z;refine a9<|sN ?_
      conv=>arg 5;dsimp only
      let lp:(pendingOf L).E=d.v:=by rw[<-bn];show g.pend.ď
      by_cases z4:(pendingOf L).E > 1
      .rw[Ĺ z4];let(F,X,Y,rfl):=YB (show 2<=d.v by simp_all +arith);let lF:(pendingOf L).E=F.v+2:=by rw[lp];simp
       rw[b5 (show (pendingOf L).E-2<(pendingOf L).E by simp_all)];generalize (pendingOf L)[(pendingOf L).E-2]=v;let(v4,v5,v6):=v
       try conv=>arg 5;dsimp -zeta only
       by_cases z5:v6<=(sortPriv% PySem.Builtin.power) N (2*v1+v2) (2*v1+v2+v2+n) N
       .calc bC z5 ?_;show bt %[11,rb,_,g|l4]
       .calc bx z5 ?_;calc a9<|yh hO (F:=F) (G:=[]) g (show F.v=(pendingOf L).E-2 by simp_all) λG3 Z R5=>?_;calc bx yi ?_;let l5:=R5.ď;let l6:=g.ď;show bt %[11,rb,_,R5|yf]
      .rw[ķ z4]
       try conv=>arg 5;dsimp -zeta only
       show bt %[11,rb,_,g|l4]
     .rintro c L hc;show hc
     .intro c L z;let(rfl,d,g,l4):=z
      try conv=>arg 5;dsimp -zeta only
      calc a9<|vi ?_;calc hJ () _ %[0,d,%[g.þ,g.fail,g.keys,g.perm,g.arr,?_,g.up,g.ne,g.sep|g.far]|l4];calc g.pend.congr ?_;apply fi;intro t;rw[a_,a_,ci,ci];show Option.L _ ((pendingOf L).modify _ _)[t]?=_;rw[Array.getElem?_modify];split
      .cases(pendingOf L)[t]? <;> rfl
      .rfl
  .by_cases z2:m<(sortPriv% PySem.Builtin.minRun) N N 0
   .calc bC z2 ?_;refine a9<|wpS_lift<|fA %[rb|?_]
    try conv=>arg 5;dsimp -zeta only
    let z2':=M.E;calc a9<|SJ hO (M.þ.À R.þ) (M.keys R.keys) (by grind) (by grind) u2 (λi k q1 q2=>p2 i k q1 (by grind)) λB g3 u3=>?_;refine bx yi ?_
    try conv=>arg 5;dsimp -zeta only
    refine hJ _ B %[%[g3.þ.À M.þ,g3.fail.À M.fail,g3.pend.À M.pend,g3.perm.À M.perm|λt ht=>(g3.Ý t (by grind)).À<|M.Ý t ht],u3,by calc ap (by assumption) ?_;lia,mS _ _|g3.pos (by grind) yf p2]
   .calc bx z2 ?_;show hJ m D %[M,u2,m1,m2|p2]
 .intro c O z;let(rs,rest,rfl,R,hpr,_):=z;let ln:=R.ď;obtain rfl:rest=[]:=by
   rcases hpr with y|y;.show md.mp yf
   .show y
  show%[3,rs,_,rb|R]
 .intro c O z;let(rs,l,rfl,R):=z
  try conv=>arg 5;dsimp -zeta only
  let ln:=R.ď;rw[kr]at ln;let lr:=sZ R.ne;refine a9 (ko (gd (I:=λ(x:ı) (c:ĵ š×š) (st':Ł)=>c=(Ĵ,())/\∃d,eZ K ps kn a0 st' d []/\(d.v+x<=N\/d.v<=1))
   (Q:=λ(c:ĵ š×š) (st':Ł)=>c=(Ĵ,())/\∃d,eZ K ps kn a0 st' d []/\d.v<=1) ?_ ?_ %[11,rb,rs,R|.Â (by simp_all)]) ?_)
  .intro x c D _ hx z;let(rfl,d,R2,h2):=z
   try conv=>arg 5;dsimp -zeta only
   refine a9<|sN ?_
   try conv=>arg 5;dsimp -zeta only
   let lp:(pendingOf D).E=d.v:=by rw[<-bn];show R2.pend.ď
   by_cases z:(pendingOf D).E<=1
   .calc bC z ?_;show bt %[11,rb,d,R2|by simp_all]
   refine bx z ?_
   try conv=>arg 5;dsimp -zeta only
   let lp':(pendingOf D).E-2+1<d.v:=by simp_all +arith
   calc a9<|Fz hO R2 ?_ λB rs3 R3 l3=>?_;.show aaZ (show (pendingOf D).E-2-1+1<d.v by lia) lp'
   .calc bx yi ?_;show bt %[11,rb,_,R3|by simp_all;lia]
  .intro c D z;let(rfl,d,R2,h2):=z;show%[11,rb,d,R2|by simp_all;lia]
  .intro c D z;let(rfl,d,R2,h2):=z;calc bt<|h _ R2.fail R2.perm ?_;rw[R2.arr,gy]
   match d,h2,R2.up with| [],_,_=>show List.Ã.ê| [r],_,u=>simpa using u r yi
def N5 {K:PyProof.ô.ĥ}(Z:K.OneLt){vs:İ Ĳ}(F:s.C.Á a=į (seqObj "list" vs.R n))(Y:Œ K (pairsOf vs))(G:∀g q rest,vs=g::q::rest->keyKind' (g::q::rest).R=pure oneType')(hz:vs.v<=1000)(h:∀st':Ł,(arrOf st').ò (pairsOf vs)->SortedToK K (arrOf st') (pairsOf vs).E->P (.done<|.ret .Û) {s with heap:=sortedHeap s.C a vs ((arrOf st').L (·.2))}):ĺ (ľ prog w) A (Builtin.«list.sort» %[[.H a]|[]]) P E s:=by
 by_cases d:vs.v<64;.show list_sort_treeK Z F Y G d h
 let ha:a<s.n:=a6 F;let O:vs.v<=Ľ:=ay<|aH hz;rw[list_sort_plain];calc aa<|listItems_at F rb<|aa<|listUpdate_at F rb ?_ (by rw[bu];show O)<|bE _;obtain⟨N,L⟩:∃N,(s.C.ě a<|Obj.ē λ_=>#[]).Á a=į (seqObj "list" #[] N):=%[_|get?_update_seq F λ_=>#[]]
 calc aa<|seqEpoch_at L rb<|aa<|v_ (aa<|tI (dL ?_)<|bE _) (by show vs.v<=_;show O);let D:(((s.C.ě a<|Obj.ē λ_=>#[]).Ï<|seqObj "tuple" vs.R 0).Ï<|seqObj "list" #[] 0).Á a=į (seqObj "list" #[] N):=by rw[p_ _ _ _ (by rw[size_push',re];show bb<|fh ha),p_ _ _ _ (by rw[re];show bb ha)];show L
 show ĺ (ľ prog w) A _ P E {s with heap:=((s.C.ě a<|Obj.ē λ_=>#[]).Ï<|seqObj "tuple" vs.R 0).Ï<|seqObj "list" #[] 0};dsimp only;let h2:¬vs.R.E<2:=by rw[bu];lia
 rw[ķ h2,ķ h2];obtain⟨g,q,rest,rfl⟩:∃g q rest,vs=g::q::rest:=by
  match vs,d with| [],d=>simp at d| [_],d=>simp at d| g::q::rest,_=>show%[18,g,q,rest|rb]
 rw[G _ _ _ rfl];calc aa<|ag ?_;refine aa (gg (KZ (K:=K) (kn:=oneType') (gU.one Z) (st:=SortSt.mk' oneType' ((g::q::rest).R.zip (g::q::rest).R) #[] 7 Ĵ)
  (ps:=λ_=>0) (Q:=λ_ st'=>failedOf st'=Ĵ/\(arrOf st').I.ò (pairsOf<|g::q::rest).I/\(arrOf st').I.Ã (kL K λ_=>0)) rb rb rb Y (List.pairwise_of_forall λ_ _=>ai 0) λst' a1 a2 a3=>%[a1,a2|a3]) ?_ λ_ _ e=>e)
 rintro⟨⟨⟩,st'⟩ s' ⟨rfl,hf,hp,hs⟩;let B:(arrOf st').ò (pairsOf<|g::q::rest):=ng.Ù hp;dsimp only;refine aa<|seqEpoch_at D rb<|aa<|listUpdate_at D rb ?_ (bE _)<|du ?_
 .rw[hf];simp only[bne_self_eq_false,bq,if_false];calc ag<|h st' B λi j J M=>?_;rw[<-B.size_eq]at M;rw[rC M,rC (show i<(arrOf st').E from fw J M)];show lK hs J M
 .show ap (fq<|(Array.size_map ..).À<|B.size_eq.À<|pairsOf_size _) O
def N6 (G:ĺ (ľ prog w) A.ė (collect v) (λvs s1=>∃ss,Ř vs ss/\vs.v<=1000/\
   ∀(h':Ň) (g:İ Ĳ) (d:İ ņ) (e:ı),(∀b o,s1.C.Á b=į o->h'.Á b=į o)->h'.Á s1.n=į (seqObj "list" g.R e)->Ř g d->d.ò ss->sortedS d=ĳ->
    Q (.H s1.n) {s1 with heap:=h' }) E s):ĺ (ľ prog w) A (call (.Ô "sorted") [v]) Q E s:=by
 calc r0 kind_sorted plain_sorted entry_sorted (args_sorted1 _) ?_;unfold Builtin.«sorted»;calc aa (m:=checkCount "sorted" 1 1 _)<|ag ?_;calc aa<|bD G λvs s1 ⟨ss,q,hz,h⟩=>?_;calc aa<|tI ?_<|ay<|aH hz;let L:(s1.C.Ï<|seqObj "list" vs.R 0).Á s1.n=į (seqObj "list" vs.R 0):=aI _ rfl;refine aa (dL (c_ slot_list_sort (s:={s1 with heap:=s1.C.Ï<|seqObj "list" vs.R 0}) %[0,_,L|rb] entry_list_sort
  (N5 (s:={s1 with heap:=s1.C.Ï<|seqObj "list" vs.R 0}) strKind_oneLt L q.keysOf (λM N rest e=>keyKind_strs (by rw[<-e];show q)) hz λst' hp hs=>%[0,_,rb|?_])<|args_list_sort _))
 let(d,h1,J,F):=sorted_out_str q hp hs;let(e,D):=sortedHeap_at (vs:=vs) (out:=(arrOf st').L (·.2)) L;calc ag %[0,_,rb|h _ ((arrOf st').L (·.2)).I d e (λb o z=>?_) (by rw[uC];show D) h1 J F];let B:b<s1.n:=a6 z;rw[sortedHeap_old (bb B) (by rw[eS];show fh B)];show af _ z
def Hw (w:ň):İ V->Hp->VK->Prop:=λxs H Q=>∃(p:Addr) (ws:AA) (n:Nat),xs=[.H p]/\H p=į (.ext<|jf w p ws n)/\n<=1000/\
 ∀(p':ĸ) (d:AA),H p'=Ĵ->d.Ö->(∀l,l∈d↔l∈ws)->d.Ã (λa b=>Ļ (b<a)=Ķ)->Q (.H p') (upd H p'<|.Æ<|Ts d)
def Dv (Y:X.ĭ=ĳ):fM X (.Ô "sorted") (Hw X.w):=by
 intro ao s T H xs us Q I r h;let(p,ws,n,rfl,hd,hn,q):=h;let(u,rfl,ru):=vals1 r;cases ru;let((es,ep,t,m,el,hz),_,_):=(show cQ X.Ñ X.w H s.C p (.ext<|jf X.w p ws n) from I.ð _ _ hd)
 calc N6<|Bd (A:=X.A.in1) (I.ok.hd Y) m yf λh' tk d B kk pm=>?_;let Z:∀v∈B,∃(l:İ ı) (u:Tok),v=.X (S l) u:=λv hv=>by let(e,G,rfl):=a5.mp (pm.æ.mp hv);let(l,u,rfl):=el.sh e G;show%[10,l,u|rb]
 let pk:(B.L λv=>pG (0,v)).ò (es.I.L pG):=by have:=pm.L λv=>pG (0,v);rw[c8]at this;show this
 let N:(es.I.L pG).v<=1000:=by rw[ab,bn];show ap hz hn
 let I1:aL X ao T H {s with heap:=h',toks:=tk,drawn:=d}:=(I.Ħ (t':=tk) kk).aal d;calc%[2,_,Yx B Z,by rw[pm.length_eq];simpa using N|λh2 D g e k2 G L KR O=>?_];let J:g=(g.L λy=>y.ñ.I).L S:=by rw[c8];calc(kF _).Ð.À<|d6 λy _=>?_;show(acQ y).Ð
 let F:(g.L λy=>y.ñ.I).ò (es.I.L pG):=by have:=KR.L λy:ņ=>y.ñ.I;rw[c8]at this;let e:((λy:ņ=>y.ñ.I) ∘ S)=id:=rfl;rw[e,kF]at this;show this.À pk
 let hv:Vals (Ts<|g.L λy=>y.ñ.I) D:=by have:=sJ L;rw[J]at this;simpa [Ts,xi] using this
 let M:(Ts<|g.L λy=>y.ñ.I).v<=Ľ:=by rw[ab,F.length_eq];show ay<|aH N
 refine%[1,.H h'.Q.E,_,I1.ģ (o:=.Æ _) (t':=tk) k2 (ai _) %[19,M,D,e,hv|G],rb|q _ _ I1.à (F.nodup_iff.Ù el.nd) (λl=>F.æ.À<|el.mem l)<|Hg g O]
end
end L2
namespace L2
open PySem PySem.Spec PyProof.Rows PySem.W
section
variable {X:Cx}
def ac9 (td ty g:TE):TE:=λT H Q=>td T H λx H1=>∃a,x=.H a/\IsD H1 a/\ty T H1 λy H2=>g T H2 λz d=>∃kvs k,d a=į (.dK kvs)/\y=kV k/\kvs.v<Ľ/\
 (∀v,cF kvs k=į v->Q v d)/\(cF kvs k=Ĵ->Q z (upd d a<|.dK<|putK kvs k z))
def ac_ {ao:AC}{T:St}{H:Hp}{s:ļ}{a:ĸ}{z:V}{u r:Ĳ}{kvs:İ (Key×V)}{k:Key}{A:ŉ}{E:AB}{Q:AB}(I:aL X ao T H s)(e:H a=į (.dK kvs))(J:bH (kV k) u)(M:bH z r)(l:kvs.v<Ľ)(h1:∀v w' s',cF kvs k=į v->aL X ao T H s'->bH v w'->Q w' s')(N:∀s',cF kvs k=Ĵ->aL X ao T (upd H a<|.dK<|putK kvs k z) s'->Q r s'):ĺ (ľ X.Ñ X.w) A (call (.Ô "dict.setdefault") [.H a,u,r]) Q E s:=by
 let(hz,hd,vs,g,D):=(show cQ X.Ñ X.w H s.C a (.dK kvs) from I.ð a _ e)
 let d:=g.val k;refine call_meetsIn wc D.Ċ PySem.F.entry_dict_setdefault (PySem.F.args_dict_setdefault_3 _ _ _) (kt_meets_setdefault (cG X.Ñ X.w) a (wH J) hd r) %[7,vs,D,by rw[<-KV.v g];show hz,λv hv=>?_|λhv h' F hs=>?_]
 .rw[hv]at d;cases B:cF kvs k with
  | none=>rw[B]at d;cases d
  | some y=>rw[B]at d;show h1 y v _ B (I.tok _) d
 .rw[hv]at d;cases B:cF kvs k with
  | some y=>rw[B]at d;cases d
  | none=>
   let L:(putK kvs k z).v<=Ľ:=by have:=mJ kvs k z;lia
   let G:∃q,h'.Á a=į q:=let %[q,_,_,hq|_]:=F;%[q|hq]
   show N _ B<|vD I (by rw[e];show True.intro) hs G<|Ke L hd (KV.put g k M) F
def YC (G:QE X o td)(D:QE X e ty)(hf:QE X f tx)(m:M2 X o "setdefault" apos e f cpos):QE X (.ġ (.Ą o "setdefault" apos) [e,f] [] cpos) (ac9 td ty tx):=⟨by
 intro ao s T H Q I h;calc wpAny_Call_method m.ö m.few m.line sP wc PySem.F.type_dict_setdefault<|bD (G.Ý ao s T H _ I h) λu s1 ⟨x,H1,I1,N,a,ex,d,q1⟩=>?_;subst ex;obtain rfl:u=Value.H a:=N;let(F,Y,_):=Va I1 d;calc%[F,Y|?_];rw[m.trees];refine iX rb<|nN<|fT<|bD (D.Ý ao s1 T H1 _ I1 q1) λiv s2 ⟨y,H2,I2,L,q2⟩=>fT<|bD (hf.Ý ao s2 T H2 _ I2 q2) λfv s3 ⟨z,M,I3,B,kvs,k,J,Z,l,q3,q4⟩=>lL ?_
 subst Z;show ac_ I3 J L B l (λv w' s4 g q O=>%[1,v,M,q,O|q3 v g]) λs4 g q=>%[1,z,_,q,B|q4 g]⟩
end
theorem K4 {I T:Type}{R:I->T->Prop}:∀{l:İ I} {m:İ T} {i:ı} {p:I},ũ R l m->l[i]?=į p->∃q,m[i]?=į q/\R p q
 | _,_,0,p,.á (b:=q) r _,e=>%[0,q,rb|by simp at e;rw[<-e];show r]
 | _,_,i+1,p,.á _ t,e=>by simpa using K4 t (by simpa using e)
section
variable {X:Cx}{ao:AC}{T:St}{H:Hp}{s:ļ}
def aL.aeE {h1 d:Ň}(I:aL X ao T H s)(hf:mq X ao H it)(li:it<s.n)(G:bH x u)(B:bH y v)(O:h1.Á s.n=į {cls:=.Ä "tuple",data:=.î #[u,v]})(hk:∀b o,b≠it->s.C.Á b=į o->h1.Á b=į o)(hs:Heap.ă it h1 d):aL X ao T (upd H s.n<|.Ç [x,y]) {s with heap:=d,toks:=s.Ü}/\upd H s.n (.Ç [x,y]) it=Ĵ:=by
 let I2:aL X ao T (upd H s.n<|.Ç [x,y]) {s with heap:=s.C.Ï {cls:=.Ä "tuple",data:=.î #[u,v]},toks:=s.Ü}:=I.ģ (λb v e=>af _ e) (ai _) %[11,zsz 2,[u,v],.á G<|.á B .ê|%[31,_,aI _ rb,rb,_|rb]]
 let fr:upd H s.n (.Ç [x,y]) it=Ĵ:=by rw[aM (bb li)];show hf.1
 let(f0,N,Z,J,D,L):=hf;let Y:=aL.ħ (s:={s with heap:=s.C.Ï {cls:=.Ä "tuple",data:=.î #[u,v]},toks:=s.Ü}) (h':=d) (t':=s.toks) (it:=it) I2 (λb o q g=>?_) fr N J D L;.show%[Y|fr]
 .rw[hs.2 b q];rcases u7 g with⟨M,F⟩|z;.rw[M,F];show O
  .show hk b o q z
end
def VP (o:Obj)(d:ĸ)(kvs:İ (Key×V)):It:=%[λi H=>i<kvs.v/\H d=į (.iu o<|.dK kvs),λi H x H'=>∃T k v,H T=Ĵ/\x=.H T/\kvs[i]?=į (k,v)/\H'=upd H T (.Ç [kV k,v])|λi H=>kvs.v<=i/\H d=į (.iu o<|.dK kvs)]
def SM {P:ń}{w:ň}{K:W.Ì}{elts:İ ŋ}{x1}{pos:Pos}{o:Obj}{d it:ĸ}{kvs:İ (Key×V)}{Z:ł Ű}{ep:ı}(ho:o.Ĉ=.dict Z ep):Turn P w K (.Ě elts x1 pos) (VP o d kvs) [it] it (λi h=>∃ok B,IsItemIter h it d i kvs.v ep ok B) where
 mem:=by simp
 obj:=λi h st b D=>by
  let e:b=it:=by simpa using D
  subst e;let(ok,B,st):=st;show%[0,_,st|λv z=>by let z':Data.ë _=Data.ù v:=z;cases z']
 keep:=λi h h' st k=>by let(ok,B,st):=st;show%[10,ok,B|k it yi _ st]
 item:=by
  intro X O hw hK hc i ao s T H E I hf st G;subst O hw hK;let(ok,B,st):=st;let(hi,N):=G;let(_,_,vs,r,L):=VD I.ð N ho;let F:=KV.v r;let((k',v),hx,J,rv):=K4 r (ae hi);calc wpAny_pyNext_items_item (kvs:=vs) (by rw[<-F];show st) L hx λkey h' hk g hT hsz q=>?_;rw[<-F]at g;calc%[0,_,rb|wpAny_letOwnedTupleGo_items g λh2 Y M=>?_];let(I3,fr):=aL.aeE I (hf it yi) (a6 st) (aaX hk) rv hT q M;let J:kvs[i].1=k':=J;calc%[6,.H s.n,_,I3,rb,%[8,s.n,k',kvs[i].2,I.ð.à<|ai _,rb,by rw[ae hi,<-J]|rb],%[10,_,_|Y]|λb D=>?_];let e:b=it:=by simpa using D
  rw[e];show fr
 done:=by intro X O hw hK hc i ao s T H E I hf st G;subst O hw hK;let(ok,B,st):=st;let(hi,N):=G;let(_,_,vs,r,L):=VD I.ð N ho;let F:=KV.v r;let(f0,f1,f2,f3,f4,f5):=hf it yi;show wpAny_pyNext_items_end (kvs:=vs) (I.ok.hd hc) (by rw[<-F];show st) L (by simp;simp_all) λh' eb=>%[rb|I.ħ (t':=s.toks) (λb o D e=>eb b o D e) f0 f1 f3 f4 f5]
 self:=λ_ _ _ _ _ st h=>by let(ok,B,st):=st;show kcp_self st h
def rD (v d:ĸ):Ň->Prop:=λh=>h.IsItemsView v d
section
variable {X:Cx}
def YD:O8 X "dict.items" (λx vs H Q=>∃(a:Addr) (kvs:İ (Key×V)),x=.H a/\vs=[]/\H a=į (.dK kvs)/\∀v,H v=Ĵ->Q (.H v) (upd H v<|.ext<|rD v a)):=by
 intro ao s T H x vs v us Q I F G h;let(a,kvs,rfl,rfl,D,q):=h;cases F;let d:=G.zero;subst d;let(z,y,vs,r,g):=(show cQ X.Ñ X.w H s.C a (.dK kvs) from I.ð a _ D)
 calc call_meetsIn PySem.F.slot_dict_items g.Ċ PySem.F.entry_dict_items (PySem.F.args_dict_items_1 _) (meets_dict_items (cG X.Ñ X.w) a y) %[%[vs|g]|?_];let hn:s.n<=s.n:=ai _;calc%[1,.H s.n,_,I.ģ (o:=.ext (rD s.n a)) (t':=s.toks) (λb u e=>af _ e) hn %[%[2,_,aI _ rb,rb|rb],%[_|aI _ rb]|λh1 B p k=>?_],rb|q _ I.à];let(o,h1,B,J):=p;show%[2,o,k o h1,B|J]
def ada (tl:TE):TI:=λT H R=>tl T H λx H1=>∃v d kvs,x=.H v/\H1 v=į (.ext<|rD v d)/\H1 d=į (.dK kvs)/\∀o:Obj,R (VP o d kvs) (upd H1 d<|.iu o<|.dK kvs)
def YF {x1}(J:QE X l tl):QI X (.Ě elts x1 tp) l (ada tl):=⟨by
 intro ao s T H R I h;calc bD (J.Ý ao s T H _ I h) λv s1 M=>?_;let(x,H1,I1,r1,q1):=M;let(v,d,kvs,e,hv,hd,q):=q1;subst e;cases r1;let(F,_,_):=(show cQ X.Ñ X.w H1 s1.C v (.ext<|rD v d) from I1.ð v _ hv)
 let(z,y,vs,r,o,es,ep,g,c,B,D):=(show cQ X.Ñ X.w H1 s1.C d (.dK kvs) from I1.ð d _ hd)
 let G:s1.C.DictAt (cG X.Ñ X.w) d vs ep:=%[4,o,es,g,c,B|D]
 let I2:aL X ao T (upd H1 d<|.iu o<|.dK kvs) {s1 with heap:=s1.C,toks:=s1.Ü}:=I1.write (x:=d) (e:=d) (by rw[hd];trivial) (.Â rb) (λ_ _ _ e=>e) %[o|g] %[g|%[20,z,y,vs,r|%[8,o,es,ep,g,c,B|D]]];let I2:aL X ao T (upd H1 d<|.iu o<|.dK kvs) s1:=I2;calc wpAny_pyIter_items F G ?_;calc%[12,s1.n,[s1.n],_,_,_,rb,I2.Ħ (t':=s1.toks) λb o e=>af _ e,SM (kvs:=kvs) B,%[10,.Û,.Û|by rw[KV.v r];show aI _ rb],λb L=>?_|q o];let e:b=s1.n:=by simpa using L
 subst e;show I2.mz (ai _)<|I2.ð.à<|ai _⟩
end
def VR {o:Obj}{d:ĸ}{kvs:İ (Key×V)}{g:TG}{tb:TS}{D:Ends}{I:St}{H:Hp}(B:ı->St->Hp->Prop)(G:B 0 I H)(J:∀i I H,i<=kvs.v->B i I H->H d=į (.iu o<|.dK kvs))(hs:∀i k v I H T,kvs[i]?=į (k,v)->B i I H->H T=Ĵ->g (.H T) I (upd H T<|.Ç [kV k,v]) λI2 H2=>tb {D with nx:=B<|i+1,ct:=B<|i+1,bk:=D.nx} I2 H2)(hd:∀I H,B kvs.v I H->D.nx I H):∃W:ı->ı->St->Hp->Prop,(∃m,W 0 m I H)/\∀i m I H,W i m I H->
   ((VP o d kvs).stop i H/\D.nx I H)\/((VP o d kvs).go i H/\∃N:St->Hp->Prop,(∀I' H',N I' H'->∃m',m'<m/\W (i+1) m' I' H')/\∀x H',(VP o d kvs).Aw i H x H'->g x I H' λI2 H2=>tb {D with nx:=N,ct:=N,bk:=D.nx} I2 H2):=by
 calc%[0,λi m I H=>m=kvs.v-i/\i<=kvs.v/\B i I H,%[2,kvs.v,yi,bE _|G]|?_];intro i m I H z;let(rfl,hi,p):=z;let q:=J i I H hi p;by_cases F:i<kvs.v
 .calc .Ò %[11,%[F|q],B<|i+1,λI' H' p'=>%[7,kvs.v-(i+1),rj F<|eW _,rb,F|p']|λx H' y=>?_];let(T,k,v,L,hx,hk,e):=y;subst e hx;show hs i k v I _ T hk p L
 .let e:i=kvs.v:=yf;subst e;show .Â %[%[ai _|q]|hd I H p]
def BZ {X:Cx}(w)(d:X.ĭ=ĳ)(h:Ŷ (X.w=w) ŷ):fM X (.Ô "sorted") (Hw w):=by subst h;show Dv d
section
variable {X:Cx}
def aa0 (tk tv:TE):TE:=λT H Q=>∀p,H p=Ĵ->tk T (upd H p<|.dT []) λy H1=>tv T H1 λv H2=>∃k b,y=.H b/\H2 p=į (.dT [])/\H2 b=į (.Ç<|k.L kV)/\Q (.H p) (upd H2 p<|.dT [(k,v)])
def V0 (G:X.A.ß+1<cLine)(hk:QE X k tk)(hv:QE X v tv):QE X (.Dict [į k] [v] pos) (aa0 tk tv):=⟨by
 intro ao s T H Q I q;let hn:=I.ð.à<|ai s.n;let I1:=I.ģ (a:=s.heap.objs.size) (o:=.dT []) (h':=s.C.Ï {cls:=.Ä "dict",data:=.dict #[]}) (t':=s.toks) (λ_ _ q=>af _ q) (ai _)<|Kg s.C I.big;rw[arm_eval_Dict,zip_pairTrees [į k] [v] X.Ê pos rb rb,dictDisplay_pairs _ (by simp[pairTrees]) (by simp[pairTrees])];calc aa<|rh<|aa ?_;unfold subDict;calc aa<|wpAny_alloc<|aa<|dL ?_;rw[Ĺ (by simp[pairTrees])];calc aa<|pairTrees_cons_walk<|bD (hk.Ý ao _ T _ _ I1<|q _ hn) λJ s1 ⟨y,H1,I2,F,q1⟩=>bD (hv.Ý ao s1 T H1 _ I2 q1) λvv s2 ⟨z,H2,B,rz,kk,b,Z,hp,g,q2⟩=>pairTrees_nil_walk<|dL ?_;subst Z;obtain rfl:J=Value.H b:=F;let(_,hd,xs,d,M):=aag B.ð hp;cases d;rw[ku];calc aa<|aa<|aa<|wpAny_dictSet_heap (hsz:=bE _) (show X.A.ß<cLine from ay G) (vC B.ð g) M λh' O hs=>ag ?_;dsimp only;rw[we];calc ag<|ag<|ag<|ag %[1,.H s.n,_,?_,rb|q2];let(o,es,ep,D,h2,N,L,_,Y):=O;calc vD B (by rw[hp];show True.intro) hs %[o|D] %[59,zsz 1,hd,_,.á %[rb,?_|rz] .ê,o,es,ep,D,h2,N,L|Y];rw[aM (iH g hp λz=>nomatch z)];show g⟩
end
def SN (l)(B:ł Ĳ)(n)(b)(q:ł Ĳ)(n2)(dd)(sl)(L:¬(!B.ę&&Builtin.List.listTooLong (B.E+q.E))=ĳ)(F:B.E<=Ľ)(G:B.E+q.E<=Ľ+1):ů (Builtin.«list.extend» %[[.H l,.H b]|[]]) (λ_ R s=>s.C.Á l=į {cls:=.Ä "list",dict:=Ĵ,data:=.î B n,slots:=#[]}/\s.C.Á b=į {cls:=.Ä "tuple",dict:=dd,data:=.î q n2,slots:=sl}/\R (.ok<|.ret Value.Û) {s with heap:=s.C.ě l<|Obj.ē λx=>x++q,toks:=s.Ü}):=
 .of_wp λprog w A R s h=>by
  let(hp,g,d,tk,os):=s;let(J,M,h):=h;let f1:=AutoSeq1.idx_int;let O:=AutoSeq1.sub_tuple_tuple;let Y:=AutoSeq1.sub_list_list;let N:=AutoSeq1.sub_tuple_list;let Z:=AutoSeq1.sub_list_tuple;
  let D:(B++q).E<=Ľ+1:=by rw[Array.size_append];show G
  wp_walk using (rX J rb (hz:=F) (_hz':=D)),AutoSeq1.wpAny_loadPart' J,AutoSeq1.wpAny_loadPart' M;show%[0,_,rb|h]
section
variable {X:Cx}
def K5 (K:W.Ì):V->İ V->Hp->VK->Prop:=λx vs H Q=>∃l b xs d,x=.H l/\vs=[.H b]/\H l=į (.Æ xs)/\bf K H b d/\xs.v+d.v<=Ľ/\Q .đ (upd H l<|.Æ<|xs++d)
def SQ:O8 X "list.extend" (K5 X.K):=by
 intro ao s T H x vs v us Q I L O h;let(l,b,xs,zs,rfl,rfl,B,G,hz,q):=h;cases L;let(u,rfl,J):=O.one;cases J;let(z,its,n,r,hl,e):=I.yK B;let(d,D,pl,M):=I.Ĕ G;let((oc,odd,N,osl),e2,g,Y,hd):=pl;simp only at g hd;subst g hd;let hl2:=D.v;let hsz:its.R.E+d.R.E<=Ľ:=by rw[bu,bu];simp_all
 let Z:¬(!its.R.ę&&Builtin.List.listTooLong (its.R.E+d.R.E))=ĳ:=by rw[Bs hsz,ml];show b8
 refine call_meets F.slot_list_extend %[0,_,e|rb] F.entry_list_extend (F.args_list_extend_2 _ _)
  (SN l its.R n b d.R Y odd osl Z (by rw[bu];simp_all)<|du hsz) %[e,e2|?_]
 calc%[1,.đ,_,I.RK (its':=its++d) B e yi (r.append D) ?_,rb|q];rw[aE];show hz
def N7 (K:W.Ì)(h:Ŷ (X.K=K) ŷ):O8 X "list.extend" (K5 K):=by subst h;show SQ
end
mutual
inductive iy (K:W.Ì) (H:Hp):ı->Ś->V->Prop
 | non {n}:iy K H n .Û .đ
 | bl {n} (b:ō):iy K H n (.Ă b) (.bl b)
 | int {n} (i:Ŀ):iy K H n (.M i) (.M i)
 | str {n} (l:İ ı) (h:∀c∈l,c<128):iy K H n (.X<|S l) (.X<|S l)
 | tup {n a ds xs} (h:bf K H a xs) (hs:Af K H n ds xs):iy K H (n+1) (.Ĕ ds) (.H a)
inductive Af (K:W.Ì) (H:Hp):ı->İ Ś->İ V->Prop
 | nil {n}:Af K H n [] []
 | cons {n d ds x xs} (h:iy K H n d x) (hs:Af K H n ds xs):Af K H n (d::ds) (x::xs)
end
def iy.lay {K:W.Ì}:∀{n:ı} {d:Ś} {x:V},iy K H n d x->d.canLay0=ĳ/\d.depth<=n/\PyData.eqv d d=ĳ:=by
 intro n d x h;calc iy.rec (motive_1:=λn d _ _=>d.canLay0=ĳ/\d.depth<=n/\PyData.eqv d d=ĳ) (motive_2:=λn d _ _=>PyData.canLayAll0 d=ĳ/\PyData.depthAll d<=n/\PyData.eqvAll d d=ĳ) ?_ (λ_=>?_) (λ_=>?_) (λl h=>?_) (λ_ _ i=>?_) ?_ (λ_ _ a b=>?_) h;.simp[PyData.canLay0,PyData.depth,PyData.eqv]
 .simp[PyData.canLay0,PyData.depth,PyData.eqv]
 .simp[PyData.canLay0,PyData.depth,PyData.eqv]
 .simp only[PyData.canLay0,PyData.depth,PyData.eqv];show%[Pn h,bE _|yi]
 .simp only[PyData.canLay0,PyData.depth,PyData.eqv];show%[i.1,e6 i.2.1|i.2.2]
 .simp[PyData.canLayAll0,PyData.depthAll,PyData.eqvAll]
 simp only[PyData.canLayAll0,PyData.depthAll,PyData.eqvAll,dP];show%[%[a.1|b.1],Nat.max_le.Ù %[a.2.1|b.2.1],a.2.2|b.2.2]
def iy.jh {K:W.Ì}(st:∀a xs,bf K H a xs->bf K H' a xs):∀{n:ı} {d:Ś} {x:V},iy K H n d x->iy K H' n d x:=by intro n d x h;show iy.rec (motive_1:=λn d x _=>iy K H' n d x) (motive_2:=λn d x _=>Af K H' n d x) .đ .bl .M .X (λh _ i=>.Ç (st _ _ h) i) .ê (λ_ _=>.á) h
section
variable {X:Cx}
variable {prog:ń}{w:ň}
def iy.reads {ao:AC}{T:St}{H:Hp}{s:ļ}(I:aL X ao T H s):∀{n:ı} {d:Ś} {x:V} {u:Ĳ},iy X.K H n d x->bH x u->∃as,Ť s.C u d as:=by
 intro n d x u h r;calc iy.rec (motive_1:=λ_ d x _=>∀u,bH x u->∃as,Ť s.C u d as) (motive_2:=λ_ d x _=>∀u,Vals x u->∃as,ś s.C u d as) (λu r=>?_) (λb u r=>?_) (λi u r=>?_) (λl h u r=>?_) (λh _ i u r=>?_) (λu r=>?_) (λ_ _ i j u r=>?_) h u r;.cases r;show%[[]|.Û]
 .cases r;show%[[]|.Ă b]
 .let(t,rfl):=r;show%[[]|.M i t]
 .let(t,rfl):=r;show%[[]|.X _ t]
 .cases r;let(its,D,pl,_):=I.Ĕ h;let(as,ra):=i _ D;let(o,g,B,n,hd):=pl;show%[as|.Ĕ g B hd (by simpa using ra)]
 .cases r;show%[[]|.ê]
 cases r with| cons q t=>let(as,a):=i _ q;let(bs,b):=j _ t;show%[as++bs|.á a b]
def iy.shaped {K:W.Ì}{n:ı}{d:Ś}{x:V}(h:iy K H n d x)(hn:n<=64):SeqAt.shaped d=ĳ:=by unfold SeqAt.shaped;rw[h.lay.1,aS (ap h.lay.2.1 hn)];rfl
def aao (K:W.Ì)(b:ō):R2:=λx y H Q=>∃n d,n<=64/\iy K H n d x/\iy K H n d y/\Q (.bl b) H
def V1 (D:X.A.ß+64<cLine):fL X (compareOp .NotEq) (aao X.K Ķ):=by intro ao s T H x y v u Q I F B h;let(n,d,hn,hd,g,q):=h;let(as,ra):=hd.reads I F;let(bs,G):=g.reads I B;calc SeqAt.compareNe_shaped ra G (hd.shaped hn) (g.shaped hn) D %[1,.bl _,H,I,rb|?_];rw[hd.lay.2.2];show q
def SX (K:W.Ì)(d:X.A.ß+64<cLine)(h:Ŷ (X.K=K) ŷ):fL X (compareOp .NotEq) (aao K Ķ):=by subst h;show V1 d
inductive vN (prog:ń) (w:ň) (hp:Ň) (u:ı):İ Ĳ->İ Ŀ->ı->Prop
 | nil:vN prog w hp u [] [] 0
 | cons {v:Ĳ} {x:Ŀ} {d:ı} {vs:İ Ĳ} {xs:İ Ŀ} {ds:ı} (hv:∀(A:ŉ) (E:AB) (s:ļ) (Q:Ŀ->ļ->Prop),A.ß<=u->s.C=hp->Q x {s with toks:=s.Ü+d}->ĺ (ľ prog w) A (pyHash v) Q E s)
   (t:vN prog w hp u vs xs ds):vN prog w hp u (v::vs) (x::xs) (d+ds)
def YG {A:ŉ}{s:ļ}(O:A.ß<cLine)(M:s.C.Á a=į o)(N:o.cls=.Ä "tuple")(hd:o.Ĉ=.î its n)(Y:vN prog w s.C (A.ß+1) its.I hs dr)(q:Q (reduceHash<|Builtin.Ě.tupleHashOf hs) {s with toks:=s.Ü+(dr+1)}):ĺ (ľ prog w) A (pyHash<|.H a) Q E s:=by
 let J:s.Ā (.H a) "tuple":=%[0,o,M|N]
 unfold pyHash
 first|unfold pyHashByItsType|skip
 first|refine aa<|wpAny_cRoomFor_or (Or.Ò O) ?_|skip
 calc aa<|i7 J qf.Å ?_;rw[show (į (Value.Ô "tuple.__hash__")==į Value.Û)=Ķ from beq_builtin_none _];simp only[bq,if_false];calc aa<|i7 J qf.Å ?_;calc aa<|wpAny_callSpecialIfBoundUnlessNone?_slot J qf<|c_ qf J F.entry_tuple_hash ?_<|F.args_tuple_hash_1 _;show ĺ _ _ (Builtin.Ě.tupleItemsOf (Value.H a) >>= _) _ _ s;calc aa<|kN M hd<|aa ?_;rw[<-sq];refine oj _ (λrest (b:ł Ŀ) s1=>∃(left:İ Ŀ) (g D:Nat),hs=b.I++left/\vN prog w s.C (A.ß+1) rest left D/\g+D=dr/\s1={s with toks:=s.Ü+g}) _ ?_ ?_ _ _ %[8,hs,0,dr,rb,Y,iS _|rb]
 .intro x rest b s1 z;let(left,g,D,B,L,G,rfl):=z;cases L with| @cons v h d vs xs ds hv t=>calc aa<|hv _ _ _ _ (ai _) rb ?_;show ag %[8,xs,g+d,ds,by rw[B];simp,t,yf|by simp[l_]]
 .intro b s1 z;let(left,g,D,B,L,G,rfl):=z;cases L;let B:hs=b.I:=by simpa using B
  let G:g=dr:=G;subst B G;calc wpAny_ret_mkInt ?_;show ĺ _ _ (pyHashByItsType.reduced<|Builtin.Ě.tupleHashOf b.I) Q E _;unfold pyHashByItsType.reduced;unfold reduceHash at q;split
  .rename_i z;rw[Ĺ z]at q;show ag (by simpa [l_] using q)
  .rename_i z;rw[ķ z]at q;show aa<|fA<|ag (by simpa [l_] using q)
inductive tu (prog:ń) (w:ň) (hp:Ň) (u:ı):İ Ĳ->İ Ĳ->ō->Prop
 | nil:tu prog w hp u [] [] ĳ
 | left {y:Ĳ} {ys:İ Ĳ}:tu prog w hp u [] (y::ys) Ķ
 | right {x:Ĳ} {xs:İ Ĳ}:tu prog w hp u (x::xs) [] Ķ
 | cons {x y:Ĳ} {xs ys:İ Ĳ} {b c:ō} (hv:∀(A:ŉ) (E:AB) (s:ļ) (Q:ō->ļ->Prop),A.ß<=u->s.C=hp->Q b s->ĺ (ľ prog w) A (eqBool x y) Q E s)
   (t:b=ĳ->tu prog w hp u xs ys c) (f:b=Ķ->c=Ķ):tu prog w hp u (x::xs) (y::ys) c
def aa1 {A:ŉ}{s:ļ}(ha:s.C.Á a=į oa)(d:oa.Ĉ=.î xs na)(G:s.C.Á b=į ob)(F:ob.cls=.Ä "tuple")(D:ob.Ĉ=.î ys nb)(L:tu prog w s.C A.ß xs.I ys.I c)(q:R (.done<|.ret<|.Ă c) s):ĺ (ľ prog w) A (Builtin.«tuple.__eq__» %[[.H a,.H b]|[]]) R E s:=by
 let g:s.Ā (.H b) "tuple":=%[0,ob,G|F]
 show ĺ _ _ (Ŝ (Value.H b) (.Ä "tuple") >>= _) _ _ s;calc aa<|hV g wt ?_;simp only[fN,bq,if_false];calc aa<|kN ha d<|aa<|kN G D<|aa ?_;refine oj _ (λrest r s1=>r.1=Ĵ/\s1=s/\∃us vs,rest=List.zip us vs/\tu prog w s.C A.ß us vs c/\(us.v==vs.v)=(xs.E==ys.E)) _ ?_ ?_ _ _ %[rb|%[14,rb,_,_,rb,L|yi]]
 .rintro⟨u,v⟩ rest r s1 ⟨hr,rfl,us,vs,hz,hi,B⟩;cases hi with
  | nil=>simp at hz
  | left=>simp at hz
  | right=>simp at hz
  | @cons x y xs1 ys1 b1 _ hv ht hf=>
   simp only[wv,List.cons.injEq,Prod.mk.injEq]at hz;let((rfl,rfl),rfl):=hz;calc aa<|hv _ _ _ _ (ai _) rb ?_;cases b1 with| true=>simp only[fN,bq,if_false];show ag %[rb|%[14,rb,xs1,ys1,rb,ht rb|by simpa using B]]| false=>simp only[mw,if_true];rw[hf rfl]at q;show aa<|ag<|ag<|ag q
 .rintro⟨r1,M⟩ s1 ⟨hr,rfl,us,vs,hz,hi,B⟩;let hr:r1=Ĵ:=hr;subst hr;let J:(xs.E==ys.E)=c:=by
   rw[<-B];cases hi with| nil=>rfl| left=>simp| right=>simp| cons=>simp at hz
  calc ag ?_;show R (.done<|.ret<|.Ă<|xs.E==ys.E) s1;rw[J];show q
def adb {A:ŉ}{s:ļ}(O:A.ß<cLine)(ha:s.C.Á a=į oa)(G:oa.cls=.Ä "tuple")(J:oa.Ĉ=.î xs na)(M:s.C.Á b=į ob)(d:ob.cls=.Ä "tuple")(D:ob.Ĉ=.î ys nb)(N:tu prog w s.C (A.ß+1) xs.I ys.I c)(B:a=b->c=ĳ)(q:Q c s):ĺ (ľ prog w) A (eqBool (.H a)<|.H b) Q E s:=by
 let g:s.Ā (.H a) "tuple":=%[0,oa,ha|G]
 let L:s.Ā (.H b) "tuple":=%[0,ob,M|d]
 unfold eqBool
 try with_reducible refine dL ?_
 by_cases z:(Value.H a==Value.H b)=ĳ
 .rw[Ĺ z];let e:a=b:=by have:=eq_of_beq z;injection this
  rw[B e]at q;show aa<|fA<|ag q
 .rw[ķ z];show aa<|qA (op:=.Eq) g L F.slot_tuple_eq (c_ F.slot_tuple_eq g F.entry_tuple_eq (aa1 ha J M d D N ⟨2,_,rb,(λe=>nomatch e),eM q⟩)<|F.args_tuple_eq_2 _ _) O
def V2 {s:ļ}(B:s.C.Á a=į o)(G:o.cls=.Ä "tuple")(hd:o.Ĉ=.î its n)(J:∀v∈its.I,∀(Q':ō->ļ->Prop) (E':AB),Q' ĳ s->ĺ (ľ prog w) A (eqIsQuiet d v) Q' E' s)(q:Q ĳ s):ĺ (ľ prog w) A (eqIsQuiet (d+1)<|.H a) Q E s:=by
 let D:s.Ā (.H a) "tuple":=%[0,o,B|G]
 unfold eqIsQuiet;calc aa<|i7 D F.slot_tuple_eq.Å ?_;show ĺ _ _ (Ŝ (Value.H a) (.Ä "tuple") >>= _) _ _ s;calc aa<|hV D wt ?_;simp only[fN,bq,if_false];calc aa<|ik B hd<|aa ?_;show ĺ _ _ (ű its _ _) _ _ s;rw[<-sq];refine oj _ (λrest r s1=>r.1=Ĵ/\s1=s/\∀v∈rest,v∈its.I) _ ?_ ?_ _ _ %[rb,rb|λv hv=>hv]
 .intro v rest r s1 z;let(hr,rfl,g):=z;calc aa<|J v (g v a4) _ _ ?_;simp only[fN,bq,if_false];show ag %[rb,rb|λx hx=>g x<|av _ hx]
 .rintro⟨r1,L⟩ s1 ⟨hr,rfl,_⟩;let hr:r1=Ĵ:=hr;subst hr;show ag q
end
structure fJ (prog:ń)(w:ň)(κ:Type) [Ŏ κ] where
 is:Ň->κ->Ĳ->Prop
 hash:κ->Ŀ
 draws:κ->ı
 deep:ı
 inj:∀{h:Ň} {v:Ĳ} {x y:κ},is h x v->is h y v->x=y
 keeps:∀{h h':Ň} {k:κ} {v:Ĳ} {d:ĸ} {o:Obj} {es ep},is h k v->h.Á d=į o->o.Ĉ=.dict es ep->Heap.ă d h h'->is h' k v
 pyHash:∀{A:ŉ} {E:AB} {s:ļ} {k:κ} {v:Ĳ} {Q:Ŀ->ļ->Prop},A.ß+deep<cLine+1->is s.C k v->Q (hash k) {s with toks:=s.Ü+draws k}->ĺ (ľ prog w) A (PySem.pyHash v) Q E s
 eqBool:∀{A:ŉ} {E:AB} {s:ļ} {x y:κ} {u v:Ĳ} {Q:ō->ļ->Prop},A.ß+deep<cLine+1->is s.C x u->is s.C y v->Q (Ļ<|x=y) s->ĺ (ľ prog w) A (PySem.eqBool u v) Q E s
 quiet:∀{A:ŉ} {E:AB} {s:ļ} {k:κ} {v:Ĳ} {Q:ō->ļ->Prop} (n:ı),deep<=n->is s.C k v->Q ĳ s->ĺ (ľ prog w) A (eqIsQuiet n v) Q E s
def ux {prog:ń}{w:ň}{I:Type} [Ŏ I] (knd:KeyKind prog w I):fJ prog w I where
 is:=λ_ k v=>knd.is k v=ĳ
 hash:=knd.ü
 draws:=λ_=>1
 deep:=0
 inj:=λh1 d=>knd.inj _ _ _ h1 d
 keeps:=λh _ _ _=>h
 pyHash:=λ_ h q=>knd.pyHash h q
 eqBool:=λ_ h1 d q=>knd.eqBool h1 d q
 quiet:=λn _ h q=>by rw[PySem.eqIsQuiet_byValue n (knd.byValue _ _ h)];show ag q
section
variable {prog:ń}{w:ň}{I I1 I2:Type}[Ŏ I][Ŏ I1][Ŏ I2]
def V3 {h h':Ň}(h1:h.Á a=į o1)(B:o1.Ĉ=.î its n)(q:h.Á d=į o)(hd:o.Ĉ=.dict es ep)(hs:Heap.ă d h h'):h'.Á a=į o1:=by
 let g:a≠d:=by rintro rfl;rw[h1]at q;cases q;rw[B]at hd;cases hd
 show(hs.2 a g).À h1
def mQ (vk:fJ prog w I)(h:Ň):İ I->İ Ĳ->Prop
 | [],[]=>True
 | k::ks,v::vs=>vk.is h k v/\mQ vk h ks vs
 | _,_=>False
def mQ.inj {vk : fJ prog w I}{h : Ň} : ∀{x y : İ I} {vs : İ Ĳ}, mQ vk h x vs -> mQ vk h y vs -> x = y := by
  intro x y vs a b
  induction x generalizing y vs with
  | nil => cases vs <;> cases y <;> (try contradiction)
           rfl
  | cons p x ih =>
    cases vs <;> cases y <;> (try contradiction)
    rw[vk.inj a.1 b.1, ih a.2 b.2]
def mQ.keeps {vk:fJ prog w I}{h h':Ň}{d:ĸ}{o:Obj}{es:ł Ű}{ep:ı}(g:h.Á d=į o)(hd:o.Ĉ=.dict es ep)(hs:Heap.ă d h h'):∀{x:İ I} {vs:İ Ĳ},mQ vk h x vs->mQ vk h' x vs:=by
 intro x vs a
 induction x generalizing vs with
 | nil=>cases vs;trivial;cases a
 | cons p x ih=>
  cases vs with
  | nil=>cases a
  | cons v vs=>show%[vk.keeps a.1 g hd hs|ih a.2]
def mQ.hashes {vk:fJ prog w I}(d:u+vk.deep<cLine+1):∀{x:İ I} {vs:İ Ĳ},mQ vk h x vs->vN prog w h u vs (x.L vk.ü) (x.L vk.draws).sum:=by
 intro x vs a
 induction x generalizing vs with
 | nil=>cases vs;show .ê;cases a
 | cons p x ih=>
  cases vs with
  | nil=>cases a
  | cons v vs=>rw[bS,bS,List.sum_cons];show .á (λA' E' s' Q' ha hs q'=>vk.pyHash yf (by rw[hs];show a.1) q')<|ih a.2
def mQ.eqs {vk:fJ prog w I}(d:u+vk.deep<cLine+1):∀{x y:İ I} {us vs:İ Ĳ},mQ vk h x us->mQ vk h y vs->tu prog w h u us vs (Ļ<|x=y):=by
 intro x y us vs a b
 induction x generalizing y us vs with
 | nil=>
  cases us <;> cases y <;> cases vs <;> (try contradiction)
  .show .ê
  .simpa using tu.left
 | cons p x ih=>
  cases us <;> cases y <;> cases vs <;> (try contradiction)
  .simpa using tu.right
  rename_i q y _ _;refine .á (b:=Ļ (p=q)) (λA' E' s' Q' ha hs q'=>vk.eqBool yf (by rw[hs];show a.1) (by rw[hs];show b.1) q') (λe=>?_) λe=>?_
  .have:=ih a.2 b.2;let e:=dC e
   rwa [show Ļ (p::x=q::y)=Ļ (x=y) from by simp[e]]
  .let e:=sr e;simp[e]
def mQ.mem {vk:fJ prog w I}{h:Ň}:∀{x:İ I} {vs:İ Ĳ} {v:Ĳ},mQ vk h x vs->v∈vs->∃k,vk.is h k v:=by
 intro x vs v a hv
 induction x generalizing vs with
 | nil=>
  cases vs;.simp at hv
  .cases a
 | cons p x ih=>
  cases vs with
  | nil=>cases a
  | cons w vs=>
   rcases a8.mp hv with e|e;.show%[_|by rw[e];show a.1]
   .show ih a.2 e
def tupK (vk:fJ prog w I):fJ prog w (İ I) where
 is:=λh ks v=>∃(a:Addr) (o:Obj) (n:Nat) (its:ł Ĳ),v=.H a/\h.Á a=į o/\o.cls=.Ä "tuple"/\o.Ĉ=.î its n/\mQ vk h ks its.I
 hash:=λks=>reduceHash<|Builtin.Ě.tupleHashOf<|ks.L vk.ü
 draws:=λks=>(ks.L vk.draws).sum+1
 deep:=vk.deep+1
 inj:=by rintro h v x y ⟨a,o,n,its,rfl,h1,_,D,F⟩ ⟨a',o',n',its',e,B,_,g,G⟩;cases e;rw[h1]at B;cases B;rw[D]at g;injection g with e1 _;subst e1;show F.inj G
 keeps:=by intro h h' k v d o es ep z O hd hs;let(a,L,n,its,rfl,h1,J,D,F):=z;show%[5,a,L,n,its,rb,V3 h1 D O hd hs,J,D|F.keeps O hd hs]
 pyHash:=by intro A E s k v Q Z z q;let(a,L,n,its,rfl,h1,J,D,F):=z;show YG yf h1 J D (F.hashes yf) q
 eqBool:=by rintro A E s x y u v Q Z ⟨a,L,n,its,rfl,h1,J,D,F⟩ ⟨a',Y,n',its',rfl,B,M,g,G⟩ q;calc adb (c:=Ļ (x=y)) yf h1 J D B M g (F.eqs yf G) ?_ q;rintro rfl;rw[h1]at B;cases B;rw[D]at g;injection g with e1 _;subst e1;show aS<|F.inj G
 quiet:=by
  intro A E s k v Q n hn z q;let(a,L,n1,its,rfl,h1,J,D,F):=z;obtain⟨m,rfl⟩:∃m,n=m+1:=%[n-1|yf]
  calc V2 h1 J D (λv hv Q' E' q'=>?_) q;let(k',N):=F.mem hv;show vk.quiet m (dA hn) N q'
end
def S5:ı->ı
 | 0=>0
 | d+1=>5*S5 d+1
theorem Dw:∀d,5^d=4*S5 d+1
 | 0=>rfl
 | d+1=>by rw[lc,Dw d,S5];lia
theorem K6 (a):∀b,S5 (a+b)=5^a*S5 b+S5 a
 | 0=>by rw[S5,Nat.mul_zero,iS];rfl
 | b+1=>by
  show 5*S5 (a+b)+1=5^a*(5*S5 b+1)+S5 a;let h:=Dw a;rw[K6 a b,xS,xS,x8,h];let e:5*((4*S5 a+1)*S5 b)=(4*S5 a+1)*(5*S5 b):=by rw[<-nw,gz 5 (4*S5 a+1),nw]
  lia
def ade (e):S5 (e+e)=S5 e*(4*S5 e+2):=by
 rw[K6,Dw];have:(4*S5 e+1)*S5 e+S5 e=S5 e*(4*S5 e+1)+S5 e:=by rw[gz]
 rw[this,<-Nat.mul_succ]
theorem V4:∀d,S5 d%2=d%2
 | 0=>rfl
 | d+1=>by have:=V4 d;show (5*S5 d+1)%2=(d+1)%2;lia
def YH (h:2^(k+1) ∣ x*(4*y+2)):2^k ∣ x*(2*y+1):=by
 let(c,d):=h;calc%[c|?_];let e:x*(4*y+2)=2*(x*(2*y+1)):=by rw[show 4*y+2=2*(2*y+1) by lia,<-nw,gz x 2,nw]
 rw[e,lc,gz (2^k) 2,nw]at d;show Nat.eq_of_mul_eq_mul_left yk d
theorem FJ:∀{k x y:ı},2^k ∣ x*(2*y+1)->2^k ∣ x
 | 0,x,_,_=>by rw[xB];show Nat.one_dvd x
 | k+1,x,y,h=>by
  let d:2 ∣ x*(2*y+1):=Nat.dvd_trans %[2^k|by rw[lc,gz]] h;let hx:x%2=0:=by have:=Nat.mod_eq_zero_of_dvd d;rw[Nat.mul_mod]at this;let g:(2*y+1)%2=1:=yi;rw[g,x8,Nat.mod_mod]at this;show this
  obtain⟨z,rfl⟩:∃z,x=2*z:=%[x/2|yf]
  rw[lc,gz (2^k) 2,nw]at h;have:=Nat.dvd_of_mul_dvd_mul_left yk h;rw[lc,gz (2^k) 2];show Nat.mul_dvd_mul_left 2<|FJ this
theorem V5:∀{k d:ı},2^k ∣ S5 d->2^k ∣ d
 | 0,d,_=>by rw[xB];show Nat.one_dvd d
 | k+1,d,h=>by
  let g:2 ∣ S5 d:=Nat.dvd_trans %[2^k|by rw[lc,gz]] h;let hd:d%2=0:=by rw[<-V4 d];show Nat.mod_eq_zero_of_dvd g
  obtain⟨e,rfl⟩:∃e,d=e+e:=%[d/2|yf]
  rw[ade]at h;have:=V5<|FJ<|YH h;rw[lc,gz (2^k) 2,show e+e=2*e by lia];show Nat.mul_dvd_mul_left 2 this
def qP (m:ı):ı->ı->ı
 | 0,x=>x
 | n+1,x=>qP m n ((x*5+1)%m)
theorem PX (m):∀n x,qP m n x%m=(5^n*x+S5 n)%m
 | 0,x=>by rw[qP,xB,Nat.one_mul];rfl
 | n+1,x=>by
  rw[qP,PX m n];let d:5^(n+1)*x+S5 (n+1)=5^n*(x*5+1)+S5 n:=by rw[K6 n 1,xS,x8,lc,gz x 5,nw];show _+(5^n*1+S5 n)=_;lia
  rw[d,Nat.add_mod,Nat.mul_mod,Nat.mod_mod,<-Nat.mul_mod,<-Nat.add_mod]
theorem K7 (hm:0<m):∀n x,x<m->qP m n x<m
 | 0,_,h=>h
 | n+1,_,_=>K7 hm n _ (qS _ hm)
theorem P0 (m):∀a b x,qP m (a+b) x=qP m b (qP m a x)
 | 0,b,x=>by rw[iS];rfl
 | a+1,b,x=>by rw[Nat.succ_add];show P0 m a b _
def YJ (hx:x<2^k)(h:qP (2^k) d x=x):2^k ∣ d:=by
 let hm:=PX (2^k) d x;rw[h,Dw]at hm;let e:(4*S5 d+1)*x+S5 d=x+S5 d*(2*(2*x)+1):=by rw[Nat.add_mul,Nat.one_mul,xS,x8,gz 4 (S5 d),nw,show 2*(2*x)=4*x by lia];lia
 rw[e]at hm;let hd:2^k ∣ S5 d*(2*(2*x)+1):=by have:=Nat.sub_mod_eq_zero_of_mod_eq hm.Ð;rw[iq]at this;show Nat.dvd_of_mod_eq_zero this
 show V5<|FJ hd
def aa2 (hx:x<2^k)(ha:a<2^k)(q:b<2^k)(h:qP (2^k) a x=qP (2^k) b x):a=b:=by
 let g:∀a b,a<=b->b<2^k->qP (2^k) a x=qP (2^k) b x->a=b:=by intro a b B q h;let(d,rfl):=Nat.exists_eq_add_of_le B;rw[P0]at h;let D:=K7 (Nat.two_pow_pos k) a x hx;have:=YJ D h.Ð;let hd:d=0:=Nat.eq_zero_of_dvd_of_lt this<|fw (gT _ _) q;lia
 rcases Nat.le_total a b with z|z;.show g a b z q h
 .show(g b a z ha h.Ð).Ð
def adf {l:İ ı}(nd:l.Ö)(g:l.v=M)(hs:∀x∈l,x<M)(d:y<M):y∈l:=by
 apply ja;intro hn;have:=(kR.Ù %[hn|nd]).Ė (l₂:=List.å M) λx hx=>by
  rcases a8.mp hx with e|e;.rw[e];show b3.Ù d
  .show b3.Ù<|hs x e
 rw[bv,cS]at this;lia
def aa3 (hx:x<2^k)(d:y<2^k):∃n,n<2^k/\qP (2^k) n x=y:=by
 let nd:((List.å<|2^k).L λn=>qP (2^k) n x).Ö:=e_.Ù<|t7.imp_of_mem λ{a b} ha hb hne z=>hne<|aa2 hx (b3.mp ha) (b3.mp hb) z;have:=adf nd (by rw[ab,cS]) (λz hz=>by let(n,_,rfl):=a5.mp hz;show K7 (Nat.two_pow_pos k) n x hx) d
 let(n,hn,e):=a5.mp this;show%[0,n,b3.mp hn|e]
def iR (mask:ı):ı->ı×ı->ı×ı
 | 0,p=>p
 | n+1,p=>iR mask n (SetTable.leap mask p.1 p.2)
theorem Hx (mask):∀a b p,iR mask (a+b) p=iR mask b (iR mask a p)
 | 0,b,p=>by rw[iS];rfl
 | a+1,b,p=>by rw[Nat.succ_add];show Hx mask a b _
theorem Dy (mask):∀n p,(iR mask n p).2=p.2/32^n
 | 0,p=>by rw[iR,xB,Nat.div_one]
 | n+1,p=>by rw[iR,Dy mask n];show p.2/32/32^n=p.2/32^(n+1);rw[Nat.div_div_eq_div_mul,lc,gz 32]
theorem K8:∀n p,p.1<=mask->(iR mask n p).1<=mask
 | 0,_,h=>h
 | n+1,p,_=>K8 n _ (dA<|qS _<|kX mask)
theorem Dz (mask):∀n i,iR mask n (i,0)=(qP (mask+1) n i,0)
 | 0,i=>rfl
 | n+1,i=>by
  have:SetTable.leap mask i 0=((i*5+1)%(mask+1),0):=by unfold SetTable.leap;simp
  rw[iR,this,Dz mask n];rfl
def Hy (hm:mask+1=2^k)(hi:i<=mask)(hp:p<2^64)(q:y<=mask):∃n,n<=mask+13/\(iR mask n (i,p)).1=y:=by
 let d:(iR mask 13 (i,p)).2=0:=by rw[Dy];show Nat.div_eq_of_lt<|a7 hp yk
 let g:=K8 (mask:=mask) 13 (i,p) hi;let(n,hn,e):=aa3 (k:=k) (x:=(iR mask 13 (i,p)).1) (y:=y) yf yf;calc%[0,13+n,yf|?_];rw[Hx,show iR mask 13 (i,p)=((iR mask 13 (i,p)).1,0) from wf rb d,Dz,hm];show e
def stp (t:Ō):ı->SetTable.Probe->SetTable.Probe
 | 0,p=>p
 | s+1,p=>stp t s (t.advance p)
theorem vO (t):∀a b p,stp t (a+b) p=stp t b (stp t a p)
 | 0,b,p=>by rw[iS];rfl
 | a+1,b,p=>by rw[Nat.succ_add];show vO t a b _
def lW (t:Ō)(q:ı×ı)(d:ĵ ı):SetTable.Probe:={j:=q.1,more:=SetTable.runEnd t.ç q.1-q.1,i:=q.1,perturb:=q.2,dummy:=d}
def adg (mask i):SetTable.runEnd mask i-i<=9:=by unfold SetTable.runEnd;split <;> simp
theorem FN (t):∀(m:ı) (p:SetTable.Probe),p.more=m->stp t (m+1) p=lW t (SetTable.leap t.ç p.i p.perturb) p.dummy
 | 0,p,h=>by show t.advance p=_;unfold SetTable.advance lW;rw[ķ yf]
 | m+1,p,h=>by
  show stp t (m+1) (t.advance p)=_;let e:t.advance p={p with j:=p.j+1,more:=p.more-1}:=by unfold SetTable.advance;rw[Ĺ yf]
  rw[e];show FN t m _ (by show p.more-1=m;show gN yf)
theorem Hz (t)(d):∀(n:ı) (q:ı×ı),∃s,s<=10*n/\stp t s (lW t q d)=lW t (iR t.ç n q) d
 | 0,q=>%[0,0,ai _|rb]
 | n+1,q=>by let h1:=FN t _ (lW t q d) rfl;let(s,hs,e):=Hz t d n (SetTable.leap t.ç q.1 q.2);let hr:(lW t q d).more<=9:=adg t.ç q.1;calc%[0,(lW t q d).more+1+s,yf|?_];rw[vO,h1];show e
def V6 (t:Ō)(h):t.ý h=lW t (SetTable.bits h%(t.ç+1),SetTable.bits h) Ĵ:=rfl
def P_ (h):SetTable.bits h<2^64:=by
 unfold SetTable.bits;let h1:=i8 h (show (2^64:Ŀ)≠0 by decide);let d:=f6 h (show (0:Ŀ)<2^64 by decide);let q:=Int.toNat_of_nonneg h1;let g:(((2:ı)^64:ı):Ŀ)=(2^64:Ŀ):=by decide
 simp_all
def aa4 {t:Ō}(hm:t.ç+1=2^k)(h)(d:y<=t.ç):∃s,s<=10*(t.ç+13)/\(stp t s<|t.ý h).j=y:=by let(n,hn,e):=Hy (i:=SetTable.bits h%(t.ç+1)) (p:=SetTable.bits h) hm (dA<|qS _<|kX _) (P_ h) d;let(s,hs,es):=Hz t Ĵ n (SetTable.bits h%(t.ç+1),SetTable.bits h);calc%[0,s,yf|?_];rw[V6,es];show e
def HF (t:Ō)(p:SetTable.Probe):(t.advance p).dummy=p.dummy:=by unfold SetTable.advance;split <;> rfl
theorem Qa (t : Ō)(hs : ı -> Ŀ)(h)(hd : ∀j, t.slot j ≠ .dummy) : ∀(d : ı) (p : SetTable.Probe), p.dummy = Ĵ -> (∃s, s<d /\ t.slot (stp t s p).j = .empty) ->
    ∃s, s<d /\ (∀s', s'<s -> ∃i, t.slot (stp t s' p).j = .live i /\ hs i ≠ h) /\
      ((t.slot (stp t s p).j = .empty /\ SetTable.probe.go t hs h d p = į (.empty (stp t s p).j Ĵ)) \/
       ∃i, t.slot (stp t s p).j = .live i /\ hs i = h /\ SetTable.probe.go t hs h d p = į (.candidate (stp t s p).j i<|stp t (s+1) p))
  | 0, _, _, ⟨_, h, _⟩ => ŀ h (lh _)
  | d+1, p, hp, ⟨s, hs1, hs2⟩ => by
    cases e : t.slot p.j with
    | empty => show%[2,0, kX _, λs' z => ŀ z<|lh _| .Â %[e| by unfold SetTable.probe.go; rw[e, hp]; rfl]]
    | dummy => show ŀ e<|hd _
    | live i =>
      by_cases hh : hs i = h
      · refine%[2,0, kX _, λs' z => ŀ z<|lh _| .Ò %[2,i, e, hh| ?_]]
        unfold SetTable.probe.go;rw[e];simp only[hh, beq_self_eq_true, if_true];rfl
      · have hne : s ≠ 0 := by
          rintro rfl;have : t.slot p.j = .empty := hs2;rw[e]at this; cases this
        obtain⟨s1, rfl⟩ : ∃s1, s = s1+1 := %[s-1| by lia]
        obtain⟨r, hr, q, g⟩ := Qa t hs h hd d (t.advance p) (by rw[HF]; show hp) %[0,s1, dA hs1| hs2];have eg : SetTable.probe.go t hs h (d+1) p = SetTable.probe.go t hs h d (t.advance p) := by
          conv => lhs; unfold SetTable.probe.go
          rw[e];simp[hh]
        refine%[2,r+1, tN hr, λs' z => ?_| ?_]
        · cases s' with| zero => show%[0,i, e| hh]| succ s' => show q s' yf
        · rw[eg]
          show g
def yj (xs:İ ı):Prop:=xs.Ã (λa b=>a<b)
def yj.at_ {xs:İ ı}(h:yj xs){i j a b:ı}(d:i<j)(ha:xs[i]?=į a)(q:xs[j]?=į b):a<b:=by let(h1,g):=al.mp ha;let(D,B):=al.mp q;have:=fS.mp h i j h1 D d;rw[g,B]at this;show this
structure Blw (xs:İ ı)(j k:ı):Prop where
 le:k<=xs.v
 lo:∀(i a:ı),i<k->xs[i]?=į a->a<j
 hi:∀(i a:ı),k<=i->xs[i]?=į a->j<=a
theorem B_ {xs:ł ı}{j:ı}(hs:yj xs.I):∀(d lo hi:ı),lo<=hi->hi<=xs.E->hi-lo<=d->(∀(i a:ı),i<lo->xs.I[i]?=į a->a<j)->(∀(i a:ı),hi<=i->xs.I[i]?=į a->j<=a)->Blw xs.I j (SetTable.ĕ.go xs j d lo hi)
 | 0,lo,hi,h1,h2,h3,h4,h5=>by
  have:lo=hi:=by rw[cE]at *;lia
  subst this;unfold SetTable.below.go;show%[by simpa using h2,h4|h5]
 | d+1,lo,hi,h1,h2,h3,h4,h5=>by
  unfold SetTable.below.go;by_cases z:lo<hi
  .rw[Ĺ z];let hm:(lo+hi)/2<xs.E:=q0 yf;let q:xs.I[(lo+hi)/2]?=į (xs.Î ((lo+hi)/2) j):=by
    rw[ci,b5 hm,gu,b5 hm];rfl
   by_cases c:xs.Î ((lo+hi)/2) j<j
   .simp only[c,if_true];calc B_ hs d _ _ (q0 yf) h2 (by simp_all;lia) (λi a g ha=>?_) h5;rcases dE i ((lo+hi)/2) with y|y;.have:=hs.ą y ha q;show my this c
    .have:i=(lo+hi)/2:=by lia
     rw[this,q]at ha;cases ha;show c
   .simp only[c,if_false];calc B_ hs d _ _ yf (ay hm) (by simp_all;lia) h4 λi a g ha=>?_;rcases dE ((lo+hi)/2) i with y|y;.have:=hs.ą y q ha;lia
    .have:i=(lo+hi)/2:=mP y g;rw[this,q]at ha;cases ha;show iF c
  .rw[ķ z];have:lo=hi:=by lia
   subst this;show%[by simpa using h2,h4|h5]
def Ca {xs:ł ı}(hs:yj xs.I)(j):Blw xs.I j (SetTable.ĕ xs j):=
 B_ hs xs.E 0 xs.E (bE _) (ai _) yf (λi a h=>ŀ h<|lh _) (λi a h ha=>by have:=(al.mp ha).1;rw[bn]at this;lia)
def jG {t:Ō}(hs:yj t.Ú.I):t.slot j=.live i↔t.Ú.I[i]?=į j:=by
 let B:=Ca hs j;constructor
 .intro h;unfold SetTable.slot at h;dsimp only at h;split at h
  .rename_i e;cases h;rw[ci];show eq_of_beq e
  .split at h <;> cases h
 .intro h;let hi:SetTable.ĕ t.Ú j=i:=by
   rcases lT (SetTable.ĕ t.Ú j) i with z|z|z
   .let(d,_):=al.mp h;obtain⟨a,ha⟩:∃a,t.Ú.I[SetTable.ĕ t.Ú j]?=į a:=%[_|ae<|my z d]
    let h1:=B.hi _ a (ai _) ha;let g:=hs.ą z ha h;lia
   .show z
   .have:=B.lo i j z h;lia
  unfold SetTable.slot;dsimp only;rw[hi,<-ci,h];simp
def wX {t:Ō}(hs:yj t.Ú.I)(hd:t.dummies=#[]):t.slot j=.empty↔j∉t.Ú.I:=by
 constructor
 .intro h hm;let(i,hi):=g6 hm;rw[(jG hs).Ù hi]at h;cases h
 .intro h;cases e:t.slot j with
  | empty=>rfl
  | live i=>show ŀ (ax<|(jG hs).mp e) h
  | dummy=>
   exfalso;unfold SetTable.slot at e;dsimp only at e;split at e;.cases e
   .split at e
    .rename_i z;unfold SetTable.has at z;rw[hd]at z;simp at z
    .cases e
def S_ {t:Ō}(hs:yj t.Ú.I)(hd:t.dummies=#[])(j):t.slot j≠.dummy:=by
 intro e;by_cases h:j∈t.Ú.I
 .let(i,hi):=g6 h;rw[(jG hs).Ù hi]at e;cases e
 .rw[(wX hs hd).Ù h]at e;cases e
def YK {t t':Ō}(h:t.ç=t'.ç)(p:SetTable.Probe):t.advance p=t'.advance p:=by unfold SetTable.advance;rw[h]
theorem K9 {t t':Ō}(h:t.ç=t'.ç):∀s p,stp t s p=stp t' s p
 | 0,_=>rfl
 | s+1,p=>by rw[stp,stp,YK h,K9 h s]
def Tc {t t':Ō}(h:t.ç=t'.ç)(x):t.ý x=t'.ý x:=by unfold SetTable.probeStart;rw[h]
def fD (t:Ō)(h:Ŀ)(s:ı):ı:=(stp t s<|t.ý h).j
def DG {t t':Ō}(e:t.ç=t'.ç)(h)(s):fD t h s=fD t' h s:=by unfold fD;rw[Tc e,K9 e]
def Way (t:Ō)(pl:İ ı)(h:Ŀ)(j:ı):Prop:=∃s,fD t h s=j/\∀s',s'<s->fD t h s'∈pl
structure jx (t:Ō)(hs:İ Ŀ):Prop where
 uy:yj t.Ú.I
 len:t.Ú.I.v=hs.v
 K_:t.dummies=#[]
 two:∃k,3<=k/\k<=13/\t.ç+1=2^k
 le:∀j∈t.Ú.I,j<=t.ç
 few:hs.v<=t.ç
 way:∀(i j:ı) (h:Ŀ),hs[i]?=į h->t.Ú.I[i]?=į j->Way t t.Ú.I h j
def jQ {I:Type}(xs:ł I)(p)(x:I):(SetTable.insertAt xs p x).I=xs.I.È p++x::xs.I.Í p:=by unfold SetTable.insertAt;simp[vn,r_];show de yi
def kY {I:Type}{l:İ I}{p:ı}{x:I}(hp:p<=l.v){i:ı}{y:I}(h:(l.È p++x::l.Í p)[i]?=į y):(i<p/\l[i]?=į y)\/(i=p/\y=x)\/(p<i/\l[i-1]?=į y):=by
 let d:(l.È p).v=p:=by rw[ba];lia
 rcases lT i p with z|z|z
 .rw[ck (by simp[*]),mI,Ĺ z]at h;show .Â %[z|h]
 .rw[dS (by simp[*]),d,z,mB]at h;show .Ò<|.Â %[z|by simpa using h.symm]
 .rw[dS yf,d,show i-p=(i-p-1)+1 by lia,sQ,fz,show p+(i-p-1)=i-1 by lia]at h;show .Ò<|.Ò %[z|h]
def aa5 (hs:yj xs)(B:Blw xs j p)(hn:j∉xs):yj (xs.È p++j::xs.Í p):=by
 unfold yj;rw[e8,f7];refine%[hs.sublist<|tf p xs,%[λa ha=>?_|hs.sublist<|kq p xs]|λa ha b d=>?_]
 .let(i,hi):=g6 ha;rw[fz]at hi;let h1:=B.hi _ a yf hi;let g:a≠j:=λz=>hn (by rw[<-z];show ax hi);lia
 .let(i,hi):=g6 ha;rw[mI]at hi;split at hi
  .rename_i z;let h1:=B.lo i a z hi;rcases a8.mp d with e|e;.simp_all
   .let(m,hm):=g6 e;rw[fz]at hm;have:=B.hi _ b yf hm;show a7 h1 this
  .cases hi
def Way.mono {t t':Ō}(w:Way t pl h j)(e:t.ç=t'.ç)(hs:∀x∈pl,x∈pl'):Way t' pl' h j:=by let(s,h1,d):=w;show%[0,s,by rw[<-DG e];show h1|λs' z=>by rw[<-DG e];show hs _<|d s' z]
def V7 (t:Ō)(j):(t.put j).1.Ú=SetTable.insertAt t.Ú (SetTable.ĕ t.Ú j) j:=rfl
def jx.put (I:jx t hs)(G:j<=t.ç)(hn:j∉t.Ú.I)(w:Way t t.Ú.I h j)(hf:hs.v+1<=t.ç):jx (t.put j).1 (hs.È (SetTable.ĕ t.Ú j)++h::hs.Í (SetTable.ĕ t.Ú j)):=by
 let B:=Ca I.uy j;let D:(t.put j).1.Ú.I=t.Ú.I.È (SetTable.ĕ t.Ú j)++j::t.Ú.I.Í (SetTable.ĕ t.Ú j):=by rw[V7,jQ]
 let mem:∀x∈t.Ú.I,x∈(t.put j).1.Ú.I:=λx hx=>by
  rw[D];rw[<-cy (SetTable.ĕ t.Ú j) t.Ú.I]at hx;rcases aT.mp hx with z|z;.show nI _ z
  .show dq _<|av _ z
 let q:=B.le;let J:=I.ď;refine%[by rw[D];show aa5 I.uy B hn,?_,?_,I.two,λx hx=>?_,?_|λi y g h1 F=>?_]
 .rw[D];simp only[aE,ba,bv,cp];simp_all
 .show (if SetTable.has t.dummies j=ĳ then _ else t.dummies)=#[];rw[I.K_];simp[SetTable.has]
 .rw[D]at hx;rcases aT.mp hx with z|z;.show I.le x<|dm z
  .rcases a8.mp z with z|z;.rw[z];show G
   .show I.le x<|e9 z
 .simp only[aE,ba,bv,cp];show _<=t.ç;simp_all +arith
 .rw[D]at F;rcases kY (by simp_all) h1 with⟨a,b⟩|⟨a,b⟩|⟨a,b⟩
  .rcases kY q F with⟨c,d⟩|⟨c,d⟩|⟨c,d⟩;.show(I.way i y g b d).Ø rb mem
   .lia
   .lia
  .rcases kY q F with⟨c,d⟩|⟨c,d⟩|⟨c,d⟩;.lia
   .rw[b,d];show w.Ø rb mem
   .lia
  .rcases kY q F with⟨c,d⟩|⟨c,d⟩|⟨c,d⟩;.lia
   .lia
   .show(I.way (i-1) y g b d).Ø rb mem
section
variable {P:ń}{w:ň}{T:Type}[Ŏ T]
def jK (vk:fJ P w T):Prop:=∀{A:ŉ} {E:AB} {s:ļ} {k:T} {v:Ĳ} {Q:ō->ļ->Prop} (n:ı),vk.deep<=n->vk.is s.C k v->Q Ķ s->ĺ (ľ P w) A (ofAClassStatement n v) Q E s
structure DK (vk:fJ P w T)(h:Ň)(es:ł (Ŀ×Ĳ))(ks:İ T):Prop where
 len:ks.v=es.I.v
 at_:∀(i:ı) e k,es.I[i]?=į e->ks[i]?=į k->vk.is h k e.2/\e.1=vk.ü k/\∃b,e.2=.H b
 nd:ks.Ö
def jx.fits {es:ł (Ŀ×Ĳ)}(I:jx t (es.I.L (·.1))):t.fits es.E=ĳ:=by let h1:=I.ď;let d:=I.few;rw[ab,bn]at h1 d;rw[bn]at h1;unfold SetTable.fits SetTable.fill;rw[I.K_];simp;simp_all
def jx.odd (I:jx t hs):t.gaveWay=Ķ:=by
 let(k,d,_,e):=I.two;obtain⟨m,rfl⟩:∃m,k=m+1:=%[k-1|yf]
 rw[lc]at e;unfold SetTable.gaveWay;have:t.ç%2=1:=by lia
 rw[this];rfl
def jx.hole (I:jx t hs)(h):∃s,s<=10*(t.ç+13)/\fD t h s∉t.Ú.I:=by
 let h1:=I.ď;let B:=I.few;have:∃y,y<=t.ç/\y∉t.Ú.I:=by apply ja;intro hn;let g:∀y,y<=t.ç->y∈t.Ú.I:=λy d=>ja λz=>hn %[0,y,d|z];have:=(t7 (n:=t.ç+1)).Ė (l₂:=t.place.toList) λy d=>g y (by have:=b3.mp d;show dA this);rw[cS]at this;lia
 let(y,d,hn):=this;let(k,_,_,e):=I.two;let(s,hs,q):=aa4 e h d;show%[0,s,hs|by unfold fD;rw[q];show hn]
def V9 (t)(h)(s):fD t h s<=t.ç:=by
 let g:∀s p,p.i<=t.ç->p.j+p.more<=t.ç->(stp t s p).j<=t.ç:=by
  intro s
  induction s with
  | zero=>intro p _ h;show p.j<=t.ç;lia
  | succ s ih=>
   intro p h1 q;show (stp t s<|t.advance p).j<=t.ç;unfold SetTable.advance;split;.show ih _ h1 (by show p.j+1+(p.more-1)<=t.ç;lia)
   .let d:(SetTable.leap t.ç p.i p.perturb).1<=t.ç:=dA<|qS _<|kX _;calc ih _ d ?_;show (SetTable.leap t.ç p.i p.perturb).1+(SetTable.runEnd t.ç (SetTable.leap t.ç p.i p.perturb).1-(SetTable.leap t.ç p.i p.perturb).1)<=t.ç;unfold SetTable.runEnd;split <;> simp_all
 let d:SetTable.bits h%(t.ç+1)<=t.ç:=dA<|qS _<|kX _;calc g s (t.ý h) d ?_;show SetTable.bits h%(t.ç+1)+(SetTable.runEnd t.ç (SetTable.bits h%(t.ç+1))-SetTable.bits h%(t.ç+1))<=t.ç;unfold SetTable.runEnd;split <;> simp_all
variable {vk:fJ P w T}{A:ŉ}{E:AB}{s:ļ}
def aa6 (B:vk.deep<=8)(F:jK vk){x:Ĳ}{k:T}(hx:vk.is s.C k x){d:İ Ĳ}(D:∀y∈d,∃k',vk.is s.C k' y){Q:ō->ļ->Prop}(h:Q Ķ s):ĺ (ľ P w) A (searchCouldBeSeen x d) Q E s:=by
 unfold searchCouldBeSeen;calc aa ?_;refine oj _ (λrest r s'=>s'=s/\r=(Ĵ,())/\∀y∈rest,∃k',vk.is s.C k' y) _ ?_ ?_ _ _ %[rb,rb|D]
 .intro y rest r s' z;let(rfl,rfl,hr):=z;let(k',q):=hr y a4;let g:∀z∈rest,∃k',vk.is s'.C k' z:=λz hz=>hr z<|av _ hz;dsimp only
  split
  all_goals
   split;.show ag %[rb,rb|g]
   .calc aa<|vk.quiet 8 B hx ?_;simp only[fN,bq,if_false];calc aa<|vk.quiet 8 B q ?_;simp only[fN,bq,if_false];calc aa<|F 8 B hx ?_;simp only[bq,if_false];calc aa<|F 8 B q ?_;simp only[bq,if_false];show ag %[rb,rb|g]
 .intro r s' z;let(rfl,rfl,_):=z;show ag h
theorem Bf (iT:vk.deep<=8)(nc:jK vk)(hu:A.ß+vk.deep<cLine+1)(ho:s.C.Á a=į o)(hd:o.Ĉ=.ĉ es ep t)(I:jx t (es.I.L (·.1)))(K:DK vk s.C es ks)(hx:vk.is s.C k x)(h1:k∈ks->Q (.there Ĵ) s)(h2:k∉ks->∀j,j<=t.ç->j∉t.Ú.I->Way t t.Ú.I (vk.ü k) j->Q (.Ó j Ķ) s)(he:fD t (vk.ü k) e0∉t.Ú.I)(hel:e0<=10*(t.ç+13)):∀(q r:ı) (B:ĵ SetTable.Probe),e0-r<q->B.Î (t.ý<|vk.ü k)=stp t r (t.ý<|vk.ü k)->(∀r',r'<r->fD t (vk.ü k) r'∈t.Ú.I/\∀i:ı,t.Ú.I[i]?=į (fD t (vk.ü k) r')->ks[i]?≠į k)->
   ĺ (ľ P w) A (setSearchFrom a x (vk.ü k) ĳ q B) Q E s
 | 0,_,_,h,_,_=>ŀ h (lh _)
 | q+1,r,B,hf,DN,hpre=>by
  let hre:r<=e0:=by
   rcases dE e0 r with z|z;.show ŀ (hpre e0 z).1 he
   .show z
  rw[setSearchFrom];calc aa<|fR ho hd I.fits ?_;dsimp only;rw[I.odd];simp only[bq,if_false];rw[DN];let hdm:(stp t r<|t.ý<|vk.ü k).dummy=Ĵ:=by
   have:∀n p,(stp t n p).dummy=p.dummy:=by
    intro n
    induction n with| zero=>intro p;rfl| succ n ih=>intro p;rw[stp,ih,HF]
   rw[this];rfl
  let hw:∀n,(stp t n<|stp t r<|t.ý<|vk.ü k).j=fD t (vk.ü k) (r+n):=λn=>by unfold fD;rw[vO]
  let(n,hn,hall,Z):=Qa t (λi=>(es[i]?.L (·.1)).Î 0) (vk.ü k) (S_ I.uy I.K_) (10*SetTable.turns t.ç) _ hdm %[0,e0-r,by unfold SetTable.turns;show iN yf|by rw[hw,show r+(e0-r)=e0 from ed hre];show(wX I.uy I.K_).Ù he];let Kr:∀m,m<n->∃i:Nat,t.Ú.I[i]?=į (fD t (vk.ü k)<|r+m)/\(es[i]?.L λe:Int×Value=>e.1).Î 0≠vk.ü k:=λm hm=>by let(i,L,e2):=hall m hm;rw[hw]at L;show%[0,i,(jG I.uy).mp L|e2]
  let lZ:t.Ú.I.v=ks.v:=by rw[I.len,ab,K.len]
  let O:∀m,m<r+n->∀i:ı,t.Ú.I[i]?=į (fD t (vk.ü k) m)->ks[i]?≠į k:=λm hm i hi hk=>by
   rcases dE m r with z|z;.show(hpre m z).2 i hi hk
   .let(i',L,e2):=Kr (m-r) (df yf yf);rw[show r+(m-r)=m from ed z]at L;let hii:i=i':=by
     let a1:=(jG I.uy).Ù hi;rw[(jG I.uy).Ù L]at a1;cases a1;rfl
    subst hii;obtain⟨e,hes⟩:∃e,es.I[i]?=į e:=%[_|ae (by rw[<-K.len,<-lZ];show(al.mp hi).1)]
    have:=(K.ą i e k hes hk).2.1;rw[<-ci,hes]at e2;show e2 this
  let cg:∀m,m<r+n->fD t (vk.ü k) m∈t.Ú.I:=λm hm=>by
   rcases dE m r with z|z;.show(hpre m z).1
   .let(i',L,_):=Kr (m-r) yf;rw[show r+(m-r)=m by lia]at L;show ax L
  rw[hw]at Z;rcases Z with⟨F,G⟩|⟨i,F,hhash,G⟩
  .let J:=(wX I.uy I.K_).mp F;split
   .rename_i met D;let d:SetTable.probe.go t (λi=>(es[i]?.L (·.1)).Î 0) (vk.ü k) (10*SetTable.turns t.ç) (stp t r<|t.ý<|vk.ü k)=į met:=D;rw[G]at d;cases d;dsimp only;calc ag<|h2 (λhk=>?_) _ (V9 t _ _) J %[0,r+n,rb|cg];let(i0,hi0):=g6 hk;let M:=(al.mp hi0).1;obtain⟨j0,hj0⟩:∃j,t.Ú.I[i0]?=į j:=%[_|ae (by simp[*])]
    obtain⟨e,hes⟩:∃e,es.I[i0]?=į e:=%[_|ae (by rw[<-K.len];show M)]
    let hh:=(K.ą i0 e k hes hi0).2.1;let(s0,w1,w2):=I.way i0 j0 (vk.ü k) (by rw[a_,hes,<-hh];rfl) hj0;rcases lT s0 (r+n) with z|z|z;.show O s0 z i0 (by rw[w1];show hj0) hi0
    .rw[z]at w1;show J (by rw[w1];show ax hj0)
    .show J<|w2 _ z
   .rename_i D;let d:SetTable.probe.go t (λi=>(es[i]?.L (·.1)).Î 0) (vk.ü k) (10*SetTable.turns t.ç) (stp t r<|t.ý<|vk.ü k)=Ĵ:=by
     cases hq:SetTable.probe.go t (λi=>(es[i]?.L (·.1)).Î 0) (vk.ü k) (10*SetTable.turns t.ç) (stp t r<|t.ý<|vk.ü k) with| none=>rfl| some m=>show ŀ hq<|D m
    rw[G]at d;cases d
  .let N:=(jG I.uy).mp F;let M:=(al.mp N).1;obtain⟨e,hes⟩:∃e,es.I[i]?=į e:=%[_|ae (by rw[<-K.len,<-lZ];show M)]
   obtain⟨k',hk'⟩:∃k',ks[i]?=į k':=%[_|ae (by rw[<-lZ];show M)]
   let(hy,hh,b,hb):=K.ą i e k' hes hk';let Td:es[i]?=į e:=by rw[<-ci];show hes
   split
   .rename_i met D;let d:SetTable.probe.go t (λi=>(es[i]?.L (·.1)).Î 0) (vk.ü k) (10*SetTable.turns t.ç) (stp t r<|t.ý<|vk.ü k)=į met:=D;rw[G]at d;cases d;dsimp only;let hsm:t.sameMemory t.moves t.ç=į ĳ:=by unfold SetTable.sameMemory;simp
    let hr0:r≠e0:=by
     rintro rfl;rcases sn n with z|z
     .rw[z,xA]at N;show he<|ax N
     .let(i',L,_):=Kr 0 z;show he<|ax L
    let Y:∀g:¬k'=k,ĺ (ľ P w) A (setSearchFrom a x (vk.ü k) ĳ q<|į<|stp t (n+1)<|stp t r<|t.ý<|vk.ü k) Q E s:=λg=>
     Bf iT nc hu ho hd I K hx h1 h2 he hel q (r+n+1) _ (by grind) (by rw[xC,<-vO,l_]) λr' hr'=>by
      rcases dE r' (r+n) with z|z;.show%[cg r' z|O r' z]
      .have:r'=r+n:=by lia
       subst this;calc%[ax N|λi2 hi2=>?_];let hii:i=i2:=by let a1:=(jG I.uy).Ù hi2;rw[F]at a1;cases a1;rfl
       rw[<-hii,hk'];show λz=>g<|bo z
    let hst:∀y∈List.L (λx=>x.snd) (Array.û (λx=>x.fst==vk.ü k) es).I,∃k',vk.is s.C k' y:=λy hy=>by
     let(e',he',rfl):=a5.mp hy;let hm:e'∈es.I:=by have:=qB.mp he';rw[Array.mem_filter]at this;show qB.Ù this.1
     let(i3,hi3):=g6 hm;obtain⟨k3,hk3⟩:∃k3,ks[i3]?=į k3:=%[_|ae (by rw[K.len];show(al.mp hi3).1)]
     show%[k3|(K.ą i3 e' k3 hi3 hk3).1]
    let(eh,ev):=e;let hb:ev=.H b:=hb;subst hb;cases hl:t.led
    .simp only[mw,if_true];calc aa<|aa6 iT nc hx hst ?_;simp only[bq,if_false];rw[Td];dsimp only;calc aa<|dL<|vk.eqBool hu hy hx ?_;calc aa<|fR ho hd I.fits ?_;dsimp only;by_cases g:k'=k
     .rw[aS g];show ag<|h1<|g ▸ ax hk'
     .rw[aw g];simp only[ml,bq,if_false];rw[hsm];simp only[if_true];rw[F];dsimp only;rw[Td];dsimp only;calc aa<|wpAny_isSame_ref_self ?_;show aa<|ag<|Y g
    .simp only[fN,bq,if_false];rw[Td];dsimp only;calc aa<|dL<|vk.eqBool hu hy hx ?_;calc aa<|fR ho hd I.fits ?_;dsimp only;by_cases g:k'=k
     .rw[aS g];show ag<|h1<|g ▸ ax hk'
     .rw[aw g];simp only[ml,bq,if_false];rw[hsm];simp only[if_true];rw[F];dsimp only;rw[Td];dsimp only;calc aa<|wpAny_isSame_ref_self ?_;show aa<|ag<|Y g
   .rename_i D;let d:SetTable.probe.go t (λi=>(es[i]?.L (·.1)).Î 0) (vk.ü k) (10*SetTable.turns t.ç) (stp t r<|t.ý<|vk.ü k)=Ĵ:=by
     cases hq:SetTable.probe.go t (λi=>(es[i]?.L (·.1)).Î 0) (vk.ü k) (10*SetTable.turns t.ç) (stp t r<|t.ý<|vk.ü k) with| none=>rfl| some m=>show ŀ hq<|D m
    rw[G]at d;cases d
end
def tM (mask:ı):Ō:={mask:=mask,place:=#[],dummies:=#[],finger:=0,led:=Ķ,moves:=0,plain:=Ķ}
def Taken (ow:ł (ĵ ı))(j:ı):Prop:=(ow.Î j<|į 0).isNone=Ķ
def adh (t:Ō)(d):∀(q:ı×ı) (m:ı),m<=SetTable.runEnd t.ç q.1-q.1->(stp t m<|lW t q d).j=q.1+m:=by
 intro q m hm;let g:∀(m:ı) (p:SetTable.Probe),m<=p.more->(stp t m p).j=p.j+m:=by
  intro m
  induction m with
  | zero=>intro p _;rfl
  | succ m ih=>
   intro p h;show (stp t m<|t.advance p).j=_;let e:t.advance p={p with j:=p.j+1,more:=p.more-1}:=by unfold SetTable.advance;rw[Ĺ yf]
   rw[e,ih _ (by show m<=p.more-1;show xk h)];show p.j+1+m=p.j+(m+1)
   lia
 show g m (lW t q d) hm
theorem HJ (mask)(ow):∀(d:ı) (q:ı×ı),(∃n,n<d/\¬Taken ow (iR mask n q).1)->
  ∃s,SetTable.layClean.Ó mask ow d q.1 q.2=į (stp (tM mask) s<|lW (tM mask) q Ĵ).j/\¬Taken ow (stp (tM mask) s<|lW (tM mask) q Ĵ).j/\∀s',s'<s->Taken ow (stp (tM mask) s'<|lW (tM mask) q Ĵ).j
 | 0,_,⟨_,h,_⟩=>ŀ h (lh _)
 | d+1,q,⟨n,hn,hfree⟩=>by
  let L:=adh (tM mask) Ĵ q;cases e:(List.å<|SetTable.runEnd mask q.1+1-q.1).find? λk=>(ow.Î (q.1+k)<|į 0).isNone with
  | some k=>
   let h1:=List.find?_some e;let N:=b3.mp<|List.mem_of_find?_eq_some e;let hk:k<=SetTable.runEnd mask q.1-q.1:=fo yf;refine%[2,k,?_,?_|λs' G=>?_]
   .unfold SetTable.layClean.free;rw[e,L k hk]
   .rw[L k hk];unfold Taken;rw[h1];decide
   .rw[L s' (ap (ay G) hk)];let(as,bs,el,B):=(List.find?_eq_some_iff_append.mp e).2;let hm:s'∈as:=by
     have:(List.å<|SetTable.runEnd mask q.1+1-q.1)[s']?=į s':=ie<|my G N;let D:(List.å<|SetTable.runEnd mask q.1+1-q.1)[as.v]?=į k:=by rw[el,dS (ai _),mB];rfl
     let O:as.v<SetTable.runEnd mask q.1+1-q.1:=by have:=(al.mp D).1;rwa [cS]at this
     rw[ie O]at D;let Y:as.v=k:=bo D;rw[el,ck (by simp_all)]at this;show ax this
    have:=B s' hm;unfold Taken;simpa using this
  | none=>
   let B:=List.find?_eq_none.mp e;let htk:∀m,m<=SetTable.runEnd mask q.1-q.1->q.1<=SetTable.runEnd mask q.1->Taken ow (q.1+m):=λm hm F=>by have:=B m<|b3.Ù<|Nat.lt_sub_of_add_lt yf;unfold Taken;show tj.Ù this
   let F:q.1<=SetTable.runEnd mask q.1:=by unfold SetTable.runEnd;split <;> lia
   let Z:n≠0:=by rintro rfl;show hfree<|htk 0 (bE _) F
   obtain⟨M,rfl⟩:∃M,n=M+1:=%[n-1|yf]
   let(s,h1,N,h3):=HJ mask ow d (SetTable.leap mask q.1 q.2) %[0,M,dA hn|hfree];let J:=FN (tM mask) _ (lW (tM mask) q Ĵ) rfl;let g:∀m,stp (tM mask) ((lW (tM mask) q Ĵ).more+1+m) (lW (tM mask) q Ĵ)=stp (tM mask) m (lW (tM mask) (SetTable.leap mask q.1 q.2) Ĵ):=λm=>by rw[vO,J];rfl
   refine%[2,(lW (tM mask) q Ĵ).more+1+s,?_,?_|λs' G=>?_]
   .rw[g,<-h1]
    conv=>lhs;unfold SetTable.layClean.free
    rw[e]
   .rw[g];show N
   .rcases dE s' ((lW (tM mask) q Ĵ).more+1) with z|z
    .let hm:s'<=SetTable.runEnd mask q.1-q.1:=dA z;rw[L s' hm];show htk s' hm F
    .obtain⟨m,rfl⟩:∃m,s'=(lW (tM mask) q Ĵ).more+1+m:=%[s'-((lW (tM mask) q Ĵ).more+1)|by simp_all]
     rw[g];show h3 m (by simp_all)
structure Own (mask:ı)(hs:İ Ŀ)(ow:ł (ĵ ı))(pos:ı->ı):Prop where
 size:ow.E=mask+1
 le:∀i,i<hs.v->pos i<=mask
 at_:∀i,i<hs.v->ow[pos i]?=į (į i)
 only:∀j i:ı,ow[j]?=į (į i)->i<hs.v/\j=pos i
 way:∀(i:ı) h,hs[i]?=į h->∃s,fD (tM mask) h s=pos i/\∀s',s'<s->∃i',i'<hs.v/\fD (tM mask) h s'=pos i'
def zc {ow:ł (ĵ ı)}(d:j<ow.E):Taken ow j↔∃i,ow[j]?=į (į i):=by
 unfold Taken;rw[gu,b5 d,xC];cases ow[j] with| none=>simp| some i=>simp
def Own.step (O:Own mask hs ow pos)(hm:mask+1=2^k)(hf:hs.v<=mask)(h):∃j,SetTable.layClean.Ó mask ow (SetTable.turns mask) (SetTable.bits h%(mask+1)) (SetTable.bits h)=į j/\Own mask (hs++[h]) (ow.í j<|some hs.v) λi=>if i=hs.v then j else pos i:=by
 let hinj:∀a b,a<hs.v->b<hs.v->pos a=pos b->a=b:=λa b ha hb e=>by let h1:=O.ą a ha;rw[e,O.ą b hb]at h1;show(bo<|bo h1).Ð
 obtain⟨y,G,hny⟩:∃y,y<=mask/\∀i,i<hs.v->pos i≠y:=by apply ja;intro hn;let J:∀y,y<=mask->y∈(List.å hs.v).L pos:=λy G=>ja λz=>hn %[0,y,G|λi hi e=>z<|a5.Ù %[0,i,b3.Ù hi|e]];have:=(t7 (n:=mask+1)).Ė (l₂:=(List.å hs.v).L pos) λy G=>J y (by have:=b3.mp G;show dA this);rw[cS,ab,cS]at this;lia
 let L:SetTable.bits h%(mask+1)<=mask:=dA<|qS _<|kX _;let(n,hn,en):=Hy hm L (P_ h) G;let hsz:=O.E;let(s,e1,e2,e3):=HJ mask ow (SetTable.turns mask) (SetTable.bits h%(mask+1),SetTable.bits h) %[0,n,by unfold SetTable.turns;lia|λz=>by rw[en,zc yf]at z;let(i,hi):=z;let(h1,h2):=O.only y i hi;show hny i h1 h2.Ð]
 let zf:∀m,(stp (tM mask) m<|lW (tM mask) (SetTable.bits h%(mask+1),SetTable.bits h) none).j=fD (tM mask) h m:=λm=>rfl;rw[zf]at e1 e2;calc%[0,_,e1|?_];let hjl:fD (tM mask) h s<=mask:=by apply ja;intro z;apply e2;unfold Taken;rw[gu,o0 yf];rfl
 let F:∀i,i<hs.v->pos i≠fD (tM mask) h s:=λi hi e=>e2<|(zc yf).Ù %[i|by rw[<-e];show O.ą i hi];generalize hj:fD (tM mask) h s=j at *
 let q:∀m:ı,(ow.í j<|some hs.v)[m]?=if j=m then some (some hs.v) else ow[m]?:=λm=>by
  rw[Array.getElem?_setIfInBounds];split
  .rename_i z;simp;lia
  .rfl
 refine%[by rw[Array.size_setIfInBounds];show hsz,λi hi=>?_,λi hi=>?_,λm i d=>?_|λi g B=>?_]
 .split;.show hjl
  .show O.le i (by rw[aE]at hi;simp at hi;lia)
 .rw[aE]at hi;simp at hi;rw[q];by_cases z:i=hs.v;.rw[Ĺ z,Ĺ rb,z]
  .rw[ķ z,ķ λy=>F i yf y.Ð];show O.ą i yf
 .rw[q]at d;rw[aE];simp only[bv,kr];split at d
  .rename_i z;have:hs.v=i:=by simpa using d
   subst this;show%[eW _|by rw[Ĺ rb,z]]
  .let(h1,h2):=O.only m i d;show%[fh h1|by rw[ķ (bb h1)];show h2]
 .rcases dE i hs.v with z|z
  .rw[ck z]at B;let(s2,w1,w2):=O.way i g B;calc%[0,s2,by rw[ķ yf];show w1|λs' D=>?_];let(i',a1,M):=w2 s' D;show%[0,i',by rw[aE];simp;show fh a1|by rw[ķ yf];show M]
  .let Z:i=hs.v:=by
    have:=(al.mp B).1;rw[aE]at this;simp at this;lia
   subst Z;rw[dS (ai _),mB]at B;let B:h=g:=by simpa using B
   subst B;calc%[0,s,by rw[Ĺ rfl];show hj|λs' D=>?_];let ht:=e3 s' D;rw[zf]at ht;let N:fD (tM mask) h s'<ow.E:=by
    have:fD (tM mask) h s'<=mask:=V9 (tM mask) h s'
    (simp[xN];lia)
   let(i',Y):=(zc N).mp ht;let(a1,M):=O.only _ i' Y;show%[0,i',by rw[aE];simp;lia|by rw[ķ yf];show M]
def Te (mask:ı)(d:ĵ (ł (ĵ ı)×ı))(h:Ŀ):ĵ (ł (ĵ ı)×ı):=do
 let (owner,k) <- d
 let j <- SetTable.layClean.Ó mask owner (SetTable.turns mask) (SetTable.bits h%(mask+1)) (SetTable.bits h)
 pure (owner.í j<|į k,k+1)
theorem La (hm:mask+1=2^k):∀(hs pre:İ Ŀ) (ow:ł (ĵ ı)) (pos:ı->ı),Own mask pre ow pos->pre.v+hs.v<=mask->
  ∃d pos',hs.ć (Te mask) (į (ow,pre.v))=į (d,(pre++hs).v)/\Own mask (pre++hs) d pos'
 | [],pre,ow,pos,O,_=>%[3,ow,pos,yi|by rw[gy];show O]
 | h::hs,pre,ow,pos,O,hl=>by
  rw[bv]at hl;let(j,e,O'):=O.step hm yf h;let es:Te mask (į (ow,pre.v)) h=į (ow.í j<|į pre.v,(pre++[h]).v):=by unfold Te;simp[e]
  let(d,pos',q,g):=La hm hs (pre++[h]) _ _ O' (by rw[aE];simp;lia);calc%[3,d,pos',?_|?_];.rw[rS,es,q];simp
  .rw[bz]at g;show g
def aa7 (mask):Own mask [] (Array.É (mask+1) Ĵ) λ_=>0:=by calc%[yi,λi h=>by simp at h,λi h=>by simp at h,λj i h=>?_|λi h e=>by simp at e];rw[Array.getElem?_replicate]at h;split at h <;> simp at h
def N8 (hm:mask+1=2^k)(hs:ł Ŀ)(d:hs.E<=mask):∃ow pos,SetTable.layClean mask hs=į ow/\Own mask hs.I ow pos:=by
 let(ow,pos,e,O):=La hm hs.I [] _ _ (aa7 mask) (by simpa using d);calc%[3,ow,pos,?_|by simpa using O];have:SetTable.layClean mask hs=(hs.I.ć (Te mask)<|į (Array.É (mask+1) Ĵ,0)).L (·.1):=by rw[Array.foldl_toList];rfl
 rw[this,show (0:ı)=([]:İ Ŀ).v from rb,e];rfl
def j9 (mask:ı)(ow:ł (ĵ ı)):İ (ı×ı):=(List.å<|mask+1).ø λj=>(ow.Î j Ĵ).L (j,·)
def nJ (O:Own mask hs ow pos):(j,i)∈j9 mask ow↔i<hs.v/\j=pos i:=by
 unfold j9;rw[mx];constructor
 .intro z;let(j',d,e):=z;let g:j'<ow.E:=by rw[O.size];show b3.mp d
  rw[gu,b5 g,xC]at e;cases hx:ow[j'] with
  | none=>rw[hx]at e;cases e
  | some x=>rw[hx]at e;let e:(j',x)=(j,i):=bo e;cases e;show O.only j i (by rw[b5 g,hx])
 .rintro⟨hi,rfl⟩;calc%[0,pos i,b3.Ù<|xl<|O.le i hi|?_];rw[gu,O.ą i hi];rfl
def Lb (mask)(ow):yj ((j9 mask ow).L (·.1)):=by
 let g:∀l:İ ı,l.Ã (λa b=>a<b)->((l.ø λj=>(ow.Î j Ĵ).L (j,·)).L (·.1)).Sublist l:=by
  intro l _
  induction l with
  | nil=>show .slnil
  | cons j l d=>
   rename_i q;let d:=d (f7.mp q).2;rw[mf];cases ow.Î j Ĵ with| none=>show d.á _| some x=>show d.cons_cons _
 show List.pairwise_lt_range.sublist<|g _ List.pairwise_lt_range
def V_ (O:Own mask hs ow pos):((j9 mask ow).L (·.2)).ò (List.å hs.v):=by
 let d:((j9 mask ow).L (·.1)).Ö:=(Lb mask ow).imp λh=>bb h;let N:((j9 mask ow).L (·.2)).Ö:=by calc e_.Ù<|(e_.mp d).imp_of_mem λ{a b} ha hb hne e=>hne ?_;let(_,h1):=(nJ O (j:=a.1) (i:=a.2)).mp ha;let(_,g):=(nJ O (j:=b.1) (i:=b.2)).mp hb;rw[h1,g,e]
 calc(xa N t7).Ù λi=>?_;rw[a5,b3];constructor
 .rintro⟨⟨j,i'⟩,hm,rfl⟩;show((nJ O).mp hm).1
 .intro hi;show%[0,(pos i,i),(nJ O).Ù %[hi|rb]|rb]
def aa8 (hm:mask+1=2^k)(h3:3<=k)(M:k<=13)(hs:ł Ŀ)(N:hs.E<=mask)(finger moves)(led plain):∃t d,SetTable.ģ mask finger moves led plain hs=į (t,d)/\t.ç=mask/\t.led=led/\t.plain=plain/\d.I.ò (List.å hs.E)/\jx t (d.I.L λi=>hs.I.Î i 0):=by
 let(ow,pos,e,O):=N8 hm hs N;let hsz:hs.I.v=hs.E:=bn;let g:=V_ O;rw[hsz]at g;refine%[23,{mask:=mask,place:=((j9 mask ow).L (·.1)).R,dummies:=#[],finger:=finger,led:=led,moves:=moves,plain:=plain},((j9 mask ow).L (·.2)).R,?_,rb,rb,rb,by simpa using g|?_]
 .unfold SetTable.laid;rw[e];rfl
 .let Z:(j9 mask ow).v=hs.E:=by have:=g.Ę;rwa [ab,cS]at this
  refine%[by simpa using Lb mask ow,yi,rb,%[2,k,h3,M|hm],λj F=>?_,by simpa [Z] using N|λi j h B q=>?_]
  .let F:j∈(j9 mask ow).L (·.1):=by simpa using F
   let((j',i),L,rfl):=a5.mp F;let(D,G):=(nJ O).mp L;show j'<=mask;rw[G];show O.le i D
  .let q:((j9 mask ow).L (·.1))[i]?=į j:=by simpa using q
   let B:(((j9 mask ow).L (·.2)).L λi=>hs.I.Î i 0)[i]?=į h:=by simpa using B
   rw[a_]at q;rw[a_,a_]at B;cases hx:(j9 mask ow)[i]? with
   | none=>rw[hx]at q;cases q
   | some x=>
    rw[hx]at B q;let q:x.1=j:=bo q;let B:hs.I.Î x.2 0=h:=bo B;let(D,G):=(nJ O (j:=x.1) (i:=x.2)).mp (ax hx);let(s,w1,Y):=O.way x.2 h (by rw[<-B,ah,ae D];rfl);refine Way.Ø (t:=tM mask) (pl:=(j9 mask ow).L (·.1)) %[0,s,w1.À<|G.Ð.À q|λs' J=>?_] rb λx hx=>by simpa using hx
    let(i',b1,b2):=Y s' J;rw[b2];show a5.Ù %[0,_,(nJ O).Ù %[b1|rb]|rb]
section
variable {P:ń}{w:ň}{T:Type}[Ŏ T]
def vP (vk:fJ P w T):Prop:=∀{h h':Ň} {k:T} {v:Ĳ} {d:ĸ} {o:Obj},vk.is h k v->h.Á d=į o->(∀its n,o.Ĉ≠.î its n)->Heap.ă d h h'->vk.is h' k v
def Ld (vk:fJ P w T):Prop:=∀{A:ŉ} {E:AB} {s:ļ} {k:T} {v:Ĳ} {Q:ō->ļ->Prop},vk.is s.C k v->Q Ķ s->ĺ (ľ P w) A (hashByValue 8 v) Q E s
variable {vk:fJ P w T}{A:ŉ}{E:AB}{s:ļ}
def jx.aa9 (I:jx t hs):t.ç<=8191:=by let(k,_,h,e):=I.two;have:2^k<=2^13:=Nat.pow_le_pow_right yk h;lia
def Wa (D:vk.deep<=8)(g:jK vk)(G:A.ß+vk.deep<cLine+1)(B:s.C.Á a=į o)(hd:o.Ĉ=.ĉ es ep t)(I:jx t (es.I.L (·.1)))(K:DK vk s.C es ks)(hx:vk.is s.C k x)(h1:k∈ks->Q (.there Ĵ) s)(F:k∉ks->∀j,j<=t.ç->j∉t.Ú.I->Way t t.Ú.I (vk.ü k) j->Q (.Ó j Ķ) s):ĺ (ľ P w) A (setSearch a x (vk.ü k) ĳ) Q E s:=by let(J,d,q):=I.hole (vk.ü k);have:=I.aa9;show Bf D g G B hd I K hx h1 F q d 100000 0 Ĵ yf rb λr' h=>ŀ h<|lh _
def DK.put (K:DK vk h es ks)(kp:∀k v,vk.is h k v->vk.is h' k v)(hx:vk.is h k (.H b))(hn:k∉ks)(hp:p<=es.I.v):DK vk h' (SetTable.insertAt es p (vk.ü k,.H b)) (ks.È p++k::ks.Í p):=by
 let L:=K.ď;refine%[?_,λi e k' h1 G=>?_|?_]
 .rw[jQ];simp only[aE,ba,bv,cp];simp_all
 .rw[jQ]at h1;rcases kY hp h1 with⟨J,q⟩|⟨J,q⟩|⟨J,q⟩
  .rcases kY (by simp_all) G with⟨g,d⟩|⟨g,d⟩|⟨g,d⟩
   .let(F,D,B):=K.ą i e k' q d;show%[kp _ _ F,D|B]
   .lia
   .lia
  .rcases kY yf G with⟨g,d⟩|⟨g,d⟩|⟨g,d⟩;.lia
   .subst q d;show%[kp _ _ hx|%[9,rb,b|rb]]
   .lia
  .rcases kY yf G with⟨g,d⟩|⟨g,d⟩|⟨g,d⟩;.lia
   .lia
   .let(F,D,B):=K.ą (i-1) e k' q d;show%[kp _ _ F,D|B]
 .have:(ks.È p++k::ks.Í p).ò (k::ks):=by
   calc List.perm_middle.À<|.á _ ?_;rw[cy]
  show this.nodup_iff.Ù<|kR.Ù %[hn|K.nd]
def YL (es:ł (Ŀ×Ĳ))(p:ı)(h:Ŀ)(x:Ĳ):(SetTable.insertAt es p (h,x)).I.L (·.1)=(es.I.L (·.1)).È p++h::(es.I.L (·.1)).Í p:=by rw[jQ,b4,bS,List.map_take,List.map_drop]
def jx.flag {t t':Ō}(I:jx t hs)(h1:t'.ç=t.ç)(d:t'.Ú=t.Ú)(B:t'.dummies=t.dummies):jx t' hs:=by calc%[by rw[d];show I.uy,by rw[d];show I.ď,by rw[B];show I.K_,by rw[h1];show I.two,by rw[h1,d];show I.le,by rw[h1];show I.few|λi j h q g=>?_];rw[d]at g ⊢;show(I.way i j h q g).Ø h1.Ð λx hx=>hx
def Six (m:ı):Prop:=m=7\/m=31\/m=127\/m=511\/m=2047\/m=8191
def aa_ (h:Six m):∃k,3<=k/\k<=13/\m+1=2^k:=by
 rcases h with rfl|rfl|rfl|rfl|rfl|rfl;.show%[2,3,yk,yk|rb]
 .show%[2,5,yk,yk|rb]
 .show%[2,7,yk,yk|rb]
 .show%[2,9,yk,yk|rb]
 .show%[2,11,yk,yk|rb]
 .show%[2,13,yk,yk|rb]
def YM (h:Six m)(h1:5*n<3*m)(d:3*m<=5*(n+1))(hn:n+1<=4000):Six (SetTable.sizeAbove (SetTable.grown<|n+1)-1)/\n+1<=SetTable.sizeAbove (SetTable.grown<|n+1)-1/\5*(n+1)<3*(SetTable.sizeAbove (SetTable.grown<|n+1)-1)/\SetTable.sizeAbove (SetTable.grown<|n+1)<=Ľ:=by
 rcases h with rfl|rfl|rfl|rfl|rfl|rfl
 .obtain rfl:n=4:=by lia
  show%[.Ò<|.Â yk,yk,yk|yk]
 .obtain rfl:n=18:=by lia
  show%[.Ò<|.Ò<|.Â yk,yk,yk|yk]
 .obtain rfl:n=76:=by lia
  show%[.Ò<|.Ò<|.Ò<|.Â yk,yk,yk|yk]
 .obtain rfl:n=306:=by lia
  show%[.Ò<|.Ò<|.Ò<|.Ò<|.Â yk,yk,yk|yk]
 .obtain rfl:n=1228:=by lia
  show%[.Ò<|.Ò<|.Ò<|.Ò<|.Ò yk,yk,yk|yk]
 .lia
theorem zj {C:Type}(xs:İ C):∀(l:İ ı),(∀i∈l,i<xs.v)->∀m:ı,(l.ø λi=>xs[i]?)[m]?=(l[m]?).bind λi=>xs[i]?
 | [],_,m=>by simp
 | i::l,h,m=>by
  let hi:=h i a4;rw[mf,ae hi];cases m with| zero=>simp[hi]| succ m=>simpa using zj xs l (λj d=>h j<|av _ d) m
def YQ {C:Type}(xs:İ C):(List.å xs.v).ø (λi=>xs[i]?)=xs:=by
 apply fi;intro m;rw[zj xs _ λi hi=>b3.mp hi];by_cases h:m<xs.v;.rw[ie h];rfl
 .rw[b9 (by simpa using h),b9 (iF h)];rfl
theorem DP {C:Type}(xs:İ C):∀(l:İ ı),(∀i∈l,i<xs.v)->(l.ø λi=>xs[i]?).v=l.v
 | [],_=>rfl
 | i::l,h=>by rw[mf,ae (h i a4),bv,bv,DP xs l λj d=>h j (av _ d)]
def DK.perm (K:DK vk h es ks)(kp:∀k v,vk.is h k v->vk.is h' k v){d:ł ı}(hp:d.I.ò (List.å es.E)):∃B,B.ò ks/\DK vk h' (d.ø (es[·]?)) B/\(d.ø (es[·]?)).E=es.E/\(d.ø (es[·]?)).I.L (·.1)=d.I.L λi=>(es.I.L (·.1)).Î i 0:=by
 let L:=K.ď;let hsz:es.I.v=es.E:=bn;let g:∀i∈d.I,i<es.I.v:=λi hi=>by rw[hsz];show b3.mp<|hp.æ.mp hi
 let D:∀i∈d.I,i<ks.v:=λi hi=>by rw[L];show g i hi
 let F:(d.ø (es[·]?)).I=d.I.ø λi=>es.I[i]?:=by rw[Array.toList_filterMap];congr 1;funext i;rw[ci]
 let M:(d.I.ø λi=>ks[i]?).ò ks:=by have:=hp.ø λi=>ks[i]?;rw[<-hsz,<-L,YQ]at this;show this
 let G:d.I.v=es.E:=by rw[hp.length_eq,cS]
 calc%[7,d.I.ø λi=>ks[i]?,M,%[?_,λi e k q J=>?_|M.nodup_iff.Ù K.nd],?_|?_];.rw[F,DP _ _ g,DP _ _ D]
 .rw[F,zj _ _ g]at q;rw[zj _ _ D]at J;cases hi:d.I[i]? with
  | none=>rw[hi]at q;cases q
  | some m=>rw[hi]at q J;let(Y,O,N):=K.ą m e k q J;show%[kp _ _ Y,O|N]
 .rw[<-bn,F,DP _ _ g,G]
 .rw[F];apply fi;intro i;rw[a_,zj _ _ g,a_];cases hi:d.I[i]? with| none=>rfl| some m=>have hm:=g m<|ax hi;show ((es.I[m]?).L (·.1))=į ((es.I.L (·.1)).Î m 0);rw[ah,a_,ae hm];rfl
end
section
variable {P:ń}{w:ň}{T:Type}[Ŏ T]{vk:fJ P w T}{A:ŉ}{E:AB}{s:ļ}
def qD (vk:fJ P w T)(h:Ň)(a:ĸ)(ks:İ T):Prop:=∃es ep t,SetT w h a es ep t/\jx t (es.I.L (·.1))/\DK vk h es ks/\Six t.ç/\5*es.E<3*t.ç
def YS (I:jx t hs):t.tooFull=Ļ (3*t.ç<=5*hs.v):=by let h1:=I.ď;rw[bn]at h1;unfold SetTable.tooFull SetTable.fill;rw[I.K_,h1];simp[gz]
def YT (iT:vk.deep<=8)(nc:jK vk)(N:vP vk)(hbv:Ld vk)(hu:A.ß+vk.deep<cLine+1)(m:qD vk s.C a ks)(hx:vk.is s.C k (.H b))(hz:ks.v+1<=4000)(q1:k∈ks->Q Ķ s)(q2:k∉ks->∀h' F,Heap.ă a s.C h'->qD vk h' a F->F.ò (k::ks)->Q ĳ {s with heap:=h' }):ĺ (ľ P w) A (setAddHashed a (.H b)<|vk.ü k) Q E s:=by
 let(es,ep,t,(o,M,hex,hd,hf,hb,hpl),I,K,S6,H5):=m;let hsz:es.I.v=es.E:=bn;let kl:=K.ď;let hds:∀its n,o.Ĉ≠.î its n:=λits n z=>by rw[hd]at z;cases z
 unfold setAddHashed setAddHashedIn;calc dL<|aa<|fR M hd hf ?_;dsimp only;let hbs:byScan (.H b) es=Ķ:=by unfold byScan Value.scannable;rfl
 rw[hbs];simp only[bq,if_false];calc aa<|Wa iT nc hu M hd I K hx (λhk=>ag<|q1 hk) λhk j hj hn hw=>?_;dsimp only;calc aa<|fR M hd hf ?_;dsimp only;let B:=Ca I.uy j;let bV:=I.ď;rw[ab]at bV;let few:=I.few;rw[ab]at few;let hp:SetTable.ĕ t.Ú j<=es.I.v:=by have:=B.le;simp_all
 let mle:7<=t.ç:=by rcases S6 with e|e|e|e|e|e <;> simp_all
 let I1:=I.put hj hn hw (by rw[ab,hsz];lia);let hn1:es.E+1<=4000:=yf;let L:(SetTable.insertAt es (SetTable.ĕ t.Ú j) (vk.ü k,Value.H b)).E=es.E+1:=by rw[<-bn,jQ];simp only[aE,ba,bv,cp];grind
 let q:∀d:Ō,d.ç=t.ç->d.Ú=(t.put j).1.Ú->d.dummies=(t.put j).1.dummies->d.led=t.led->d.plain=Ķ->
   ĺ (ľ P w) A (storeSet a (SetTable.insertAt es (SetTable.ĕ t.Ú j) (vk.ü k,Value.H b)) d >>= λ_=>if (!Ķ&&d.tooFull)=ĳ then (setRelay a (SetTable.grown<|es.E+1) >>= λ_=>pure ĳ) else pure ĳ) Q E s:=by
  intro d c1 c2 c3 c4 c5;let I2:jx d ((SetTable.insertAt es (SetTable.ĕ t.Ú j) (vk.ü k,Value.H b)).I.L (·.1)):=by rw[YL];show I1.flag c1 c2 c3
  calc aa<|rB (w:=w) %[36,o,M,hex,hd,hf,hb|hpl] I2.fits c4 c5 (by rw[L];show es.E+1<4096;lia) λh1 Py m1=>?_;let Lf:∀k v,vk.is s.C k v->vk.is h1 k v:=λk v z=>N z M hds Py;let K2:=K.put Lf hx hk hp;let pm:(ks.È (SetTable.ĕ t.Ú j)++k::ks.Í (SetTable.ĕ t.Ú j)).ò (k::ks):=by calc List.perm_middle.À<|.á _ ?_;rw[cy]
  let aap:=YS I2;rw[ab,bn,L,c1]at aap;rw[aap];by_cases g:3*t.ç<=5*(es.E+1)
  .rw[aS g];simp only[mw,Bool.and_self,if_true];let(g1,g2,g3,g4):=YM S6 H5 g hn1;let(o1,G,afI,hd1,Y,hb1,afJ):=m1;let(kk,k3,k13,ek):=aa_ g1;let Z:((SetTable.insertAt es (SetTable.ĕ t.Ú j) (vk.ü k,Value.H b)).L (·.1)).E=es.E+1:=by rw[Array.size_map,L]
   let(t3,D,el,f1,f2,f3,fp,I3):=aa8 ek k3 k13 ((SetTable.insertAt es (SetTable.ĕ t.Ú j) (vk.ü k,Value.H b)).L (·.1)) (by rw[Z];show g2) d.finger (d.movedTo<|SetTable.sizeAbove (SetTable.grown<|es.E+1)-1) d.led d.plain;let erl:d.relaid ((SetTable.insertAt es (SetTable.ĕ t.Ú j) (vk.ü k,Value.H b)).L (·.1)) (SetTable.grown<|es.E+1)=į (t3,D):=el;calc aa ?_;unfold setRelay;calc aa<|fR (s:={s with heap:=h1}) G hd1 Y ?_;dsimp only;rw[ķ (Nat.not_lt.Ù g4),erl];rw[Z,<-L]at fp;let(_,_,_,J,hh3):=K2.perm (λk v z=>z) fp;rw[t9,<-hh3]at I3;calc aa ?_;show ĺ _ _ (if ((D.ø λi=>(SetTable.insertAt es (SetTable.ĕ t.Ú j) (vk.ü k,Value.H b))[i]?).E != (SetTable.insertAt es (SetTable.ĕ t.Ú j) (vk.ü k,Value.H b)).E)=ĳ then _ else _) _ _ _;rw[J];simp only[bne_self_eq_false,bq,if_false];calc ag ?_;dsimp only;calc rB (w:=w) (s:={s with heap:=h1}) %[36,o1,G,afI,hd1,Y,hb1|afJ] I3.fits f2 (f3.À c5) (by rw[J,L];show es.E+1<4096;lia) λh2 sb2 m2=>?_;let afK:∀its n,o1.Ĉ≠.î its n:=λits n z=>by rw[hd1]at z;cases z
   let(F,pk,K3,_,_):=K2.perm (h':=h2) (λk v z=>N z G afK sb2) fp;show ag<|q2 hk h2 F (Py.À sb2) %[15,_,_,t3,m2,I3,K3,by rw[f1];show g1|by rw[J,L,f1];show g3]<|pk.À pm
  .rw[aw g];simp only[mw,ml,bq,if_false];show ag<|q2 hk h1 _ Py %[15,_,_,d,m1,I2,K2,by rw[c1];show S6|by rw[L,c1];show tP g] pm
 let afL:(t.put j).snd=SetTable.ĕ t.Ú j:=rfl;rw[afL];cases O:(t.put j).1.plain with
 | true=>simp only[if_true];calc aa<|hbv hx ?_;simp only[bq,if_false];show q _ rb rb rb rb rfl
 | false=>
  simp only[bq,if_false]
  first| show q _ rb rb rb rb O| show aa<|ag<|q _ rb rb rb rb O
end
section
variable {P:ń}{w:ň}{I I1 I2:Type}[Ŏ I][Ŏ I1][Ŏ I2]
def abb {s:ļ}(B:s.C.Á a=į o)(D:o.cls=.Ä "tuple")(hd:o.Ĉ=.î its n)(F:∀v∈its.I,∀(Q':ō->ļ->Prop) (E':AB),Q' Ķ s->ĺ (ľ P w) A (ofAClassStatement d v) Q' E' s)(q:Q Ķ s):ĺ (ľ P w) A (ofAClassStatement (d+1)<|.H a) Q E s:=by
 let G:s.Ā (.H a) "tuple":=%[0,o,B|D]
 unfold ofAClassStatement;calc aa<|uA G ?_;simp only[beq_self_eq_true,if_true];calc aa<|ag ?_;simp only[fN,bq,if_false];calc aa<|ik B hd<|aa ?_;show ĺ _ _ (ű its _ _) _ _ s;rw[<-sq];refine oj _ (λrest r s1=>r.1=Ĵ/\s1=s/\∀v∈rest,v∈its.I) _ ?_ ?_ _ _ %[rb,rb|λv hv=>hv]
 .intro v rest r s1 z;let(hr,rfl,g):=z;calc aa<|F v (g v a4) _ _ ?_;simp only[bq,if_false];show ag %[rb,rb|λx hx=>g x<|av _ hx]
 .rintro⟨r1,J⟩ s1 ⟨hr,rfl,_⟩;let hr:r1=Ĵ:=hr;subst hr;show ag q
def abd:jK (ux<|cG P w):=by
 intro A E s k v Q n _ h q;rcases dj (show ji k v=ĳ from h) with⟨i,t,rfl,rfl⟩|⟨x,t,rfl,rfl⟩
 .cases n <;> show ag q
 .cases n <;> show ag q
def Wb {vk:fJ P w I}(g:jK vk):jK (tupK vk):=by
 intro A E s k v Q n hn z q;let(a,J,G,its,rfl,h1,B,F,D):=z;let hn:vk.deep+1<=n:=hn;obtain⟨m,rfl⟩:∃m,n=m+1:=%[n-1|yf]
 calc abb h1 B F (λv hv Q' E' q'=>?_) q;let(k',d):=D.mem hv;show g m (dA hn) d q'
def Wc {h h':Ň}(h1:h.Á a=į o1)(B:o1.Ĉ=.î its n)(q:h.Á d=į o)(hd:∀its n,o.Ĉ≠.î its n)(hs:Heap.ă d h h'):h'.Á a=į o1:=by
 let g:a≠d:=by rintro rfl;rw[h1]at q;cases q;show hd _ _ B
 show(hs.2 a g).À h1
def abe:vP (ux<|cG P w):=λh _ _ _=>h
def YW {vk:fJ P w I}(q:vP vk){h h':Ň}{d:ĸ}{o:Obj}(g:h.Á d=į o)(hd:∀its n,o.Ĉ≠.î its n)(hs:Heap.ă d h h'):∀{x:İ I} {vs:İ Ĳ},mQ vk h x vs->mQ vk h' x vs:=by
 intro x vs a
 induction x generalizing vs with
 | nil=>cases vs;trivial;cases a
 | cons p x ih=>
  cases vs with
  | nil=>cases a
  | cons v vs=>show%[q a.1 g hd hs|ih a.2]
def Wd {vk:fJ P w I}(D:vP vk):vP (tupK vk):=by intro h h' k v d o z g hd hs;let(a,F,n,its,rfl,h1,B,q,G):=z;show%[5,a,F,n,its,rb,Wc h1 q g hd hs,B,q|YW D g hd hs G]
def Tf (vk:fJ P w I)(p:I->Prop):fJ P w I where
 is:=λh k v=>vk.is h k v/\p k
 hash:=vk.ü
 draws:=vk.draws
 deep:=vk.deep
 inj:=λh1 d=>vk.inj h1.1 d.1
 keeps:=λh B hd hs=>%[vk.keeps h.1 B hd hs|h.2]
 pyHash:=λg h q=>vk.pyHash g h.1 q
 eqBool:=λg h1 d q=>vk.eqBool g h1.1 d.1 q
 quiet:=λn hn h q=>vk.quiet n hn h.1 q
def adi {vk:fJ P w I}{p:I->Prop}(d:jK vk):jK (Tf vk p):=λn hn h q=>d n hn h.1 q
def adk {vk:fJ P w I}{p:I->Prop}(g:vP vk):vP (Tf vk p):=λh d hd hs=>%[g h.1 d hd hs|h.2]
end
abbrev Lg:=İ (İ Key)
def aeG (k:Lg):Prop:=k≠[]/\∀t∈k,∃(i j:Int) (x:Str),t=[Sum.Â i,Sum.Â j,Sum.Ò x]
def FP (P:ń)(w:ň):fJ P w Lg:=Tf (tupK<|tupK<|ux<|cG P w) aeG
section
variable {P:ń}{w:ň}
def adl:jK (FP P w):=adi (Wb<|Wb abd)
def adn:vP (FP P w):=adk (Wd<|Wd abe)
def Qc {s:ļ}(D:s.C.Á a=į o)(F:o.cls=.Ä "tuple")(hd:o.Ĉ=.î its n)(G:its.I=pre++v::post)(B:∀x∈pre,∀(Q':ō->ļ->Prop) (E':AB),Q' ĳ s->ĺ (ľ P w) A (hashByValue d x) Q' E' s)(hv:∀(Q':ō->ļ->Prop) (E':AB),Q' Ķ s->ĺ (ľ P w) A (hashByValue d v) Q' E' s)(q:Q Ķ s):ĺ (ľ P w) A (hashByValue (d+1)<|.H a) Q E s:=by
 let J:s.Ā (.H a) "tuple":=%[0,o,D|F]
 unfold hashByValue;calc aa<|i7 J qf.Å ?_;dsimp only;calc aa<|ik D hd<|aa ?_;show ĺ _ _ (ű its _ _) _ _ s;rw[<-sq,G];refine oj _ (λrest r s1=>r.1=Ĵ/\s1=s/\∃p2,rest=p2++v::post/\∀x∈p2,x∈pre) _ ?_ ?_ _ _ %[20,rb,rb,pre,rb|λx hx=>hx]
 .intro x rest r s1 z;let(hr,rfl,p2,e,g):=z;cases p2 with
  | nil=>have e:x::rest=v::post:=e;cases e;calc aa<|hv _ _ ?_;simp only[mw,if_true];show ag<|ag q
  | cons y p2=>have e:x::rest=y::(p2++v::post):=e;cases e;calc aa<|B _ (g _ a4) _ _ ?_;simp only[fN,bq,if_false];show ag %[20,rb,rb,p2,rb|λz hz=>g z<|av _ hz]
 .intro r s1 z;let(_,rfl,p2,e,_):=z;cases p2 <;> cases e
def abf:Ld (FP P w):=by
 rintro A E s k v Q ⟨⟨a,o,n,its,rfl,h1,hc,h2,M⟩,Y,J⟩ q;cases k with
 | nil=>show ŀ rb Y
 | cons t k=>
  let(i,j,x,rfl):=J t a4;cases hi:its.toList with
  | nil=>rw[hi]at M;show M.ó
  | cons v vs=>
   rw[hi]at M;let((a2,o2,n2,g,rfl,g1,gc,g2,B),_):=M;let B:mQ (ux<|cG P w) s.C [Sum.Â i,Sum.Â j,Sum.Ò x] g.I:=B;obtain⟨D,G,F,N,y1,y2,y3⟩:∃D G F,g.I=[D,G,F]/\ji (Sum.Â i) D=ĳ/\ji (Sum.Â j) G=ĳ/\ji (Sum.Ò x) F=ĳ:=by
    cases N:g.toList with
    | nil=>rw[N]at B;show B.ó
    | cons D r1=>
     rw[N]at B;cases r1 with
     | nil=>show B.2.ó
     | cons G r2=>
      cases r2 with
      | nil=>show B.2.2.ó
      | cons F r3=>
       cases r3 with| nil=>show%[8,D,G,F,rb,B.1,B.2.1|B.2.2.1]| cons u4 r4=>show B.2.2.2.ó
   let L:∀(z:Ŀ) (u:Ĳ),ji (Sum.Â z) u=ĳ->∃t,u=.M z t:=λz u h=>by
    rcases dj h with⟨i',t,e,rfl⟩|⟨x',t,e,rfl⟩;.cases e;show%[t|rb]
    .cases e
   let O:∀(z:ņ) (u:Ĳ),ji (Sum.Ò z) u=ĳ->∃t,u=.X z t:=λz u h=>by
    rcases dj h with⟨i',t,e,rfl⟩|⟨x',t,e,rfl⟩;.cases e
    .cases e;show%[t|rb]
   let(Z,rfl):=L i D y1;let(t2,rfl):=L j G y2;let(t3,rfl):=O x F y3;calc Qc (d:=7) h1 hc h2 (pre:=[]) (v:=.H a2) (post:=vs) hi (λz hz=>by simp at hz) (λQ' E' q'=>?_) q;calc Qc (d:=6) g1 gc g2 (pre:=[.M i Z,.M j t2]) (v:=.X x t3) (post:=[]) N (λz hz Q2 E2 q2=>?_) (λQ2 E2 q2=>ag q2) q';let hz:z=.M i Z\/z=.M j t2:=by simpa using hz
   rcases hz with rfl|rfl;.show ag q2
   .show ag q2
end
def gF (h h':Ň):Prop:=∀b o its n,h.Á b=į o->o.Ĉ=.î its n->h'.Á b=į o
section
variable {P:ń}{w:ň}{T:Type}[Ŏ T]
def vQ (vk:fJ P w T):Prop:=∀{h h':Ň} {k:T} {v:Ĳ},vk.is h k v->gF h h'->vk.is h' k v
def abg:vQ (ux<|cG P w):=λh _=>h
def YX {vk:fJ P w T}(d:vQ vk){h h':Ň}(hs:gF h h'):∀{x:İ T} {vs:İ Ĳ},mQ vk h x vs->mQ vk h' x vs:=by
 intro x vs a
 induction x generalizing vs with
 | nil=>cases vs;trivial;cases a
 | cons p x ih=>
  cases vs with
  | nil=>cases a
  | cons v vs=>show%[d a.1 hs|ih a.2]
def Wf {vk:fJ P w T}(D:vQ vk):vQ (tupK vk):=by intro h h' k v z hs;let(a,g,n,its,rfl,h1,B,d,q):=z;show%[5,a,g,n,its,rb,hs _ _ _ _ h1 d,B,d|YX D hs q]
def adp {vk:fJ P w T}{p:T->Prop}(d:vQ vk):vQ (Tf vk p):=λh hs=>%[d h.1 hs|h.2]
def adq:vQ (FP P w):=adp (Wf<|Wf abg)
def qD.mv {vk:fJ P w T}(d:vQ vk){h h':Ň}{ks:İ T}(m:qD vk h a ks)(k:∀o,h.Á a=į o->h'.Á a=į o)(hs:gF h h'):qD vk h' a ks:=by let(es,ep,t,J,I,K,g,B):=m;show%[15,es,ep,t,J.mv k,I,%[K.ď,λi e k h1 G=>by let(F,D,q):=K.ą i e k h1 G;show%[d F hs,D|q]|K.nd],g|B]
def Tg (vk:fJ P w T){h:Ň}(e:h.Á a=į {cls:=.Ä "set",dict:=Ĵ,data:=.ĉ #[] 0<|.à 0 0<|!w.ã.é "set-order"}):qD vk h a []:=by refine%[15,#[],0,_,⟨36,_,e,%[rb,rb|rb],rb,rb,by cases q:w.ã.é "set-order" <;> simp[SetTable.fresh,q],.Ò rb⟩,%[List.Ã.ê,rb,rb,%[2,3,yk,yk|rb],λj g=>by simp[SetTable.fresh]at g,bE _|λi j h d=>by simp at d],%[rb,λi e k h1=>by simp at h1|qk],.Â rb|(by decide:5*0<3*7)]
end
section
variable {prog:ń}{w:ň}{T:Type}[Ŏ T]{vk:fJ prog w T}{A:ŉ}{I:ĸ}{fp wr:İ ĸ}{n:ı}{P:ı->Ĳ->Prop}{St:ı->Ň->Prop}{R:ų->ļ->Prop}
def Wg (iT:vk.deep<=8)(nc:jK vk)(kt:vQ vk)(kps:vP vk)(hbv:Ld vk)(hu:A.ė.ß+vk.deep<cLine+1)(W:Ų prog w A.ė I fp wr n P St)(S0)(O:S0∉fp)(val:ı->T)(h0)(Y:∀i v,P i v->∃b,v=.H b/\vk.is h0 (val i) v)(hwr:∀(i:ı) (h:Ň) b o its m,St i h->b∈wr->h.Á b=į o->o.Ĉ≠.î its m)(g:n<=3999):∀(k i:ı) (s:ļ),n-i=k->i<=n->St i s.C->gF h0 s.C->(∃ks,ks.v<=i/\(∀x,x∈ks↔x∈(List.å i).L val)/\qD vk s.C S0 ks)->
   (∀h' tk ks,(∀b o,b∉S0::wr->s.C.Á b=į o->h'.Á b=į o)->ks.v<=n->(∀x,x∈ks↔x∈(List.å n).L val)->qD vk h' S0 ks->R (.ok<|.ret .Û) {s with heap:=h',toks:=tk})->
   codeAny (ľ prog w) A (.Ô "set.update.loop" %[[.H S0,.H I]|[]]) R s:=by
 let hSw:S0∉wr:=λh=>O<|W.sub _ h;let sub:∀b,b∉S0::wr->b∉wr:=λb g h=>g<|av _ h;intro k
 induction k with
 | zero=>
  intro i s hk hi B hrs hS hR;let cg:i=n:=by grind
  subst cg;calc gE oz ?_;rw[gL iA _];show ĺ _ A.ė (pyNext (.H I) >>= _) _ _ s;calc aa<|W.done s _ _ B λh' tk hm=>?_;show ĺ _ A.ė (ret Value.Û) _ _ _;let(ks,l1,l2,l3):=hS;let N:gF s.C h':=λb o its m d q=>by
   by_cases z:b∈wr;.show ŀ q<|hwr _ s.C b o its m B z d
   .show hm b o z d
  show ag<|hR h' tk ks (λb o g e=>hm b o (sub b g) e) l1 l2<|l3.mv kt (λo e=>hm S0 o hSw e) N
 | succ k ih=>
  intro i s hk hi B hrs hS hR;let G:i<n:=Nat.lt_of_sub_eq_succ hk;calc gE oz ?_;rw[gL iA _];show ĺ _ A.ė (pyNext (.H I) >>= _) _ _ s;calc aa<|W.item i s _ _ G B λv h1 tk hP D hm=>?_;let(b0,rfl,hv0):=Y i v hP;let(ks,l1,l2,l3):=hS;let M:gF s.C h1:=λb o its m d q=>by
   by_cases z:b∈wr;.show ŀ q<|hwr _ s.C b o its m B z d
   .show hm b o z d
  let L:gF h0 h1:=λb o its m d q=>M b o its m (hrs b o its m d q) q;let m1:=l3.mv kt (λo e=>hm S0 o hSw e) M;let Z:=kt hv0 L;show ĺ _ A.ė (holding [Value.H b0] (setAdd S0<|.H b0) >>= _) _ _ _;calc aa<|dL ?_;unfold setAdd;calc dL ?_;calc aa<|vk.pyHash (s:={s with heap:=h1,toks:=tk}) hu Z ?_;refine YT (s:={s with heap:=h1,toks:=tk+vk.draws (val i)}) iT nc kps hbv hu m1 Z yf (λcg=>?_) λhni h2 ks2 sb m2 pm=>?_
  .refine ag %[plainId_quiet iA _|ih (i+1) _ (gN yf) G D L %[2,ks,du l1,λx=>?_|m1] λh3 J F Dm l4 l5 m3=>?_]
   .rw[f_,b4,aT,<-l2];show%[.Â|λz=>z.ó id λy=>by rw[show x=val i by simpa using y];show cg]
   .show hR h3 J F (λb o g e=>Dm b o g<|hm b o (sub b g) e) l4 l5 m3
  .let st2:gF h1 h2:=λb o its m d q=>by
    by_cases z:b=S0
    .let(_,_,_,(o2,y1,_,y2,_),_):=m1;rw[z,y1]at d;cases d;rw[y2]at q;cases q
    .rw[sb.2 b z];show d
   let rs2:gF h0 h2:=λb o its m d q=>st2 b o its m (L b o its m d q) q;refine ag %[plainId_quiet iA _|ih (i+1) _ yf G (W.frame _ h1 _ D λb g o e=>?_) rs2 %[2,ks2,by rw[pm.length_eq,bv];show e6 l1,λx=>?_|m2] λh3 J F Dm l4 l5 m3=>?_]
   .show h2.Á b=į o;rw[sb.2 b (λh:b=S0=>O (by rw[<-h];show g))];show e
   .rw[pm.mem_iff,a8,l2,f_,b4,aT,bS,kD,am];show Or.comm
   .calc hR h3 J F (λb o g e=>Dm b o g ?_) l4 l5 m3;show h2.Á b=į o;rw[sb.2 b (λh:b=S0=>g (by rw[h];show a4))];show hm b o (sub b g) e
end
section
variable {prog:ń}{w:ň}{I:Type}[Ŏ I]{vk:fJ prog w I}{A:ŉ}{E:AB}{s:ļ}
def Wh (iT:vk.deep<=8)(nc:jK vk)(kt:vQ vk)(Z:vP vk)(N:Ld vk)(hu:A.ß+8+vk.deep<cLine)(hh:A.ï=Ĵ)(M:s.C.IsList l items)(hS:qD vk s.C S0 [])(hne:S0≠l)(hlt:S0<s.n)(g:∀i v,items[i]?=į v->∃b,v=Value.H b/\vk.is s.C (val i) v)(Y:items.E<=3999)(q:∀h' tk ks,(∀b o,b≠S0->s.C.Á b=į o->h'.Á b=į o)->ks.v<=items.E->(∀x,x∈ks↔x∈(List.å items.E).L val)->qD vk h' S0 ks->Q () {s with heap:=h',toks:=tk}):ĺ (ľ prog w) A (Builtin.Frozenset.updateFrom "set.__init__" S0<|.H l) Q E s:=by
 let(ol,J,D,nl,B):=id M;let(ocls,odict,O,G):=ol;simp only at D B;subst D;subst B;let hsls:=F.sub_list_set;let hslf:=F.sub_list_frozenset;let hnd:(Value.Ä "list" == Value.Ä "dict")=Ķ:=by decide
 unfold Builtin.Frozenset.updateFrom;generalize hPI:pyIter=PI
 wp_walk
 subst hPI;calc nE M ?_;calc aa<|vT ?_;let L:l<s.n:=a6 J;let d:l≠s.n:=bb L;let DN:∀ob:Obj,gF s.C (s.C.Ï ob):=λob b o its m e _=>af _ e;refine Wg iT nc kt Z N ?_ (Walks.ğ (by simp[hh]) _ l d items) S0 (by simp only[a8,h8,or_false,not_or];show%[bb hlt|hne]) val s.C g ?_ Y (items.E-0) 0 _ rb (bE _)
  %[%[2,_,aI _ rb,rb|rb]|M.Ï _] (DN _) %[2,[],bE _,λx=>by simp|hS.mv kt (λo e=>af _ e)<|DN _] λh' tk ks k l1 l2 m=>?_
 .show A.ß+1+vk.deep<cLine+1;lia
 .rintro i h b o its m ⟨⟨o2,y1,_,y2⟩,_⟩ hbm e z;rw[am.mp hbm,y1]at e;cases e;rw[y2]at z;cases z
 .calc ag ?_;calc q h' tk ks (λb o Y e=>k b o ?_<|af _ e) l1 l2 m;simp only[a8,h8,or_false,not_or];show%[Y|bb<|a6 e]
end
section
variable {prog:ń}{w:ň}{A:ŉ}{E:AB}{s:ļ}
def Wi {Φ:Ň->Prop}{Q:AB}(Y:A.ï=Ĵ)(M:∀(A':ŉ) (E':AB) (Q':š->ļ->Prop) (h1:Ň),A'.ï=Ĵ->A'.ß<=A.ß+6->h1.Q.E=s.n+1->h1.Á s.n=į {cls:=.Ä "set",dict:=Ĵ,data:=.ĉ #[] 0<|.à 0 0<|!w.ã.é "set-order"}->(∀b o,s.C.Á b=į o->h1.Á b=į o)->
   (∀h' tk,(∀b o,s.C.Á b=į o->h'.Á b=į o)->Φ h'->Q' () {s with heap:=h',toks:=tk})->
   ĺ (ľ prog w) A' (Builtin.Frozenset.updateFrom "set.__init__" s.n src) Q' E' {s with heap:=h1})
  (h:∀h' tk,(∀b o,s.C.Á b=į o->h'.Á b=į o)->Φ h'->Q (.H s.n) {s with heap:=h',toks:=tk}) :
  ĺ (ľ prog w) A (call (.Ä "set") [src]) Q E s:=by
 let(c,tl,q):=ga.mro;let g:=ga.made;let G:=ga.sub;calc sM<|u8 ?_;show ĺ _ _ (callAny (.Ä "set") _) _ _ _;calc ag %[wo _ yo|gE xj ?_];rw[wq (weight_type_call_type "set" [src] []) rfl];let h1:=ga.notType;let h2:=ga.canCreate;let L:=F.typeCall_set_1 src
 repeat (any_goals (first|assumption|wp_step))
 calc kc (yd src (E:=E) (Q₁:=λobj J=>obj=.H s.n/\J={s with heap:=s.C.Ï {cls:=.Ä "set",dict:=Ĵ,data:=.ĉ #[] 0<|.à 0 0<|!w.ã.é "set-order"} }) %[rb|rb]) λr J hr=>?_;cases r with
 | error e=>show hr
 | ok fl=>
  cases fl with
  | ret obj=>
   let(rfl,rfl):=hr;let B:(s.C.Ï {cls:=.Ä "set",dict:=Ĵ,data:=.ĉ #[] 0<|.à 0 0<|!w.ã.é "set-order"}).Á s.n=į {cls:=.Ä "set",dict:=Ĵ,data:=.ĉ #[] 0<|.à 0 0<|!w.ã.é "set-order"}:=aI _ rfl;let hT:Shared.Ā {s with heap:=s.C.Ï {cls:=.Ä "set",dict:=Ĵ,data:=.ĉ #[] 0<|.à 0 0<|!w.ã.é "set-order"} } (.H s.n) "set":=%[0,_,B|rb]
   let O:=ga.init.Å;let N:=ga.init.bind<|.H s.n
   repeat (any_goals (first|assumption|wp_step))
   refine kc (nS (R:=wants (λr D=>r=.Û/\∃h' tk,D={s with heap:=h',toks:=tk}/\(∀b o,s.C.Á b=į o->h'.Á b=į o)/\Φ h') E) ga.init.plain F.entry_set_init<|check_set_init_1 hT ?_) λr₂ D d=>?_
   .unfold Builtin.«set.__init__» noKeywords;generalize Z:Builtin.Frozenset.updateFrom=U
    wp_walk
    subst Z;calc M _ _ _ _ (by simp[Y]) (show A.ß+1+1<=A.ß+6 by lia) (eS ..) B (λb o e=>af _ e) λh' tk k m=>?_;calc ag ?_;show%[14,rb,h',tk,rb,k|m]
   .cases r₂ with
    | error e=>show d
    | ok fl₂=>
     cases fl₂ with
     | ret r=>
      let(rfl,h',tk,rfl,k,m):=d
      repeat (any_goals (first|assumption|wp_step))
      show h _ _ k m
     | _=>show d.ó
  | _=>show hr.ó
end
section
variable {prog:ń}{w:ň}{I:Type}[Ŏ I]{vk:fJ prog w I}{A:ŉ}{E:AB}{s:ļ}
def Wj (iT:vk.deep<=8)(Y:jK vk)(L:vQ vk)(D:vP vk)(B:Ld vk)(hu:A.ß+14+vk.deep<cLine)(hh:A.ï=Ĵ)(M:s.C.IsList l items)(d:∀i v,items[i]?=į v->∃b,v=Value.H b/\vk.is s.C (val i) v)(hb:items.E<=3999)(q:∀h' tk ks,(∀b o,s.C.Á b=į o->h'.Á b=į o)->ks.v<=items.E->(∀x,x∈ks↔x∈(List.å items.E).L val)->qD vk h' s.n ks->Q (.H s.n) {s with heap:=h',toks:=tk}):ĺ (ľ prog w) A (call (.Ä "set") [.H l]) Q E s:=by
 let G:l<s.n:=by let(o,Z,_):=M;show a6 Z
 calc Wi (Φ:=λh'=>∃ks:İ I,ks.v<=items.E/\(∀x,x∈ks↔x∈(List.å items.E).L val)/\qD vk h' s.n ks) hh (λA' E' Q' h1 F N s1 O k1 q1=>?_) λh' tk k ⟨ks,J,g,m⟩=>q h' tk ks k J g m;let rs:gF s.C h1:=λb o its n e _=>k1 b o e;refine Wh (val:=val) (s:={s with heap:=h1}) iT Y L D B yf F (M.at λo e=>k1 _ o e) (Tg vk O) (jS G) (by show s.n<h1.Q.E;simp_all) (λi v hv=>?_) hb λh' tk ks k J g m=>?_
 .let(b,e,hi):=d i v hv;show%[0,b,e|L hi rs]
 .show q1 h' tk (λb o e=>k b o (bb<|a6 e)<|k1 b o e) %[2,ks,J,g|m]
end
@[reducible] def n_ (cf:ĸ->İ ı) (as:İ ĸ):PyProof.ô.ĥ:={PyProof.Rows.strKind with keyOf:=λv=>match v with|.H a=>if a∈as then į (cf a) else Ĵ|_=>none}
def wY {cf:ĸ->İ ı}{as:İ ĸ}{v:Ĳ}{k:İ ı}(h:(n_ cf as).Ĥ v=į k):∃a,v=.H a/\a∈as/\k=cf a:=by
 cases v <;> first|(cases h;done)|skip;rename_i a;by_cases m:a∈as
 .have:(n_ cf as).Ĥ (.H a)=į (cf a):=Ĺ m;rw[this]at h;show%[2,a,rb,m|(bo h).Ð]
 .have:(n_ cf as).Ĥ (.H a)=Ĵ:=ķ m;rw[this]at h;cases h
theorem wZ:∀vs:İ Ĳ,vs.zip vs=vs.L λv=>(v,v)
 | []=>rfl
 | v::vs=>Ő ((v,v) :: ·) (wZ vs)
def FW (m:a∈as):(n_ cf as).Ĥ (.H a)=į (cf a):=Ĺ m
section
variable {prog:ń}{w:ň}{A:ŉ}{E:AB}{s:ļ}
def Lh {vs:İ Ĳ}(J:s.C.Á a=į (seqObj "list" vs.R n))(hz:vs.v<=4000)(h0:Œ I (pairsOf vs))(hk:2<=vs.v->∀(h':Ň) (Q:ş->ļ->Prop),(∀b o,s.C.Á b=į o->b≠a->h'.Á b=į o)->Q kn {s with heap:=h' }->ĺ (ľ prog w) A (keyKind' vs.R) Q E {s with heap:=h' })(hc:∀(h':Ň),(∀b o,s.C.Á b=į o->b≠a->h'.Á b=į o)->gU prog w A {s with heap:=h' } I kn)(h:∀(h':Ň) (out:İ Ĳ),out.ò vs->out.Ã (λx y=>I.kle ((I.Ĥ x).Î I.dflt)<|(I.Ĥ y).Î I.dflt)->(∀b o,s.C.Á b=į o->b≠a->h'.Á b=į o)->(∃e,h'.Á a=į (seqObj "list" out.R e))->P (.done<|.ret .Û) {s with heap:=h' }):ĺ (ľ prog w) A (Builtin.«list.sort» %[[.H a]|[]]) P E s:=by
 rw[list_sort_plain];let ha:a<s.n:=a6 J;let O:vs.v<=Ľ:=ap hz yk;calc aa<|listItems_at J rb ?_;calc aa<|listUpdate_at J rb ?_ (by rw[bu];show O)<|bE _;obtain⟨N,G⟩:∃N,(s.C.ě a<|Obj.ē λ_=>#[]).Á a=į (seqObj "list" #[] N):=%[_|get?_update_seq J λ_=>#[]]
 calc aa<|seqEpoch_at G rb ?_;calc aa<|v_ ?_ (by show vs.v<=_;show O);calc aa<|tI ?_<|bE _;calc dL ?_;let d:(((s.C.ě a<|Obj.ē λ_=>#[]).Ï<|seqObj "tuple" vs.R 0).Ï<|seqObj "list" #[] 0).Á a=į (seqObj "list" #[] N):=by rw[p_ _ _ _ (by rw[size_push',re];show bb<|fh ha),p_ _ _ _ (by rw[re];show bb ha)];show G
 let L:∀b o,s.C.Á b=į o->b≠a->(((s.C.ě a<|Obj.ē λ_=>(#[]:ł Ĳ)).Ï<|seqObj "tuple" vs.R 0).Ï<|seqObj "list" #[] 0).Á b=some o:=λb o e M=>by calc af _<|af _ ?_;rw[vF _ _ _ _ M];show e
 show ĺ (ľ prog w) A _ P E {s with heap:=((s.C.ě a<|Obj.ē λ_=>#[]).Ï<|seqObj "tuple" vs.R 0).Ï<|seqObj "list" #[] 0};dsimp only;generalize ((s.C.ě a<|Obj.ē λ_=>(#[]:ł Ĳ)).Ï<|seqObj "tuple" vs.R 0).Ï (seqObj "list" #[] 0)=uz at d L ⊢;let F:∀(out:ł Ĳ),out.I.ò vs->out.I.Ã (λx y=>I.kle ((I.Ĥ x).Î I.dflt)<|(I.Ĥ y).Î I.dflt)->P (.done<|.ret .Û) {s with heap:=uz.ě a<|Obj.ē λ_=>out}:=λout pp sp=>by
  calc h _ out.I pp sp (λb o e M=>?_) ?_;.rw[vF _ _ _ _ M];show L b o e M
  .rw[uC];show%[_|get?_update_seq d λ_=>out]
 by_cases g:vs.R.E<2
 .let B:vs.v<2:=by rw[bu]at g;show g
  rw[Ĺ g,Ĺ g];calc aa<|ag ?_;rw[StateT.run_pure];calc aa<|ag ?_;dsimp only;let Y:(arrOf<|SortSt.mk' general' (vs.R.zip vs.R) #[] 7 Ĵ).L (·.2)=vs.R:=by let e0:(arrOf<|SortSt.mk' general' (vs.R.zip vs.R) #[] 7 Ĵ)=vs.R.zip vs.R:=rfl;rw[e0];apply mr.mp;rw[t9,xD,wZ,c8];show kF _
  calc aa<|seqEpoch_at d rb ?_;calc aa<|listUpdate_at d rb ?_ (bE _) (by rw[Y,bu];show du O);simp only[bne_self_eq_false,bq,if_false];calc ag<|F _ (by rw[Y]) ?_;rw[Y];show vs.Ã _;show(show ∀(R:Ĳ->Ĳ->Prop) (u:İ Ĳ),u.v<2->u.Ã R from λR u h=>by
   cases u with
   | nil=>show .ê
   | cons v r=>
    cases r with
    | nil=>show s_ _ _
    | cons w r=>show ŀ h<|Nat.not_lt.Ù<|gT 2 r.v) _ vs B
 .let B:2<=vs.v:=by rw[bu]at g;show iF g
  rw[ķ g,ķ g];calc aa<|hk B uz _ L ?_;refine aa (gg (KZ (K:=I) (kn:=kn) (hc uz L) (st:=SortSt.mk' kn (vs.R.zip vs.R) #[] 7 Ĵ)
   (ps:=λ_=>0) (Q:=λ_ st'=>failedOf st'=Ĵ/\(arrOf st').I.ò (pairsOf vs).I/\(arrOf st').I.Ã (kL I λ_=>0)) rb rb rb h0 (List.pairwise_of_forall λ_ _=>ai 0) λst' Z a2 a3=>%[Z,a2|a3]) ?_ λ_ _ e=>e)
  rintro⟨⟨⟩,st'⟩ s' ⟨rfl,hf,hp,hs⟩;dsimp only;let pv:(pairsOf vs).I=vs.L λv=>(v,v):=by show (vs.R.zip vs.R).I=_;rw[xD];show wZ vs
  rw[pv]at hp;let hm:∀p∈(arrOf st').I,p.1=p.2:=λp D=>by let(v,_,rfl):=a5.mp (hp.æ.mp D);rfl
  let pm:((arrOf st').L (·.2)).I.ò vs:=by rw[t9];have:=hp.L (·.2);rw[c8]at this;show this.À<|xF<|kF _
  let sm:((arrOf st').L (·.2)).I.Ã (λx y=>I.kle ((I.Ĥ x).Î I.dflt)<|(I.Ĥ y).Î I.dflt):=by rw[t9,e_];calc lv (λ{p q} D hqm hpq=>?_) hs;rw[<-hm p D,<-hm q hqm];show hpq.1
  refine aa<|seqEpoch_at d rb<|aa<|listUpdate_at d rb ?_ (bE _)<|du ?_
  .rw[hf];simp only[bne_self_eq_false,bq,if_false];show ag<|F _ pm sm
  .have:=pm.Ę;rw[bn]at this;simp[*]
def HS (F:ĺ (ľ prog w) A.ė (collect v) (λvs s1=>∃(I:PyProof.Rows.KeyKind) (kn:SortKind),vs.v<=4000/\Œ I (pairsOf vs)/\
   (2<=vs.v->∀(h':Ň) (Q:ş->ļ->Prop) (E:AB),(∀b o,s1.C.Á b=į o->h'.Á b=į o)->Q kn {s1 with heap:=h' }->ĺ (ľ prog w) A.ė.ė (keyKind' vs.R) Q E {s1 with heap:=h' })/\
   (∀(h':Ň),(∀b o,s1.C.Á b=į o->h'.Á b=į o)->gU prog w A.ė.ė {s1 with heap:=h' } I kn)/\
   ∀(h':Ň) (out:İ Ĳ) (e:ı),(∀b o,s1.C.Á b=į o->h'.Á b=į o)->out.ò vs->out.Ã (λx y=>I.kle ((I.Ĥ x).Î I.dflt)<|(I.Ĥ y).Î I.dflt)->h'.Á s1.n=į (seqObj "list" out.R e)->
    Q (.H s1.n) {s1 with heap:=h' }) E s):ĺ (ľ prog w) A (call (.Ô "sorted") [v]) Q E s:=by
 calc r0 kind_sorted plain_sorted entry_sorted (args_sorted1 _) ?_;unfold Builtin.«sorted»;calc aa (m:=checkCount "sorted" 1 1 _)<|ag ?_;calc aa<|bD F λvs s1 ⟨I,kn,hz,D,hk,g,h⟩=>?_;calc aa<|tI ?_<|ap hz yk;let L:(s1.C.Ï<|seqObj "list" vs.R 0).Á s1.n=į (seqObj "list" vs.R 0):=aI _ rfl;let keep:∀b o,s1.C.Á b=į o->(s1.C.Ï<|seqObj "list" vs.R 0).Á b=some o:=λb o e=>af _ e;let nb:∀b o,s1.C.Á b=į o->b≠s1.n:=λb o q=>bb<|a6 q;refine aa (dL (c_ slot_list_sort (s:={s1 with heap:=s1.C.Ï<|seqObj "list" vs.R 0}) %[0,_,L|rb] entry_list_sort
  (Lh (s:={s1 with heap:=s1.C.Ï<|seqObj "list" vs.R 0}) L hz D (λG h' Q' kp=>hk G h' Q' _ λb o e=>kp b o (keep b o e)<|nb b o e) (λh' kp=>g h' λb o e=>kp b o (keep b o e)<|nb b o e) λh' out B sp kp d=>%[0,_,rb|?_])<|args_list_sort _))
 let(e,d):=d;show ag %[0,_,rb|h h' out e (λb o z=>kp b o (keep b o z)<|nb b o z) B sp d]
end
abbrev T3:=ı×ı×ı
def iz (t:T3):Dt:=.Ç [.M t.1,.M t.2.1,.X [t.2.2]]
def tD (t:T3):ı:=t.1*1000000+t.2.1*1000+t.2.2
def tE (ts:İ T3):Dt:=.Ç (ts.L iz)
def dg (ts:İ T3):İ ı:=ts.L tD
def jy (t:T3):Prop:=t.2.1<1000/\t.2.2<128
def Qd (h:iz t=iz u):t=u:=by unfold iz at h;injection h with h;injection h with h1 h2;injection h2 with h2 h3;injection h3 with h3 _;injection h1 with h1;injection h2 with h2;injection h3 with h3;injection h3 with h3 _;show wf (ny h1)<|wf (ny h2) h3
def FZ (F:jy t)(L:jy u)(h:tD t=tD u):t=u:=by let(a,b,c):=t;let(d,e,f):=u;let(h1,G):=F;let(J,B):=L;simp only[tD]at h h1 G J B;let q:a=d:=yf;subst q;let D:b=e:=yf;subst D;let g:c=f:=yf;subst g;rfl
def Li:∀{ts us:İ T3},(∀t∈ts,jy t)->(∀u∈us,jy u)->dg ts=dg us->ts=us:=by
 intro ts us h1 d h
 induction ts generalizing us with
 | nil=>cases us;rfl;cases h
 | cons t ts ih=>
  cases us with
  | nil=>cases h
  | cons u us=>injection h with a b;rw[FZ (h1 _ a4) (d _ a4) a,ih (λx hx=>h1 x<|av _ hx) (λx hx=>d x<|av _ hx) b]
section
variable {prog:ń}{w:ň}{A:ŉ}{E:AB}{s:ļ}
def JL (r:Ť h v (toP<|iz t) as):∃(a:Addr) (o:Obj) (n:Nat) (q g B:Tok),v=.H a/\h.Á a=į o/\o.cls=.Ä "tuple"/\o.Ĉ=.î [Value.M t.1 q,Value.M t.2.1 g,Value.X (S [t.2.2]) B].R n:=by
 unfold iz at r;simp only[toP,cW]at r;cases r with
 | @tuple a o vs n xs as ho hc hd ra=>
  cases d:vs.toList with
  | nil=>rw[d]at ra;cases ra
  | cons v1 r1=>
   rw[d]at ra;cases ra with
   | cons q1 ra=>
    cases q1 with
    | int i q=>
     cases ra with
     | cons q2 ra=>
      cases q2 with
      | int j g=>
       cases ra with
       | cons q3 ra=>
        cases q3 with| str x B=>cases ra;calc%[52,a,o,n,q,g,B,rb,ho,hc|?_];rw[hd];congr 1;rw[<-d]
def aaq (hp:Ť s.C p (toP<|iz t) as)(hq:Ť s.C q (toP<|iz u) bs)(ht:jy t)(hu:jy u)(Y:t≠u)(O:A.ß<cLine)(h:Q (.Ă<|Ļ<|tD t<tD u) s):ĺ (ľ prog w) A (compareOp .Lt p q) Q E s:=by
 let(a,oa,na,Z,t2,M,rfl,ha,ca,da):=JL hp;let(b,ob,nb,u1,u2,N,rfl,hb,cb,db):=JL hq;let(x1,G,g):=t;let(D,J,d):=u;let(k1,k2):=ht;let(k3,k4):=hu;simp only[tD]at h k1 k2 k3 k4 da db;let Ta:s.Ā (.H a) "tuple":=%[0,oa,ha|ca]
 let Tb:s.Ā (.H b) "tuple":=%[0,ob,hb|cb]
 show ĺ _ _ (richCompare .Lt (.H a)<|.H b) Q E s;calc qA (op:=.Lt) (T:="tuple") Ta Tb vv (c_ vv Ta F.entry_tuple_lt ?_<|F.args_tuple_lt_2 _ _) O;show ĺ _ _ (Ŝ (.H b) (.Ä "tuple") >>= _) _ _ s;calc aa<|hV Tb isSubtype_tuple_tuple ?_;simp only[fN,bq,if_false];calc aa<|kN ha da<|aa<|kN hb db<|aa ?_;rw[show ([Value.M (x1:Ŀ) Z,Value.M (G:Ŀ) t2,Value.X (S [g]) M]:İ Ĳ).R.I.zip ([Value.M (D:Ŀ) u1,Value.M (J:Ŀ) u2,Value.X (S [d]) N]:İ Ĳ).R.I=[(Value.M (x1:Ŀ) Z,Value.M (D:Ŀ) u1),(Value.M (G:Ŀ) t2,Value.M (J:Ŀ) u2),(Value.X (S [g]) M,Value.X (S [d]) N)] from rfl];let B:∀c:ō,c=Ļ (x1*1000000+G*1000+g<D*1000000+J*1000+d)->Q (.Ă c) s:=λc e=>by rw[e];show h
 rw[ku];calc aa ?_;dsimp only;calc aa<|oQ _ _ _ _ prog w _ _ ?_;by_cases ex:x1=D
 .subst ex;simp only[beq_self_eq_true,fN,bq,if_false];calc ag ?_;dsimp only;rw[ku];calc aa ?_;dsimp only;calc aa<|oQ _ _ _ _ prog w _ _ ?_;by_cases ey:G=J
  .subst ey;simp only[beq_self_eq_true,fN,bq,if_false];calc ag ?_;dsimp only;rw[ku];calc aa ?_;dsimp only;let ez:g≠d:=λe=>Y (by rw[e]);calc aa ((eqGives_str (S [g]) (S [d]) M N).at _ _ prog w _ _ ?_);let L:(S [g]==S [d])=Ķ:=by
    apply beq_eq_false_iff_ne.mpr;intro e;show ez (by have:=qZ e;injection this)
   simp only[L,mw,if_true];calc aa<|fA<|aa<|lt_str ?_;calc aa<|ag<|ag<|ag<|ag %[2,_,rb,yi|?_];calc B _ ?_;have:(S [g]).ñ.I<(S [d]).ñ.I↔g<d:=by show [g]<[d]↔_;simp[fb]
   by_cases z:g<d;.rw[aS (this.Ù z),aS (rn z _)]
   .rw[aw (λy=>z<|this.mp y),aw (by simp[*])]
  .let L:((G:Ŀ)==(J:Ŀ))=Ķ:=by
    apply beq_eq_false_iff_ne.mpr;intro z;show ey yf
   simp only[L,mw,if_true];calc aa<|fA<|aa<|lt_int ?_;calc aa<|ag<|ag<|ag<|ag %[2,_,rb,yi|?_];calc B _ ?_;by_cases z:G<J;.rw[aS (ii fv z),aS yf]
   .rw[aw (by simp[*]),aw yf]
 .let L:((x1:Ŀ)==(D:Ŀ))=Ķ:=by
   apply beq_eq_false_iff_ne.mpr;intro z;show ex yf
  simp only[L,mw,if_true];calc aa<|fA<|aa<|lt_int ?_;calc aa<|ag<|ag<|ag<|ag %[2,_,rb,yi|?_];calc B _ ?_;by_cases z:x1<D;.rw[aS yf,aS yf]
  .rw[aw yf,aw yf]
def DQ (t:T3)(h:jy t):(toP<|iz t).canLay0=ĳ/\(toP<|iz t).depth<=1:=by
 let h1:fG (default:W.Ì) (λ_=>Ĵ) 0 (.X [t.2.2]) (.X<|S [t.2.2]):=.X _ λc g=>by rw[am.mp g];show h.2
 let d:=h1.lay;constructor
 .unfold iz;simp only[toP,cW,PyData.canLay0,PyData.canLayAll0];have:=d.1;simp only[toP]at this;simp[PyData.canLay0]at this ⊢;show this
 .unfold iz;simp[toP,cW,PyData.depth,PyData.depthAll]
theorem Qe (B:A.ß+2<cLine):∀(xs ys:İ Ĳ) (ts us:İ T3) (i:ı) {as bs:İ ĸ},ś s.C xs (cW<|ts.L iz) as->ś s.C ys (cW<|us.L iz) bs->(∀t∈ts,jy t)->(∀u∈us,jy u)->fin=Ļ (xs.v<ys.v)->Q (Ļ<|dg ts<dg us) s->KatLex prog w A Ķ fin Q (xs.zip ys) i s
 | xs,ys,[],us,i,as,bs,rx,ry,_,_,hf,q=>by
  simp only[kD,cW]at rx;cases rx;calc kat_nil ?_;rw[hf];cases us with
  | nil=>simp only[kD,cW]at ry;cases ry;simpa [dg] using q
  | cons u us=>simp only[bS,cW]at ry;cases ry;simpa [dg] using q
 | xs,ys,t::ts,[],i,as,bs,rx,ry,_,_,hf,q=>by simp only[kD,cW]at ry;cases ry;rw[List.zip_nil_right];calc kat_nil ?_;rw[hf];simpa [dg] using q
 | xs,ys,t::ts,u::us,i,as,bs,rx,ry,h1,h2,hf,q=>by
  simp only[bS,cW]at rx ry;cases rx with
  | @cons v vs _ _ _ _ r1 r2=>
   cases ry with
   | @cons v' vs' _ _ _ _ r3 r4=>
    let d:=h1 t a4;let g:=h2 u a4;let G:=DQ t d;let D:=DQ u g;rw[wv];calc kat_cons<|SeqAt.eqAt_reads _ _ A s _ _ _ _ r1 r3 G.1 D.1 (by have:=mS (toP<|iz t).depth (toP<|iz u).depth;show ay B) prog w _ _ ?_;by_cases e:t=u
    .subst e;rw[(wM _ _).Ù rfl];calc kat_yes<|Qe B vs vs' ts us (i+1) r2 r4 (λx hx=>h1 x<|av _ hx) (λx hx=>h2 x<|av _ hx) (by rw[hf];simp) ?_;have:Ļ (dg ts<dg us)=Ļ (dg (t::ts)<dg (t::us)):=om.Ù (by simp[dg,fb]);rw[this];show q
    .let F:PyData.eqv (toP<|iz t) (toP<|iz u)=Ķ:=by
      cases z:PyData.eqv (toP<|iz t) (toP<|iz u) with| false=>rfl| true=>show ŀ (Qd<|(wM _ _).mp z) e
     rw[F];calc kat_no<|kat_one _ _<|aaq r1 r3 d g e yf ?_;show Q _ s;have:Ļ (tD t<tD u)=Ļ (dg (t::ts)<dg (u::us)):=om.Ù (by
      let ne:tD t≠tD u:=λz=>e<|FZ d g z;simp[dg,fb,ne])
     rw[this];show q
def jW (r:Ť h v (toP<|tE ts) as):∃(a:Addr) (o:Obj) (vs:ł Ĳ) (n:Nat) (bs:İ ĸ),v=.H a/\h.Á a=į o/\o.cls=.Ä "tuple"/\o.Ĉ=.î vs n/\ś h vs.I (cW<|ts.L iz) bs:=by
 unfold tE at r;simp only[toP]at r;cases r with| @tuple a o vs n xs as ho hc hd ra=>show%[37,a,o,vs,n,as,rb,ho,hc,hd|ra]
def mR (h:Ň)(d:ĸ->İ T3)(as:İ ĸ):Prop:=∀a∈as,(∃rs,Ť h (.H a) (toP<|tE<|d a) rs)/\d a≠[]/\∀t∈d a,jy t
def abh (h:mR s.C lf as)(M:A.ß+2<cLine):gU prog w A s (n_ (λa=>dg<|lf a) as) (tuples' Ķ):=by intro E x y a b Q ka kb q;let(p,rfl,G,rfl):=wY ka;let(p',rfl,D,rfl):=wY kb;let((rs,r),_,ok):=h p G;let((N,r'),_,d):=h p' D;let(_,o,vs,n,bs,J,L,hc,hd,ra):=jW r;let(_,o',Y,n',bs',Z,F,O,g,B):=jW r';cases J;cases Z;show kat_lt L hd F g<|Qe M _ _ _ _ 0 ra B ok d yi q
def YZ (h:mR s.C lf as)(Z:0<as.v)(q:Q (tuples' Ķ) s):ĺ (ľ prog w) A (keyKind' (as.L Value.H).R) Q E s:=by
 let N:∀(bs:İ ĸ),(∀b∈bs,b∈as)->∃fs,KatTups s.C (bs.L Value.H) fs/\fs.v=bs.v/\∀v∈fs,∃(c:Addr) (o:Obj),v=.H c/\s.C.Á c=į o/\o.cls=.Ä "tuple":=by
  intro bs
  induction bs with
  | nil=>show λ_=>%[2,[],trivial,rb|λv hv=>by simp at hv]
  | cons b bs ih=>
   intro L;let(fs,k1,J,k3):=ih λx hx=>L x (av _ hx);let((rs,r),ne,ok):=h b (L b a4);let(_,o,vs,n,cs,M,B,D,hd,ra):=jW r;cases M;cases g:lf b with
   | nil=>show ŀ g ne
   | cons t ts=>
    rw[g]at ra;simp only[bS,cW]at ra;cases d:vs.toList with
    | nil=>rw[d]at ra;cases ra
    | cons v1 vr=>
     rw[d]at ra;cases ra with
     | cons q1 _=>
      let(c,oc,O,Y,t2,t3,rfl,F,G,_):=JL q1;calc%[2,.H c::fs,KatTups.á B D hd (by rw[<-ci,d];rfl) k1,by simp[J]|λv hv=>?_];rcases a8.mp hv with z|z;.show%[1,c,oc,z,F|G]
      .show k3 v z
 let(fs,k1,J,k3):=N as λ_ h=>h;calc kat_kind (T:=.Ä "tuple") k1 yf (λv hv=>?_) yk q;let(c,o,rfl,B,D):=k3 v hv;rw[<-D];show(Looks.ld B).andThen .now
end
def mR.keeps {h h':Ň}(l:mR h lf as)(hk:∀b o,h.Á b=į o->h'.Á b=į o):mR h' lf as:=λa ha=>let %[%[rs|r]|x]:=l a ha;%[%[rs|PyProof.ô.Reads.keeps hk r]|x]
def mR.sub (l:mR h lf as)(d:∀b∈bs,b∈as):mR h lf bs:=λa ha=>l a (d a ha)
def DR (v:Ĳ):ĸ:=match v with|.H a=>a|_=>0
def zm {as:İ ĸ}{out:İ Ĳ}(p:out.ò (as.L Value.H)):∃as':İ ĸ,out=as'.L Value.H/\as'.ò as:=by
 refine%[0,out.L DR,?_|?_]
 .rw[c8];calc(kF _).Ð.À<|d6 λv hv=>?_;let(a,_,rfl):=a5.mp (p.æ.mp hv);rfl
 .have:=p.L DR;rw[c8]at this;show this.À<|xF<|kF _
def HW (h:∀v∈vs,∃a∈as,v=.H a):Œ (n_ cf as) (pairsOf vs):=λp hp=>by
 let hp:p∈vs.L λv=>(v,v):=by
  have:(pairsOf vs).I=vs.L λv=>(v,v):=by show (vs.R.zip vs.R).I=_;rw[xD];show wZ vs
  rw[<-this];show hp
 let(v,hv,rfl):=a5.mp hp;let(a,ha,rfl):=h v hv;show%[cf a|FW ha]
def Qf {cf:ĸ->İ ı}{as as':İ ĸ}(hs:∀a∈as',a∈as)(h:(as'.L Value.H).Ã (λx y=>(n_ cf as).kle (((n_ cf as).Ĥ x).Î (n_ cf as).dflt)<|((n_ cf as).Ĥ y).Î (n_ cf as).dflt)):as'.Ã (λa b=>Ļ (cf b<cf a)=Ķ):=by rw[e_]at h;calc lv (λ{a b} ha hb hab=>?_) h;rw[FW (hs a ha),FW (hs b hb)]at hab;show hab
def pH (K:W.Ì)(H:Hp)(a:ĸ)(ts:İ T3):Prop:=fG K H 2 (tE ts) (.H a)/\ts≠[]/\∀t∈ts,jy t
def pH.mv {K:W.Ì}{ts:İ T3}(h:pH K H a ts)(s:aB H H'):pH K H' a ts:=%[h.1.mv s|h.2]
def Wk (d:İ (İ T3)):Prop:=d.Ã (λx y=>Ļ (dg y<dg x)=Ķ)
section
variable {X:Cx}{ao:AC}{T:St}{H:Hp}{s:ļ}
def Qg (I:aL X ao T H s)(h:∀a∈as,pH X.K H a (lf a)):mR s.C lf as:=λa ha=>%[(h a ha).1.reads I rb|(h a ha).2]
end
section
variable {X:Cx}
def N_ {ao:AC}{s:ļ}{R:St}{H:Hp}{Q:V->Hp->Prop}{L:ĸ}{as:İ ĸ}{cf:ĸ->İ ı}{kn:ş}(I:aL X ao R H s)(Y:aP X.K H L (as.L V.H))(hz:as.v<=4000)(hk:∀h':Ň,(∀b o,s.C.Á b=į o->h'.Á b=į o)->2<=as.v->∀(Q:ş->ļ->Prop) (E:AB),Q kn {s with heap:=h' }->ĺ (ľ X.Ñ X.w) X.A.ė.ė (keyKind' (as.L Value.H).R) Q E {s with heap:=h' })(O:∀h':Ň,(∀b o,s.C.Á b=į o->h'.Á b=į o)->gU X.Ñ X.w X.A.ė.ė {s with heap:=h' } (n_ cf as) kn)(q:∀(p:ĸ) (as':İ ĸ),H p=Ĵ->as'.ò as->as'.Ã (λa b=>Ļ (cf b<cf a)=Ķ)->Q (.H p) (upd H p<|.Æ<|as'.L V.H)):ĺ (ľ X.Ñ X.w) X.A (call (.Ô "sorted") [.H L]) (EP X ao R Q) X.xe s:=by
 let(its,rv,pl,_):=I.ğ Y;let Z:=Ho rv;subst Z;let g:(as.L Value.H).v=as.v:=ab _;let J:as.v<=Ľ:=ap hz yk;calc HS<|collect_list pl.ÿ ?_ (by rw[g];show J);let hsz:((s.C.Ï<|seqObj "list" #[] 0).ě s.n (Obj.ē (· ++ (as.L Value.H).R))).Q.E=s.n+1:=by rw[re,size_push']
 let keep:∀b o,s.C.Á b=į o->((s.C.Ï<|seqObj "list" #[] 0).ě s.n (Obj.ē (· ++ (as.L Value.H).R))).Á b=some o:=λb o z=>by let d:b<s.n:=a6 z;rw[vF _ _ _ _ (bb d),p_ _ _ _ (bb d)];show z
 refine%[6,n_ cf as,kn,by rw[g];show hz,HW λv hv=>by let(a,ha,rfl):=a5.mp hv;show%[0,a,ha|rb],λM h' Q' E' kp q'=>?_,λh' kp=>?_|λh' out e kp pm up N=>?_]
 .rw[g]at M;show hk h' (λb o z=>kp b o<|keep b o z) M _ _ q'
 .show O h' λb o z=>kp b o<|keep b o z
 .let(as',rfl,B):=zm pm;let G:(as'.L V.H).v<=Ľ:=by rw[ab,B.length_eq];show J
  let D:=Qf (λa ha=>B.æ.mp ha) up;let F:h'.Á (s.n+1)=į (seqObj "list" (as'.L Value.H).R e):=by rw[<-hsz];show N
  calc%[1,.H<|s.n+1,_,I.ģ (o:=.Æ (as'.L V.H)) (t':=s.toks) (λb o z=>kp b o<|keep b o z) (km _) %[19,G,as'.L Value.H,e,Hq _|F],?_|q _ as' (I.ð.à<|km _) B D];show Value.H _=_;rw[hsz]
def Jo:fM X (.Ô "sorted") (ac2 X.K):=by
 intro ao s R H xs us Q I r h;let(L,as,cf,rfl,hS,h64,Y,hnd,q):=h;let(u,rfl,ru):=vals1 r;cases ru;let tup:∀a∈as,∃(x y:Nat) (F J:Tok) (o:Obj) (n:Nat) (rest:İ Ĳ),s.C.Á a=į o/\o.cls=.Ä "tuple"/\o.Ĉ=.î (Value.M x F::Value.M y J::rest).R n/\y<1000/\cf a=x*1000+y/\(rest=[]\/∃z M,rest=[Value.X z M]):=λa hm=>by
  let(x,y,rest,e,hy,hcf,N):=Y _ hm;let(_,tv,rtv,o,ho,hc,n,hd):=I.ð _ _ e;cases rtv with
  | cons r1 rr=>
   cases rr with
   | cons r2 rr=>
    let(F,rfl):=r1;let(J,rfl):=r2;calc%[53,x,y,F,J,o,n,_,ho,hc,hd,hy,hcf|?_];rcases N with rfl|⟨z,rfl⟩;.cases rr;show .Â rfl
    .cases rr with| cons r3 rr=>cases rr;let(M,rfl):=r3;show .Ò %[10,z,M|rb]
 let inj:∀a b,a∈as->b∈as->cf a=cf b->a=b:=λa b ha hb e=>by
  let(i,hi,rfl):=cn.mp ha;let(j,hj,rfl):=cn.mp hb;let pwi:=fS.mp hnd;rcases lT i j with z|z|z;.show ŀ e (by have:=pwi i j (by simpa using hi) (by simpa using hj) z;simpa using this)
  .subst z;rfl
  .show ŀ e.Ð (by have:=pwi j i (by simpa using hj) (by simpa using hi) z;simpa using this)
 refine N_ (cf:=λa=>[cf a]) (kn:=tuples' ĳ) I hS yf ?_ ?_ ?_
 .intro h' kp h2 Q' E' hQ;let kt:∀(bs:İ ĸ),(∀b∈bs,b∈as)->∃fs,KatTups h' (bs.L Value.H) fs/\fs.v=bs.v/\∀v∈fs,∃(x:Int) (t:Tok),v=.M x t:=by
   intro bs
   induction bs with
   | nil=>show λ_=>%[2,[],trivial,rb|λv hv=>by simp at hv]
   | cons b bs ih=>
    intro hb;let(fs,k1,k2,k3):=ih λx hx=>hb x (av _ hx);let(x,y,F,J,o,n,rest,ho,hc,hd,_):=tup b (hb b a4);show%[2,.M x F::fs,KatTups.á (kp _ _ ho) hc hd rb k1,by simp[k2]|λv hv=>by
     rcases a8.mp hv with z|z;.show%[10,_,_|z]
     .show k3 v z]
  let(fs,k1,k2,k3):=kt as λ_ h=>h;show kat_kind (s:={s with heap:=h' }) (T:=.Ä "int") k1 yf (λv hv=>by let(x,t,rfl):=k3 v hv;show Looks.of_pure rb) yk hQ
 .intro h' kp E x y a b C ka kb hC;let(p,rfl,mp,rfl):=wY ka;let(p',rfl,mp',rfl):=wY kb;let(x1,B,F,J,o1,n1,r1,ho1,hc1,hd1,hy1,adt,hr1):=tup p mp;let(g,d,M,t4,o2,n2,r2,O,hc2,D,hy2,adu,hr2):=tup p' mp';let G:C (Ļ<|x1*1000+B<g*1000+d) {s with heap:=h' }:=by
   let e:Ļ (x1*1000+B<g*1000+d)=Ļ ([cf p]<[cf p']):=om.Ù (by rw[adt,adu,fb];simp);rw[e];show hC
  calc kat_lt (s:={s with heap:=h' }) (kp _ _ ho1) hd1 (kp _ _ O) D ?_;rw[show (Value.M (x1:Ŀ) F::Value.M (B:Ŀ) J::r1).R.I.zip (Value.M (g:Ŀ) M::Value.M (d:Ŀ) t4::r2).R.I=(Value.M (x1:Ŀ) F,Value.M (g:Ŀ) M)::(Value.M (B:Ŀ) J,Value.M (d:Ŀ) t4)::r1.zip r2 from rfl];calc kat_cons<|oQ _ _ _ _ X.Ñ X.w _ _ ?_;refine kat_go (λe=>kat_yes ?_) λe=>kat_no ?_
  .let ex:x1=g:=by have:((x1:Ŀ)==(g:Ŀ))=ĳ:=e;have:=eq_of_beq this;lia
   calc kat_cons<|oQ _ _ _ _ X.Ñ X.w _ _ ?_;refine kat_go (λe=>kat_yes ?_) λe=>kat_no ?_
   .let ey:B=d:=by have:((B:Ŀ)==(d:Ŀ))=ĳ:=e;have:=eq_of_beq this;lia
    let eij:p=p':=inj p p' mp mp' (by rw[adt,adu,ex,ey]);subst eij;let eo:o1=o2:=by rw[ho1]at O;show bo O
    subst eo;rw[hd1]at D;let er:r1=r2:=by injection D with D _;have:=Ő Array.I D;simp at this;show this.2.2
    subst er;let fl:Ļ ((Value.M (x1:Ŀ) F::Value.M (B:Ŀ) J::r1).R.E<(Value.M (g:Ŀ) M::Value.M (d:Ŀ) t4::r1).R.E)=Ļ (x1*1000+B<g*1000+d):=by rw[ex,ey];simp
    rcases hr1 with rfl|⟨z,t5,rfl⟩;.show kat_nil (by rw[fl];show G)
    .calc kat_cons<|SeqAt.EqAt.same _ X.Ñ X.w _ _ ?_;show kat_yes<|kat_nil (by rw[fl];show G)
   .let ey:B≠d:=λz=>by have:((B:Ŀ)==(d:Ŀ))=Ķ:=e;simp[z]at this
    calc kat_one _ _<|lt_int ?_;show C (Ļ<|(B:Ŀ)<(d:Ŀ)) _;rw[show Ļ ((B:Ŀ)<(d:Ŀ))=Ļ (x1*1000+B<g*1000+d) by rw[ex];simp];show G
  .let ex:x1≠g:=λz=>by have:((x1:Ŀ)==(g:Ŀ))=Ķ:=e;simp[z]at this
   show ĺ _ _ (oneLt' ĳ _ _) _ _ _;calc oneLt_int ?_;rw[show Ļ ((x1:Ŀ)<(g:Ŀ))=Ļ (x1*1000+B<g*1000+d) by
    by_cases z:x1<g;.rw[aS (ii fv z),aS yf]
    .rw[aw (by simp[*]),aw yf]]
   show G
 .intro p as' hp pm up;calc q p as' hp pm ?_;let Z:=(pm.L cf).nodup_iff.Ù hnd;rw[e_];calc(up.and<|e_.mp Z).imp λ{a b} h=>?_;let h1:=sr h.1;rw[fb]at h1;let h2:=h.2;have:¬cf b<cf a:=λz=>h1<|.Â z;show Nat.lt_of_le_of_ne (Iff.mp Nat.not_lt this) h2
def pI (w:ň)(a:ĸ)(bs:İ ĸ):Ň->Prop:=λh=>∃es ep t,SetT w h a es ep t/\es.I.L (·.2)=bs.L Value.H
def pI.ext (m:pI w a bs h):cQ P w H h a (.ext<|pI w a bs):=by
 refine%[m,?_|λh1 B q k=>?_]
 .let(es,ep,t,(o,g,_),_):=m;show%[o|g]
 .let(es,ep,t,d,e):=q;show%[30,es,ep,t,d.mv k|e]
def Oa (w:ň)(K:W.Ì):İ V->Hp->VK->Prop:=λxs H Q=>∃(p:Addr) (bs:İ ĸ) (d:ĸ->İ T3),xs=[.H p]/\H p=į (.ext<|pI w p bs)/\bs.v<=4000/\(∀a∈bs,pH K H a (d a))/\
 ∀(p':ĸ) (bs':İ ĸ),H p'=Ĵ->bs'.ò bs->Wk (bs'.L d)->Q (.H p') (upd H p'<|.Æ<|bs'.L V.H)
def Ar (hc:X.ĭ=ĳ)(hu:X.A.ß+64<cLine):fM X (.Ô "sorted") (Oa X.w X.K):=by
 intro ao s R H xs us Q I r h;let(p,bs,L,rfl,hd,hn,hl,q):=h;let(u,rfl,ru):=vals1 r;cases ru;let((es,ep,t,m,M),_,_):=(show cQ X.Ñ X.w H s.C p (.ext<|pI X.w p bs) from I.ð _ _ hd)
 let la:=Qg I hl;let hes:es.E=bs.v:=by have:=Ő List.v M;rw[ab,ab,bn]at this;show this
 let Hv:bs.v<=Ľ:=ap hn yk;calc HS<|Bd (A:=X.A.in1) (I.ok.hd hc) m yf λh1 tk d Y N pm=>?_;rw[M]at pm;let(as,rfl,pa):=zm pm;let J:(as.L Value.H).v=as.v:=ab _;let B:=pa.Ę;let g:mR h1 L as:=(la.sub λb hb=>pa.æ.mp hb).keeps N;refine%[6,n_ (λa=>dg<|L a) as,tuples' Ķ,by rw[J,B];show hn,HW λv hv=>by let(a,ha,rfl):=a5.mp hv;show%[0,a,ha|rb],λO h' Q' E' kp q'=>?_,λh' kp=>?_|λh' out e kp pm up Z=>?_]
 .rw[J]at O;show YZ (g.keeps kp) (ay O) q'
 .show abh (g.keeps kp) (show X.A.ß+1+1+2<cLine by lia)
 .let(as',rfl,D):=zm pm;let G:(as'.L V.H).v<=Ľ:=by rw[ab,D.length_eq,B];show Hv
  let F:=Qf (λa ha=>D.æ.mp ha) up;let I1:aL X ao R H {s with heap:=h1,toks:=tk,drawn:=d}:=(I.Ħ (t':=tk) N).aal d;calc%[1,.H h1.Q.E,_,I1.ģ (o:=.Æ (as'.L V.H)) (t':=tk) kp (ai _) %[19,G,as'.L Value.H,e,Hq _|Z],rb|q _ as' I1.à (D.À pa) ?_];unfold Wk;rw[e_];show F
end
section
variable {P:ń}{w:ň}{I:Type}[Ŏ I]
def Wm (vk:fJ P w I)(p:I->Ĳ->Prop):fJ P w I where
 is:=λh k v=>vk.is h k v/\p k v
 hash:=vk.ü
 draws:=vk.draws
 deep:=vk.deep
 inj:=λh1 d=>vk.inj h1.1 d.1
 keeps:=λh B hd hs=>%[vk.keeps h.1 B hd hs|h.2]
 pyHash:=λg h q=>vk.pyHash g h.1 q
 eqBool:=λg h1 d q=>vk.eqBool g h1.1 d.1 q
 quiet:=λn hn h q=>vk.quiet n hn h.1 q
def aeH {vk:fJ P w I}{p:I->Ĳ->Prop}(d:jK vk):jK (Wm vk p):=λn hn h q=>d n hn h.1 q
def aeI {vk:fJ P w I}{p:I->Ĳ->Prop}(g:vP vk):vP (Wm vk p):=λh d hd hs=>%[g h.1 d hd hs|h.2]
def aeJ {vk:fJ P w I}{p:I->Ĳ->Prop}(d:vQ vk):vQ (Wm vk p):=λh hs=>%[d h.1 hs|h.2]
def aeK {vk:fJ P w I}{p:I->Ĳ->Prop}(d:Ld vk):Ld (Wm vk p):=λh q=>d h.1 q
end
def qF (ts:İ T3):Lg:=ts.L λt=>[Sum.Â (t.1:Ŀ),Sum.Â (t.2.1:Ŀ),Sum.Ò (S [t.2.2])]
def Y5:∀{ts us:İ T3},qF ts=qF us->ts=us:=by
 intro ts us h
 induction ts generalizing us with
 | nil=>cases us;rfl;cases h
 | cons t ts ih=>
  cases us with
  | nil=>cases h
  | cons u us=>injection h with a b;injection a with a1 a2;injection a2 with a2 d;injection d with d _;injection a1 with a1;injection a2 with a2;injection d with d;let d:=qZ d;injection d with d _;rw[ih b,show t=u from wf (ny a1) (wf (ny a2) d)]
section
variable {P:ń}{w:ň}
variable {X:Cx}
variable {prog:ń}{A:ŉ}{E:AB}{s:ļ}
def Qh:(ux<|cG P w).is h (Sum.Â i) (Value.M i t):=by let e:ji (Sum.Â i) (Value.M i t)=ĳ:=GC i t;show e
def abj:(ux<|cG P w).is h (Sum.Ò x) (Value.X x t):=by let e:ji (Sum.Ò x) (Value.X x t)=ĳ:=GD x t;show e
def abk:∀{ts:İ T3} {vs:İ Ĳ} {as:İ ĸ},ś h vs (cW<|ts.L iz) as->mQ (tupK<|ux<|cG P w) h (qF ts) vs:=by
 intro ts vs as r
 induction ts generalizing vs as with
 | nil=>simp only[kD,cW]at r;cases r;trivial
 | cons t ts ih=>
  simp only[bS,cW]at r;cases r with| cons r1 r2=>let(a,o,n,B,q,D,rfl,d,g,hd):=JL r1;show%[%[a,o,n,_,rb,d,g,hd,Qh,Qh,abj|trivial]|ih r2]
def adv (r:Ť h v (toP<|tE ts) as)(d:ts≠[]):(FP P w).is h (qF ts) v:=by let(a,o,vs,n,bs,rfl,g,B,hd,ra):=jW r;calc%[%[5,a,o,n,vs,rb,g,B,hd|abk ra],λz=>d<|vS.mp z|λt q=>?_];let(u,_,rfl):=a5.mp q;show%[18,_,_,_|rb]
def abl (w:ň)(K:W.Ì):İ V->Hp->VK->Prop:=λxs H Q=>∃(L:Addr) (as:İ ĸ) (d:ĸ->İ T3),xs=[.H L]/\aP K H L (as.L V.H)/\as.v<=3999/\(∀a∈as,pH K H a (d a))/\
 ∀(p:ĸ) (bs:İ ĸ),H p=Ĵ->(∀b∈bs,b∈as)->(bs.L d).Ö->(∀a∈as,d a∈bs.L d)->Q (.H p) (upd H p<|.ext<|pI w p bs)
def Ob (hc:X.ĭ=ĳ)(hu:X.A.ß+64<cLine):fM X (.Ä "set") (abl X.w X.K):=by
 intro ao s C H xs us Q I r h;let(L,as,d,rfl,hS,hz,hl,q):=h;let(u,rfl,ru):=vals1 r;cases ru;let(its,rv,pl,_):=I.ğ hS;let Y4:=Ho rv;subst Y4;let la:=Qg I hl;let hsz:(as.L Value.H).R.E=as.v:=yi;refine Wj (vk:=Wm (FP X.Ñ X.w) λk v=>∃b∈as,v=.H b/\k=qF (d b)) (val:=λi=>qF (d<|as.Î i 0)) (show (2:Nat)<=8 by decide) (aeH adl) (aeJ adq) (aeI adn) (aeK abf) (show X.A.ß+14+2<cLine by lia) (I.ok.hd hc) pl.ÿ (λi v hv=>?_) (by rw[hsz];show hz) λh' tk ks kk hkl J m=>?_
 .let hi:i<as.v:=by
   have:=(wP.mp hv).1;simp_all
  let ev:v=.H as[i]:=by
   have:(as.L Value.H)[i]?=į v:=by simpa using hv
   rw[a_,ae hi]at this;show(bo this).Ð
  let eg:as.Î i 0=as[i]:=by simp[hi]
  let((rs,rd),ne,_):=la as[i] (be hi);calc%[0,as[i],ev|?_];rw[eg,ev];show%[25,adv rd ne,as[i],be hi,rb|rb]
 .let(es,ep,t,m,ti,D,_,_):=m;let hv:∀(i:ı) e k,es.I[i]?=į e->ks[i]?=į k->∃b∈as,e.2=.H b/\k=qF (d b):=λi e k h1 h2=>((D.ą i e k h1 h2).1).2;let G:es.I.L (·.2)=((es.I.L (·.2)).L DR).L Value.H:=by
   rw[c8];calc(kF _).Ð.À<|d6 λv O=>?_;let(e,he,rfl):=a5.mp O;let(i,hi,rfl):=cn.mp he;let(b,_,F,_):=hv i _ (ks[i]'(by rw[D.len];show hi)) (ae hi) (ae _);rw[F];rfl
  let B:ks=((es.I.L (·.2)).L DR).L λb=>qF (d b):=by
   apply rg;.simp[D.len]
   .intro i h1 h2;let hi:i<es.I.v:=by rw[<-D.len];show h1
    let(b,_,F,e3):=hv i _ _ (ae hi) (ae h1);rw[e3];simp only[xE];rw[F];rfl
  generalize (es.I.L (·.2)).L DR=bs at G B;let Z:∀b∈bs,b∈as:=λb N=>by
   let(i,hi,rfl):=cn.mp N;let g:i<es.I.v:=by have:=Ő List.v G;rw[ab,ab]at this;simp[*]
   let(b',Y,F,_):=hv i _ (ks[i]'(by rw[D.len];show g)) (ae g) (ae _);have:(es.I.L (·.2))[i]?=į (.H bs[i]):=by rw[G];simp[hi]
   rw[a_,ae g]at this;have:es.I[i].2=.H bs[i]:=bo this;rw[F]at this;cases this;show Y
  let nd:(bs.L d).Ö:=by
   have:=D.nd;rw[B]at this;let e:(bs.L λb=>qF<|d b)=(bs.L d).L qF:=by rw[c8];rfl
   rw[e]at this;show List.Ã.of_map qF (λa b M z=>M (by rw[z])) this
  calc%[1,.H s.n,_,I.ģ (o:=.ext (pI X.w s.n bs)) (t':=tk) kk (ai _)<|pI.ext %[30,es,ep,t,m|G],rb|q _ bs I.à Z nd λa ha=>?_];let(i,hi,rfl):=cn.mp ha;have:qF (d as[i])∈ks:=(J _).Ù<|a5.Ù %[0,i,by rw[hsz];show b3.Ù hi|by simp[hi]];rw[B]at this;let(b,N,e):=a5.mp this;rw[<-Y5 e];show a5.Ù %[0,b,N|rb]
def adw (hp:Ť s.C p (toP<|tE ts) as)(hq:Ť s.C q (toP<|tE us) bs)(h1:∀t∈ts,jy t)(h2:∀u∈us,jy u)(hun:A.ß+64<cLine)(h:Q (.Ă<|Ļ<|dg ts<dg us) s):ĺ (ľ prog w) A (compareOp .Lt p q) Q E s:=by
 let(a,oa,vs,na,cs,rfl,ha,ca,da,ra):=jW hp;let(b,ob,D,nb,ds,rfl,hb,cb,db,B):=jW hq;let cg:A.ė.ß=A.ß+1:=rfl;let Ta:s.Ā (.H a) "tuple":=%[0,oa,ha|ca]
 let Tb:s.Ā (.H b) "tuple":=%[0,ob,hb|cb]
 show ĺ _ _ (richCompare .Lt (.H a)<|.H b) Q E s;calc qA (op:=.Lt) (T:="tuple") Ta Tb vv (c_ vv Ta F.entry_tuple_lt ?_<|F.args_tuple_lt_2 _ _) yf;show ĺ _ _ (Ŝ (.H b) (.Ä "tuple") >>= _) _ _ s;calc aa<|hV Tb isSubtype_tuple_tuple ?_;simp only[fN,bq,if_false];calc aa<|kN ha da<|aa<|kN hb db<|aa ?_;let hz:∃(xs ys:İ Ĳ) (g d:İ T3) (as bs:İ ĸ),vs.I.zip D.I=xs.zip ys/\ś s.C xs (cW<|g.L iz) as/\ś s.C ys (cW<|d.L iz) bs/\(∀t∈g,jy t)/\(∀u∈d,jy u)/\
   Ļ (vs.E<D.E)=Ļ (xs.v<ys.v)/\Ļ (dg ts<dg us)=Ļ (dg g<dg d):=%[48,_,_,ts,us,_,_,rb,ra,B,h1,h2,yi|rb]
 generalize vs.I.zip D.I=z at hz;generalize Ļ (dg ts<dg us)=fin at h hz
 induction z with
 | nil=>
  let(xs,ys,g,d,as,bs,G,ra,B,Y,Z,L,J):=hz;rw[we];calc ag<|ag %[2,_,rb,by simp[Builtin.Tuple.tupleCompareSizes]|?_];show Q (.Ă<|Ļ<|vs.E<D.E) s;have:fin=Ļ (xs.v<ys.v):=by
   rw[J];cases xs with
   | nil=>
    cases g with
    | cons t g=>simp only[bS,cW]at ra;cases ra
    | nil=>
     cases d with
     | nil=>simp only[kD,cW]at B;cases B;simp[dg]
     | cons u d=>simp only[bS,cW]at B;cases B;simp[dg]
   | cons x xs=>
    cases ys with
    | cons y ys=>cases G
    | nil=>
     cases d with
     | cons u d=>simp only[bS,cW]at B;cases B
     | nil=>simp[dg]
  rw[L,<-this];show h
 | cons v z ih=>
  let(xs,ys,g,d,as,bs,G,ra,B,Y,Z,L,J):=hz;cases xs with
  | nil=>cases G
  | cons x xs=>
  cases ys with
  | nil=>cases G
  | cons y ys=>
  cases g with
  | nil=>simp only[kD,cW]at ra;cases ra
  | cons t g=>
  cases d with
  | nil=>simp only[kD,cW]at B;cases B
  | cons u d=>
  simp only[bS,cW]at ra B;cases ra with
  | @cons _ _ _ _ _ _ r1 r2=>
  cases B with
  | @cons _ _ _ _ _ _ r3 r4=>
  rw[wv]at G;injection G with ev G;subst ev;let M:=Y t a4;let O:=Z u a4;let l1:=DQ t M;let l2:=DQ u O;rw[ku];calc aa<|aa ?_;calc SeqAt.eqAt_reads _ _ A.ė s _ _ _ _ r1 r3 l1.1 l2.1 (by have:=mS (toP<|iz t).depth (toP<|iz u).depth;lia) prog w _ _ ?_;by_cases e:t=u
  .subst e;rw[(wM _ _).Ù rfl];calc ag ?_;refine ih %[48,xs,ys,g,d,_,_,G,r2,r4,λt N=>Y t<|av _ N,λt N=>Z t<|av _ N,by rw[L];simp|by rw[J];show om.Ù (by simp[dg,fb])]
  .let en:PyData.eqv (toP<|iz t) (toP<|iz u)=Ķ:=by
    cases z:PyData.eqv (toP<|iz t) (toP<|iz u) with| false=>rfl| true=>show ŀ (Qd<|(wM _ _).mp z) e
   rw[en];calc aa<|fA<|aa<|aaq r1 r3 M O e yf ?_;calc aa<|ag<|ag<|ag<|ag %[2,_,rb,yi|?_];have:Ļ (tD t<tD u)=fin:=by
    rw[J];show om.Ù (by
     let ne:tD t≠tD u:=λz=>e<|FZ M O z;simp[dg,fb,ne])
   rw[this];show h
def adx (K:W.Ì):R2:=λx y H Q=>∃(a b:Addr) (ts us:İ T3),x=.H a/\y=.H b/\pH K H a ts/\pH K H b us/\Q (.bl<|Ļ<|dg ts<dg us) H
def Y6 (B:X.A.ß+64<cLine):fL X (compareOp .Lt) (adx X.K):=by intro ao s C H x y v u Q I D g h;let(a,b,ts,us,rfl,rfl,h1,d,q):=h;let(as,ra):=h1.1.reads I D;let(bs,F):=d.1.reads I g;show adw ra F h1.2.2 d.2.2 B %[1,.bl _,H,I,rb|q]
end
end L2
namespace L2
open PySem PySem.Spec PyProof.Rows
def Good (u:Ĳ)(n:ı):Prop:=∃x t,u=.X x t/\0<t/\t<n
def GP (X:Cx)(ao:AC)(I:St)(Q:VK)(u:Ĳ)(s':ļ):Prop:=∃v H',aL X ao I H' s'/\bH v u/\Good u s'.Ü/\Q v H'
structure GE (X:Cx)(e:ŋ)(t:TE):Prop where
 out:∀(ao:AC) (s:ļ) (σ:St) (H:Hp) (Q:VK),aL X ao σ H s->t σ H Q->ĺ (ľ X.Ñ X.w) X.A (ŏ e X.Ê) (GP X ao σ Q) X.xe s
section
variable {X:Cx}
def aar (ha:QE X a ta)(hs:O6 (.Ć (.M i) j p)):GE X (.Ġ a (.Ć (.M i) j p) pos) (qN acH ta<|tC<|.M i):=by
 calc⟨λao s T H Q I h=>?_⟩;calc ŧ<|bD (ha.Ý ao s T H _ I h) λv s1 ⟨x,H1,I1,r1,q1⟩=>wm ?_;let(z,i',c,rfl,e',hz,g,q):=q1;cases e';let(t,rfl):=r1;let(L,h1,J,M,D,F):=zU g;let B:z.ñ.I.v=z.v:=by simp[Str.length]
 rw[B]at h1 D F;let hn:=rW;let I2:=I1.tok<|s1.Ü+1;show tail_any (typeIs_str _ z t) slot_str_getitem.Å (getItem_str (c:=c) (by
  let d:Ļ (i < -(2^63:Ŀ))=Ķ:=aw yf;let G:Ļ (i>=2^63)=Ķ:=aw yf;rw[d,G,tF]) (by rw[h1];simpa using J) %[4,.X ⟨#[c]⟩,H1,I2.tok _,%[_|rb],%[1,_,_,rb,kX _|eW _]|q])<|hs _ _
def tUp (K:W.Ì)(to:TE):TE:=λT H Q=>to T H λx H1=>∃c:Nat,x=.X (S [c])/\c<128/\Q (.X<|S [up1 c]) H1
def aeL {apos cpos:Pos}(G:GE X o to)(B:Ŷ (attributeBase o "upper" X.Ê (ŏ o X.Ê)=ŏ o X.Ê) ŷ)(D:Ŷ ((apos.endLine==cpos.line)=ĳ) ŷ):GE X (.ġ (.Ą o "upper" apos) [] [] cpos) (tUp X.K to):=by
 calc⟨λao s T H Q I h=>?_⟩;calc wpAny_Call_method0_late B D<|bD (G.Ý ao s T H _ I h) λv s1 O=>?_;let(x,H1,I1,r1,L,c,e,J,q):=O;subst e;let(t,rfl):=r1;let(_,t',e',N,M):=L;refine⟨23,"str","str.upper",cw,PySem.F.slot_str_upper,PySem.F.type_str_upper,typeIs_str s1 _ t,λ_ e=>(nomatch e),iX rb<|PySem.evalArgs_none ?_⟩
 .let g:Builtin.Str.tooLong (Txt.upper<|S [c]).v=Ķ:=fit_upper (by rw[iI];show ap (show 1<=1000 by decide) yk);calc call_gives F.slot_str_upper (typeIs_str s1 _ t) F.entry_str_upper (F.args_str_upper_1 _) (gives_str_upper (S [c]) t g) %[fit_le g|?_];let e:Txt.upper (S [c])=S ([c].L up1):=by rw[upper_ascii (x:=S [c]) (λd hd=>by rw[am.mp hd];show J)];simp[S]
  show%[4,.X<|S [up1 c],H1,I1.tok _,%[s1.Ü|congrArg (λz=>Value.X z s1.Ü) e],%[1,_,s1.Ü,rb,my N M|eW _]|q]
end
theorem Lj:∀{l:İ ı} {c i:ı},l[i]?=į c->(∀k,k<i->l[k]?≠į c)->l.È i++l.Í (i+1)=l.Đ c
 | [],_,_,h,_=>by simp at h
 | d::l,c,0,h,_=>by
  have:d=c:=by simpa using h
  subst this;simp
 | d::l,c,i+1,h,hk=>by let hd:d≠c:=λe=>hk 0 yf (by simp[e]);let q:=Lj (l:=l) (c:=c) (i:=i) (by simpa using h) (λk g=>by have:=hk (k+1)<|tN g;simpa using this);rw[List.erase_cons_tail (by simpa using hd),<-q];simp
open Builtin.Str in
def Y7 (l)(c)(h:c∈l):∃i,occurrences (S l) (S [c]) 0 (S l).v 1=[i]/\glued (S []) (partsBetween (S l) [i] (S [c]).v)=S (l.Đ c):=by
 let hn:(S l).v=l.v:=iI l;rcases StrLaws.occ_head (S l) (S [c]) 1 (ai 1) with⟨g,hk⟩|⟨i,r,g,hi,hk⟩
 .let(i,hi):=uj.mp h;show ŀ ((i5 (S l) c i).Ù hi)<|hk i
 .let q:=StrLaws.occ_length_le (S l) (S [c]) 0 (S l).v 1;rw[g]at q;have:r=[]:=List.eq_nil_of_length_eq_zero (by rw[bv]at q;lia);subst this;let B:l[i]?=į c:=(i5 (S l) c i).mp hi;let G:∀k,k<i->l[k]?≠į c:=λk d z=>hk k d<|(i5 (S l) c k).Ù z;calc%[0,i,g|?_];let F:i<l.v:=(al.mp B).1;let D:partsBetween (S l) [i] (S [c]).v=[strSub (S l) 0 i,strSub (S l) (i+(S [c]).v) (S l).v]:=rfl;rw[D,JG,JG,hn,show (S [c]).v=1 from rb,x_,c6,<-Lj B G];show (⟨(S<|l.È i).ñ++(S []).ñ++(S<|l.Í<|i+1).ñ⟩:ņ)=_;unfold S;congr 1;apply mr.mp;simp
def dh (c:ı):ı:=if 65<=c/\c<=90 then 63 else c
def ady (a b:ı):(!Ļ ([b]<[a]))=Ļ (a<=b):=by
 by_cases h:a<=b;.rw[aS h,aw (by simp[fb];show h)];rfl
 .rw[aw h,aS (by simp[fb];show tP h)];rfl
structure DW (P:ń)(w:ň)(K:W.Ì)(mg:ņ->ĵ Ĳ)(base:Ň)(f:ĸ)(fd:Ş):Prop where
 run:∀(A:ŉ) (outer:İ Env) (s:ļ) (H:Hp) (args:Args) (c:ı) (t:Tok),eE 1 A->yG P w K mg base A outer s H->Š s fd args ([("sign":ņ)].zip [Value.X (S [c]) t])->0<t->t<s.Ü->
  codeAny (ľ P w) A (.call (.H f) args) (λr s'=>∃u,r=.ok (.ret u)/\CE outer P w H s (λv H'=>v=.X (S [dh c])/\H'=H) u s'/\Good u s'.Ü) s
def abm {K:W.Ì}{mg:ņ->ĵ Ĳ}{st:Ŋ}{x1 x2 x3:ņ}{j1 j3 j5:_}(F:vG K "tile_of" "tile_of" st f fd)(N:aV ["sign"] ["sign"] (aJ st))(g:(aJ st).Þ.Å ("sign":ņ)=į .ā)(hb:eV st=[.Return (į<|.IfExp (.Compare (.Ć (.X x1) j1 p1) [.LtE,.LtE] [.è "sign" p2,.Ć (.X x3) j3 p3] p4) (.Ć (.X x2) j5 p5) (.è "sign" p6) p7) p8])(h1:x1=S [65])(h2:x2=S [63])(h3:x3=S [90]):DW P w K mg base f fd:=by
 subst h1 h2 h3;let(oc,od,kV,doc,pm,an,bA,ct,osl,rfl,lk,hcd):=F.ex;calc⟨λA outer s H args c t hr M hbd t0 t1=>?_⟩;let KX:K.In s.C:=M.mod.JW.keeps λb o e=>(M.bs b o e).1;let lim:s.C.NoLimit:=M.mod.nolimit.keeps λb o e=>(M.bs b o e).1;let G:∀y∈[("sign":ņ)].zip [Value.X (S [c]) t],(aJ st).Þ.Å y.1=į .ā\/((aJ st).Þ.Å y.1=į .ù/\((cellsFrom (s.n+1) (aJ st).Þ []).Å y.1).č=ĳ):=λ⟨n,v⟩ hy=>by let hn:n="sign":=am.mp (uv hy).1;subst hn;show .Â g
 calc codeAny_call_function hr.depth (KX _ _ lk) rb N.co N.gen rb (W.codeRec_of KX hcd)<|hbd _ _ _ _ ?_;calc o7<|wpAny_newFunctionEnv_cells N.þ G λenv he s1 x ht=>?_;subst he;calc%[lim.keeps x.toInCall.keep|codeAny_func ?_];let I:aL (rZ ug P w K mg base ["sign"] "tile_of" (aJ st) f bA A outer s H E0) [] (start ["sign"] [.X (S [c])]) H s1:=G5 N hr.hd M rb (.á %[t|rb] .ê) x
 let hm:bindL (envOfC "tile_of" (aJ st) s.n f bA).Į ([("sign":ņ)].zip [Value.X (S [c]) t]) (λ_=>Ĵ) "sign"=į (Value.X (S [c]) t):=yH (i:=0) (P:=["sign"]) (vs:=[Value.X (S [c]) t]) yk rb rb g
 let hns:s1.C.Ns s.n (bindL (envOfC "tile_of" (aJ st) s.n f bA).Į ([("sign":ņ)].zip [Value.X (S [c]) t]) λ_=>Ĵ):=x.toInCall.ns;show ĺ _ _ (execs (eV st) _) _ _ s1;rw[hb];let O:t<s1.Ü:=a7 t1 ht;let nm:∀(tk:ı) (p:Pos) (Q:AB) (E:AB),Q (.X (S [c]) t) {s1 with toks:=tk}->
   ĺ (ľ P w) (A.deeper<|envOfC "tile_of" (aJ st) s.n f bA) (ŏ (.è "sign" p)<|envOfC "tile_of" (aJ st) s.n f bA) Q E {s1 with toks:=tk}:=λtk p Q E q=>
  sL (uu N.þ g hns hm q) yk
 let L:∀(B:ı) (y:Tok) (d:ı),d=dh c->0<y->y<B->∃u,(Except.ok (Flow.ret<|.X (S [d]) y):Result)=.ok (.ret u)/\CE outer P w H s (λv H'=>v=.X (S [dh c])/\H'=H) u {s1 with toks:=B }/\Good u B:=λB y d hd a2 a3=>by let J:=I.tok B;subst hd;show%[33,_,rb,%[26,.X<|S [dh c],H,J.os,J.bare,J.ö,J.ð,%[y|rb],rb|rb],_,y,rb,a2|a3]
 calc nV<|wpAny_Return_some<|wpAny_IfExp<|isTrue_chain<|oC<|test_link<|nm _ _ _ _<|x9<|eM ?_;let D:∀a:ı,(S [a]).ñ.I=[a]:=λa=>rfl;rw[D,D,ady];by_cases Y:65<=c
 .rw[aS Y];calc ite_tt<|test_last<|oC<|x9<|eM ?_;rw[D,D,ady];by_cases Z:c<=90
  .rw[aS Z];calc ite_tt<|oC ?_;show L (s1.Ü+1+1+1) (s1.Ü+1+1) 63 (Ĺ %[Y|Z]).Ð (kX _)<|eW _
  .rw[aw Z];show ite_ff<|nm _ _ _ _<|L (s1.Ü+1+1) t c (if_neg λz=>Z z.2).Ð t0<|a7 O<|di s1.Ü 2
 .rw[aw Y];show ite_ff<|ite_ff<|nm _ _ _ _<|L (s1.Ü+1) t c (if_neg λz=>Y z.1).Ð t0<|a7 O<|km _
section
variable {X:Cx}{ao:AC}{C:St}{H:Hp}{s:ļ}
variable {prog:ń}{w:ň}{A:ŉ}{E:AB}
def Ti (X:Cx)(s:ļ)(x:ņ)(u:Ĳ):Prop:=∃m,s.C.Ns X.Ê.Ď m/\Look X.Ê s.C m x u
def tG {E:AB}{x:ņ}{u:Ĳ}{pos:Pos}{Q:AB}(I:aL X ao C H s)(h:Ti X s x u)(q:Q u s)(hd:Ŷ ((x==("__debug__":ņ))=Ķ) Ÿ)(g:Ŷ ((x==("__classdict__":ņ))=Ķ) Ÿ):ĺ (ľ X.Ñ X.w) X.A (ŏ (.è x pos) X.Ê) Q E s:=by
 let(m,hn,l):=h;rcases l with⟨hk,hm⟩|⟨hk,c,B,d⟩;.show sL (uu I.ok.þ hk hn hm q) hd
 .rcases hk with hk|hk;.show sL (wpAny_loadName_cell I.ok.þ hk B d q) hd
  .show sL (wpAny_loadName_free I.ok.þ hk B d q g) hd
def uZ (ir is it il : ı)(tb : TS)(c : ı) : TS := λD C H => ∃l : İ ı, (((C.ĉ is<|į<|.X<|S [c]).ĉ it<|į<|.X<|S [dh c]))[ir]? = į (į<|.X<|S l) /\ l.v <= 1000 /\
  (if dh c ∈ l then tb {nx := D.nx, rt := D.rt} (((C.ĉ is<|į<|.X<|S [c]).ĉ it<|į<|.X<|S [dh c]).ĉ il<|į<|.X<|S<|l.Đ<|dh c) H
   else D.nx ((C.ĉ is<|į<|.X<|S [c]).ĉ it<|į<|.X<|S [dh c]) H)
def afN (ir is it il:ı)(F q:TE)(tb:TS):TS:=λD C H=>F C H λx1 H1=>q C H1 λB H2=>∃g d:Nat,x1=.X (S [g])/\B=.X (S [d])/\
 uZ ir is it il tb g {nx:=uZ ir is it il tb d D,rt:=D.rt} C H2
structure Tj (X:Cx)(ir is it il:ı)(f:ĸ)(fd:Ş):Prop where
 nd:X.N.Ö
 r:X.N[ir]?=į "rack"
 s:X.N[is]?=į "sign"
 t:X.N[it]?=į "tile"
 l:X.N[il]?=į "left"
 vr:Ul X.Ê.ċ "rack"
 vs:Loc X.Ê.ċ "sign"
 vt:Loc X.Ê.ċ "tile"
 vl:Loc X.Ê.ċ "left"
 fs:X.fn "sign"=ĳ
 ft:X.fn "tile"=ĳ
 fl:X.fn "left"=ĳ
 T:DW X.Ñ X.w X.K X.mg X.ö f fd
 b:j6 X.K fd ["sign"] []
 m:X.mg "tile_of"=į (.H f)
 k:W.ĩ X.K (.H f)=ĳ
 g:Gl X "tile_of"
 rm:eE 1 X.A
abbrev Ga (x0 : ņ)(j0 j1 : ı)(HX HY pk2 H_ Ia Qi Qj Qk Ib Ie u9 w5 xg xq u_ zp Gb : Pos)(rest : İ Ŋ) : İ Ŋ :=[.Assign [.è "tile" HX] (.ġ (.è "tile_of" HY) [.è "sign" pk2] [] H_) Ia,
   .If (.Compare (.è "tile" Qi) [.In] [.è "rack" Qj] Qk) (.Assign [.è "left" Ib] (.ġ (.Ą (.è "rack" Ie) "replace" u9) [.è "tile" w5, .Ć (.X x0) j0 xg, .Ć (.M 1) j1 xq] [] u_) zp::rest) [] Gb]
def Wn (Y:Tj X ir is it il f fd)(I:aL X ao C H s):ĺ (ľ X.Ñ X.w) X.A (assign (.è "sign" p1) X.Ê<|.X (S [c]) t) (λ_ s2=>aL X ao (C.ĉ is<|į<|.X<|S [c]) H s2/\Ti X s2 "sign" (.X (S [c]) t)/\s.Ü<=s2.Ü) X.xe s:=o7 (xb<|ud I Y.nd Y.s Y.vs (v:=.X (S [c])) %[t|rb] (λs' I' _ ex d=>%[I',ex|d])<|.Â Y.fs)
def Y8 {ir is it il:ı}{c:ı}{t:Tok}{x0:ņ}{N j1:ı}{HX HY g H_ Ia Qi Qj Qk Ib Ie M w5 xg Z O zp Gb:Pos}{rest:İ Ŋ}{D:Ends}(Y:Tj X ir is it il f fd)(hx0:x0=S [])(hl1:(M.endLine==O.line)=ĳ)(hs1:swapsWith (.ġ (.è "tile_of" HY) [.è "sign" g] [] H_) (į<|.è "tile" HX) Ia.line X.Ê=pure Ķ)(hs2:swapsWith (.ġ (.Ą (.è "rack" Ie) "replace" M) [.è "tile" w5,.Ć (.X x0) N xg,.Ć (.M 1) j1 Z] [] O) (į<|.è "left" Ib) zp.line X.Ê=pure Ķ)(d:vq X rest tb)(I:aL X ao (C.ĉ is<|į<|.X<|S [c]) H s)(ex:Ti X s "sign" (.X (S [c]) t))(t0:0<t)(t1:t<s.Ü)(q:uZ ir is it il tb c D C H):ĺ (ľ X.Ñ X.w) X.A (execs (Ga x0 N j1 HX HY g H_ Ia Qi Qj Qk Ib Ie M w5 xg Z O zp Gb rest) X.Ê) (SP X ao {nx:=D.nx,rt:=D.rt}) X.xe s:=by
 subst hx0;let(l,hl,hz,q):=q;calc nV<|xc (kH<|zO I Y.g Y.m ?_ yk) hs1;calc sf (h₀:=X.base) I.ok.mod.JW Y.k (fT<|tG I ex<|lL %[I.jo|?_]) rb rfl;calc sM<|kc (Y.T.run X.A X.stack s H %[[.X (S [c]) t]|[]] c t Y.rm I.env0 (Y.b s [.X (S [c]) t] I.jo rb) t0 t1) λr s1 hr=>?_;let(u,rfl,ce,y,y',hy,g0,g1):=hr;let(v,H1,I1,rv,ev,eH):=I.after ce;subst ev eH hy;let(y2,ey):=rv;injection ey with ey1 ey2;subst ey1 ey2;calc o7<|ud I1 Y.nd Y.t Y.vt (v:=.X (S [dh c])) %[y'|rb] (λs2 I2 _ B ht=>?_)<|.Â Y.ft;let g2:y'<s2.Ü:=a7 g1 ht;let(m,hn,hlm):=id I2.loc;let(ur,(L,er),lr):=hlm ir "rack" _ Y.r hl Y.vr;subst er;let J:Ti X s2 "rack" (.X (S l) L):=%[0,m,hn|lr]
 calc nV<|wpAny_If<|ue (tG I2 B<|tG I2 J<|in_str<|eM ?_) (by with_unfolding_all rfl);let ein:(!(Builtin.Str.occurrences (S l) (S [dh c]) 0 (S l).v 1).ę)=Ļ (dh c∈l):=by let e:=StrLaws.found_one (S l)<|dh c;rw[JF]at e;rw[show (S [dh c])=(⟨#[dh c]⟩:ņ) from rb,e]
 rw[ein];by_cases G:dh c∈l
 .rw[Ĺ G]at q;rw[aS G];calc ite_tt<|nV<|xc (tq rb rb hl1 rb<|tG I2 J ?_) hs2;calc⟨23,"str","str.replace",cw,PySem.F.slot_str_replace,PySem.F.type_str_replace,typeIs_str s2 _ L,λ_ e=>(nomatch e),?_⟩;calc iX rb<|nN ?_;show ĺ _ _ (spliced<|(Ķ,ŏ (.è "tile" w5) X.Ê)::(Ķ,ŏ (.Ć (.X<|S []) N xg) X.Ê)::(Ķ,ŏ (.Ć (.M 1) j1 Z) X.Ê)::[]) _ _ _;calc fT<|tG I2 B<|fT<|oC<|fT<|wm<|lL ?_;let(i,ho,Wo):=Y7 l (dh c) G;refine call_gives F.slot_str_replace (typeIs_str _ _ L) F.entry_str_replace (F.args_str_replace_4 _ _ _ _) (Fy (S l) (S [dh c]) (S []) L y' s2.Ü _ λ_=>%[?_,?_,?_|?_]) ?_
  .have:y'≠0:=jS g0;have:s2.Ü≠0:=jS<|my g0 g2;simp[*]
  .have:y'≠s2.Ü:=bb g2;simpa using this
  .rfl
  .rw[ho];unfold Builtin.Str.tooLong;rw[iI,show (S []).v=0 from rb,Nat.mul_zero,xA];show aw (by have:=aH (n:=l.length) hz;lia)
  rw[ho];let e0:(([i]:İ ı).ę||((S [dh c]).v==0&&(S []).v==0))=Ķ:=rfl;rw[ķ (by rw[e0];decide),Wo];calc%[?_|?_];.rw[iI];show ap qE<|ay<|aH yf
  .let I3:=I2.tok<|s2.Ü+1+1+1;calc Bq I3 Y.nd Y.l Y.vl (v:=.X (S<|l.Đ<|dh c)) %[_|rb] (λs3 I4=>?_)<|.Â Y.fl;calc bD (d.Ý ao s3 _ _ {nx:=D.nx,rt:=D.rt} I4 q) λfl s4 z=>?_;cases fl with| next=>show kP z| ret v=>show z| brk=>show z| cont=>show z
 .rw[ķ G]at q;rw[aw G];show ite_ff<|kP<|kP %[3,_,_,I2|q]
def adz {ir is it il:ı}{x0:ņ}{j0 j1:ı}{HX HY N H_ Ia Qi Qj Qk Ib Ie u9 w5 xg xq u_ zp Gb:Pos}{rest:İ Ŋ}{e1 L:ŋ}{kt:_}(Y:Tj X ir is it il f fd)(hx0:x0=S [])(hp:Ū (ľ X.Ñ X.w) X.A X.Ê X.xe)(hcm:X.ĭ=ĳ)(g1:GE X e1 t1)(g2:GE X L t2)(hl1:(u9.endLine==u_.line)=ĳ)(hs1:swapsWith (.ġ (.è "tile_of" HY) [.è "sign" N] [] H_) (į<|.è "tile" HX) Ia.line X.Ê=pure Ķ)(hs2:swapsWith (.ġ (.Ą (.è "rack" Ie) "replace" u9) [.è "tile" w5,.Ć (.X x0) j0 xg,.Ć (.M 1) j1 xq] [] u_) (į<|.è "left" Ib) zp.line X.Ê=pure Ķ)(hst:Ņ [e1,L] X.Ê=[(Ķ,ŏ e1 X.Ê),(Ķ,ŏ L X.Ê)])(hs:∀x,foldedSetIterable (.Ě [e1,L] kt p2) X.Ê x=pure x)(hrest:vq X rest tb):QS X (.For (.è "sign" p1) (.Ě [e1,L] kt p2) (Ga x0 j0 j1 HX HY N H_ Ia Qi Qj Qk Ib Ie u9 w5 xg xq u_ zp Gb rest) [] pos) (afN ir is it il t1 t2 tb):=by
 calc⟨λao s C H D I h=>?_⟩;calc wpAny_For (wpAny_Tuple_spliced ?_) hs;rw[hst];show ĺ _ _ (spliced<|(Ķ,ŏ e1 X.Ê)::(Ķ,ŏ L X.Ê)::[]) _ _ s;calc fT<|bD (g1.Ý ao s C H _ I h) λu1 s1 ⟨v1,H1,I1,r1,gd1,q1⟩=>fT<|o7<|gg (g2.Ý ao s1 C H1 _ I1 q1) (λu2 s2 ⟨v2,H2,I2,r2,gd2,q2⟩ ht=>lL %[show 2<=Ľ by decide|?_]) λ_ _ z _=>z;let(G,F,ev1,ev2,q):=q2;subst ev1 ev2;let(d,rfl):=r1;let(g,rfl):=r2;let(_,_,eg,a0,a1):=gd1;injection eg with eg1 eg2;subst eg1 eg2;let(_,_,eg,b0,b1):=gd2;injection eg with eg1 eg2;subst eg1 eg2;let a2:d<s2.Ü:=a7 a1 ht;let I3:aL X ao C H2 {s2 with heap:=s2.C.Ï {cls:=.Ä "tuple",data:=.î [Value.X (S [G]) d,Value.X (S [F]) g].R} }:=I2.Ħ (t':=s2.toks) λb o e=>af _ e;let qO:(s2.C.Ï {cls:=.Ä "tuple",data:=.î [Value.X (S [G]) d,Value.X (S [F]) g].R}).Á s2.n=į {cls:=.Ä "tuple",data:=.î [Value.X (S [G]) d,Value.X (S [F]) g].R}:=aI _ rfl;let fa3:mq X ao H2 s2.n:=I2.mz (ai _)<|I2.ð.à<|ai _;let hT:∀h:Ň,h.Á s2.n=į {cls:=.Ä "tuple",data:=.î [Value.X (S [G]) d,Value.X (S [F]) g].R}->h.IsTuple s2.n [Value.X (S [G]) d,Value.X (S [F]) g].R:=λh e=>%[31,_,e,rb,_|rb]
 calc oI (hT _ qO) ?_;generalize hob:({cls:=.Ä "tuple",data:=.î [Value.X (S [G]) d,Value.X (S [F]) g].R}:Obj)=Ig at I3 qO hT ⊢;generalize ha:s2.heap.objs.size=a at I3 qO fa3 hT ⊢;generalize hs3:({s2 with heap:=s2.C.Ï Ig}:ļ)=s3 at I3 ⊢;let Wq:s3.Ü=s2.Ü:=by rw[<-hs3]
 let Y9:s3.C.Á a=į Ig:=by rw[<-hs3];show qO
 let fit:mq X ao H2 s3.n:=I3.mz (ai _)<|I3.ð.à<|ai _;let nia:s3.n≠a:=λz=>by rw[<-z]at Y9;show ŀ (a6 Y9)<|iO _
 refine(let S3:ı->St->Hp->Prop:=λn C' H'=>match n with| 0=>D.nx C' H'| 1=>uZ ir is it il tb F D C' H'| _=>uZ ir is it il tb G {nx:=uZ ir is it il tb F D,rt:=D.rt} C' H';?_)
 refine(let fp:İ ĸ:=[s3.n,a];?_)
 let M:∀{H':Hp},(∀b∈fp,H' b=Ĵ)->∀b∈fp,mq X ao H' b:=λhn b B=>%[hn b B|by
  rcases a8.mp B with z|z;.rw[z];show fit.2
  .rw[am.mp z];show fa3.2]
 refine codeAny_forLoop_any (λn s'=>n<=2/\∃C' H',aL X ao C' H' s'/\s'.C.Ĩ s3.n a (2-n)/\s'.C.Á a=į Ig/\(∀b∈fp,H' b=Ĵ)/\s2.Ü<=s'.Ü/\S3 n C' H') ?_ 2
  %[54,ai _,C,H2,I3.Ħ (t':=s3.toks) λb o e=>af _ e,%[2,_,aI _ rb,rb|rb],af _ Y9,λb B=>by
   rcases a8.mp B with z|z;.rw[z];show fit.1
   .rw[am.mp z];show fa3.1,by show s2.Ü<=s3.Ü;lia|q]
 intro n s4 z;let(hn,C4,H4,I4,dR,Z,Pa,tk4,q4):=z;let hf:=M Pa s3.n (by simp[fp]);let(f0,f1,f2,f3,f4,f5):=hf;let one:∀(k:ı) (c:ı) (tk:Tok) (D':Ends),n=k+1->[Value.X (S [G]) d,Value.X (S [F]) g].R[2-n]?=į (Value.X (S [c]) tk)->0<tk->tk<s2.Ü->D'.rt=D.rt->(∀C' H',D'.nx C' H'->S3 k C' H')->uZ ir is it il tb c D' C4 H4->
   ĺ (ľ X.Ñ X.w) X.A (pyNext<|.H s3.n) (λr s₁=>match r with
   | none=>ĺ (ľ X.Ñ X.w) X.A (execs [] X.Ê) (λf J=>SP X ao D f J) (notedBy (ľ X.Ñ X.w) X.A X.Ê λe s'=>cameBackBy (ľ X.Ñ X.w) X.A X.Ê X.xe e s') s₁
   | some v=>ĺ (ľ X.Ñ X.w) X.A (letOwnedTupleGo (.è "sign" p1) (.H s3.n) v) (λ_ s₁'=>
     ĺ (ľ X.Ñ X.w) X.A (assign (.è "sign" p1) X.Ê v) (λ_ s₂=>ĺ (ľ X.Ñ X.w) X.A (execs (Ga x0 j0 j1 HX HY N H_ Ia Qi Qj Qk Ib Ie u9 w5 xg xq u_ zp Gb rest) X.Ê) (λf J=>match f with
      | .next|.cont=>∃m,m<n/\(m<=2/\∃C' H',aL X ao C' H' J/\J.C.Ĩ s3.n a (2-m)/\J.C.Á a=į Ig/\(∀b∈fp,H' b=Ĵ)/\s2.Ü<=J.Ü/\S3 m C' H')
      | .brk=>SP X ao D .next J
      | .ret v=>SP X ao D (.ret v) J) (notedBy (ľ X.Ñ X.w) X.A X.Ê λe s'=>cameBackBy (ľ X.Ñ X.w) X.A X.Ê X.xe e s') s₂) (notedBy (ľ X.Ñ X.w) X.A X.Ê λe s'=>cameBackBy (ľ X.Ñ X.w) X.A X.Ê X.xe e s') s₁') (notedBy (ľ X.Ñ X.w) X.A X.Ê λe s'=>cameBackBy (ľ X.Ñ X.w) X.A X.Ê X.xe e s') s₁) (notedBy (ľ X.Ñ X.w) X.A X.Ê λe s'=>cameBackBy (ľ X.Ñ X.w) X.A X.Ê X.xe e s') s4:=by
  intro k c tk D' hk hit k0 k1 hrt hnx hq;calc gx hp<|o7<|wpAny_pyNext_tuple_item dR (hT _ Z) (x:=Value.X (S [c]) tk) hit λh' st' sb Ql=>?_;let I5:aL X ao C4 H4 {s4 with heap:=h' }:=I4.ħ (t':=s4.toks) (λb o B e=>(sb.2 b B).À e) f0 f1 f3 f4 f5;let(o5,e5,c5,d5):=id st';let O:h'.Á a=į Ig:=(sb.2 a<|ib nia).À Z;calc gx hp<|CV (s:={s4 with heap:=h' }) e5 c5 d5 yk ?_;let I5':=I5.pinned (M Pa) (λb B=>by
   rcases a8.mp B with z|z;.rw[z];show%[0,o5,e5|λv z=>by rw[d5]at z;cases z]
   .rw[am.mp z];show%[0,Ig,O|λv z=>by rw[<-hob]at z;cases z])
  calc gx hp<|bD (Wn Y I5' (t:=tk) (c:=c) (p1:=p1)) λ_ s6 zz=>?_;let(I6,ex6,t6):=zz;calc gx hp<|o7<|gg (Y8 Y hx0 hl1 hs1 hs2 hrest I6 ex6 k0 (show tk<s6.Ü from a7 (a7 k1 tk4) t6) hq) (λf s7 q7 ht7=>?_) λ_ _ z _=>z;cases f with
  | next=>
   let(C7,H7,I7,n7):=q7;let pn:∀b o,b∈fp->h'.Á b=į o->s7.C.Á b=į o/\H7 b=Ĵ:=λb o B e=>by have:=I7.pin (b,o)<|dq _<|dq _<|nZ B e;show%[this.1|this.2.1]
   let mi:s3.n∈fp:=a4;let ma:a∈fp:=av _<|am.Ù rb;refine%[0,k,by simp_all|%[54,yf,C7,H7,I7.nD,?_,(pn a Ig ma O).1,λb B=>?_,ap tk4<|ap t6 ht7|hnx _ _ n7]]
   .let L:2-k=2-n+1:=gN yf;rw[L];show st'.at λo e=>(pn _ o mi e).1
   .rcases a8.mp B with z|z;.rw[z];show(pn _ o5 mi e5).2
    .rw[am.mp z];show(pn a Ig ma O).2
  | cont=>let(_,_,_,z):=q7;show z.ó
  | brk=>let(_,_,_,z):=q7;show z.ó
  | ret v=>let(x7,C7,H7,I7,r7,q7):=q7;show%[21,x7,C7,H7,I7.nD,r7|hrt ▸ q7]
 rcases(show n=0\/n=1\/n=2 by lia) with e|e|e
 .subst e;calc gx hp<|wpAny_pyNext_tuple_end (I4.ok.hd hcm) dR (hT _ Z) yi λh' eb=>?_;show kP %[3,C4,H4,I4.ħ (t':=s4.toks) (λb o B e=>eb b o B e) f0 f1 f3 f4 f5|q4]
 .subst e;show one 0 F g D rb yi b0 b1 rb (λ_ _ z=>z) q4
 .subst e;show one 1 G d {nx:=uZ ir is it il tb F D,rt:=D.rt} rb yi a0 a2 rb (λ_ _ z=>z) q4
open Classical in
def adA (L:X.A.ß+64<cLine):fL X (compareOp .In) (ac3 X.K Ķ):=by intro ao s C H x y v u Q I G F h;let(n,d,es,hn,hd,g,q):=h;let(as,ra):=hd.reads I G;let(bs,D):=g.reads I F;let J:=hd.lay;let B:=g.lay;rw[toP]at D;simp only[toP,PyData.canLay0,PyData.depth]at B;calc SeqAt.in_tuple_reads D ra B.1 J.1 (by have:=xv (PyData.depthAll<|cW es) (toP d).depth;lia) %[1,.bl _,H,I,rb|?_];rw[Pr];show q
def abn {X:Cx}(K:W.Ì)(d:X.A.ß+64<cLine)(h:Ŷ (X.K=K) ŷ):fL X (compareOp .In) (ac3 K Ķ):=by subst h;show adA d
def Jp (x k):checkTypeCall "enumerate" %[[x]|[(Str.ú "start",k)]]=pure ():=by kernel_rfl
def Lk (x k):checkBuiltinCall "enumerate.__new__" %[[.Ä "enumerate",x]|[(Str.ú "start",k)]]=pure ():=by kernel_rfl
def Jq (o x k):argsOk "object.__init__" %[[o,x]|[(Str.ú "start",k)]]:=by first|show .of_eq yn|show yn|trivial
def aeM (x:ņ)(t:Tok)(k:ı)(tk:Tok)(hk:k<1000):ů (Builtin.«enumerate.__new__» %[[.Ä "enumerate",.X x t]|[(Str.ú "start",.M (k:Int) tk)]]) (λ_ R s=>
   R (.ok<|.ret<|.H (s.C.Ï {cls:=.Ä<|strIterType x,data:=.ë #[.X x t,.M 0 0]}).Q.E)
    {s with heap:=(s.C.Ï {cls:=.Ä<|strIterType x,data:=.ë #[.X x t,.M 0 0]}).Ï {cls:=.Ä "enumerate",data:=.ë #[.Û,.Ă Ķ,.H s.n,ő k,.Û,.Û]} }):=
 .of_wp λprog w A R s h=>by
  let(hp,g,d,G,os):=s;let F:=sub_enumerate;let q:Builtin.Ī.fitsIndex (k:Ŀ)=ĳ:=by unfold Builtin.SmallTypes.fitsIndex;simp only[dP,i6];lia
  let B:Builtin.Ī.indexObject "enumerate.__new__" (Value.M (k:Ŀ) tk)=pure (Value.M (k:Ŀ) tk):=by kernel_rfl
  let D:asInt? (Value.M (k:Ŀ) tk)=pure (į (k:Ŀ)):=by kernel_rfl
  wp_walk
  refine wpAny_stack_any λst=>ag ?_
  split
  .rename_i c _ _ _ _ _;cases(c==Value.Ä "enumerate")
   .dsimp only;simp only[bq,if_false,if_true];calc aa ?_;refine hG (a:=(Value.X x t,į<|Value.M (k:Ŀ) tk)) ?e ?_
    (case e=>kernel_rfl)
    simp only[B,pure_bind,D,q,fN,bq,if_false]
    wp_walk using pT
    show%[0,_,rb|h]
   .dsimp only;simp only[bq,if_false,if_true];calc aa ?_;refine hG (a:=(Value.X x t,į<|Value.M (k:Ŀ) tk)) ?e ?_
    (case e=>kernel_rfl)
    simp only[B,pure_bind,D,q,fN,bq,if_false]
    wp_walk using pT
    show%[0,_,rb|h]
  .dsimp only;simp only[bq,if_false,if_true];calc aa ?_;refine hG (a:=(Value.X x t,į<|Value.M (k:Ŀ) tk)) ?e ?_
   (case e=>kernel_rfl)
   simp only[B,pure_bind,D,q,fN,bq,if_false]
   wp_walk using pT
   show%[0,_,rb|h]
def Gd (g:typeLookup (.Ä T) "__init__"=pure (į<|.Ô "object.__init__"))(hm:Bind.madeBy (.Ä T)=pure (į newId))(d:(į newId != į "object.__new__")=ĳ):ů (Builtin.«object.__init__» %[[self,a]|kw]) (λ_ R s=>s.Ā self T/\R (.ok<|.ret .Û) s):=by
 calc Meets.of_wp λprog w A R s hs=>?_;let(B,q):=hs
 repeat (any_goals (first|assumption|wp_step))
 show%[0,_,rb|q]
def Oc {T q d:œ}{Bn Bi:Builtin}{D:İ (ņ×Ĳ)}{S:PySem.Spec}{Q Q₁:AB}(ft:TypeCalled T q d)(hct:checkTypeCall T %[args|D]=pure ())(L:checkBuiltinCall q %[.Ä T::args|D]=pure ())(N:entryFor table q=į Bn)(B:entryFor table d=į Bi)(g:ů (Bn %[.Ä T::args|D]) S)(h:S A.ė (wants Q₁ E) s)(F:∀obj J,Q₁ obj J->J.Ā obj T/\argsOk d %[obj::args|D]/\∃O,ů (Bi %[obj::args|D]) O/\O A.ė (wants (λr s₂=>r=.Û/\Q obj s₂) E) J):ĺ (ľ prog w) A (call (.Ä T) args D) Q E s:=by
 let(c,tl,Z):=ft.mro;let Y:=ft.made;let hsub:=ft.sub;calc sM<|u8 ?_;show ĺ _ _ (callAny (.Ä T) _) _ _ _;calc ag %[wo _ yo|gE xj ?_];rw[wq (weight_type_call_type T args D) (units_type_call_type T args D)];let h1:=ft.notType;let h2:=ft.canCreate
 repeat (any_goals (first|assumption|wp_step))
 calc kc (nS ft.plain N<|hG L<|g prog w A.ė _ s h) λr J hr=>?_;cases r with
 | error e=>show hr
 | ok fl=>
  cases fl with
  | ret obj=>
   let(hT,hok,O,gi,M):=F _ _ hr;let hli:=ft.init.Å;let hbi:=ft.init.bind obj
   repeat (any_goals (first|assumption|wp_step))
   calc kc (nS ft.init.plain B<|ft.init.check _ _ _ _ _ _ _ _ hT hok<|gi prog w A.ė _ J M) λr₂ s₂ G=>?_;cases r₂ with
   | error e=>show G
   | ok fl₂=>
    cases fl₂ with
    | ret r=>
     let(rfl,hq):=G
     repeat (any_goals (first|assumption|wp_step))
    | _=>show G.ó
  | _=>show hr.ó
def Od {x:ņ}{t tk:Tok}{k:ı}(hk:k<1000){Q:AB}(h:∀h',Ũ h' (s.n+1) s.n k .Û->h'.Ģ s.n (strIterType x) x t 0->h'.Q.E=s.n+2->
   (∀b o,s.C.Á b=į o->h'.Á b=į o)->Q (.H<|s.n+1) {s with heap:=h' }) :
  ĺ (ľ prog w) A (call (.Ä "enumerate") [.X x t] [(Str.ú "start",.M (k:Ŀ) tk)]) Q E s:=by
 refine Oc (Q₁:=λobj g=>g.Ā obj "enumerate"/\Q obj g) si (Jp _ _) (Lk _ _) F.entry_enumerate_new F.entry_object_init (aeM x t k tk hk) ?_
  λobj _ q=>%[q.1,Jq obj _ _,_,Gd si.init.Å si.made yk,q.1,rb|q.2]
 let hz:(s.C.Ï {cls:=.Ä<|strIterType x,data:=.ë #[.X x t,.M 0 0]}).Q.E=s.n+1:=eS ..;show _/\_;rw[hz];let d:Ũ ((s.C.Ï {cls:=.Ä<|strIterType x,data:=.ë #[.X x t,.M 0 0]}).Ï
   {cls:=.Ä "enumerate",data:=.ë #[.Û,.Ă Ķ,.H s.n,ő k,.Û,.Û]}) (s.n+1) s.n k .Û:=by
  have:=aI (s.C.Ï {cls:=.Ä<|strIterType x,data:=.ë #[.X x t,.M 0 0]})
   (o:={cls:=.Ä "enumerate",data:=.ë #[.Û,.Ă Ķ,.H s.n,ő k,.Û,.Û]}) rfl
  rw[hz]at this;show this
 refine%[%[0,_,d|rb]|h _ d %[2,_,af _<|aI _ rb,rb|rb] (by rw[eS,hz]) λb o y=>af _<|af _ y]
def Ln {M:Model}{E:AB}{env:Env}{T:œ}{e:ŋ}{rest:İ ŋ}{kws:İ ŕ}{Q:AB}(h:ĺ M A (spliced<|backTo pos<|starEach (e::rest) env) (λvs q=>ĺ M A (evalAll ((backToKw pos<|keywordEach kws env).L (·.2)))
   (λkvs D=>ĺ M A (call (.Ä T) vs (((backToKw pos<|keywordEach kws env).ø (·.1)).zip kvs)) Q E D) E q) E s)
  (F:Ŷ (backTo pos (Ņ (e::rest) env)=(Ķ,ŏ e env)::backTo pos (Ņ rest env)) ŷ)
  (d:Ŷ ((backTo pos<|Ņ (e::rest) env).Ğ (·.1)=Ķ) ŷ)
  (g:Ŷ ((backToKw pos<|keywordEach kws env).ĝ (·.1.č)=ĳ) ŷ)
  (B:Ŷ ((backToKw pos<|keywordEach kws env).Ğ (·.1.isNone)=Ķ) ŷ) :
  ĺ M A (callWith pos (.Ä T) [] (backTo pos<|Ņ (e::rest) env)<|backToKw pos<|keywordEach kws env) Q E s:=by
 unfold callWith;rw[F]at h d ⊢;calc aa<|dL<|gg (evalArgs_kwB (f:=.Ä T) (Q:=λa q=>ĺ M A (call (.Ä T) ([]++a.pos) a.kw) Q E q) g h) (λa q G=>aa<|rh ?_) λ_ _ x=>x;simp only[d,B,tF];calc aa<|ag ?_;show aa<|gg G (λr D hr=>aa<|dL<|wpAny_point<|ag hr) λ_ _ x=>x
end
def adB (ta tk:TE):TI:=λI H R=>ta I H λx H1=>tk I H1 λy H2=>∃(l:İ ı) (k:Nat),[x]=[V.X (S l)]/\[y]=[V.M (k:Ŀ)]/\k<1000/\R (yU l k) H2
section
variable {X:Cx}{elts:İ ŋ}{x1:ı}{tp:Pos}
def Y_ {a e:ŋ}{ta tk:TE}{p pos kpos:Pos}(O:Gl X "enumerate")(hm:X.mg "enumerate"=Ĵ)(ha:QE X a ta)(hk:QE X e tk)(hs:Ŷ (Ņ [a] X.Ê=(Ķ,ŏ a X.Ê)::Ņ [] X.Ê) ŷ)(D:Ŷ (backTo pos (Ņ [a] X.Ê)=(Ķ,ŏ a X.Ê)::backTo pos (Ņ [] X.Ê)) ŷ)(J:Ŷ ((backTo pos<|Ņ [a] X.Ê).Ğ (·.1)=Ķ) ŷ)(d:Ŷ ((backToKw pos<|keywordEach [%[į<|Str.ú "start",e|kpos]] X.Ê).ĝ (·.1.č)=ĳ) ŷ)(G:Ŷ ((backToKw pos<|keywordEach [%[į<|Str.ú "start",e|kpos]] X.Ê).Ğ (·.1.isNone)=Ķ) ŷ)(g:Ŷ ((backToKw pos<|keywordEach [%[į<|Str.ú "start",e|kpos]] X.Ê).ø (·.1)=[Str.ú "start"]) ŷ):QI X (.Ě elts x1 tp) (.ġ (.è "enumerate" p) [a] [%[į<|Str.ú "start",e|kpos]] pos) (adB ta tk):=⟨by
 intro ao s T H R I h;calc kH<|mF I O hm boot_enumerate ?_ yk yk;let pa:=(ak ha aA hs).Ý;let Y:=aaF (nm:=į (Str.ú "start")) (kpos:=kpos) hk.Ý acE;calc Ln (bD (pa pos ao s T H (λvs H1=>tk T H1 λy H2=>∃(l:İ ı) (k:Nat),vs=[V.X (S l)]/\[y]=[V.M (k:Ŀ)]/\k<1000/\R (yU l k) H2) I ?_) λus s1 ⟨vs,H1,I1,r1,q1⟩=>?_) D J d G;.show h
 .refine bD (Y pos ao s1 T H1 (λN H2=>∃(l:İ ı) (k:Nat),vs=[V.X (S l)]/\N=[V.M (k:Ŀ)]/\k<1000/\R (yU l k) H2) I1 ?_) λws s2 ⟨N,H2,I2,rz,q2⟩=>?_
  .show q1
  .let(l,k,rfl,rfl,F,q):=q2;let(u,rfl,t,rfl):=vals1 r1;let(u2,rfl,t2,rfl):=vals1 rz;rw[g];let B:strIterType (S l)="str_ascii_iterator"\/strIterType (S l)="str_iterator":=by unfold strIterType;split <;> simp
   calc Od F λh' M L hsz hk=>pV M ?_;calc%[12,s2.n+1,[s2.n+1,s2.n],_,_,H2,rb,I2.Ħ (t':=s2.toks) hk,Dl B l k t s2.n _,%[xw _,bE _,%[_|M]|L],λb Z=>?_|q];rcases a8.mp Z with z|z
   .rw[z];show I2.mz (km _)<|I2.ð.à<|km _
   .rw[am.mp z];show I2.mz (ai _)<|I2.ð.à<|ai _⟩
end
def Wr {l:İ ı}{k:ı}{g:TG}{tb:TS}{D:Ends}{I:St}{H:Hp}(d:ı->St->Hp->Prop)(B:d 0 I H)(hs:∀i c I H T,l[i]?=į c->d i I H->H T=Ĵ->g (.H T) I (upd H T<|.Ç [.M ((k+i:Nat):Int),.X (S [c])]) λI2 H2=>tb {D with nx:=d<|i+1,ct:=d<|i+1,bk:=D.nx} I2 H2)(hd:∀I H,d l.v I H->D.nx I H):Fj (yU l k) g tb D I H:=Rr l.v d B (λi I H h p=>%[h|λx H' y=>by let(T,c,F,rfl,q,rfl):=y;show hs i c I _ T q p F]) λI H p=>%[ai _|hd I H p]
end L2
namespace L2
open PySem PySem.Spec PyProof.Rows PySem.W
section
variable {prog:ń}{w:ň}{A:ŉ}{E:AB}{s:ļ}{z ti to u v a:ĸ}{i:ı}{f:ł Ĳ}{x y m n:Ĳ}
def Ws {nv:ı}{PV:ı->Ĳ->Prop}{O:ı->Ň->Prop}(N:ŵ prog w A v [v] nv PV O){Q:AB}(D:ZA z ti to u v a a)(hz:ţ s.C z ti to .Û)(hi:Ŗ s.C ti (.H u) (.H v))(ho:Ŗ s.C to m n)(hu:s.C.IsListIter u a i)(hv:O i s.C)(ha:s.C.IsList a f)(hx:f[i]?=į x)(hlt:i<nv)(q:∀y h' tk,PV i y->ţ h' z ti to (ő s.n)->Ŗ h' to x y->h'.IsListIter u a (i+1)->O (i+1) h'->Ŗ h' s.n x y->
   (∀c o,c≠z->c≠to->c≠u->c≠v->s.C.Á c=į o->h'.Á c=į o)->Q (.H s.n) {s with heap:=h',toks:=tk}) :
  ĺ (ľ prog w) A (Builtin.«zip.__next__» %[[.H z]|[]]) (λfin s'=>∃r,fin=.done (.ret r)/\Q r s') E s:=by
 show ĺ _ _ (Ŭ (.H z) 2 >>= _) _ _ _;calc aa<|fm hz rb (x:=.Ă Ķ) rb ?_;show ĺ _ _ (Ŭ (.H z) 3 >>= _) _ _ _;calc aa<|fm hz rb (x:=.H ti) rb<|aa<|ik hi rb ?_;show ĺ _ _ (Builtin.Ī.ownedTupleIsFree (.H z) >>= _) _ _ _;calc aa ?_;unfold Builtin.SmallTypes.ownedTupleIsFree;calc aa<|fm hz rb (x:=.Û) rb<|ag ?_;simp only[if_true];calc aa<|fA<|aa<|fm hz rb (x:=.H to) rb<|aa<|oT hz yi λg1 z1 k1=>?_;replace z1:ţ g1 z ti to .ellipsis:=z1;calc aa ?_;simp only[tT,List.zipIdx_nil,ku,we];calc aa<|aa<|wpAny_onRaise ?_;show ĺ _ _ (Builtin.Ī.nextOf (.H u) >>= _) _ _ _;calc aa<|wpAny_nextOf_list_item (hu.at λo e=>k1.ä _ o D.q3 e) (Heap.IsList.at ha λo e=>k1.ä _ o D.p2 e) hx λg2 u2 G=>ag ?_;let o2:Ŗ g2 to m n:=G.ä _ _ D.q8<|k1.ä _ _ D.q2 ho;calc aa<|ik o2 rb<|aa<|wpAny_updateSeq_pair o2 λg3 o3 k3=>?_;replace o3:Ŗ g3 to x n:=o3;calc aa<|wpAny_letGo<|ag ?_;calc aa<|aa<|wpAny_onRaise ?_;show ĺ _ _ (Builtin.Ī.nextOf (.H v) >>= _) _ _ _;calc aa<|N.item i _ _ _ hlt (N.frame _ _ _ hv λc F o e=>by rw[am.mp F]at e ⊢;show k3.ä _ o D.q9.Ð<|G.ä _ o D.p1.Ð<|k1.ä _ o D.q4 e) λy g4 tk hpy v4 B=>ag ?_;let o4:Ŗ g4 to x n:=B.ä _ _ D.q9 o3;calc aa<|ik o4 rb<|aa<|wpAny_updateSeq_pair o4 λg L J=>?_;replace L:Ŗ g to x y:=L;calc aa<|wpAny_letGo<|ag<|ag ?_;calc aa<|ik L rb<|aa<|v_ ?_;let sz:g.Q.E=s.n:=by rw[J.1,B.1,k3.1,G.1,k1.1]
 let z5:ţ g z ti to .ellipsis:=J.ä _ _ D.q2.Ð<|B.ä _ _ D.q4.Ð<|k3.ä _ _ D.q2.Ð<|G.ä _ _ D.q3.Ð z1;let kk:∀c o,c≠z->c≠to->c≠u->c≠v->s.C.Á c=į o->g.Á c=į o:=λc o d M c3 c4 e=>J.ä _ _ M<|B.ä _ _ c4<|k3.ä _ _ M<|G.ä _ _ c3<|k1.ä _ _ d e;let u5:g.IsListIter u a (i+1):=u2.at λo e=>J.ä _ o D.q8.Ð<|B.ä _ o D.p1<|k3.ä _ o D.q8.Ð e;let v5:O (i+1) g:=N.frame _ _ _ v4 λc F o e=>by rw[am.mp F]at e ⊢;show J.ä _ o D.q9.Ð e
 let lz:z<g.Q.E:=a6 z5;show ĺ _ _ (Builtin.Ī.ownedTupleHandOut (.H z) (.H g.Q.E) >>= _) _ _ _;calc aa ?_;unfold Builtin.SmallTypes.ownedTupleHandOut;let z6:ţ (g.Ï {cls:=.Ä "tuple",data:=.î #[x,y]}) z ti to .ellipsis:=af _ z5;calc aa<|oT z6 yi λg7 z7 k7=>?_;replace z7:ţ g7 z ti to (ő g.Q.E):=z7;refine oT z7 yi λY Z k8=>?_
 replace Z:ţ Y z ti to (ő g.Q.E):=Z;let up:∀c o,c≠z->g.Á c=į o->Y.Á c=į o:=λc o d e=>k8.ä _ _ d<|k7.ä _ _ d<|af _ e;let t8:Ŗ Y g.Q.E x y:=k8.ä _ _ (jS lz)<|k7.ä _ _ (jS lz)<|aI _ rb;rw[sz]at Z t8;calc ag %[0,_,rb|?_];show Q (.H g.Q.E) _;rw[sz];show q y Y tk hpy Z (up _ _ D.q2 L) (u5.at λo e=>up _ o D.q3 e) (N.frame _ _ _ v5 λc F o e=>by rw[am.mp F]at e ⊢;show up _ o D.q4 e) t8 λc o d M c3 c4 e=>up c o d<|kk c o d M c3 c4 e
def Za (hh:A.ï=Ĵ)(D:ZA z ti to u v a a)(hz:ţ s.C z ti to .Û)(hi:Ŗ s.C ti (.H u) (.H v))(O:s.C.IsListIter u a i)(ha:s.C.IsList a f)(hx:f[i]?=Ĵ)(q:∀h' e,(∀c o,c≠z->c≠to->c≠u->c≠v->s.C.Á c=į o->h'.Á c=į o)->(∃o,h'.Á e=į o/\o.cls=.Ä "StopIteration")->E (.H e) {s with heap:=h' }):ĺ (ľ prog w) A (Builtin.«zip.__next__» %[[.H z]|[]]) Q E s:=by
 show ĺ _ _ (Ŭ (.H z) 2 >>= _) _ _ _;calc aa<|fm hz rb (x:=.Ă Ķ) rb ?_;show ĺ _ _ (Ŭ (.H z) 3 >>= _) _ _ _;calc aa<|fm hz rb (x:=.H ti) rb<|aa<|ik hi rb ?_;show ĺ _ _ (Builtin.Ī.ownedTupleIsFree (.H z) >>= _) _ _ _;calc aa ?_;unfold Builtin.SmallTypes.ownedTupleIsFree;calc aa<|fm hz rb (x:=.Û) rb<|ag ?_;simp only[if_true];calc aa<|fA<|aa<|fm hz rb (x:=.H to) rb<|aa<|oT hz yi λN g k1=>?_;replace g:ţ N z ti to .ellipsis:=g;calc aa ?_;simp only[tT,List.zipIdx_nil,ku,we];calc aa<|aa<|wpAny_onRaise ?_;show ĺ _ _ (Builtin.Ī.nextOf (.H u) >>= _) _ _ _;calc aa<|wpAny_nextOf_list_end hh (O.at λo e=>k1.ä _ o D.q3 e) (Heap.IsList.at ha λo e=>k1.ä _ o D.p2 e) hx λg2 e B M=>?_;let(L,d,G):=M;let F:ţ g2 z ti to .ellipsis:=B _ _ D.q3.Ð g;let ez:e≠z:=λt=>by subst t;rw[F]at d;cases d;simp at G
 show oT F yi λZ _ k3=>q Z e (λc o J _ Y _ t=>k3.ä _ _ J<|B _ _ Y<|k1.ä _ _ J t) %[0,L,k3.ä _ _ ez d|G]
abbrev zm2 (h:Ň)(a:ĸ)(x:ņ)(t:Tok):Ň:=(zl1 h a).Ï {cls:=.Ä<|strIterType x,data:=.ë #[.X x t,.M 0 0]}
abbrev zm3 (h:Ň)(a:ĸ)(x:ņ)(t:Tok):Ň:=(zm2 h a x t).Ï {cls:=.Ä "tuple",data:=.î #[.H h.Q.E,.H (zl1 h a).Q.E]}
abbrev zm4 (h:Ň)(a:ĸ)(x:ņ)(t:Tok):Ň:=(zm3 h a x t).Ï {cls:=.Ä "tuple",data:=.î #[.Û,.Û]}
abbrev Qm (h:Ň)(a:ĸ)(x:ņ)(t:Tok):Ň:=(zm4 h a x t).Ï {cls:=.Ä "zip",data:=.ë #[.Û,.Ă Ķ,.Ă Ķ,.H (zm2 h a x t).Q.E,.H (zm3 h a x t).Q.E]}
def abo (a)(x)(t:Tok)(f):ů (Builtin.«zip.__new__» %[[.Ä "zip",.H a,.X x t]|[]]) (λ_ R s=>s.C.IsList a f/\R (.ok<|.ret<|.H (zm4 s.C a x t).Q.E) {s with heap:=Qm s.C a x t}):=
 .of_wp λprog w A R s h=>by
  let(hp,gs,d,tk,os):=s;let(h1,h):=h;let g:=sub_zip;let q:Heap.IsList (Shared.C %[hp,gs,d,tk|os]) a f:=h1
  wp_walk using nE q,pT
  show%[0,_,rb|h]
def afO {x:ņ}(ha:s.C.IsList a f)(q:∀h',ţ h' (s.n+4) (s.n+2) (s.n+3) .Û->Ŗ h' (s.n+2) (.H s.n) (.H<|s.n+1)->Ŗ h' (s.n+3) .Û .Û->
   h'.IsListIter s.n a 0->h'.Ģ (s.n+1) (strIterType x) x t 0->(∀c o,s.C.Á c=į o->h'.Á c=į o)->Q (.H<|s.n+4) {s with heap:=h' }) :
  ĺ (ľ prog w) A (call (.Ä "zip") [.H a,.X x t]) Q E s:=by
 calc callType_new F.called_zip yk (F.typeCall_zip_2 _ _) (F.newCall_zip_2 _ _) (λobj=>F.args_object_init_3 obj _ _) F.entry_zip_new (abo a x t f) %[ha|?_];let g:(zl1 s.C a).Q.E=s.n+1:=eS ..;let B:(zm2 s.C a x t).Q.E=s.n+2:=by rw[eS,g]
 let D:(zm3 s.C a x t).Q.E=s.n+3:=by rw[eS,B]
 let G:(zm4 s.C a x t).Q.E=s.n+4:=by rw[eS,D]
 let d:(Qm s.C a x t).Á (zm4 s.C a x t).Q.E=į _:=aI _ rfl;let J:(Qm s.C a x t).Á (zm3 s.C a x t).Q.E=į _:=af _<|aI _ rb;let L:(Qm s.C a x t).Á (zm2 s.C a x t).Q.E=į _:=af _<|af _<|aI _ rb;let M:(Qm s.C a x t).Á (zl1 s.C a).Q.E=į _:=af _<|af _<|af _<|aI _ rb;let N:(Qm s.C a x t).Á s.n=į _:=af _<|af _<|af _<|af _<|aI _ rb;show _/\_;rw[B,D,G]at d;rw[g,B]at L;rw[D]at J;rw[g]at M;rw[G];show%[%[0,_,d|rb]|q _ d L J %[2,_,N,rb|rb] %[2,_,M,rb|rb] λc o t=>af _<|af _<|af _<|af _<|af _ t]
end
def Tn (K:W.Ì)(a:ĸ)(l:İ ı):It:=%[λi H=>∃xs x,aP K H a xs/\xs[i]?=į x/\i<l.v,λi H t H'=>∃T x c,H T=Ĵ/\t=.H T/\(∀xs,aP K H a xs->xs[i]?=į x)/\l[i]?=į c/\H'=upd H T (.Ç [x,.X (S [c])])|λi H=>∃xs,aP K H a xs/\xs.v<=i]
def Wt {P:ń}{w:ň}{K:W.Ì}{elts:İ ŋ}{x1:ı}{pos:Pos}{z ti to u v a:ĸ}{ty:œ}(hty:ty="str_ascii_iterator"\/ty="str_iterator")(l:İ ı)(t:Tok)(D:ZA z ti to u v a a):Turn P w K (.Ě elts x1 pos) (Tn K a l) [z,ti,to,u,v] z (λi h=>ţ h z ti to .Û/\Ŗ h ti (.H u) (.H v)/\(∃m n,Ŗ h to m n)/\h.IsListIter u a i/\h.Ģ v ty (S l) t i) where
 mem:=by simp
 obj:=λi h st c d=>by
  let(h1,q,(m,n,J),(o4,B,_,d4),(Y,G,_,d5)):=st;simp only[a8,h8,or_false]at d;rcases d with e|e|e|e|e <;> subst e
  .show%[0,_,h1|λv y=>by cases y]
  .show%[0,_,q|λv y=>by cases y]
  .show%[0,_,J|λv y=>by cases y]
  .show%[0,o4,B|λv y=>by rw[d4]at y;cases y]
  .show%[0,Y,G|λv y=>by rw[d5]at y;cases y]
 keep:=λi h h' st k=>by let(h1,q,(m,n,J),B,o,G,r):=st;show%[50,k z yi _ h1,k ti yi _ q,%[10,m,n|k to yi _ J],B.at λo e=>k u yi o e,o,k v yi o G|r]
 item:=by
  intro X hP hw hK d i ao s C H E I hf st hg;subst hP hw hK;let(h1,q,(m,n,J),B,G):=st;let(xs,x,g,hx,hil):=hg;let(fs,rf,pf,_):=I.ğ g;let(p,ep,rp):=rf.get hx;let lt:∀c∈[z,ti,to,u,v],c<s.n:=λc d=>by
   simp only[a8,h8,or_false]at d;rcases d with e|e|e|e|e <;> subst e
   .show a6 h1
   .show a6 q
   .show a6 J
   .let(o,e,_):=B;show a6 e
   .let(o,e,_):=G;show a6 e
  let N:s.Ā (.H z) "zip":=%[0,_,h1|rb]
  let O:X.A.ė.ï=Ĵ:=by simp[I.ok.hd d]
  let M:∀(DV:ŵ X.Ñ X.w X.A.ė v [v] (S l).ñ.E (λi w=>∃c u,(S l).ñ[i]?=į c/\w=.X ⟨#[c]⟩ u) (λi h=>h.Ģ v ty (S l) t i)),
    ĺ (ľ X.Ñ X.w) X.A (pyNext<|.H z) (λr s1=>∃Z,r=į Z/\ĺ (ľ X.Ñ X.w) X.A (letOwnedTupleGo (.Ě elts x1 pos) (.H z) Z) (λ_ s2=>∃x H',aL X ao C H' s2/\bH x Z/\(Tn X.K a l).Aw i H x H'/\(ţ s2.C z ti to .Û/\Ŗ s2.C ti (.H u) (.H v)/\(∃m n,Ŗ s2.C to m n)/\s2.C.IsListIter u a (i+1)/\s2.C.Ģ v ty (S l) t (i+1))/\∀b∈[z,ti,to,u,v],H' b=Ĵ) E s1) E s:=by
   intro DV;unfold pyNext;calc aa<|iP<|eR (name:=Str.ú "__next__") N vw<|c_ vw N F.entry_zip_next ?_<|F.args_zip_next_1 _;calc Ws DV D h1 q J B G (show s.C.IsList a fs.R from pf.ÿ) (x:=p) (by simpa using ep) (by simpa [S] using hil) λy h' tk hPy k1 k2 k3 k4 k5 k6=>ag ?_;let(c,ut,hcl,rfl):=hPy;calc%[0,_,rb|wpAny_letOwnedTupleGo_zip k1 λh2' e2 L=>?_];let up:∀c o,c∉[z,ti,to,u,v]->s.C.Á c=į o->h2'.Á c=į o:=λc o d e=>by simp only[a8,h8,or_false,not_or]at d;show L.ä _ _ d.1<|k6 c o d.1 d.2.2.1 d.2.2.2.1 d.2.2.2.2 e
   let nz:s.n≠z:=jS<|lt z yi;let(I3,fr):=aL.aeB (y:=.X (S [c])) (tk:=tk) I hf lt rp %[ut|rb] (L.ä _ _ nz k5) up;let(Y,k4,r5):=k4;show%[6,.H s.n,_,I3,rb,%[15,s.n,x,c,I.ð.à<|ai _,rb,λzs hz=>by rw[I.J2 hz g];show hx,by simpa [S] using hcl|rb],
    %[50,e2,L.ä _ _ D.q1<|k6 _ _ D.q1 D.q5 D.q6 D.q7 q,%[10,_,_|L.ä _ _ D.q2 k2],k3.at λo e=>L.ä _ o D.q3 e,Y,L.ä _ _ D.q4 k4|r5]|fr]
  rcases hty with rfl|rfl;.show M<|Draws.strAscii O v (S l) t
  .show M<|Draws.strWide O v (S l) t
 done:=by
  intro X hP hw hK d i ao s C H E I hf st hg;subst hP hw hK;let(h1,q,(m,n,J),B,G):=st;let(xs,g,hl):=hg;let(fs,rf,pf,_):=I.ğ g;let bV:=rf.v;let O:X.A.ė.ï=Ĵ:=by simp[I.ok.hd d]
  let N:s.Ā (.H z) "zip":=%[0,_,h1|rb]
  unfold pyNext;calc aa<|iP<|eR (name:=Str.ú "__next__") N vw<|c_ vw N F.entry_zip_next ?_<|F.args_zip_next_1 _;calc Za O D h1 q B (show s.C.IsList a fs.R from pf.ÿ) (by simp;simp_all) λh' e k zz=>?_;let(o,e1,e2):=zz;calc aa<|hV (T:="StopIteration") (b:=true) %[0,o,e1|e2] isSubtype_stop ?_;calc ag %[rb|aL.Fw (fp:=[z,ti,to,u,v]) (t':=s.toks) I (λc o d e=>?_) hf];simp only[a8,h8,or_false,not_or]at d;show k c o d.1 d.2.2.1 d.2.2.2.1 d.2.2.2.2 e
 self:=λA i s Q E st h=>wpAny_pyIter_zip st.1 h
section
variable {X:Cx}{elts:İ ŋ}{x1:ı}{tp:Pos}
def aeN (K:W.Ì)(ta:TA):TI:=λT H R=>ta T H λvs H1=>∃a l,vs=[.H a,.X (S l)]/\(∃xs,aP K H1 a xs)/\R (Tn K a l) H1
def abp {a b:ŋ}{ta:TA}{p pos:Pos}(O:Gl X "zip")(hm:X.mg "zip"=Ĵ)(ha:QA X [a,b] ta)(hs:Ŷ (Ņ [a,b] X.Ê=[(Ķ,ŏ a X.Ê),(Ķ,ŏ b X.Ê)]) ŷ)(B:Ŷ (Ņ [b] X.Ê=[(Ķ,ŏ b X.Ê)]) ŷ):QI X (.Ě elts x1 tp) (.ġ (.è "zip" p) [a,b] [] pos) (aeN X.K ta):=⟨by
 intro ao s T H R I h;calc Call_<|mF I O hm Vq<|gr (bD (ha.Ý pos ao s T H _ I h) λus s1 zz=>?_) (by rw[hs,B]) (by rw[B];rfl);let(vs,H1,I1,r1,q1):=zz;let(a,l,e,(xs,G),q):=q1;subst e;cases r1 with
 | cons r rr=>
  cases rr with
  | cons r' rr=>
   cases rr;cases r;let(t,rfl):=r';let(fs,rf,M,_):=I1.ğ G;let J:a<s1.n:=by
    let(o,Z,_):=(show s1.C.IsList a fs.R from M.ÿ)
    show a6 Z
   let F:strIterType (S l)="str_ascii_iterator"\/strIterType (S l)="str_iterator":=by unfold strIterType;split <;> simp
   calc afO (show s1.C.IsList a fs.R from M.ÿ) λh' k1 k2 k3 Y k5 kk=>wpAny_pyIter_zip k1 ?_;let D:ZA (s1.n+4) (s1.n+2) (s1.n+3) s1.n (s1.n+1) a a:=by
    let d:∀N a b:ı,a<N->b<N->ZA (N+4) (N+2) (N+3) N (N+1) a b:=λN a b J lb=>by constructor <;> (show (_:ı)≠_) <;> lia
    show d _ _ _ J J
   calc%[12,s1.n+4,[s1.n+4,s1.n+2,s1.n+3,s1.n,s1.n+1],_,_,H1,rb,I1.Ħ (t':=s1.toks) kk,Wt F l t D,%[k1,k2,%[10,_,_|k3],Y|k5],λc L=>?_|q];let g:s1.n<=c:=by
    simp only[a8,h8,or_false]at L;let d:∀N c:ı,(c=N+4\/c=N+2\/c=N+3\/c=N\/c=N+1)->N<=c:=λN c h=>by lia
    show d _ _ L
   show I1.mz g<|I1.ð.à g⟩
end
def adC {K KT:W.Ì}{a:ĸ}{xs:İ V}{l:İ ı}{f:St->St}{tt:TT}(B:xs.v=l.v){D:ĸ}{te:TE}{I:St}{H:Hp}{R:Hp->Prop}(d:ı->İ V->Hp->Prop)(G:d 0 [] (upd H D<|.Æ []))(g:∀i ys H,i<=xs.v->d i ys H->aP K H a xs)(hs:∀i x c ys H T,xs[i]?=some x->l[i]?=some c->d i ys H->H T=none->wQ xs.v i D (λv H Q=>∃a p q,v=.H a/\bf KT H a [p,q]/\Q [į p,į q]) f I tt te (.H T) (upd H T<|.Ç [x,.X (S [c])]) ys (d<|i+1))(hd:∀ys H,d xs.v ys H->R H):sy (Tn K a l) D H R (Dd (λv H Q=>∃a p q,v=.H a/\bf KT H a [p,q]/\Q [į p,į q]) f I tt te):=Fo xs.v d G (λi ys H h p=>%[%[1,xs,xs[i],g i ys H (ay h) p,by simp[h]|B ▸ h]|λx H' y=>by let(T,x,c,J,rfl,hx,F,rfl):=y;show hs i x c ys H T (hx xs<|g i ys H (ay h) p) F p J]) λys H p=>%[%[0,xs,g _ ys H (ai _) p|ai _]|hd ys H p]
end L2
namespace My
open PySem L2
def top (i:ı):Ŋ:=PySem.Challenge.pw_letterrack_k90_whole_books_changed.main.body.Î i (.Pass %[(0),(0),(0)|0])
def bJ (s:Ŋ):İ ņ:=(gZ s).args.L (·.arg)
def afP (s:Ŋ):ņ:=match s with| .FunctionDef n _ _ _ _ _ _ _ _ _=>n| _=>""
abbrev rE:Ŋ:=top 8
def Oe:aV ["thing"] (bJ rE) (aJ rE):={}
abbrev uD:Ŋ:=top 9
def Tp:aV ["thing"] (bJ uD) (aJ uD):={}
abbrev pU:Ŋ:=top 10
def Lp:aV ["sign"] (bJ pU) (aJ pU):={}
abbrev zq:Ŋ:=top 11
def Tq:aV ["sign"] (bJ zq) (aJ zq):={}
abbrev j_:Ŋ:=top 12
def Cd:aV ["laying"] (bJ j_) (aJ j_):={}
abbrev rF:Ŋ:=top 17
def pW:aV ["thing","width"] (bJ rF) (aJ rF):={}
abbrev rG:Ŋ:=top 18
def Bg:aV ["thing"] (bJ rG) (aJ rG):={}
abbrev pX:Ŋ:=top 19
def zu:aV ["thing"] (bJ pX) (aJ pX):={}
abbrev oh:Ŋ:=top 20
def Jr:aV ["rows","row","column"] (bJ oh) (aJ oh):={}
abbrev mZ:Ŋ:=top 21
def Ge:aV ["rows","thing"] (bJ mZ) (aJ mZ):={}
abbrev rH:Ŋ:=top 22
def Og:aV ["rows","marks","begin"] (bJ rH) (aJ rH):={}
abbrev m7:Ŋ:=top 23
def vR:aV ["rows","column"] (bJ m7) (aJ m7):={}
abbrev m8:Ŋ:=top 24
def vU:aV ["rows"] (bJ m8) (aJ m8):={}
abbrev tH:Ŋ:=inClass (top 25) 0
def Js:aV ["self","rows","marks","begin"] (bJ tH) (aJ tH):={}
abbrev xr:Ŋ:=inClass (top 25) 1
def Oh:aV ["self","row","column"] (bJ xr) (aJ xr):={}
abbrev oA:Ŋ:=inClass (top 25) 2
def tL:aV ["self"] (bJ oA) (aJ oA):={}
abbrev vd:Ŋ:=inClass (top 25) 3
def jz:aV ["self","row","column","way","line","place","ahead","signs","first"] (bJ vd) (aJ vd):={}
abbrev pJ:Ŋ:=inClass (top 25) 4
def uE:aV ["self","begin"] (bJ pJ) (aJ pJ):={}
abbrev tQ:Ŋ:=inClass (top 25) 5
def iM:aV ["self","laying","lines","row","column","sign"] (bJ tQ) (aJ tQ):={}
abbrev rJ:Ŋ:=top 28
def Oi:aV ["laying"] (bJ rJ) (aJ rJ):={}
abbrev iU:Ŋ:=top 29
def j4:aV ["board","row","column","around"] (bJ iU) (aJ iU):={}
abbrev kh:Ŋ:=top 32
def iB:aV ["board","book","row","column","way","run","place","ahead","behind"] (bJ kh) (aJ kh):={}
abbrev oE:Ŋ:=top 33
def m9:aV ["board","cells","row","signs"] (bJ oE) (aJ oE):={}
abbrev Ag:Ŋ:=top 34
def Zb:aV ["board"] (bJ Ag) (aJ Ag):={}
abbrev xu:Ŋ:=top 36
def uF:aV ["board","word","cells","row"] (bJ xu) (aJ xu):={}
abbrev jL:Ŋ:=top 37
def gQ:aV ["board","row","column","word","triples","place","letter","sign"] (bJ jL) (aJ jL):={}
abbrev lN:Ŋ:=top 38
def kj:aV ["board","book","fitting","row","column"] (bJ lN) (aJ lN):={}
abbrev m_:Ŋ:=top 39
def vV:aV ["triples","fitting","joining"] (bJ m_) (aJ m_):={}
abbrev jA:Ŋ:=top 40
def ni:aV ["letters","rack","texts","sign","tile","left"] (bJ jA) (aJ jA):={}
abbrev oF:Ŋ:=top 41
def nj:aV ["triples","rack","cells","layings","signs"] (bJ oF) (aJ oF):={}
abbrev jM:Ŋ:=top 42
def dG:aV ["board","book","rack","fitting","joining","layings","word","row","column","triples"] (bJ jM) (aJ jM):={}
abbrev nu:Ŋ:=top 43
def pK:aV ["board","book","rack","across","down"] (bJ nu) (aJ nu):={}
abbrev iK:Ŋ:=top 45
def oG:aV ["word"] (bJ iK) (aJ iK):={}
abbrev iV:Ŋ:=top 46
def yu:aV ["word","many"] (bJ iV) (aJ iV):={}
abbrev kE:Ŋ:=top 47
def nO:aV ["texts","rests","text"] (bJ kE) (aJ kE):={}
abbrev nA:Ŋ:=top 48
def d_:aV ["texts","states","numbers","rows","state","pairs","sign","rests","onward"] (bJ nA) (aJ nA):={}
abbrev pL:Ŋ:=inClass (top 49) 0
def gK:aV ["self","texts","rows","state","row","sign","onward"] (bJ pL) (aJ pL):={}
abbrev oH:Ŋ:=inClass (top 49) 1
def Ce:aV ["self"] (bJ oH) (aJ oH):={}
abbrev uG:Ŋ:=top 51
def DX:aV ["text"] (bJ uG) (aJ uG):={}
abbrev oJ:Ŋ:=top 52
def Jt:aV ["text"] (bJ oJ) (aJ oJ):={}
abbrev vf:Ŋ:=inClass (top 53) 0
def zx:aV ["self","words","word"] (bJ vf) (aJ vf):={}
abbrev tR:Ŋ:=inClass (top 53) 1
def Ju:aV ["self"] (bJ tR) (aJ tR):={}
abbrev xG:Ŋ:=inClass (top 53) 2
def Oj:aV ["self","text"] (bJ xG) (aJ xG):={}
abbrev qG:Ŋ:=inClass (top 53) 3
def Gf:aV ["self","word"] (bJ qG) (aJ qG):={}
abbrev oK:Ŋ:=inClass (top 53) 4
def Cg:aV ["self","word"] (bJ oK) (aJ oK):={}
abbrev pN:Ŋ:=inClass (top 53) 5
def oM:aV ["self","texts","word"] (bJ pN) (aJ pN):={}
abbrev uH:Ŋ:=top 55
def Tr:aV ["_law_script","_law_k"] (bJ uH) (aJ uH):={}
abbrev DY:Ŋ:=top 56
def abq:aV ["_law_x"] (bJ DY) (aJ DY):={}
abbrev Ah:Ŋ:=top 57
def Zc:aV ["_law_x"] (bJ Ah) (aJ Ah):={}
abbrev xH:Ŋ:=top 58
def Ih:aV ["_law_script","_law_k","_law_cell"] (bJ xH) (aJ xH):={}
abbrev xJ:Ŋ:=top 59
def Ii:aV ["_law_script","_law_k","_law_base","_law_many","_law_left","_law_found","_law_x","_law_j"] (bJ xJ) (aJ xJ):={}
abbrev uI:Ŋ:=top 60
def D_:aV ["_law_script","_law_k","_law_letters_here","_law_row","_law_found","_law_digit"] (bJ uI) (aJ uI):={}
abbrev uJ:Ŋ:=top 61
def Ea:aV ["_law_row","_law_letters_here","_law_size"] (bJ uJ) (aJ uJ):={}
abbrev Eb:Ŋ:=top 62
def abr:aV ["_law_letters_here","_law_script","_law_k"] (bJ Eb) (aJ Eb):={}
abbrev Ec:Ŋ:=top 63
def Ai:aV ["_law_script","_law_start","_law_most","_law_letters_here","_law_words","_law_k","_law_word_here"] (bJ Ec) (aJ Ec):={}
abbrev xK:Ŋ:=top 64
def Ij:aV ["_law_word_here","_law_found","_law_k","_law_text","_law_j"] (bJ xK) (aJ xK):={}
abbrev Ed:Ŋ:=top 65
def ig:aV ["_law_script","_law_start","_law_letters_here","_law_x","_law_high","_law_wide","_law_rows_here","_law_r","_law_row","_law_digit","_law_sign_here"] (bJ Ed) (aJ Ed):={}
abbrev Ef:Ŋ:=top 66
def pP:aV ["_law_script","_law_k","_law_letters_here","_law_row","_law_rack_here","_law_digit","_law_tile"] (bJ Ef) (aJ Ef):={}
abbrev Eh:Ŋ:=top 67
def Gg:aV ["_law_words","_law_row","_law_letters_here","_law_word_here"] (bJ Eh) (aJ Eh):={}
abbrev Ei:Ŋ:=top 68
def abt:aV ["_law_rows_here","_law_laid","_law_r","_law_c"] (bJ Ei) (aJ Ei):={}
abbrev JM:Ŋ:=top 69
def oN:aV ["_law_rows_here","_law_laid","_law_r","_law_c","_law_way","_law_down","_law_across","_law_text"] (bJ JM) (aJ JM):={}
abbrev Aj:Ŋ:=top 70
def jN:aV ["_law_rows_here","_law_laying","_law_word_here","_law_laid","_law_r","_law_c","_law_sign_here","_law_way"] (bJ Aj) (aJ Aj):={}
abbrev xM:Ŋ:=top 71
def Ik:aV ["_law_layings","_law_k"] (bJ xM) (aJ xM):={}
abbrev Ak:Ŋ:=top 72
def Ci:aV ["_law_words","_law_texts","_law_word_here"] (bJ Ak) (aJ Ak):={}
abbrev Al:Ŋ:=top 73
def Zd:aV ["_law_rows_here","_law_layings","_law_ahead","_law_word_here","_law_came"] (bJ Al) (aJ Al):={}
abbrev Tt:Ŋ:=top 74
def iC:aV ["_law_script","_law_letters_here","_law_rows_here","_law_cell","_law_begin","_law_board","_law_rack_here","_law_words","_law_book_here","_law_layings","_law_k","_law_word_here","_law_came","_law_ahead"] ["_law_script"] (aJ Tt):={}
section
variable {P:ń}{w:ň}{K:W.Ì}{mg:ņ->ĵ Ĳ}{base:Ň}
def adD (a b:V)(c:Ŀ):∃v,lV [a,b] (c%2)=į v/\(v=a\/v=b):=by
 rcases Int.emod_two_eq c with h|h;.show%[0,a,by rw[h];show bh (j:=0) rb|.Â rb]
 .show%[0,b,by rw[h];show bh (j:=1) rb|.Ò rb]
def adE (K:W.Ì):Sp:=λvs H Q _=>∃(a:Addr) (ns:İ Ŀ) (k:Nat),vs=[.H a,.M k]/\aP K H a (ns.L V.M)/\∀v:Ŀ,Q (.M v) H
def aas:Sp:=λvs H Q _=>∃x:Int,vs=[.M x]/\0<=x/\x<1099511627776/\∀y:Ŀ,0<=y->y<2147483647->Q (.M y) H
def aeO (K:W.Ì):Sp:=λvs H Q _=>∃(a:Addr) (ns:İ Ŀ) (k:Nat),vs=[.H a,.M k]/\aP K H a (ns.L V.M)/\k<=1000/\∀v:Ŀ,Q (.M v) H
def aeP (K:W.Ì):Sp:=λvs H Q _=>∃(a:Addr) (ns:İ Ŀ) (k:Nat) (b:Int) (m:Nat),vs=[.H a,.M k,.M b,.M m]/\aP K H a (ns.L V.M)/\k<=1000/\0<b/\b<1000000/\m<=100/\
 ∀(p:ĸ) (ds:İ Ŀ) (H':Hp),aB H H'->H p=Ĵ->H' p=į (.Æ<|ds.L V.M)->ds.v=m->(∀d∈ds,0<=d/\d<b)->Q (.H p) H'
def isLet (c:ı):Prop:=97<=c/\c<=122
structure Cj (ls:İ ı):Prop where
 lo:2<=ls.v
 hi:ls.v<=26
 az:∀c∈ls,isLet c
def aeQ (K:W.Ì):Sp:=λvs H Q _=>∃(a:Addr) (ns:İ Ŀ) (k:Nat),vs=[.H a,.M k]/\aP K H a (ns.L V.M)/\k<=1000/\
 ∀(ls:İ ı) (H':Hp),aB H H'->Cj ls->Q (.X<|S ls) H'
structure fu (w:İ ı):Prop where
 lo:2<=w.v
 hi:w.v<=9
 az:∀c∈w,isLet c
structure Row (ds:İ Ŀ):Prop where
 lo:10<=ds.v
 hi:ds.v<=100
 nn:∀d∈ds,0<=d/\d<1000000
def Ze (K:W.Ì):Sp:=λvs H Q _=>∃(p:Addr) (ds:İ Ŀ) (ls:İ ı),vs=[.H p,.X (S ls)]/\aP K H p (ds.L V.M)/\Row ds/\Cj ls/\
 ∀(w:İ ı) (H':Hp),aB H H'->fu w->Q (.X<|S w) H'
def adF (K:W.Ì):Sp:=λvs H Q _=>∃(a:Addr) (ns:İ Ŀ) (k:Nat) (ls:İ ı),vs=[.X (S ls),.H a,.M k]/\aP K H a (ns.L V.M)/\k<=1000/\Cj ls/\
 ∀(w:İ ı) (H':Hp),aB H H'->fu w->Q (.X<|S w) H'
abbrev DA (K:W.Ì)(mg:ņ->ĵ Ĳ)(n:ņ)(s:Ŋ):Prop:=q_ K mg n s (bJ s)
abbrev DF (P:ń)(w:ň)(K:W.Ì)(mg:ņ->ĵ Ĳ)(base:Ň)(s:Ŋ)(k:ı)(sp:Sp):Prop:=Df P w K mg base (afP s) k (bJ s) sp
structure MA (K:W.Ì)(C:ĸ)(x q:ņ)(s:Ŋ) where
 f:ĸ
 fd:Ş
 F:vG K x q s f fd
 b:j6 K fd (bJ s) []
 m:Meth K C x f
def MA.Lq {K:W.Ì}{C:ĸ}{q:ņ}{s:Ŋ}(a:MA K C "__init__" q s)(h:W.makesIn K C=ĳ/\W.ĩ K (.H C)=ĳ):Mk K C a.f:=%[h.1,a.m.ą,a.m.fn|h.2]
abbrev MF (P:ń)(w:ň)(K:W.Ì)(mg:ņ->ĵ Ĳ)(base:Ň){C:ĸ}{x q:ņ}{s:Ŋ}(a:MA K C x q s)(k:ı)(sp:Sp):Prop:=jY P w K mg base ug k a.f a.fd (bJ s) sp
def AL:İ ı:=(List.å 26).L (97 + ·)
structure abu (K:W.Ì)(C:ĸ):Prop where
 cl:Cls K C
 nh:iQ K C "held"
structure Tv (K:W.Ì)(C:ĸ):Prop where
 cl:Cls K C
 nr:iQ K C "rows"
 ns:iQ K C "steps"
 ne:iQ K C "end_states"
def MK:İ ı:=[46,50,51,52,98,99,100]
structure Zf (K:W.Ì)(C:ĸ):Prop where
 cl:Cls K C
 nr:iQ K C "rows"
 nm:iQ K C "marks"
 nb:iQ K C "begin"
structure GG (K:W.Ì)(mg:ņ->ĵ Ĳ) where
 c':ĸ
 C':mg "Board"=į (.H c')
 a':Zf K c'
 l':MA K c' "__init__" "Board.__init__" tH
 D':W.makesIn K c'=ĳ/\W.ĩ K (.H c')=ĳ
 j':MA K c' "at" "Board.at" xr
 t':MA K c' "is_free" "Board.is_free" oA
 u':MA K c' "run" "Board.run" vd
 v':MA K c' "turned" "Board.turned" pJ
 w':MA K c' "laid" "Board.laid" tQ
 e':ĸ
 F':mg "Machine"=į (.H e')
 h':Tv K e'
 m':MA K e' "__init__" "Machine.__init__" pL
 G':W.makesIn K e'=ĳ/\W.ĩ K (.H e')=ĳ
 p':MA K e' "table" "Machine.table" oH
 d':ĸ
 H':mg "Book"=į (.H d')
 f':abu K d'
 q':MA K d' "__init__" "Book.__init__" vf
 I':W.makesIn K d'=ĳ/\W.ĩ K (.H d')=ĳ
 x':MA K d' "has" "Book.has" xG
 r':MA K d' "words" "Book.words" tR
 y':MA K d' "put_in" "Book.put_in" qG
 z':MA K d' "take_out" "Book.take_out" oK
 A':MA K d' "machine" "Book.machine" pN
 b':mg "len"=Ĵ
 i':mg "range"=Ĵ
 s':mg "sorted"=Ĵ
 g':mg "tuple"=Ĵ
 E':mg "list"=Ĵ
 n':mg "isinstance"=Ĵ
 Q':mg "bool"=Ĵ
 J':mg "int"=Ĵ
 K':mg "str"=Ĵ
 o':mg "all"=Ĵ
 L':mg "any"=Ĵ
 M':mg "set"=Ĵ
 B':mg "enumerate"=Ĵ
 R':mg "zip"=Ĵ
 S':mg "min"=Ĵ
 T':mg "reversed"=Ĵ
 k':∃t,mg "FREE"=į (.X (S [46]) t)
 U':∃t,mg "MARKS"=į (.X (S MK) t)
 N':∃t,mg "MOST"=į (.M 9 t)
 O':∃t,mg "LETTERS"=į (.X (S AL) t)
 V':∃t,mg "MOST_TILES"=į (.M 7 t)
 W':DA K mg "is_whole" rE
 X':DA K mg "is_sign" uD
 Y':DA K mg "letter_of" pU
 Z':DA K mg "tile_of" zq
 aa':DA K mg "turned_laying" j_
 ab':DA K mg "is_block" rF
 ac':DA K mg "are_rows" rG
 ad':DA K mg "are_marks" pX
 ae':DA K mg "is_cell_of" oh
 af':DA K mg "is_begin_of" mZ
 ag':DA K mg "is_board" rH
 ah':DA K mg "column_text" m7
 ai':DA K mg "turned_rows" m8
 aj':DA K mg "cells_of" rJ
 ak':DA K mg "is_next_to_taken" iU
 al':DA K mg "cross_letters" kh
 am':DA K mg "free_cells" oE
 an':DA K mg "hooks" Ag
 ao':DA K mg "starts" xu
 ap':DA K mg "letters_to_lay" jL
 aq':DA K mg "letters_down" lN
 ar':DA K mg "can_be_laid" m_
 P':DA K mg "sign_texts" jA
 as':DA K mg "layings_of" oF
 at':DA K mg "layings_across" jM
 au':DA K mg "all_layings" nu
 av':DA K mg "turned_beginnings" iK
 aw':DA K mg "turned_beginning" iV
 ax':DA K mg "rests_by_sign" kE
 ay':DA K mg "least_table" nA
 az':DA K mg "is_word" uG
 ba':DA K mg "check_word" oJ
 bb':DA K mg "_law_cell_at" uH
 bc':DA K mg "_law_next" DY
 bd':DA K mg "_law_other" Ah
 be':DA K mg "_law_number" xH
 bf':DA K mg "_law_digits" xJ
 bg':DA K mg "_law_letters" uI
 bh':DA K mg "_law_word_of" uJ
 bi':DA K mg "_law_word" Eb
 bj':DA K mg "_law_book" Ec
 bk':DA K mg "_law_turned" xK
 bl':DA K mg "_law_rows" Ed
 bm':DA K mg "_law_rack" Ef
 bn':DA K mg "_law_deed" Eh
 bo':DA K mg "_law_sign" Ei
 bp':DA K mg "_law_run" JM
 bq':DA K mg "_law_forms" Aj
 br':DA K mg "_law_rising" xM
 bs':DA K mg "_law_table" Ak
 bt':DA K mg "_law_right" Al
def Gh (G:GG K mg):DF P w K mg base uH 1 (adE K):=by
 calc G.bb'.cH Tr ?_;intro f bA A outer s H vs Q E hr h;let(a,ns,k,rfl,d,q):=h;calc%[0,_,aC (cC (bW wB aU (aX bY ym G.b' bP<|ak aG aA)<|bQ _) (aD<|aW<|bK d9 aG aU λ_ _=>rfl) bN)<|aD<|aW aF|?_];calc%[24,a,_,rb,.Â d,_,_,rb,rb|aZ _ rb ?_];refine jr (λg=>?_) λ_=>?_
 .let hk:k<ns.v:=by
   have:=dC g;rw[ab]at this;simp_all
  show%[5,a,_,_,.M ns[k],rb,rb,d,bh (by simp[hk])|q _]
 .show q _
def Qn (G:GG K mg):DF P w K mg base DY 1 aas:=by calc G.bc'.cH abq ?_;intro f bA A outer s H vs Q E hr h;let(x,rfl,d,h1,q):=h;calc%[0,_,aD<|aW<|aR cU (aR cZ (aR cZ (aR vA aG aG)<|aR vA aF aG) aF) aF|?_];calc%[1,_,_,rb,rb|%[14,.Â %[yf|yf],_,_,rb,rb|%[14,.Â %[yk|yk],_,_,rb,rb|%[42,_,_,rb,rb,_,_,rb,rb,(by show (0:Ŀ)<2147483647;decide)|?_]]]];show q _ (i8 _ yk)<|f6 _ yk
def Lr (G:GG K mg):DF P w K mg base Ah 1 aas:=by calc G.bd'.cH Zc ?_;intro f bA A outer s H vs Q E hr h;let(x,rfl,d,h1,q):=h;calc%[0,_,aD<|aW<|aR cU (aR cZ (aR cZ (aR vA aG aG)<|aR vA aF aG) aF) aF|?_];calc%[1,_,_,rb,rb|%[14,.Â %[yf|yf],_,_,rb,rb|%[14,.Â %[yk|yk],_,_,rb,rb|%[42,_,_,rb,rb,_,_,rb,rb,(by show (0:Ŀ)<2147483629;decide)|?_]]]];show q _ (i8 _ yk)<|Int.lt_trans (f6 _ yk) yk
def Il (G:GG K mg):DF P w K mg base xH 2 (aeO K):=by
 calc G.be'.cH Ih ?_;intro f bA A outer s H vs Q E hr h;let(a,ns,k,rfl,d,hk,q):=h;refine%[0,_,aC (aO (i:=2) Ih.nd rb (Or.Â rb)<|aY (Gh G) hr rb<|ak aG<|ak aU aA)
  (aC (cC (bW jk (aR cU bw aF) aF<|bQ _) (aD<|aW<|aR gH bw aF) bN)
 <|aD<|aW<|aY (Lr G) hr rb<|ak (aY (Qn G) hr rb<|ak (aR cU (aR cZ bw<|aR vA (aR vA aF aU) aU) aF) aA) aA)|?_]
 calc%[21,a,ns,k,rb,d|λv=>?_];calc%[6,_,_,rb,rb,(by show (0:Ŀ)<2;decide),rb|aZ _ rb ?_];calc jr (λ_=>?_) λ_=>?_;.show%[4,_,_,rb,rb,%[yk|yk]|q _]
 .calc%[4,_,_,rb,rb,.Â %[yk|yk]|%[4,_,_,rb,rb,.Ò %[eJ _|yf]|%[42,_,_,rb,rb,_,_,rb,rb,(by show (0:Ŀ)<2147483647;decide)|?_]]];calc%[7,_,rb,i8 _ yk,Int.lt_trans (f6 _ yk) yk|λy h1 g=>?_];show%[7,y,rb,h1,yf|λz _ _=>q z]
def qm (G:GG K mg):DF P w K mg base xJ 3 (aeP K):=by
 calc G.bf'.cH Ii ?_;intro f bA A outer s H vs Q E hr h;let(a,ns,k,b,m,rfl,hS,hk,B,hb1,hm,q):=h;let D:eE 1 _:=hr.Ø yk;let nd:=Ii.nd;refine%[0,_,aC (aO (i:=4) nd rb (Or.Â rb)<|aY (Il G) hr rb<|ak aG<|ak aU aA)
  (aC (aO (i:=5) nd rb (Or.Â rb)<|dF aA)
  (aC (aO (i:=6) nd rb (Or.Â rb)<|aR cU cD aF)
  (aC (c7 b7 rb (jD rb G.i'<|ak bO aA) (bL (i:=7) nd rb<|Or.Â rb)
   (aC (aO (i:=6) nd rb (Or.Â rb)<|aY (Lr G) D rb<|ak (aY (Qn G) D rb<|ak (aR cZ fj iJ) aA) aA)
   (aC (cX (dO cx eD eI fU cV
   <|ak (aR cU (bK d9 (dF<|ak cD<|ak fj aA) (aR cU (aY (Gh G) D rb<|ak aG<|ak aU aA) aF) λ_ _=>rfl) bw) aA))
  <|aD<|aO (i:=4) nd rb (Or.Â rb)<|aR gH cD bw)))
 <|aD<|aW cV)))|?_]
 calc%[8,a,ns,k,rb,hS,hk|λv=>?_];calc%[zsz 0|λp hp=>?_];calc%[4,_,_,rb,rb,(by show (0:Ŀ)<2147483647;decide)|?_];refine%[7,_,rb,eJ _,yf|jE (n:=m) (lo:=0) (λi I H2=>∃(F x:Int) (O:ĵ V) (ds:İ Ŀ),I=[į (.H a),į (.M k),į (.M b),į (.M m),į (.M F),į (.H p),į (.M x),O]/\aB H H2/\
  H2 p=į (.Æ<|ds.L V.M)/\ds.v=i/\(∀d∈ds,0<=d/\d<b)/\0<=x/\x<2147483647)
  %[55,v,_,Ĵ,[],rb,aB.ì hp,au,rb,λd hd=>by simp at hd,i8 _ yk|f6 _ yk] ?_ ?_]
 .intro i I H2 hi z;let(F,x,O,ds,rfl,sm,g,J,hd,Y,Z):=z;calc%[1,_,_,rb,rb|?_];calc%[7,_,rb,yf,yf|λy h1 h2=>?_];calc%[7,y,rb,h1,yf|λz h3 h4=>?_];calc%[.Â %[9,rb,_|aP.of g]|?_];calc%[zsz 2|λt ht=>?_];let s3:∀o,aB H (upd H2 t o):=λo=>sm.bB<|sm.Ó ht;calc%[21,a,ns,k,rb,(s3 _).î hS|λcv=>?_];let(u,hu,M):=adD (.M F) (.M z) cv;obtain⟨c,rfl⟩:∃c,u=.M c:=by rcases M with e|e <;> show%[_|e]
  calc%[4,_,_,rb,rb,(by show (0:Ŀ)<2;decide)|%[28,t,_,_,_,rb,rb,aP.of au,hu,_,_,rb,rb,B|?_]];let L:p≠t:=aQ g ht;calc%[15,p,_,_,rb,rb,(by rw[aM L];show g),(by rw[ab,J];show aH yf)|?_];calc%[4,_,_,rb,rb,%[B|yf]|?_];calc%[55,F/b,z,_,ds++[c%b],rb,(s3 _).bB hp,?_,by simp[J],?_,h3|h4];.rw[au];simp
  .intro d N;rcases aT.mp N with e|e;.show hd d e
   .rw[am.mp e];show%[i8 _ yf|f6 _ B]
 .intro I H2 z;let(F,x,O,ds,rfl,sm,g,J,hd,Y,Z):=z;show(q p ds H2 sm hp g J hd)
def aat (d):lV AL (d%26)=į (97+(d%26).Õ):=by let q:0<=d%26:=i8 _ yk;let h1:d%26<26:=f6 _ yk;let e:d%26=(((d%26).Õ:ı):Ŀ):=yf;rw[e];calc bh ?_;let g:((d%26).Õ:Ŀ).Õ<26:=yf;simp only[AL,a_,cq];rw[ie yf];rfl
theorem Ls:∀(F:İ ı) (L:İ ı),L.Ö->F.v<L.v->∃x∈L,x∉F
 | [],L,_,h=>by
  cases L with| nil=>simp at h| cons x r=>show%[0,x,a4|yi]
 | c::F,L,nd,h=>by
  let d:F.v<(L.Đ c).v:=by rw[List.length_erase];simp only[bv]at h;split <;> lia
  let(x,h1,q):=Ls F (L.Đ c) (nd.Đ c) d;let(B,g):=nd.mem_erase_iff.mp h1;show%[0,x,g|λz=>by rcases a8.mp z with e|e;show B e;show q e]
def Zg (F:İ ı)(h:F.v<26)(d:Ŀ):∃j:Nat,(97+((d+j)%26).Õ)∉F:=by let(x,h1,q):=Ls F ((List.å 26).L (97 + ·)) yk (by simpa using h);let(c,B,rfl):=a5.mp h1;let g:c<26:=b3.mp B;calc%[((c-d)%26).Õ|?_];let e:((d+(((c-d)%26).Õ:ı))%26).Õ=c:=yf;rw[e];show q
def Ck {ds:İ Ŀ}(h:v∈gR (ds.L V.M) lo hi):∃d∈ds,v=.M d:=by unfold gR at h;let g:=e9<|dm h;let(d,hd,e):=a5.mp g;show%[0,d,hd|e.Ð]
def Gi {ds:İ Ŀ}(h1:a<=b)(d:b<=ds.v):(gR (ds.L V.M) (į (a:Ŀ))<|į (b:Ŀ)).v=b-a:=by unfold gR;rw[HT.zR,HT.zR,ba,cp,ab];grind
def nC (l:İ ı):(l.L λc=>[c]).Ë=l:=by
 induction l with| nil=>rfl| cons c r ih=>rw[bS,eC,ih];rfl
def aeR:∀c∈AL,isLet c:=λc d=>by let(k,hk,rfl):=a5.mp d;have:=b3.mp hk;show%[di _ _|yf]
def Tw (Gz:GG K mg):DF P w K mg base uI 4 (aeQ K):=by
 calc Gz.bg'.cH D_ ?_;intro f bA A outer s H vs Q E hr h;let(a,ns,k,rfl,hS,hk,q):=h;let nd:=D_.nd;refine%[0,_,aC (aO (i:=2) nd rb (Or.Â rb)<|bU AL yo)
  (aC (aO (i:=3) nd rb (Or.Â rb)<|aY (qm Gz) hr rb<|ak aG<|ak aU<|ak aF<|ak aF aA)
  (aC (cC (bW jk (aR cU (bK d9 bO aF λ_ _=>rfl) aF) aF<|bQ _) (aD<|aW bw) bN)
  (aC (aO (i:=4) nd rb (Or.Â rb)<|bU [] yo)
  (aC (c7 b7 rb (eU<|f9 zV bO (fQ aF)<|fQ<|aR cZ aF<|aR cU (aR gH (bK d9 bO aF λ_ _=>rfl) aF) aF) (bL (i:=5) nd rb<|Or.Â rb)
   (aC (wA b7 (bW Kl (bK uV bw (aR cU cV aF) λ_ _=>rfl) cD rb)<|aD<|aO (i:=5) nd rb (Or.Â rb)<|aR cZ cV aF)
  <|aD<|aO (i:=4) nd rb (Or.Â rb)<|aR h_ cD<|bK uV bw (aR cU cV aF) λ_ _=>rfl))
 <|aD<|aW<|dO cw fE fF rN (bU [] yo)<|ak (aX (Kp rb) ym Gz.s' lx<|ak cD aA) aA))))|?_]
 let L:AL.v<=Ľ:=by decide
 calc%[38,a,ns,k,208,5,rb,hS,hk,yk,yk,yk|λp ds H1 sm hp B hl hd=>?_];let hd0:ds[0]?=į ds[0]:=by simp[hl]
 let h0:=hd ds[0]<|be _;let M:lV (ds.L V.M) 0=į (.M ds[0]):=bh (j:=0) (by simp[hl]);calc%[5,p,_,0,_,rb,rb,aP.of B,M|%[6,_,_,rb,rb,(by show (0:Ŀ)<8;decide),rb|aZ _ rb ?_]];calc jr (λ_=>?_) λ_=>?_;.show(q AL H1 sm %[yk,yk|aeR])
 .calc%[0,_,rb|%[28,p,_,0,_,rb,rb,aP.of B,M,_,_,rb,rb,%[yk|yk]|%[1,_,_,rb,rb|%[14,(by show (0:Ŀ)<3;decide),_,_,rb,rb|%[40,_,rb,p,_,rb,aP.of B|λt ht=>?_]]]]];obtain⟨r,hr1,hr2⟩:∃r:Nat,(3:Ŀ)+ds[0]/8%3=((3+r:ı):Ŀ)/\r<3:=%[0,(ds[0]/8%3).Õ,by simp_all;lia|by grind]
  rw[hr1];let Bb:(gR (ds.L V.M) (į (1:ı))<|į ((3+r:ı):Ŀ)).v=2+r:=by rw[Gi yf (by grind)];simp
  generalize J:gR (ds.L V.M) (į 1) (į ((3+r:ı):Ŀ))=xs;let afQ:xs.v=2+r:=by rw[<-J];show Bb
  let Qo:∀v∈xs,∃d:Int,v=.M d:=λv hv=>by rw[<-J]at hv;let(d,_,e):=Ck hv;show%[d|e]
  refine%[2,t,rb,%[_|aP.of au]|jH (K:=K) (a:=t) (xs:=xs) (λi I H2=>∃(Z:ĵ V) (fs:İ ı),I=[į (.H a),į (.M k),į (.X<|S AL),į (.H p),į (.X<|S fs),Z]/\aB H H2/\H2 t=į (.Æ xs)/\fs.v=i/\∀c∈fs,isLet c)
   %[6,Ĵ,[],rb,sm.bB<|sm.Ó ht,au,rb|λc F=>by simp at F] (λi I H2 _ ⟨_,_,_,_,O,_⟩=>aP.of O) ?_ ?_]
  .intro i y I H2 hi z;let(Z,fs,rfl,N,O,G,D):=z;let hil:i<xs.v:=(al.mp hi).1;let(d,rfl):=Qo y (ax hi);let(j0,hj0):=Zg fs (by grind) d;calc%[λm σ' H'=>H'=H2/\∃(e:Int),σ'=[į (.H a),į (.M k),į (.X<|S AL),į (.H p),į (.X<|S fs),į (.M e)]/\∃j:Nat,j<=m/\(97+((e+j)%26).Õ)∉fs,%[0,j0,rb|%[27,d,rb,j0,ai _|hj0]]|?_];intro m σ' H' z;let(rfl,e,rfl,j,hjm,hj):=z;calc%[1,_,_,rb,rb|%[29,(by show (0:Ŀ)<26;decide),AL,_,_,rb,rb,L,aat e|%[1,_,_,rb,rb|aZ _ rb ?_]]];refine jr (λF=>?_) λF=>?_
   .let cg:(97+(e%26).Õ)∈fs:=dC F;let hj1:j≠0:=λz=>by subst z;simp at hj;show hj cg
    refine%[0,λI2 H3=>H3=H'/\I2=[į (.H a),į (.M k),į (.X<|S AL),į (.H p),į (.X<|S fs),į (.M<|e+1)],?_|?_]
    .rintro I2 H3 ⟨rfl,rfl⟩;calc%[2,m-1,df yf yf,rb|%[27,e+1,rb,j-1,kU hjm _|?_]];have:(e+1+((j-1:ı):Ŀ))=e+(j:Ŀ):=by lia
     rw[this];show hj
    .show%[4,_,_,rb,rb,rb|rb]
   .calc%[1,_,_,rb,rb|%[29,(by show (0:Ŀ)<26;decide),AL,_,_,rb,rb,L,aat e|%[4,fs,_,rb,rb,by show fs.v+1<=Ľ;show aH (by grind)|?_]]];calc%[6,_,_,rb,N,O,by simp[G]|λc Y=>?_];rcases aT.mp Y with z|z;.show D c z
    .rw[am.mp z];let h1:e%26<26:=f6 _ yk;show%[di _ _|by grind]
  .intro I H2 z;let(Z,fs,rfl,N,O,G,D):=z;calc%[25,rb,fs,rb,by grind|λu g hu pm=>?_];let hll:g.v=fs.v:=pm.Ę;calc%[6,u,g.L λc=>[c],rb,rb,aP.of au,by rw[nC];grind|?_];rw[nC];show q g _ (N.bB<|N.Ó hu) %[by simp[*],by grind|λc F=>D c<|pm.æ.mp F]
def Ej (Gz:GG K mg):DF P w K mg base uJ 1 (Ze K):=by
 calc Gz.bh'.cH Ea ?_;intro f bA A outer s H vs Q E hr h;let(p,ds,ls,rfl,hS,hR,hA,q):=h;let nd:=Ea.nd;refine%[0,_,aC (aO (i:=2) nd rb (Or.Â rb)<|bK d9 (dF<|Bx<|Bx<|Bx<|Bx<|Bx<|Bx<|Bx<|ak (aR cZ aF<|aR cU (aR gH (bK d9 aG aF λ_ _=>rfl) aF) aF) aA) (aR cU (bK d9 aG aF λ_ _=>rfl) aF) λ_ _=>rfl)
  (aD (aW (dO cw fE fF rN (bU [] yo)
   (ak (gk rb (fY.of nd yn) (eU<|f9 zV aG (fQ aF)<|fQ<|aR cZ aF bw)
    (λ_ _ _ _ _=>dD) λ_ _ _ _ _=>bK uV bw (aR cU (aR gH aG aF)<|aX cI ym Gz.b' bP<|ak bw aA) λ_ _=>rfl) aA))))|?_]
 let hl0:0<ds.v:=by have:=hR.lo;lia
 let J:lV (ds.L V.M) 0=į (.M ds[0]):=bh (j:=0) (by simp[hl0]);let h0:=hR.nn ds[0]<|be _;calc%[28,p,_,0,_,rb,rb,hS,J,_,_,rb,rb,%[yk|yk]|%[4,_,_,rb,rb,(by show (0:Ŀ)<8;decide)|%[4,_,_,rb,rb,zsz 8|λt ht=>?_]]];obtain⟨z,hz1,hz2,hz3⟩:∃z:Nat,lV [V.M 2,V.M 2,V.M 3,V.M 3,V.M 3,V.M 4,V.M 5,V.M (2+ds[0]/8%8)] (ds[0]%8)=į (.M z)/\2<=z/\z<=9:=by
  let hm:ds[0]%8=0\/ds[0]%8=1\/ds[0]%8=2\/ds[0]%8=3\/ds[0]%8=4\/ds[0]%8=5\/ds[0]%8=6\/ds[0]%8=7:=yf;rcases hm with e|e|e|e|e|e|e|e <;> rw[e]
  .show%[2,2,bh (j:=0) rb,yk|yk]
  .show%[2,2,bh (j:=1) rb,yk|yk]
  .show%[2,3,bh (j:=2) rb,yk|yk]
  .show%[2,3,bh (j:=3) rb,yk|yk]
  .show%[2,3,bh (j:=4) rb,yk|yk]
  .show%[2,4,bh (j:=5) rb,yk|yk]
  .show%[2,5,bh (j:=6) rb,yk|yk]
  .calc%[2,(2+ds[0]/8%8).Õ,?_,by grind|by grind];let e2:(2+ds[0]/8%8)=(((2+ds[0]/8%8).Õ:ı):Ŀ):=by grind
   rw[<-e2];show bh (j:=7) rfl
 let hT:upd H t (.Æ [V.M 2,V.M 2,V.M 3,V.M 3,V.M 3,V.M 4,V.M 5,V.M (2+ds[0]/8%8)]) t=į _:=au;let s1:aB H (upd H t<|.Æ [V.M 2,V.M 2,V.M 3,V.M 3,V.M 3,V.M 4,V.M 5,V.M (2+ds[0]/8%8)]):=aB.ì ht;generalize upd H t (.Æ [V.M 2,V.M 2,V.M 3,V.M 3,V.M 3,V.M 4,V.M 5,V.M (2+ds[0]/8%8)])=H1 at hT s1 ⊢;calc%[28,p,_,0,_,rb,rb,s1.î hS,J,_,_,rb,rb,(by show (0:Ŀ)<8;decide)|%[5,t,_,_,_,rb,rb,aP.of hT,hz1|?_]];calc%[9,rb,_|%[14,rb,_,_,rb,rb|%[40,_,rb,p,_,rb,s1.î hS|λu hu=>?_]]];let sU:∀o,aB H (upd H1 u o):=λo=>s1.bB<|s1.Ó hu;let e1:(1:Ŀ)+(z:Ŀ)=((1+z:ı):Ŀ):=rfl;rw[e1];let Bb:(gR (ds.L V.M) (į (1:ı))<|į ((1+z:ı):Ŀ)).v=z:=by rw[Gi (di _ _) (by have:=hR.lo;lia)];simp
 generalize M:gR (ds.L V.M) (į 1) (į ((1+z:ı):Ŀ))=xs;let afQ:xs.v=z:=by rw[<-M];show Bb
 let Qo:∀v∈xs,∃d:Int,v=.M d/\0<=d:=λv hv=>by rw[<-M]at hv;let(d,hd,e):=Ck hv;show%[0,d,e|(hR.nn d hd).1]
 let Y:ls.v<=Ľ:=ay<|aH (by have:=hA.hi;lia);refine%[2,u,rb,%[_|aP.of au]|λL Z=>uh (K:=K) (a:=u) (xs:=xs) (λi ys H2=>∃g:İ ı,ys=Ts (g.L λc=>[c])/\g.v=i/\(∀c∈g,c∈ls)/\H2 L=į (.Æ ys)/\H2 u=į (.Æ xs)/\aB H H2)
  %[36,[],rb,rb,λc F=>by simp at F,au,by rw[aM (aQ au Z)];show au|(sU _).bB<|(sU _).Ó Z] (λi ys H2 _ ⟨_,_,_,_,_,h2,_⟩=>aP.of h2) ?_ ?_]
 .intro i y ys H2 hi z;let(g,rfl,O,D,B,G,uK):=z;let hil:i<xs.v:=(al.mp hi).1;let(d,rfl,hd0):=Qo y (ax hi);let N:(0:Ŀ)<(ls.v:Ŀ):=by have:=hA.lo;lia
  obtain⟨j,hj1,hj2⟩:∃j:Nat,d/20%(ls.v:Ŀ)=(j:Ŀ)/\j<ls.v:=by let h1:0<=d/20%(ls.v:Ŀ):=i8 _ yf;let h2:d/20%(ls.v:Ŀ)<ls.v:=f6 _ N;show%[0,(d/20%(ls.v:Ŀ)).Õ,yf|by simp_all]
  refine%[1,_,_,rb,rb|%[25,%[yk|yk],ls,rb,Y|%[4,_,_,rb,rb,N|%[46,ls,_,ls[j],rb,rb,Y,by rw[hj1];show bh (by simp[hj2]),B,?_|?_]]]]
  .show (Ts<|g.L λc=>[c]).v<Ľ;rw[ab,ab];show aH yf
  .refine d8.mk hil %[36,g++[ls[j]],by simp[Ts],by simp[O],λc F=>?_,au,?_|λb o e=>?_]
   .rcases aT.mp F with e|e;.show D c e
    .rw[am.mp e];show be _
   .rw[aM (aQ au Z)];show G
   .rw[aM (aQ ((sU _) b o e) Z)];show uK b o e
 .intro ys H2 z;let(g,rfl,O,D,B,G,uK):=z;calc%[6,L,g.L λc=>[c],rb,rb,aP.of B,by rw[nC];lia|?_];rw[nC];show q g H2 uK %[by simp[*],by simp[*]|λc F=>hA.az c<|D c F]
def abv (G:GG K mg):DF P w K mg base Eb 4 (adF K):=by calc G.bi'.cH abr ?_;intro f bA A outer s H vs Q E hr h;let(a,ns,k,ls,rfl,D,hk,J,q):=h;let g:eE 1 _:=hr.Ø yk;calc%[0,_,aD<|aW<|aY (Ej G) g rb<|ak (aY (qm G) hr rb<|ak aU<|ak bw<|ak aF<|ak aF aA)<|ak aG aA|?_];calc%[38,a,ns,k,520,10,rb,D,hk,yk,yk,yk|λp ds H1 sm hp B L hd=>?_];calc%[15,p,ds,ls,rb,aP.of B,%[by simp_all,by simp_all|λd h=>by have:=hd d h;lia],J|λw H2 F hw=>?_];show q w H2 (sm.À F) hw
def Zh:Sp:=λvs H Q _=>∃l:İ ı,vs=[.X (S l)]/\fu l/\∀H',aB H H'->Q (.bl ĳ) H'
def adG (h:isLet c):Ļ ([c]<[97])=Ķ/\Ļ ([122]<[c])=Ķ:=by
 let d:∀a b:ı,([a]<[b])↔a<b:=λa b=>by simp[fb]
 constructor;.rw[aw];rw[d];have:=h.1;simp_all
 .rw[aw];rw[d];have:=h.2;simp_all
def Tz (G:GG K mg):DF P w K mg base uG 1 Zh:=by
 calc G.az'.cH DX ?_;intro f bA A outer s H vs Q E hr h;let(l,rfl,hw,q):=h;let h1:=hw.lo;let J:=hw.hi;let hz:l.v<=Ľ:=ay<|aH yf;refine%[0,_,aD (aW (pZ (nF mW mW aF (aX cI ym G.b' bP<|ak aG aA) aF)
  (mG (aX (nH rb) ym G.o' yo (ak (gk rb (fY.of DX.nd yn) (yR aG) (λ_ _ _ _ _=>dD)
   λ_ _ _ _ _=>nF vI vI (bU [97] yo) aG<|bU [122] yo) aA)))))|?_]
 calc%[33,l,rb,hz,_,_,rb,rb|aZ ĳ (by simp;show ii sx h1) ?_];calc cu %[1,_,_,rb,rb|aZ ĳ (by simp;show ii sx J) ?_];calc cu ?_;refine%[0,l,rb|λL B=>wL (λi ys H2=>ys=(List.É i ĳ).L V.bl/\H2 L=į (.Æ ys)/\aB H H2) %[rb,au|aB.ì B] ?_ ?_]
 .intro i c ys H2 hi z;let(rfl,d,sm):=z;let g:i<l.v:=(al.mp hi).1;let(D,F):=adG (hw.az c<|ax hi);calc%[1,[97],[c],rb,rb|aZ ĳ (by rw[D];rfl)<|cu %[6,[c],[122],rb,rb,d,?_|d8.mk g %[?_,au|sm.bB B]]];.rw[ab,ee];show aH yf
  .rw[F,List.replicate_succ',b4];rfl
 .intro ys H2 z;let(rfl,d,sm):=z;calc%[1,L,List.É l.v ĳ,rb,aP.of d|?_];let e:(List.É l.v ĳ).ĝ id=ĳ:=yi;rw[e];show q H2 sm
def abw:Sp:=λvs H Q _=>∃l:İ ı,vs=[.X (S l)]/\fu l/\∀H',aB H H'->Q .đ H'
def qH (G:GG K mg):DF P w K mg base oJ 2 abw:=by calc G.ba'.cH Jt ?_;intro f bA A outer s H vs Q E hr h;let(l,rfl,hw,q):=h;calc%[0,_,aD<|cC (fK<|dJ<|aY (Tz G) hr rb<|ak aG aA) uf bN|?_];calc%[2,l,rb,hw|λH1 s1=>(aZ ĳ rb ?_)];show bZ<|q H1 s1
def jR (ws:AA):İ (Key×V):=ws.L λl=>(bM l,V.bl ĳ)
def Zi (ws):(jR ws).L (·.1)=ws.L bM:=by unfold jR;rw[c8];rfl
def Cm (h:bM a=bM b):a=b:=qZ (xL h)
def rR (ws)(l):cF (jR ws) (bM l)=if l∈ws then į (.bl ĳ) else Ĵ:=by
 induction ws with
 | nil=>simp[jR,cF]
 | cons a r ih=>
  by_cases e:a=l
  .subst e;have:cF (jR<|a::r) (bM a)=į (.bl ĳ):=gb (p:=(bM a,V.bl ĳ)) rfl;rw[this];simp
  .have:cF (jR<|a::r) (bM l)=cF (jR r) (bM l):=gj (p:=(bM a,V.bl true)) λz=>e<|Cm z
   rw[this,ih];let e':¬l=a:=λz=>e z.Ð;simp[e']
def abx (h:l∈ws):putK (jR ws) (bM l) (.bl ĳ)=jR ws:=by
 let d:((jR ws).Ğ λq=>Ļ<|q.1=bM l)=ĳ:=by rw[pC,rR,Ĺ h];rfl
 unfold putK;rw[Ĺ d];calc(d6 λq g=>?_).À<|kF _;let(a,_,rfl):=a5.mp g;by_cases e:bM a=bM l;.simp[e]
 .simp[e]
def Qp (h:l∉ws):putK (jR ws) (bM l) (.bl ĳ)=jR (ws++[l]):=by rw[Bu _ (by rw[rR,ķ h])];simp[jR]
structure dZ (C:ĸ)(H:Hp)(p d:ĸ)(ws:AA):Prop where
 ob:∃dx,H p=į (.Ē C dx [("held",.H d)])
 dc:H d=į (.dK<|jR ws)
 nd:ws.Ö
 az:∀l∈ws,fu l
def vg (ws:AA)(l:İ ı):İ (İ ı):=if l∈ws then ws else ws++[l]
def Lw (ws)(l):putK (jR ws) (bM l) (.bl ĳ)=jR (vg ws l):=by
 unfold vg;split;.rename_i h;show abx h
 .rename_i h;show Qp h
def Qq {ws:AA}(h:ws.Ö):(vg ws l).Ö:=by
 unfold vg;split;.show h
 .rename_i d;show z9 h d
def Lx:x∈vg ws l↔x∈ws\/x=l:=by
 unfold vg;split;.rename_i h;show%[.Â|λz=>z.ó id λe=>e ▸ h]
 .simp
def Ly (ws)(l):(vg ws l).v<=ws.v+1:=by
 unfold vg;split;.lia
 .simp
def aeS (K:W.Ì)(H:Hp)(a:ĸ)(ls:AA):Prop:=aP K H a (Ts ls)\/bf K H a (Ts ls)
def adH (K:W.Ì)(C:ĸ):Sp:=λvs H Q _=>∃(p dx a:Addr) (ls:AA),vs=[.H p,.H a]/\H p=į (.Ē C dx [])/\aeS K H a ls/\(∀l∈ls,fu l)/\ls.v<=200/\
 ∀(d:ĸ) (ws:AA) (H':Hp),H d=Ĵ->dZ C H' p d ws->(∀x,x∈ws↔x∈ls)->ws.v<=ls.v->(∀b o,H b=į o->b≠p->H' b=į o)->Q .đ H'
def Qs (G:GG K mg):MF P w K mg base G.q' 3 (adH K G.d'):=by
 calc G.q'.F.cH zx ?_;intro bA A outer s H vs Q E hr h;let(p,dx,a,ls,rfl,hp,M,hW,hn,k):=h;let hu:=mX hr;let nd:=zx.nd;refine%[0,_,aC (rY aG Bv rb) (aD (c7 b7 rb ((eU aU).or<|gD aU) (bL (i:=2) nd rb<|Or.Â rb)
 <|aC (cX<|aY (qH G) hr rb<|ak bw aA)<|aD<|pD hu (dw aG rb) bw gG rb))|?_]
 intro d hd;let zy:p≠d:=aQ hp hd;calc%[16,p,G.d',dx,[],rb,(by rw[aM zy];show hp),G.f'.cl,G.f'.nh,(by show 0<1000;decide)|?_];let L:upd (upd H d<|HO.dK []) p (HO.Ē G.d' dx<|eY "held" (V.H d) []) p=į (.Ē G.d' dx [("held",.H d)]):=au;let O:upd (upd H d<|HO.dK []) p (HO.Ē G.d' dx<|eY "held" (V.H d) []) d=į (.dK<|jR []):=by rw[aM zy.Ð,au];rfl
 let Lf:∀b o,H b=į o->b≠p->upd (upd H d<|HO.dK []) p (HO.Ē G.d' dx<|eY "held" (V.H d) []) b=some o:=λb o e hb=>by rw[aM hb,aM (aQ e hd)];show e
 generalize upd (upd H d<|HO.dK []) p (HO.Ē G.d' dx<|eY "held" (V.H d) [])=H1 at L O Lf ⊢;let Y:∀o,H p=į o->(∀ys,o≠.Æ ys)/\∀u ys,o≠.iu u (.Æ ys):=λo e=>by rw[hp]at e;cases e;show⟨λ_ z=>(nomatch z),λ_ _ z=>(nomatch z)⟩
 let Z:∀o,H p=į o->(∀ys,o≠.Ç ys)/\∀u ys,o≠.iu u (.Ç ys):=λo e=>by rw[hp]at e;cases e;show⟨λ_ z=>(nomatch z),λ_ _ z=>(nomatch z)⟩
 rcases M with M|M
 .refine .Â %[2,a,rb,%[_|M.keep Lf Y]|jH (K:=K) (a:=a) (xs:=Ts ls) (λi I H2=>∃(N:ĵ V) (ws:AA),I=[į (.H p),į (.H a),N]/\H2 p=į (.Ē G.d' dx [("held",.H d)])/\H2 d=į (.dK<|jR ws)/\ws.Ö/\
   (∀x,x∈ws↔x∈ls.È i)/\ws.v<=i/\∀b o,H b=į o->b≠p->H2 b=į o) %[26,Ĵ,[],rb,L,O,qk,λx=>by simp,ai _|Lf] (λi I H2 _ ⟨_,_,_,_,_,_,_,_,kp⟩=>M.keep kp Y) ?_ ?_]
  .intro i y I H2 hi z;let(N,ws,rfl,g,B,q,hm,F,kp):=z;rw[a_]at hi;let(l,D,e):=g9.mp hi;subst e;let hil:i<ls.v:=(al.mp D).1;calc%[2,l,rb,hW l<|ax D|λH3 J=>?_];let qp:=J _ _ B;calc%[39,p,G.d',dx,_,_,rb,J _ _ g,G.f'.cl,G.f'.nh,rb,d,_,rb,n8.k (k:=bM l) qp (by rw[jR,ab];show aH yf)|?_];calc%[26,_,vg ws l,rb,by rw[aM zy];show J _ _ g,by rw[au,Lw],Qq q,λx=>?_,ap (Ly _ _)<|e6 F|λb o e hb=>?_];.rw[Lx,hm,b6,D];simp
   .rw[aM (aQ e hd)];show J _ _<|kp b o e hb
  .intro I H2 z;let(N,ws,rfl,g,B,q,hm,F,kp):=z;rw[ab]at hm F;rw[c6]at hm;show k d ws H2 hd %[%[dx|g],B,q|λl F=>hW l<|(hm l).mp F] hm F kp
 .refine .Ò %[2,a,rb,%[_|M.keep Lf Z]|nP (K:=K) (a:=a) (xs:=Ts ls) (λi I H2=>∃(N:ĵ V) (ws:AA),I=[į (.H p),į (.H a),N]/\H2 p=į (.Ē G.d' dx [("held",.H d)])/\H2 d=į (.dK<|jR ws)/\ws.Ö/\
   (∀x,x∈ws↔x∈ls.È i)/\ws.v<=i/\∀b o,H b=į o->b≠p->H2 b=į o) %[26,Ĵ,[],rb,L,O,qk,λx=>by simp,ai _|Lf] (λi I H2 _ ⟨_,_,_,_,_,_,_,_,kp⟩=>M.keep kp Z) ?_ ?_]
  .intro i y I H2 hi z;let(N,ws,rfl,g,B,q,hm,F,kp):=z;rw[a_]at hi;let(l,D,e):=g9.mp hi;subst e;let hil:i<ls.v:=(al.mp D).1;calc%[2,l,rb,hW l<|ax D|λH3 J=>?_];let qp:=J _ _ B;calc%[39,p,G.d',dx,_,_,rb,J _ _ g,G.f'.cl,G.f'.nh,rb,d,_,rb,n8.k (k:=bM l) qp (by rw[jR,ab];show aH yf)|?_];calc%[26,_,vg ws l,rb,by rw[aM zy];show J _ _ g,by rw[au,Lw],Qq q,λx=>?_,ap (Ly _ _) yf|λb o e hb=>?_];.rw[Lx,hm,b6,D];simp
   .rw[aM (aQ e hd)];show J _ _<|kp b o e hb
  .intro I H2 z;let(N,ws,rfl,g,B,q,hm,F,kp):=z;rw[ab]at hm F;rw[c6]at hm;show k d ws H2 hd %[%[dx|g],B,q|λl F=>hW l<|(hm l).mp F] hm F kp
def aau (C:ĸ):Sp:=λvs H Q _=>∃(p d:Addr) (ws:AA) (l:İ ı),vs=[.H p,.X (S l)]/\dZ C H p d ws/\Q (.bl<|Ļ<|l∈ws) H
def adI (G:GG K mg):MF P w K mg base G.x' 1 (aau G.d'):=by
 calc G.x'.F.cH Oj ?_;intro bA A outer s H vs Q E hr h;let(p,d,ws,l,rfl,B,q):=h;let g:=mX hr;let((dx,hp),hd,_,_):=id B;calc%[0,_,aD<|aW<|aco<|Kf g aU<|dw aG rb|?_];calc%[39,p,G.d',dx,_,_,rb,hp,G.f'.cl,G.f'.nh,rb,d,_,rb,jJ.k (k:=bM l) hd|?_];rw[rR];by_cases h:l∈ws;.rw[Ĺ h];simpa [h] using q
 .rw[ķ h];simpa [h] using q
def afR (ws:AA):Prop:=ws.Ã (λa b=>Ļ (b<a)=Ķ)
def aby (C:ĸ):Sp:=λvs H Q _=>∃(p d:Addr) (ws:AA),vs=[.H p]/\dZ C H p d ws/\ws.v<64/\
 ∀(t:ĸ) (us:AA) (H':Hp),aB H H'->H t=Ĵ->H' t=į (.Ç<|Ts us)->us.ò ws->afR us->Q (.H t) H'
def Lz (G:GG K mg):MF P w K mg base G.r' 1 (aby G.d'):=by calc G.r'.F.cH Ju ?_;intro bA A outer s H vs Q E hr h;let(p,d,ws,rfl,B,g,q):=h;let((dx,hp),hd,_,_):=id B;calc%[0,_,aD<|aW<|cR cJ ym G.g' cz<|ak (aX (Kq rb) ym G.s' lx<|ak (dw aG rb) aA) aA|?_];calc%[37,p,G.d',dx,_,_,rb,hp,G.f'.cl,G.f'.nh|%[29,rb,d,_,ws,rb,hd,Zi ws,g|λt us D pm rs=>?_]];calc%[3,t,_,rb|.Â %[aP.of au|λv hv=>?_]];let s1:aB H (upd H t<|.Æ<|Ts us):=aB.ì D;show q v us _ (s1.bB<|s1.Ó hv) (s1.Ó hv) au pm rs
def Up (ws:AA):Prop:=ws.Ã (λa b=>a<b)
def Wu {a b:İ ı}(h1:¬a<b)(d:a≠b):b<a:=by
 by_cases h:b<a;.show h
 .show ŀ (List.le_antisymm (List.not_lt.mp h)<|List.not_lt.mp h1) d
theorem up_eq:∀{a b:AA},Up a->Up b->(∀x,x∈a↔x∈b)->a=b
 | [],[],_,_,_=>rfl
 | [],y::b,_,_,h=>by have:=(h y).Ù yi;simp at this
 | x::a,[],_,_,h=>by have:=(h x).mp yi;simp at this
 | x::a,y::b,ha,hb,h=>by
  let(d,D):=f7.mp ha;let(q,B):=f7.mp hb;let e:x=y:=by
   rcases a8.mp ((h x).mp yi) with e|e;.show e
   .rcases a8.mp ((h y).Ù yi) with g|g;.show g.Ð
    .show ŀ (List.lt_trans (d y g)<|q x e)<|yb _
  subst e;let g:a=b:=up_eq D B λz=>by
   constructor
   .intro hz;rcases a8.mp ((h z).mp<|av _ hz) with e|e;.show ŀ (e ▸ d z hz)<|yb _
    .show e
   .intro hz;rcases a8.mp ((h z).Ù<|av _ hz) with e|e;.show ŀ (e ▸ q z hz)<|yb _
    .show e
  rw[g]
def Qt {us:AA}(h:us.Ã (λa b=>Ļ (b<a)=Ķ))(nd:us.Ö):Up us:=by calc(List.pairwise_and_iff.Ù %[h|nd]).imp λ{a b} ⟨h1,d⟩=>?_;show Wu (sr h1)<|ib d
def LC (x)(ws):inV (.X<|S x) (Ts ws)=Ļ (x∈ws):=by
 unfold inV
 induction ws with
 | nil=>simp[Ts]
 | cons y ws ih=>
  let e:A_ (.X<|S y) (.X<|S x)=Ļ (y=x):=by
   show Ļ (S y=S x)=_;by_cases h:y=x;.rw[h];simp
   .let d:S y≠S x:=λe=>h<|qZ e
    simp[h,d]
  show (A_ (.X<|S y) (.X<|S x)||(Ts ws).Ğ _)=_;rw[e,ih];by_cases h:y=x;.simp[h]
  .let d:¬x=y:=λe=>h e.Ð
   simp[h,d]
def Gj (ws):(Ts ws).ĝ qY=ĳ:=by rw[iE];intro v hv;let(l,_,e):=a5.mp hv;subst e;rfl
def dZ.same (B:dZ C H p d ws)(s:aB H H'):dZ C H' p d ws:=%[let %[dx|e]:=B.ob;%[dx|s _ _ e],s _ _ B.dc,B.nd|B.az]
def abz (l)(lo hi):(jZ l lo hi).v<=l.v:=by unfold jZ;rw[ba,cp];lia
def dZ.other (B:dZ C H p d ws)(h:H a=į (.Æ xs)):dZ C (upd H a o) p d ws:=by
 let((dx,e),g,n,z):=B;let D:p≠a:=λz=>by rw[z,h]at e;cases e
 let q:d≠a:=λz=>by rw[z,h]at g;cases g
 show%[%[dx|by rw[aM D];show e],by rw[aM q];show g,n|z]
def Zj (ws)(l):wF (jR ws) (bM l)=jR (ws.û λx=>Ļ<|x≠l):=by
 unfold wF jR;rw[List.filter_map];congr 1;calc List.filter_congr λx _=>?_;show Ļ (bM x≠bM l)=Ļ (x≠l);by_cases h:x=l
 .subst h;simp
 .rw[aS (show x≠l from h),aS (show bM x≠bM l from λz=>h (Cm z))]
def aeT (C:ĸ):Sp:=λvs H Q _=>∃(p d:Addr) (ws:AA) (l:İ ı),vs=[.H p,.X (S l)]/\dZ C H p d ws/\fu l/\l∉ws/\ws.v<=200/\
 ∀H',dZ C H' p d (ws++[l])->(∀b o,H b=į o->b≠d->H' b=į o)->Q .đ H'
def Wv (G:GG K mg):MF P w K mg base G.y' 3 (aeT G.d'):=by
 calc G.y'.F.cH Gf ?_;intro bA A outer s H vs Q E hr h;let(p,d,ws,l,rfl,B,hw,g,hn,q):=h;let D:=mX hr;let((dx,hp),hd,nd,az):=id B;calc%[0,_,(aC (cX<|aY (qH G) hr.Ø rb<|ak aU aA)<|aC (cC (CQ<|Kf D aU<|dw aG rb) uf bN)<|aD<|pD D (dw aG rb) aU gG rb)|?_];calc%[2,l,rb,hw|λH1 s1=>?_];calc%[39,p,G.d',dx,_,_,rb,s1 _ _ hp,G.f'.cl,G.f'.nh,rb,d,_,rb,jJ.k (k:=bM l)<|s1 _ _ hd|aZ _ rb ?_];rw[rR,ķ g];calc bZ %[39,p,G.d',dx,_,_,rb,s1 _ _ hp,G.f'.cl,G.f'.nh,rb,d,_,rb,n8.k (k:=bM l) (s1 _ _ hd) (by rw[jR,ab];show aH yf)|?_];let J:p≠d:=λz=>by rw[z,hd]at hp;cases hp
 refine q _ %[%[dx|by rw[aM J];show s1 _ _ hp],by rw[au,Qp g],z9 nd g|λx hx=>?_] λb o e F=>by rw[aM F];show s1 _ _ e
 rcases aT.mp hx with z|z;.show az x z
 .rw[am.mp z];show hw
def adJ (C:ĸ):Sp:=λvs H Q _=>∃(p d:Addr) (ws:AA) (l:İ ı),vs=[.H p,.X (S l)]/\dZ C H p d ws/\l∈ws/\
 ∀H',dZ C H' p d (ws.û λx=>Ļ<|x≠l)->(∀b o,H b=į o->b≠d->H' b=į o)->Q .đ H'
def Ol (G:GG K mg):MF P w K mg base G.z' 3 (adJ G.d'):=by
 calc G.z'.F.cH Cg ?_;intro bA A outer s H vs Q E hr h;let(p,d,ws,l,rfl,B,g,q):=h;let D:=mX hr;let((dx,hp),hd,nd,az):=id B;calc%[0,_,(aC (cX<|aY (qH G) hr.Ø rb<|ak aU aA)<|aC (cC (CQ<|G8 D aU<|dw aG rb) uf bN)<|aD<|cX<|X_ (dw aG rb) aU %[rb,rb,rb|rb])|?_];calc%[2,l,rb,az l g|λH1 s1=>?_];calc%[39,p,G.d',dx,_,_,rb,s1 _ _ hp,G.f'.cl,G.f'.nh,rb,d,_,rb,jJ.k (k:=bM l)<|s1 _ _ hd|aZ _ rb ?_];rw[rR,Ĺ g];calc bZ %[37,p,G.d',dx,_,_,rb,s1 _ _ hp,G.f'.cl,G.f'.nh|%[25,rb,d,rb,.Â %[_|.Â<|s1 _ _ hd]|%[8,_,bM l,.bl ĳ,s1 _ _ hd,rb,by rw[rR,Ĺ g]|?_]]];let J:p≠d:=λz=>by rw[z,hd]at hp;cases hp
 refine q _ %[%[dx|by rw[aM J];show s1 _ _ hp],by rw[au,Zj],nd.û _|λx hx=>az x (fc.mp hx).1] λb o e F=>by rw[aM F];show s1 _ _ e
def TF (h:fu l):∀c∈l,c<128:=λc d=>by have:=(h.az c d).2;lia
theorem j7.ofT:∀{ls:AA},(∀l∈ls,∀c∈l,c<128)->j7 K H 0 (ls.L Dt.X) (Ts ls)
 | [],_=>.ê
 | l::ls,h=>.á (.X l<|h l a4) (j7.ofT λl' d=>h l'<|av _ d)
def tb (l:İ ı)(m:ı):İ ı:=(l.È m).â++[43]++l.Í m
def zA (l:İ ı)(m:ı):jZ l Ĵ (į (m:Ŀ))=l.È m:=by unfold jZ;rw[HT.zR,HT.J_];simp[List.take_eq_take_iff]
def kZ (l:İ ı)(m:ı):jZ l (į (m:Ŀ)) Ĵ=l.Í m:=by
 unfold jZ;rw[HT.zR,HT.J_];by_cases h:m<=l.v
 .rw[xI h,de];rw[cp];lia
 .rw[xz yf,tw (ai _),tw yf];simp
def LK (f:ı->İ ı)(i):Ts ((List.å<|i+1).L f)=Ts ((List.å i).L f)++[V.X (S<|f i)]:=by simp[Ts,f_]
def afS:Sp:=λvs H Q _=>∃(l:İ ı) (m:Nat),vs=[.X (S l),.M m]/\l.v<=100/\∀H',aB H H'->Q (.X<|S<|tb l m) H'
def aeU:Sp:=λvs H Q _=>∃l:İ ı,vs=[.X (S l)]/\l.v<=100/\∀(p:ĸ) (H':Hp),aB H H'->H p=Ĵ->H' p=į (.Ç<|Ts<|(List.å l.v).L λi=>tb l<|i+1)->Q (.H p) H'
def yw (G:GG K mg):DF P w K mg base iV 1 afS:=by
 calc G.aw'.cH yu ?_;intro f bA A outer s H vs Q E hr h;let(l,m,rfl,d,q):=h;let hz:∀n,n<=1000->n<=Ľ:=λn h=>ay<|aH h;calc%[0,_,aD<|aW<|aR h_ (aR h_ (RZ rb (bU [] yo) ym G.T'<|f9 wK aG jU<|fQ aU)<|bU [43] yo)<|f9 wK aG (fQ aU) jU|?_];refine%[9,rb,_|%[11,rb,l,rb|%[25,hz _ yf,jZ l Ĵ<|į (m:Ŀ),rb,?_|λH1 s1=>?_]]]
 .rw[zA,ba];lia
 .rw[zA];calc%[3,_,_,rb|%[20,rb,?_,_,rb|%[2,l,rb,hz _ yf|?_]]];.rw[gm,ba];show hz _ (by simp;lia)
  .rw[kZ];calc%[4,_,_,rb,rb,?_|q H1 s1];rw[aE,gm,ba,cp];show hz _ (by simp;grind)
def xO (G:GG K mg):DF P w K mg base iK 2 aeU:=by
 calc G.av'.cH oG ?_;intro f bA A outer s H vs Q E hr h;let(l,rfl,D,q):=h;let hz:∀n,n<=1000->n<=Ľ:=λn h=>ay<|aH h;refine%[0,_,aD (aW (cR cJ ym G.g' cz (ak
  (gk rb (fY.of oG.nd yn) (yC ym G.i'<|ak aF<|ak (aR cZ (aX cI ym G.b' bP<|ak aG aA) aF) aA)
   (λ_ _ _ _ _=>dD) λ_ _ _ _ _=>aY (yw G) hr ym<|ak aU<|ak aG aA) aA)))|?_]
 calc%[2,l,rb,hz _ yf|%[24,_,_,rb,rb,1,(l.v:Ŀ)+1,rb,%[yk,yk,yf|yf]|λL g=>?_]];let hn:((l.v:Ŀ)+1-1).Õ=l.v:=yi;rw[hn];refine wJ (λi ys H2=>ys=Ts ((List.å i).L λi=>tb l<|i+1)/\H2 L=į (.Æ ys)/\aB H H2) %[rb,au|aB.ì g] ?_ ?_
 .intro i ys H2 hi z;let(rfl,d,sm):=z;refine%[1,l,1+i,?_,D|λF B=>%[B _ _ d,?_|d8.mk hi %[?_,au|?_]]]
  .show [V.X (S l),V.M (1+(i:Ŀ))]=_;rw[show (1+(i:Ŀ))=((1+i:ı):Ŀ) from rfl]
  .rw[ab,ab,cS];show aH yf
  .rw[Nat.add_comm 1 i,LK]
  .show(sm.À B).bB g
 .intro ys H2 z;let(rfl,d,sm):=z;calc%[3,L,_,rb|.Â %[aP.of d|λp hp=>?_]];show q p _ (sm.bB<|sm.Ó hp) (sm.Ó hp) au
def Ww:Sp:=λvs H Q _=>∃l:İ ı,vs=[.X (S l)]/\l.v<=100/\∀(p:ĸ) (H':Hp),aB H H'->H p=Ĵ->H' p=į (.Æ<|Ts<|(List.å l.v).L λi=>tb l<|i+1)->Q (.H p) H'
def Jv (l:İ ı)(h:j<l.v):[l[j]]++(l.È j).â=(l.È<|j+1).â:=by rw[List.take_succ_eq_append_getElem h,rL];rfl
def TJ (G:GG K mg):DF P w K mg base xK 1 Ww:=by
 calc G.bk'.cH Ij ?_;intro f bA A outer s H vs Q E hr h;let(l,rfl,N,q):=h;let nd:=Ij.nd;let hz:∀n,n<=1000->n<=Ľ:=λn h=>ay<|aH h;refine%[0,_,aC (aO (i:=1) nd rb (Or.Â rb)<|dF aA)
  (aC (c7 b7 rb (jD rb G.i'<|ak (aX cI ym G.b' bP<|ak aG aA) aA) (bL (i:=2) nd rb<|Or.Â rb)
   (aC (aO (i:=3) nd rb (Or.Â rb)<|bU [] yo)
   (aC (c7 b7 rb (jD rb G.i'<|ak (aR cZ bw aF) aA) (bL (i:=4) nd rb<|Or.Â rb)
   <|aD<|aO (i:=3) nd rb (Or.Â rb)<|aR h_ (bK uV aG cD λ_ _=>rfl) bO)
   (aD (cX (dO cx eD eI fU aU
   <|ak (aR h_ (aR h_ bO<|bU [43] yo)<|f9 wK aG (fQ<|aR cZ bw aF) jU) aA))))))
 <|aD<|aW aU)|?_]
 calc%[zsz 0|λp hp=>?_];calc%[2,l,rb,hz _ yf|%[7,_,rb,yf,yf|?_]];rw[cq];refine jE (lo:=0) (λi I H2=>∃(F B v4:ĵ V),I=[į (.X<|S l),į (.H p),F,B,v4]/\aB H H2/\H2 p=į (.Æ<|Ts<|(List.å i).L λi=>tb l<|i+1))
  %[21,Ĵ,Ĵ,Ĵ,rb,aB.ì hp|au] ?_ ?_
 .intro i I H2 hi z;let(F,B,v4,rfl,sm,d):=z;calc%[1,_,_,rb,rb|%[7,_,rb,yf,yf|?_]];let L:((0:Ŀ)+(i:Ŀ)+1).Õ=i+1:=yi;rw[L];refine jE (lo:=0) (λj I D=>D=H2/\∃(v4:ĵ V),I=[į (.X<|S l),į (.H p),į (.M<|0+(i:Ŀ)),į (.X<|S (l.È j).â),v4]) %[9,rb,v4|rb] ?_ ?_
  .intro j I D M z;let(rfl,J,rfl):=z;let g:j<l.v:=yf;refine%[15,l,_,l[j],rb,rb,hz _ yf,?_|%[4,[l[j]],_,rb,rb,?_|?_]]
   .rw[show ((0:Ŀ)+(j:Ŀ))=((j:ı):Ŀ) by lia];show bh (by simp[g])
   .rw[gm,ba];show hz _ (by simp;lia)
   .show%[9,rb,į<|.M<|0+(j:Ŀ)|by rw[<-Jv l g];rfl]
  .intro I D z;let(rfl,J,rfl):=z;calc%[.Â %[9,rb,_|aP.of d]|?_];calc%[1,_,_,rb,rb|%[9,?_,_|%[31,_,rb,rb,_|%[25,rb,l,rb,hz _ yf|%[4,_,_,rb,rb,?_|?_]]]]];.rw[gm,ba];show hz _ (by simp;lia)
   .calc ap (kz (abz l _ _) _)<|hz _ ?_;rw[aE,gm,ba];simp;lia
   .calc%[15,p,_,_,rb,rb,d,?_|?_];.rw[ab,ab,cS];show aH yf
    .calc%[21,_,_,_,rb,sm.bB hp|?_];rw[au,show (0:Ŀ)+(i:Ŀ)+1=((i+1:ı):Ŀ) by simp,kZ,LK];rfl
 .intro I H2 z;let(F,B,v4,rfl,sm,d):=z;show(q p H2 sm hp d)
def adK (l)(m):(tb l m).v=l.v+1:=by unfold tb;rw[aE,aE,gm,ba,cp];simp;grind
def k_ {ls:AA}{i:ı}{x:V}(h:(Ts ls)[i]?=į x):∃l,ls[i]?=į l/\x=.X (S l):=by rw[a_]at h;let(l,h1,d):=g9.mp h;show%[0,l,h1|d.Ð]
def jX (ls)(l):Ts ls++[V.X (S l)]=Ts (ls++[l]):=by simp[Ts]
abbrev qQ:=İ (ı×İ (İ ı))
def jB (gs:qQ)(t:İ ı):qQ:=match t with| []=>gs| c::r=>if c∈gs.L (·.1) then gs.L (λg=>if g.1=c then (g.1,g.2++[r]) else g) else gs++[(c,[r])]
def gn (ts:AA):qQ:=ts.ć jB []
def mU (gs:qQ)(f:ı->ĸ):İ (Key×V):=gs.L λg=>(bM [g.1],V.H<|f g.1)
structure RB (H:Hp)(d:ĸ)(gs:qQ)(f:ı->ĸ):Prop where
 dk:H d=į (.dK<|mU gs f)
 at_:∀g∈gs,H (f g.1)=į (.Æ<|Ts g.2)
 inj:∀a∈gs.L (·.1),∀b∈gs.L (·.1),f a=f b->a=b
 nd:(gs.L (·.1)).Ö
def aeV (h:bM [a]=bM [b]):a=b:=by have:=qZ<|xL h;simpa using this
theorem JN (f:ı->ĸ)(c):∀gs:qQ,cF (mU gs f) (bM [c])=if c∈gs.L (·.1) then į (.H<|f c) else Ĵ
 | []=>by simp[mU,cF]
 | g::gs=>by
  let d:=JN f c gs;unfold cF mU at d ⊢;rw[bS,mN];by_cases h:g.1=c
  .let e:Ļ (bM [g.1]=bM [c])=ĳ:=by rw[h];simp
   simp only[e];rw[Ĺ (by simp[h])];rw[<-h];rfl
  .let e:Ļ (bM [g.1]=bM [c])=Ķ:=aw λz=>h<|aeV z
   simp only[e];rw[d];have:(c∈(g::gs).L (·.1))↔c∈gs.L (·.1):=by rw[bS,a8];show%[λz=>z.resolve_left λy=>h y.Ð|.Ò]
   by_cases z:c∈gs.L (·.1);.rw[Ĺ z,Ĺ (this.Ù z)]
   .rw[ķ z,ķ λy=>z (this.mp y)]
def Zk (ts)(t):gn (ts++[t])=jB (gn ts) t:=by unfold gn;rw[tm];rfl
def LQ (gs:qQ)(t):(jB gs t).v<=gs.v+1:=by
 unfold jB;split;.lia
 .split;.simp
  .simp
def Qu (h:∀g∈gs,g.2.v<=i):∀g∈jB gs t,g.2.v<=i+1:=by
 intro g d;unfold jB at d;split at d;.show du<|h g d
 .split at d
  .let(B,q,rfl):=a5.mp d;split;.have:=h B q;simp;show this
   .show du<|h B q
  .rcases aT.mp d with y|y;.show du<|h g y
   .rw[am.mp y];simp
def Zm {gs:qQ}:(gs.L (·.1)).Ö->∀{a b:ı×İ (İ ı)},a∈gs->b∈gs->a.1=b.1->a=b:=by
 induction gs with
 | nil=>intro _ a b h;simp at h
 | cons g gs ih=>
  intro nd a b ha d e;rw[bS,kR]at nd;rcases a8.mp ha with y|y
  .rcases a8.mp d with z|z;.rw[y,z]
   .show ŀ (a5.Ù %[0,b,z|by rw[<-e,y]]) nd.1
  .rcases a8.mp d with z|z;.show ŀ (a5.Ù %[0,a,y|by rw[e,z]]) nd.1
   .show ih nd.2 y z e
def abA:Sp:=λvs H Q _=>∃(p:Addr) (ts:AA),vs=[.H p]/\H p=į (.Ç<|Ts ts)/\ts.v<=1000/\(∀t∈ts,t.v<=1000)/\
 ∀(d:ĸ) (f:ı->ĸ) (H':Hp),H d=Ĵ->aB H H'->RB H' d (gn ts) f->Q (.H d) H'
def Cp (Gz:GG K mg):DF P w K mg base kE 1 abA:=by
 calc Gz.ax'.cH nO ?_;intro f bA A outer s H vs Q E hr h;let(p,ts,rfl,hp,hl,ht,q):=h;let hu:=mX hr;calc%[0,_,(aC (aO (i:=1) nO.nd rb (Or.Â rb) Bv)<|aC (c7 b7 rb (gD aG) (bL (i:=2) nO.nd rb<|Or.Â rb)<|aD<|cC (bW sI bw (bU [] yo)<|bQ _) (aD<|cX<|dO cx eD eI fU (YC aU (bK uV bw aF λ_ _=>rfl) (dF aA) %[rb,rb,rb|rb])<|ak (f9 wK bw (fQ aF) jU) aA) bN)<|aD<|aW aU)|?_];calc λd hd=>?_;let s0:aB H (upd H d<|HO.dK []):=aB.ì hd;refine%[2,p,rb,%[_|bf.of<|s0 _ _ hp]|nP (K:=K) (a:=p) (xs:=Ts ts) (λi I H2=>∃(v2:ĵ V) (f:ı->ĸ),I=[į (.H p),į (.H d),v2]/\aB H H2/\RB H2 d (gn<|ts.È i) f/\(∀a∈(gn<|ts.È i).L (·.1),H (f a)=Ĵ)/\(gn<|ts.È i).v<=i/\∀g∈gn (ts.È i),g.2.v<=i)
  %[23,Ĵ,λ_=>0,rb,s0,%[au,λg h=>by simp[gn]at h,λa h=>by simp[gn]at h|by simp[gn]],λa h=>by simp[gn]at h,by simp[gn]|λg h=>by simp[gn]at h] (λi I H2 _ h=>by let(_,_,_,sm,_):=h;show bf.of<|sm _ _ hp) ?_ ?_]
 .intro i x I H2 hx z;let(v2,f,rfl,sm,R,fr,gl,Ek):=z;let(t,et,rfl):=k_ hx;let hit:i<ts.v:=(al.mp et).1;let tl:t.v<=1000:=ht t<|ax et;let G:gn (ts.È<|i+1)=jB (gn<|ts.È i) t:=by rw[b6,et];show Zk _ _
  generalize gn (ts.È i)=gs at R fr gl G Ek;let gl2:=LQ gs t;calc%[1,t,[],rb,rb|aZ _ rb ?_];cases t with
  | nil=>calc bZ %[1,_,f,rb,sm|?_];rw[G];show%[R,fr,by show gs.v<=_;show du gl|λg B=>du<|Ek g B]
  | cons c r=>
   calc cu ?_;let hzz:(c::r).v<=Ľ:=ay<|aH tl;let nfd:∀a∈gs.L (·.1),f a≠d:=λa ha z=>by let(g,B,rfl):=a5.mp ha;have:=R.ą g B;rw[z,R.dk]at this;cases this
   calc%[2,d,rb,.Â %[_|.Â R.dk]|%[35,c::r,_,c,rb,rb,hzz,bh (j:=0) rb,zsz 0|λL hL=>?_]];let hLH:H L=Ĵ:=sm.Ó hL;let nLd:L≠d:=λz=>by rw[z,R.dk]at hL;cases hL
   let N:∀a∈gs.L (·.1),L≠f a:=λa ha z=>by let(g,B,rfl):=a5.mp ha;have:=R.ą g B;rw[<-z,hL]at this;cases this
   let qp:upd H2 L (HO.Æ []) d=į (.dK<|mU gs f):=by rw[aM nLd.Ð];show R.dk
   let M:∀g∈gs,upd H2 L (HO.Æ []) (f g.1)=į (.Æ<|Ts g.2):=λg B=>by rw[aM (N _<|bX B).Ð];show R.ą g B
   let jC:upd H2 L (HO.Æ []) L=į (.Æ []):=au;let s3:aB H (upd H2 L<|HO.Æ []):=sm.bB hLH;generalize upd H2 L (HO.Æ [])=H3 at qp M jC s3 ⊢;let kl:(mU gs f).v<Ľ:=aH (by unfold mU;rw[ab];lia);refine%[6,mU gs f,bM [c],qp,rb,kl,λv hv=>?_|λhv=>?_]
   .rw[JN]at hv;by_cases D:c∈gs.L (·.1)
    .rw[Ĺ D]at hv;obtain rfl:V.H (f c)=v:=bo hv;let(g0,Y,Wx):=a5.mp D;let O:=M g0 Y;let Wx:g0.1=c:=Wx;rw[Wx]at O;let gll:=Ek g0 Y;calc%[9,.Â %[9,rb,_|aP.of O],_|%[11,rb,c::r,rb|%[29,hzz,f c,_,_,rb,rb,O,by rw[ab];show aH yf|?_]]];let ec:jZ (c::r) (į 1) Ĵ=r:=kZ (c::r) 1;let e2:jB gs (c::r)=gs.L (λg=>if g.1=c then (g.1,g.2++[r]) else g):=Ĺ D;let e3:(gs.L λg=>if g.1=c then (g.1,g.2++[r]) else g).L (·.1)=gs.L (·.1):=by
      rw[c8];calc d6 λg _=>?_;show (if g.1=c then (g.1,g.2++[r]) else g).1=g.1
      split <;> rfl
     refine%[23,_,f,rb,s3.bB<|fr c D,?_,?_,?_|λg B=>by rw[G]at B;show Qu Ek g B]
     .rw[G,e2];refine%[?_,λg B=>?_,by rw[e3];show R.inj|by rw[e3];show R.nd]
      .rw[aM (nfd c D).Ð,qp];congr 2;unfold mU;rw[c8];calc d6 λg _=>?_;show (bM [g.1],V.H<|f g.1)=(bM [(if g.1=c then (g.1,g.2++[r]) else g).1],V.H<|f (if g.1=c then (g.1,g.2++[r]) else g).1)
       split <;> rfl
      .let(g1,Z,rfl):=a5.mp B;by_cases z:g1.1=c
       .rw[Ĺ z];let eg:g1=g0:=Zm R.nd Z Y<|z.À Wx.Ð;rw[eg];show upd H3 (f c) _ (f g0.1)=_;rw[Wx,au,ec,jX]
       .rw[ķ z,aM λy=>z (R.inj g1.1 (bX Z) c D y)];show M g1 Z
     .rw[G,e2,e3];show fr
     .rw[G];lia
    .rw[ķ D]at hv;cases hv
   .rw[JN]at hv;let D:c∉gs.L (·.1):=λz=>by rw[Ĺ z]at hv;cases hv
    let hv':cF (mU gs f) (bM [c])=Ĵ:=by rw[JN,ķ D]
    rw[Bu _ hv'];let lg:upd H3 d (.dK<|mU gs f++[(bM [c],V.H L)]) L=į (.Æ []):=by rw[aM nLd];show jC
    let ec:jZ (c::r) (į 1) Ĵ=r:=kZ (c::r) 1;calc%[9,.Â %[9,rb,_|aP.of lg],_|%[11,rb,c::r,rb|%[29,hzz,L,_,_,rb,rb,lg,aH<|bE _|?_]]];let e2:jB gs (c::r)=gs++[(c,[r])]:=ķ D;let e4:(gs++[(c,[r])]).L (·.1)=gs.L (·.1)++[c]:=yi;let ef:∀a∈gs.L (·.1),(if a=c then L else f a)=f a:=λa ha=>ķ λz:a=c=>D (by rw[<-z];show ha);refine%[23,_,λa=>if a=c then L else f a,rb,(s3.bB hd).bB hLH,?_,?_,?_|λg B=>by rw[G]at B;show Qu Ek g B]
    .rw[G,e2];refine%[?_,λg B=>?_,?_|?_]
     .rw[aM nLd.Ð,au];congr 2;unfold mU;rw[b4];congr 1
      .refine d6 λg B=>?_
       show (bM [g.1],V.H<|f g.1)=(bM [g.1],V.H<|if g.1=c then L else f g.1)
       rw[ef _ (bX B)]
      .simp
     .rcases aT.mp B with y|y
      .show upd _ L _ (if g.1=c then L else f g.1)=_;rw[ef _ (bX y),aM (N _<|bX y).Ð,aM (nfd _<|bX y)];show M g y
      .rw[am.mp y];show upd _ L _ (if c=c then L else f c)=_;rw[Ĺ rb,au,ec];rfl
     .rw[e4];intro F h1 b1 h2 J;let J:(if F=c then L else f F)=(if b1=c then L else f b1):=J;rcases aT.mp h1 with y1|y1
      .rw[ef F y1]at J;rcases aT.mp h2 with y2|y2;.rw[ef b1 y2]at J;show R.inj F y1 b1 y2 J
       .rw[am.mp y2,Ĺ rfl]at J;show ŀ J.Ð<|N F y1
      .rw[am.mp y1,Ĺ rfl]at J;rcases aT.mp h2 with y2|y2
       .rw[ef b1 y2]at J;show ŀ J<|N b1 y2
       .rw[am.mp y1,am.mp y2]
     .rw[e4,lS];show%[R.nd,yi|λF h1 b1 h2 z=>D (by rw[am.mp h2]at z;rw[<-z];show h1)]
    .rw[G,e2,e4];intro F h1;rcases aT.mp h1 with y1|y1
     .show H (if F=c then L else f F)=Ĵ;rw[ef F y1];show fr F y1
     .rw[am.mp y1];show H (if c=c then L else f c)=Ĵ;rw[Ĺ rfl];show hLH
    .rw[G];lia
 .intro I H2 z;let(v2,f,rfl,sm,R,fr,gl,_):=z;rw[ab,c6]at R;show(q d f H2 hd sm R)
def hd1 (c:ı)(t:İ ı):ĵ (İ ı):=match t with| []=>none| d::r=>if d=c then į r else Ĵ
def iD (c:ı)(ts:AA):İ (İ ı):=ts.ø (hd1 c)
def Cq (c)(ts)(t):iD c (ts++[t])=iD c ts++(hd1 c t).I:=by unfold iD;rw[List.filterMap_append];cases h:hd1 c t <;> simp[h]
structure Qv (gs:qQ)(ts:AA):Prop where
 eq:∀g∈gs,g.2=iD g.1 ts
 keys:∀c,c∈gs.L (·.1)↔iD c ts≠[]
def Qv.add (h:Qv gs ts)(t):Qv (jB gs t) (ts++[t]):=by
 cases t with
 | nil=>
  let e:∀c,iD c (ts++[[]])=iD c ts:=λc=>by rw[Cq];simp[hd1]
  show%[λg B=>by rw[e];show h.eq g B|λc=>by rw[e];show h.keys c]
 | cons d r=>
  let F:iD d (ts++[d::r])=iD d ts++[r]:=by rw[Cq];simp[hd1]
  let G:∀c,c≠d->iD c (ts++[d::r])=iD c ts:=λc M=>by rw[Cq];simp[hd1,ib M]
  by_cases hd:d∈gs.L (·.1)
  .let J:jB gs (d::r)=gs.L (λg=>if g.1=d then (g.1,g.2++[r]) else g):=Ĺ hd;let L:(gs.L λg=>if g.1=d then (g.1,g.2++[r]) else g).L (·.1)=gs.L (·.1):=by
    rw[c8];calc d6 λg _=>?_;show (if g.1=d then (g.1,g.2++[r]) else g).1=g.1
    split <;> rfl
   rw[J];refine%[λg B=>?_|λc=>?_]
   .let(D,q,rfl):=a5.mp B;by_cases z:D.1=d
    .rw[Ĺ z];show D.2++[r]=iD D.1 (ts++[d::r]);rw[h.eq D q,z,F]
    .rw[ķ z,G _ z];show h.eq D q
   .rw[L];by_cases z:c=d
    .subst z;rw[F];show%[λ_=>by simp|λ_=>hd]
    .rw[G c z];show h.keys c
  .let J:jB gs (d::r)=gs++[(d,[r])]:=ķ hd;let hn:iD d ts=[]:=by
    by_cases z:iD d ts=[]
    .show z
    .show ŀ ((h.keys d).Ù z) hd
   rw[J];refine%[λg B=>?_|λc=>?_]
   .rcases aT.mp B with y|y
    .have:g.1≠d:=λz=>hd (by rw[<-z];show bX y)
     rw[G _ this];show h.eq g y
    .rw[am.mp y];show [r]=iD d (ts++[d::r]);rw[F,hn];rfl
   .rw[b4,aT];by_cases z:c=d
    .subst z;rw[F];show%[λ_=>by simp|λ_=>.Ò yi]
    .rw[G c z];refine%[λy=>y.ó (h.keys c).mp λy=>ŀ (by simpa using y) z|λy=>.Â<|(h.keys c).Ù y]
theorem Qw:∀(ts:AA) (gs:qQ) (pre:AA),Qv gs pre->Qv (ts.ć jB gs) (pre++ts)
 | [],gs,pre,h=>by simpa using h
 | t::ts,gs,pre,h=>by have:=Qw ts (jB gs t) (pre++[t])<|h.add t;rw[bz]at this;show this
def El (ts):Qv (gn ts) ts:=by show Qw ts [] [] %[λg h=>by simp at h|λc=>by simp[iD]]
def Qx:t∈iD c ts↔(c::t)∈ts:=by
 unfold iD;rw[mx];constructor
 .intro z;let(u,g,e):=z;unfold hd1 at e;split at e;.cases e
  .rename_i d r;split at e
   .rename_i z;rw[<-z,<-bo e];show g
   .cases e
 .intro h;show%[0,c::t,h|by simp[hd1]]
def vh (w:İ ı)(ts:AA):İ (İ ı):=w.ć (λs c=>iD c s) ts
theorem xP:∀{w:İ ı} {ts:AA} {t:İ ı},t∈vh w ts↔(w++t)∈ts
 | [],ts,t=>Iff.rfl
 | c::w,ts,t=>by show t∈vh w (iD c ts)↔_;rw[xP (w:=w),Qx];rfl
def Wy (w)(c)(ts):vh (w++[c]) ts=iD c (vh w ts):=by unfold vh;rw[tm];rfl
def Em (ts:AA):İ (İ ı):=[]::ts.ī λt=>(List.å<|t.v+1).L λk=>t.È k
def Zn {w:İ ı}{ts:AA}(h:w=[]\/vh w ts≠[]):w∈Em ts:=by
 rcases h with rfl|h;.show a4
 .calc av _ ?_;let(t,d):=sd _ h;have:=xP.mp d;refine gf.Ù %[0,w++t,this|a5.Ù %[0,w.v,b3.Ù (by rw[aE];lia)|yi]]
def Wz {ss:İ (İ<|İ ı)}(nd:ss.Ö)(h:∀s∈ss,∃w,s=vh w ts/\(w=[]\/s≠[])):ss.v<=(Em ts).v:=by
 let hs:ss ⊆ (Em ts).L λw=>vh w ts:=λs hs=>by let(w,e,hw):=h s hs;show a5.Ù %[0,w,Zn (by rw[<-e];show hw)|e.Ð]
 have:=nd.Ė hs
 rwa [ab]at this
def WD (h:∀t∈ts,t.v<=m):(Em ts).v<=ts.v*(m+1)+1:=by
 unfold Em;rw[bv];have:(ts.ī λt=>(List.å<|t.v+1).L λk=>t.È k).v<=ts.v*(m+1):=by
  induction ts with| nil=>simp| cons t ts ih=>rw[xm,aE,ab,cS,bv,qi];let h1:=h t a4;let g:=ih λu d=>h u<|av _ d;lia
 show e6 this
abbrev dH:=İ (İ ı)
abbrev Rw:=ō×İ (ı×ı)
def eG (ss:İ dH)(s:dH):İ dH:=if s∈ss then ss else ss++[s]
def jm (a:İ dH×İ (ı×ı))(g:ı×dH):İ dH×İ (ı×ı):=(eG a.1 g.2,a.2++[(g.1,(eG a.1 g.2).Ĝ g.2)])
def Gk (ss:İ dH)(n:ı):İ dH×İ (ı×ı):=(gn<|ss.Î n []).ć jm (ss,[])
def stepT (t:İ dH×İ Rw):İ dH×İ Rw:=((Gk t.1 t.2.v).1,t.2++[(Ļ<|[]∈t.1.Î t.2.v [],(Gk t.1 t.2.v).2)])
def Tb (s0:dH):ı->İ dH×İ Rw
 | 0=>([s0],[])
 | n+1=>stepT (Tb s0 n)
def abB {ss:İ dH}(h:ss.Ö):(eG ss s).Ö:=by
 unfold eG;split;.show h
 .rename_i z;rw[lS];show%[h,yi|λa ha b d e=>z (by rw[am.mp d]at e;rw[<-e];show ha)]
def LR:s∈eG ss s:=by
 unfold eG;split;.rename_i z;show z
 .simp
def WK (ss:İ dH)(s:dH):∃more,eG ss s=ss++more/\∀x∈more,x=s:=by
 unfold eG;split;.show%[0,[],yi|λx h=>by simp at h]
 .show%[0,[s],rb|λx h=>by simpa using h]
def adL {ss:İ dH}{s:dH}(h:s∈ss):ss[ss.Ĝ s]?=į s:=by have:=qr h;rw[ae this,List.getElem_idxOf this]
theorem L_:∀(gs:qQ) (ss:İ dH) (ps:İ (ı×ı)),ss.Ö->∃more d,gs.ć jm (ss,ps)=(ss++more,ps++d)/\(ss++more).Ö/\(∀s∈more,∃g∈gs,s=g.2)/\d.L (·.1)=gs.L (·.1)/\
  ∀q∈d,∃g∈gs,g.1=q.1/\(ss++more)[q.2]?=į g.2
 | [],ss,ps,nd=>%[6,[],[],yi,by simpa using nd,λs h=>by simp at h,rb|λq h=>by simp at h]
 | g::gs,ss,ps,nd=>by
  let(m1,e1,D):=WK ss g.2;let G:=abB (s:=g.2) nd;let N:g.2∈eG ss g.2:=LR;let J:=adL N;let(B,d,e2,Z,L,hk,Y):=L_ gs (eG ss g.2) (ps++[(g.1,(eG ss g.2).Ĝ g.2)]) G;let O:eG ss g.2++B=ss++(m1++B):=by rw[e1,bz]
  rw[O]at e2 Z Y;refine%[6,m1++B,(g.1,(eG ss g.2).Ĝ g.2)::d,?_,Z,?_,?_|?_]
  .show gs.ć jm (eG ss g.2,ps++[(g.1,(eG ss g.2).Ĝ g.2)])=_;rw[e2];simp
  .intro s hs;rcases aT.mp hs with y|y;.show%[0,g,a4|D s y]
   .let(g',h1,M):=L s y;show%[0,g',av _ h1|M]
  .simp[hk]
  .intro q F;rcases a8.mp F with y|y
   .subst y;calc%[2,g,a4,rb|?_];rw[<-O];show (eG ss g.2++B)[(eG ss g.2).Ĝ g.2]?=_;rw[ck (qr N)];show J
   .let(g',h1,M,h3):=Y q y;show%[2,g',av _ h1,M|h3]
def abC {gs : qQ}(h : (gs.L (·.1)).Ö)(t) : ((jB gs t).L (·.1)).Ö := by
  cases t with
  | nil => show h
  | cons c r =>
    show ((if c ∈ gs.L (·.1) then gs.L (λg => if g.1 = c then (g.1, g.2++[r]) else g) else gs++[(c, [r])]).L (·.1)).Ö;split
    · have e3 : (gs.L λg => if g.1 = c then (g.1, g.2++[r]) else g).L (·.1) = gs.L (·.1) := by
        rw[c8];calc d6 λg _ => ?_;show (if g.1 = c then (g.1, g.2++[r]) else g).1 = g.1
        split <;> rfl
      rw[e3]; show h
    · rename_i B
      rw[b4, lS];show%[h, by simp| λD h1 d q z => B (by have : d = c := (by simpa using q);rw[<-this, <- z]; show h1)]
theorem Qy:∀(ts:AA) (gs:qQ),(gs.L (·.1)).Ö->((ts.ć jB gs).L (·.1)).Ö
 | [],gs,h=>h
 | t::ts,gs,h=>Qy ts _ (abC h t)
def adM (ts):((gn ts).L (·.1)).Ö:=Qy ts [] yi
def WL (h:g∈gn ts):g.2≠[]:=by rw[(El ts).eq g h];show((El ts).keys g.1).mp<|bX h
structure En (ss:İ dH)(st:dH)(r:Rw):Prop where
 fst:r.1=Ļ ([]∈st)
 keys:r.2.L (·.1)=(gn st).L (·.1)
 at_:∀q∈r.2,ss[q.2]?=į (iD q.1 st)
structure tU (s0:dH)(t:İ dH×İ Rw):Prop where
 nd:t.1.Ö
 hd:t.1[0]?=į s0
 of:∀s∈t.1,∃w,s=vh w s0/\(w=[]\/s≠[])
 le:t.2.v<=t.1.v
 row:∀(i:ı) st r,t.1[i]?=į st->t.2[i]?=į r->En t.1 st r
theorem En.more {ss more:İ dH}{st:dH}{r:Rw}(h:En ss st r):En (ss++more) st r:=
 %[h.fst,h.keys|λq g=>by have:=h.ą q g;let d:=(al.mp this).1;rw[ck d];show this]
def tU.step (h:tU s0 t)(F:t.2.v<t.1.v):tU s0 (stepT t):=by
 let(nd,hd,of,le,row):=h;obtain⟨st,hst⟩:∃st,t.1[t.2.v]?=į st:=%[_|ae F]
 let d:t.1.Î t.2.v []=st:=by rw[ah,hst];rfl
 let(more,D,e,O,hm,hk,N):=L_ (gn st) t.1 [] nd;let L:Gk t.1 t.2.v=(t.1++more,D):=by unfold Gk;rw[d,e];rfl
 let G:=El st;let Z:stepT t=(t.1++more,t.2++[(Ļ<|[]∈st,D)]):=by unfold stepT;rw[L,d]
 rw[Z];let(w,M,_):=of st (ax hst);refine%[O,?_,?_,?_|?_]
 .show (t.1++more)[0]?=_;rw[ck (fw (bE _) F)];show hd
 .intro s hs;rcases aT.mp hs with y|y;.show of s y
  .let(g,d,rfl):=hm s y;let J:=WL d;show%[0,w++[g.1],by rw[Wy,<-M];show G.eq g d|.Ò J]
 .show (t.2++[_]).v<=(t.1++more).v;simp;(calc a7 (by assumption) ?_;lia)
 .intro i st' r hi hr;let hi:(t.1++more)[i]?=į st':=hi;let hr:(t.2++[(Ļ<|[]∈st,D)])[i]?=į r:=hr;show En (t.1++more) st' r;by_cases z:i<t.2.v
  .rw[ck z]at hr;rw[ck (a7 z le)]at hi;show(row i st' r hi hr).more
  .let hz:i=t.2.v:=by
    have:=(al.mp hr).1;simp at this;lia
   subst hz;rw[ck F,hst]at hi;simp at hr;cases hi;subst hr;calc%[rb,hk|λq B=>?_];let(g,h1,h2,Y):=N q B;rw[Y,<-h2,G.eq g h1]
theorem oO (s0:dH):∀n,(Tb s0 n).2.v=n
 | 0=>rfl
 | n+1=>by show ((Tb s0 n).2++[_]).v=_;simp[oO s0 n]
def aeW (s0:dH):tU s0 (Tb s0 0):=%[by simp[Tb],rb,λs hs=>%[0,[],(show s=s0 from am.mp hs)|.Â rb],by simp[Tb]|λi st r h1 d=>by simp[Tb]at d]
def Kt (H H':Hp):Prop:=∀a xs,H a=į (.Ç xs)->H' a=į (.Ç xs)
def Kt.refl (H):Kt H H:=λ_ _ h=>h
def Kt.trans (h:Kt A B)(g:Kt B C):Kt A C:=λa xs e=>g a xs (h a xs e)
def Kt.of (h:aB A B):Kt A B:=λa xs e=>h a _ e
theorem Kt.upd (h:Kt A B)(hn:∀xs,B a≠į (.Ç xs)):Kt A (upd B a o):=λb xs e=>by have:=h b xs e;rw[aM λz=>hn xs (by rw[<-z];show this)];show this
structure PT (H:Hp)(sa:İ ĸ)(ss:İ dH):Prop where
 len:sa.v=ss.v
 at_:∀(i:ı) a s,sa[i]?=į a->ss[i]?=į s->H a=į (.Ç<|Ts s)
def PT.mv (h:PT H sa ss)(k:Kt H H'):PT H' sa ss:=%[h.ď|λi a s h1 d=>k _ _<|h.ą i a s h1 d]
structure QT (H:Hp)(pa:İ ĸ)(ps:İ (ı×ı)):Prop where
 len:pa.v=ps.v
 at_:∀(i:ı) a q,pa[i]?=į a->ps[i]?=į q->H a=į (.Ç [.X (S [q.1]),.M q.2])
def QT.mv {ss}(h:QT H sa ss)(k:Kt H H'):QT H' sa ss:=%[h.ď|λi a s h1 d=>k _ _<|h.ą i a s h1 d]
def Gm (H:Hp)(a:ĸ)(r:Rw):Prop:=∃pa d,H a=į (.Ç [.bl r.1,.H pa])/\H pa=į (.Ç<|d.L .H)/\QT H d r.2
def Gm.mv (h:Gm H a r)(k:Kt H H'):Gm H' a r:=by let(pa,d,h1,g,q):=h;show%[1,pa,d,k _ _ h1,k _ _ g|q.mv k]
structure RT (H:Hp)(ra:İ ĸ)(rs:İ Rw):Prop where
 len:ra.v=rs.v
 at_:∀(i:ı) a r,ra[i]?=į a->rs[i]?=į r->Gm H a r
def RT.mv {ss}(h:RT H sa ss)(k:Kt H H'):RT H' sa ss:=%[h.ď|λi a s h1 d=>(h.ą i a s h1 d).mv k]
def Gn {α β:Type}{P:α->β->Prop}{as:İ α}{bs:İ β}{a:α}{b:β}(g:as.v=bs.v)(h:∀(i:ı) x y,as[i]?=į x->bs[i]?=į y->P x y)(h1:P a b):∀(i:ı) x y,(as++[a])[i]?=į x->(bs++[b])[i]?=į y->P x y:=by
 intro i x y hx d;by_cases z:i<as.v
 .rw[ck z]at hx;rw[ck (by simp_all)]at d;show h i x y hx d
 .let hz:i=as.v:=by
   have:=(al.mp hx).1;simp at this;lia
  rw[hz]at hx;rw[hz,g]at d;simp at hx d;rw[<-hx,<-d];show h1
def PT.snoc {H:Hp}{sa:İ ĸ}{ss:İ dH}{a:ĸ}{s:dH}(h:PT H sa ss)(h1:H a=į (.Ç<|Ts s)):PT H (sa++[a]) (ss++[s]):=%[by simp[h.len]|Gn (P:=λa s=>H a=į (.Ç<|Ts s)) h.ď h.ą h1]
def QT.snoc {ss}{q:ı×ı}(h:QT H sa ss)(h1:H a=į (.Ç [.X (S [q.1]),.M q.2])):QT H (sa++[a]) (ss++[q]):=%[by simp[h.len]|Gn (P:=λa (q:Nat×Nat)=>H a=į (.Ç [.X (S [q.1]),.M q.2])) h.ď h.ą h1]
def RT.snoc {ss}(h:RT H sa ss)(h1:Gm H a q):RT H (sa++[a]) (ss++[q]):=%[by simp[h.len]|Gn (P:=λa (q:Rw)=>Gm H a q) h.ď h.ą h1]
def pQ (ss:İ dH):İ (İ Key×V):=ss.zipIdx.L λp=>(p.1.L bM,V.M p.2)
def Zo {a b:dH}(h:a.L bM=b.L bM):a=b:=List.map_inj_right (λ_ _=>Cm) |>.mp h
def Gp (s:dH):(s.L bM).L kV=Ts s:=by rw[c8];rfl
def Zq (ss:İ dH):(pQ ss).v=ss.v:=by simp[pQ]
def WM (ss:İ dH)(s:dH):pQ (ss++[s])=pQ ss++[(s.L bM,V.M ss.v)]:=by unfold pQ;rw[List.zipIdx_append];simp
def abD (s:dH)(ss:İ dH):∀k:ı,cF ((ss.zipIdx k).L λp=>(p.1.L bM,V.M p.2)) (s.L bM)=if s∈ss then į (.M ((k+ss.Ĝ s:ı):Ŀ)) else Ĵ:=by
 induction ss with
 | nil=>intro k;simp[cF]
 | cons a ss ih=>
  intro k;rw[tT,bS];by_cases h:a=s
  .rw[gb (by rw[h])];rw[Ĺ (by simp[h]),h];simp
  .rw[gj (λz=>h<|Zo z),ih (k+1)];by_cases d:s∈ss
   .let e:(a::ss).Ĝ s=ss.Ĝ s+1:=by
     rw[List.idxOf_cons,beq_eq_false_iff_ne.Ù h];rfl
    rw[Ĺ d,Ĺ (av _ d),e];congr 2;lia
   .rw[ķ d,ķ λz=>(a8.mp z).ó (λy=>h y.Ð) d]
def Cr (ss:İ dH)(s:dH):cF (pQ ss) (s.L bM)=if s∈ss then į (.M (ss.Ĝ s:ı)) else Ĵ:=by have:=abD s ss 0;simpa [pQ] using this
theorem Ma:∀(ts:AA) (gs:qQ),(ts.ć jB gs).v<=gs.v+ts.v
 | [],gs=>by simp
 | t::ts,gs=>by let h1:=Ma ts<|jB gs t;let d:=LQ gs t;show (ts.ć jB<|jB gs t).v<=_;simp only[bv];lia
def Qz (ts):(gn ts).v<=ts.v:=by have:=Ma ts [];rw[kr,iS]at this;show this
theorem Mf:∀(w:İ ı) (ts:AA),(vh w ts).v<=ts.v
 | [],ts=>ai _
 | c::w,ts=>ap (Mf w<|iD c ts) (List.length_filterMap_le _ _)
def tU.small {t}(h:tU s0 t)(d:s0.v<=700)(hs:s∈t.1):s.v<=700:=by let(w,e,_):=h.of s hs;rw[e];show ap (Mf w s0) d
def tU.short {t}(h:tU s0 t)(d:∀x∈s0,x.v<=20)(hs:s∈t.1):∀x∈s,x.v<=20:=by let(w,e,_):=h.of s hs;intro x hx;rw[e]at hx;have:=d _<|xP.mp hx;rw[aE]at this;show ap (gT _ _) this
def tU.few {t}(h:tU s0 t)(d:s0.v<=700)(g:∀x∈s0,x.v<=20):t.1.v<=14701:=by calc ap (Wz h.nd h.of)<|ap (WD g) ?_;have:=lI 21 d;show e6 this
def tU.wide {t}(h:tU s0 t)(d:s0.v<=700)(hr:r∈t.2):r.2.v<=700:=by
 let(i,hi):=g6 hr;let h1:=(al.mp hi).1;let g:=h.le;obtain⟨st,hst⟩:∃st,t.1[i]?=į st:=%[_|ae<|a7 h1 g]
 have:=Ő List.v (h.row i st r hst hi).keys;rw[ab,ab]at this;rw[this];show ap (Qz st)<|h.small d<|ax hst
structure qI (ts:AA)(s0:dH)(n:ı):Prop where
 nd:s0.Ö
 mem:∀t,t∈s0↔t∈ts
 rise:s0.Ã (λa b=>Ļ (b<a)=Ķ)
 ok:tU s0 (Tb s0 n)
 all:(Tb s0 n).1.v=n
 few:n<=14701
 wide:∀r∈(Tb s0 n).2,r.2.v<=700
def abE:Sp:=λvs H Q _=>∃(p:Addr) (ts:AA),vs=[.H p]/\H p=į (.Æ<|Ts ts)/\ts.v<=700/\(∀t∈ts,t.v<=20)/\
 ∀(s0:dH) (n:ı) (r:ĸ) (ra:İ ĸ) (H':Hp),aB H H'->qI ts s0 n->H' r=į (.Ç<|ra.L .H)->RT H' ra (Tb s0 n).2->Q (.H r) H'
structure WI (H:Hp)(p sl nm rl:ĸ)(s0:dH)(n:ı)(I:St)(H2:Hp):Prop where
 st:∃v4 v5 v6 v7 v8,I=[į (.H p),į (.H sl),į (.H nm),į (.H rl),v4,v5,v6,v7,v8]
 sm:aB H H2
 hm:∃sa ra,H2 sl=į (.Æ<|sa.L .H)/\H2 rl=į (.Æ<|ra.L .H)/\PT H2 sa (Tb s0 n).1/\RT H2 ra (Tb s0 n).2
 hn:H2 nm=į (.dT<|pQ (Tb s0 n).1)
 ok:tU s0 (Tb s0 n)
structure FI (H:Hp)(sl nm rl pl d:ĸ)(o:Obj)(f:ı->ĸ)(ra:İ ĸ)(rws:İ Rw)(gs:qQ)(ss:İ dH)(ps:İ (ı×ı))(H2:Hp):Prop where
 sm:aB H H2
 hs:∃sa,H2 sl=į (.Æ<|sa.L .H)/\PT H2 sa ss
 hr:H2 rl=į (.Æ<|ra.L .H)/\RT H2 ra rws
 hp:∃pa,H2 pl=į (.Æ<|pa.L .H)/\QT H2 pa ps
 hn:H2 nm=į (.dT<|pQ ss)
 hd:H2 d=į (.iu o<|.dK<|mU gs f)
 hf:∀g∈gs,H2 (f g.1)=į (.Æ<|Ts g.2)
def FI.same (h:FI H sl nm rl pl d o f ra rws gs ss ps H2)(s:aB H2 H3):FI H sl nm rl pl d o f ra rws gs ss ps H3:=by let(sm,(q,G,J),(M,B),(pa,L,Y),O,F,N):=h;show%[sm.À s,%[0,q,s _ _ G|J.mv<|Kt.of s],%[s _ _ M|B.mv<|Kt.of s],%[0,pa,s _ _ L|Y.mv<|Kt.of s],s _ _ O,s _ _ F|λg D=>s _ _<|N g D]
theorem zB:∀(l:qQ) (ss:İ dH) (ps:İ (ı×ı)),(l.ć jm (ss,ps)).1.v<=ss.v+l.v/\(l.ć jm (ss,ps)).2.v=ps.v+l.v
 | [],ss,ps=>%[ai _|rb]
 | g::l,ss,ps=>by
  let h:=zB l (eG ss g.2)<|ps++[(g.1,(eG ss g.2).Ĝ g.2)];let d:(eG ss g.2).v<=ss.v+1:=by
   unfold eG;split;.show di _ _
   .simp
  show (l.ć jm (eG ss g.2,ps++[(g.1,(eG ss g.2).Ĝ g.2)])).1.v<=_/\(l.ć jm (eG ss g.2,ps++[(g.1,(eG ss g.2).Ĝ g.2)])).2.v=_;rw[aE]at h;simp only[bv,kr]at h ⊢;lia
def abF {i:ı}{v:V}(h:(mU gs f)[i]?=į (k,v)):∃g,gs[i]?=į g/\k=bM [g.1]/\v=.H (f g.1):=by unfold mU at h;rw[a_]at h;let(g,h1,d):=g9.mp h;let d:(bM [g.1],V.H<|f g.1)=(k,v):=d;injection d with h3 h4;show%[2,g,h1,h3.Ð|h4.Ð]
def Mj {s:dH}{sa:İ ĸ}(h:s≠[]):Ts s≠sa.L V.H:=by
 intro z;cases s with
 | nil=>show h rfl
 | cons t s=>cases sa with
  | nil=>cases z
  | cons a sa=>cases z
def Gq (J:GG K mg):DF P w K mg base nA 4 abE:=by
 calc J.ay'.cH d_ ?_;intro f bA A outer s H vs Q E hr h;let(p,ts,rfl,hp,hl,ht,q):=h;let hu:=mX hr;calc%[0,_,(aC (aO (i:=1) d_.nd rb (Or.Â rb)<|dF<|ak (cR cJ ym J.g' cz<|ak (aX (BZ w rb) ym J.s' lx<|ak (cR (NP w rb) ym J.M' PyProof.ô.boot_set<|ak aG aA) aA) aA) aA)<|aC (aO (i:=2) d_.nd rb (Or.Â rb)<|V0 hu (bK d9 aU aF λ_ _=>rfl) aF)<|aC (aO (i:=3) d_.nd rb (Or.Â rb)<|dF aA)<|aC (wA b7 (bW wB (aX bY ym J.b' bP<|ak bO aA) (aX bY ym J.b' bP<|ak aU aA)<|bQ _)<|aC (aO (i:=4) d_.nd rb (Or.Â rb)<|bK d9 aU (aX bY ym J.b' bP<|ak bO aA) λ_ _=>rfl)<|aC (aO (i:=5) d_.nd rb (Or.Â rb)<|dF aA)<|aC (c7 b7 rb (YF<|vB sP PySem.F.slot_dict_items PySem.F.type_dict_items YD<|aY (Cp J) hr.Ø rb<|ak cD aA) (mK rb<|cM (bL (i:=6) d_.nd rb<|Or.Â rb)<|cM (bL (i:=7) d_.nd rb<|Or.Â rb) jV)<|aC (aO (i:=8) d_.nd rb (Or.Â rb)<|cR cJ ym J.g' cz<|ak iJ aA)<|aC (kW<|cC (CQ<|G8 hu jl bw) (aC (pD hu bw jl (aX bY ym J.b' bP<|ak aU aA) rb)<|aD<|cX<|dO cx eD eI fU aU<|ak jl aA) bN)<|aD<|cX<|dO cx eD eI fU cV<|ak (dz<|ak fj<|ak (Ft hu bw jl λ_ _=>rfl) aA) aA)<|aD<|cX<|dO cx eD eI fU bO<|ak (dz<|ak (fZ U4 (bU [] yo) cD rb)<|ak (cR cJ ym J.g' cz<|ak cV aA) aA) aA)<|aD<|aW<|cR cJ ym J.g' cz<|ak bO aA)|?_];calc%[4,p,ts,rb,aP.of hp,yf|λa1 h1=>%[8,a1,ts,ts.v,rb,au,yf|λa2 s0 h2 snd Zr uy=>?_]];let s1:aB H (upd (upd H a1<|.ext<|jf w a1 ts ts.v) a2<|.Æ<|Ts s0):=(aB.ì h1).bB<|(aB.ì h1).Ó h2;let e2:upd (upd H a1<|.ext<|jf w a1 ts ts.v) a2 (.Æ<|Ts s0) a2=į (.Æ<|Ts s0):=au;generalize upd (upd H a1<|.ext<|jf w a1 ts ts.v) a2 (.Æ<|Ts s0)=H1 at s1 e2 ⊢;let l0:s0.v<=700:=by have:s0 ⊆ ts:=λt h=>(Zr t).mp h;show ap (snd.Ė this) hl
 let t0:∀x∈s0,x.v<=20:=λx h=>ht x<|(Zr x).mp h;calc%[3,a2,_,rb|.Â %[aP.of e2|λD h3=>%[zsz 1|λsl hsl=>?_]]];let e3:upd (upd H1 D<|.Ç<|Ts s0) sl (.Æ [.H D]) sl=į (.Æ [.H D]):=au;let e4:upd (upd H1 D<|.Ç<|Ts s0) sl (.Æ [.H D]) D=į (.Ç<|Ts s0):=by rw[aM (aQ au hsl)];show au
 let s2:aB H (upd (upd H1 D<|.Ç<|Ts s0) sl<|.Æ [.H D]):=(s1.bB<|s1.Ó h3).bB<|(s1.bB<|s1.Ó h3).Ó hsl;let fsl:H sl=Ĵ:=(s1.bB<|s1.Ó h3).Ó hsl;generalize upd (upd H1 D<|.Ç<|Ts s0) sl (.Æ [.H D])=H2 at e3 e4 s2 ⊢;intro nm hnm;let n1:sl≠nm:=aQ e3 hnm;let n2:D≠nm:=aQ e4 hnm;calc%[28,sl,_,0,_,rb,rb,aP.of (by rw[aM n1];show e3),bh (j:=0) rb,s0.L bM,D,rb,au,by rw[aM n2,Gp];show e4|?_];rw[aaA];let fnm:H nm=Ĵ:=s2.Ó hnm;let s3:aB H (upd H2 nm<|.dT [(s0.L bM,.M 0)]):=s2.bB fnm;let e5:upd H2 nm (.dT [(s0.L bM,.M 0)]) nm=į (.dT<|pQ [s0]):=au;let e3':upd H2 nm (.dT [(s0.L bM,.M 0)]) sl=į (.Æ [.H D]):=by rw[aM n1];show e3
 let e4':upd H2 nm (.dT [(s0.L bM,.M 0)]) D=į (.Ç<|Ts s0):=by rw[aM n2];show e4
 generalize upd H2 nm (.dT [(s0.L bM,.M 0)])=H3 at s3 e5 e3' e4' ⊢;calc%[zsz 0|λrl Y=>?_];let frl:H rl=Ĵ:=s3.Ó Y;let n3:sl≠rl:=aQ e3' Y;let W0:WI H p sl nm rl s0 0 [į (.H p),į (.H sl),į (.H nm),į (.H rl),Ĵ,Ĵ,Ĵ,Ĵ,Ĵ] (upd H3 rl<|.Æ []):=by
  calc%[%[10,_,_|%[18,_,_,_|rb]],s3.bB frl,%[4,[D],[],by rw[aM n3];show e3',au,%[rb|λi a s h1 h2=>?_]|%[rb|λi a s h1 h2=>by simp at h1]],by rw[aM (aQ e5 Y)];show e5|aeW s0];let hi:i=0:=by have:=(al.mp h1).1;simp at this;show this
  subst hi;cases h1;cases h2;rw[aM (aQ e4' Y)];show e4'
 calc%[λm I H4=>∃n,m=14702-n/\WI H p sl nm rl s0 n I H4,%[3,_,0,rb|W0]|?_];intro m I H4 z;let(n,rfl,W):=z;let((v4,v5,v6,v7,v8,rfl),sm,(sa,ra,Z,WT,pt,rt),hn4,ok):=W;let few:=ok.few l0 t0;let hrn:ra.v=n:=by rw[rt.len,oO]
 calc%[1,rl,_,rb,.Â<|aP.of WT|%[24,sl,_,rb,.Â<|aP.of Z,_,_,rb,rb|aZ _ rb ?_]];rw[ab,ab,hrn,pt.len];refine jr (λhc=>?_) λhc=>?_
 .let hlt:n<(Tb s0 n).1.v:=by have:=dC hc;simp_all
  calc%[0,WI H p sl nm rl s0<|n+1,λσ' H' W'=>%[27,14702-(n+1),rj yf yf,n+1,rb|W']|?_];obtain⟨st,hst⟩:∃st,(Tb s0 n).1[n]?=į st:=%[_|ae hlt]
  obtain⟨a,ha⟩:∃a,sa[n]?=į a:=%[_|ae (by rw[pt.len];show hlt)]
  let afT:=pt.ą n a st ha hst;let lst:st.v<=700:=ok.small l0<|ax hst;let tst:∀x∈st,x.v<=20:=ok.short t0<|ax hst;calc%[1,rl,_,rb,.Â<|aP.of WT|%[5,sl,_,_,.H a,rb,rb,aP.of Z,(by rw[ab,hrn];show bh (by rw[a_,ha];rfl))|?_]];calc%[zsz 0|λpl L=>?_];let s5:aB H (upd H4 pl<|.Æ []):=sm.bB<|sm.Ó L;let fpl:H pl=Ĵ:=sm.Ó L;let k5:aB H4 (upd H4 pl<|.Æ []):=aB.ì L;let Zt:=k5 _ _ afT;let hs5:=k5 _ _ Z;let hr5:=k5 _ _ WT;let WW:=k5 _ _ hn4;let pt5:=pt.mv<|Kt.of k5;let rt5:=rt.mv<|Kt.of k5;let WX:upd H4 pl (.Æ []) pl=į (.Æ []):=au;let n4:sl≠pl:=aQ Z L;let n5:rl≠pl:=aQ WT L;generalize upd H4 pl (.Æ [])=H5 at s5 Zt hs5 hr5 WW pt5 rt5 WX ⊢;calc%[6,a,st,rb,Zt,yf,λx hx=>ap (tst x hx) yf|λd f H6 hd5 s6 R=>?_];let fd:H d=Ĵ:=s5.Ó hd5;let afU:=s6 _ _ Zt;let N:=s6 _ _ hs5;let hr6:=s6 _ _ hr5;let QF:=s6 _ _ WW;let uz:=s6 _ _ WX;let pt6:=pt5.mv<|Kt.of s6;let rt6:=rt5.mv<|Kt.of s6;let Bh:=s5.À s6;let gl:=Qz st;let gne:∀g∈gn st,g.2≠[]:=λg B=>WL B;generalize hgs:gn st=gs at R gl gne;let nfs:∀g∈gs,f g.1≠sl:=λg B=>iH (R.ą g B) N λz=>Mj (gne g B)<|HO.Æ.inj z;let nfr:∀g∈gs,f g.1≠rl:=λg B=>iH (R.ą g B) hr6 λz=>Mj (gne g B)<|HO.Æ.inj z;let nfp:∀g∈gs,f g.1≠pl:=λg B=>iH (R.ą g B) uz λz=>Mj (sa:=[]) (gne g B)<|HO.Æ.inj z;let nfn:∀g∈gs,f g.1≠nm:=λg B=>iH (R.ą g B) QF λz=>(nomatch z)
  let nfd:∀g∈gs,f g.1≠d:=λg B=>iH (R.ą g B) R.dk λz=>(nomatch z)
  let nsd:sl≠d:=iH N R.dk λz=>(nomatch z)
  let nrd:rl≠d:=iH hr6 R.dk λz=>(nomatch z)
  let zy:pl≠d:=iH uz R.dk λz=>(nomatch z)
  let nnd:nm≠d:=iH QF R.dk λz=>(nomatch z)
  let nns:nm≠sl:=iH QF N λz=>(nomatch z)
  let nnr:nm≠rl:=iH QF hr6 λz=>(nomatch z)
  let nnp:nm≠pl:=iH QF uz λz=>(nomatch z)
  calc%[9,.Ò<|.Ò<|.Â %[rb|.Â %[_|R.dk]],d|%[7,_,rb,rb,R.dk|λv hv=>%[8,v,d,_,rb,au,by rw[aM (aQ R.dk hv)];show R.dk|λo=>?_]]];let sv:aB H6 (upd H6 v<|.ext<|rD v d):=aB.ì hv;let kd:Kt H6 (upd (upd H6 v<|.ext<|rD v d) d<|.iu o<|.dK<|mU gs f):=(Kt.of sv).ì λxs z=>by rw[sv _ _ R.dk]at z;cases z
  let F0:FI H sl nm rl pl d o f ra (Tb s0 n).2 gs (Tb s0 n).1 [] (upd (upd H6 v<|.ext<|rD v d) d<|.iu o<|.dK<|mU gs f):=by
   calc%[(Bh.bB<|Bh.Ó hv).bB fd,%[0,sa,?_|pt6.mv kd],%[?_|rt6.mv kd],%[0,[],?_|%[rb|λi a q h=>by simp at h]],?_,au|λg B=>?_];.rw[aM nsd];show sv _ _ N
   .rw[aM nrd];show sv _ _ hr6
   .rw[aM zy];show sv _ _ uz
   .rw[aM nnd];show sv _ _ QF
   .rw[aM (nfd g B)];show sv _ _<|R.ą g B
  let adN:upd (upd H6 v<|.ext<|rD v d) d (.iu o<|.dK<|mU gs f) a=į (.Ç<|Ts st):=kd _ _ afU;generalize upd (upd H6 v<|.ext<|rD v d) d (.iu o<|.dK<|mU gs f)=H7 at F0 adN ⊢;refine VR (o:=o) (d:=d) (kvs:=mU gs f) (λi I F=>(∃w6 w7 w8,I=[į (.H p),į (.H sl),į (.H nm),į (.H rl),į (.H a),į (.H pl),w6,w7,w8])/\Kt H7 F/\FI H sl nm rl pl d o f ra (Tb s0 n).2 gs ((gs.È i).ć jm ((Tb s0 n).1,[])).1 ((gs.È i).ć jm ((Tb s0 n).1,[])).2 F) %[%[18,_,_,_|rb],Kt.Č _|F0] (λi I F _ h=>h.2.2.hd) ?_ ?_
  .rintro i k v' I F T hk ⟨⟨w6,w7,w8,rfl⟩,kt,FF⟩ hT;let(g,B,rfl,rfl):=abF hk;let hgm:=ax B;let efold:(gs.È<|i+1).ć jm ((Tb s0 n).1,[])=jm ((gs.È i).ć jm ((Tb s0 n).1,[])) g:=by rw[b6,B,tm];rfl
   let xQ:=zB (gs.È i) (Tb s0 n).1 [];let hil:i<gs.v:=(al.mp B).1;rw[ba,kr]at xQ;rw[efold];generalize (gs.È i).ć jm ((Tb s0 n).1,[])=acc at FF xQ ⊢;let(ss,ps):=acc;let hss:ss.v<=15401:=by have:=xQ.1;simp only at this;lia
   let hps:ps.v<=700:=by have:=xQ.2;simp only at this;grind
   let kT:aB F (upd F T<|.Ç [kV (bM [g.1]),.H (f g.1)]):=aB.ì hT;calc%[41,T,_,rb,bf.of au,rb,_,_,rb,_,_,rb,rb|?_];let FT:=FF.same kT;let ktT:=kt.À<|Kt.of kT;generalize upd F T (.Ç [kV (bM [g.1]),.H (f g.1)])=H9 at FT ktT ⊢;calc%[3,f g.1,_,rb|.Â %[aP.of<|FT.hf g hgm|λM hon=>?_]];let kO:aB H9 (upd H9 M<|.Ç<|Ts g.2):=aB.ì hon;let FO:=FT.same kO;let ktO:=ktT.À<|Kt.of kO;let eO:upd H9 M (.Ç<|Ts g.2) M=į (.Ç<|(g.2.L bM).L kV):=by rw[Gp];show au
   generalize upd H9 M (.Ç<|Ts g.2)=Pb at FO ktO eO ⊢;refine%[0,λI Ip=>I=[į (.H p),į (.H sl),į (.H nm),į (.H rl),į (.H a),į (.H pl),į (.X<|S [g.1]),į (.H<|f g.1),į (.H M)]/\Kt H7 Ip/\Ip M=į (.Ç<|(g.2.L bM).L kV)/\FI H sl nm rl pl d o f ra (Tb s0 n).2 gs (eG ss g.2) ps Ip,?_|?_]
   .calc%[1,nm,_,rb,jJ.t FO.hn eO|aZ _ rb ?_];rw[Cr];by_cases cg:g.2∈ss
    .rw[Ĺ cg];calc bZ %[rb,ktO,eO|?_];have:eG ss g.2=ss:=Ĺ cg;rw[this];show FO
    .rw[ķ cg];calc cu ?_;let eP:eG ss g.2=ss++[g.2]:=ķ cg;let(smF,(sb,Im,Io),(Mh,QB),(pa,Mi,QD),Eo,WQ,WR):=FO;calc%[24,sl,_,rb,.Â<|aP.of Im,nm,_,rb,n8.t Eo eO (by rw[Zq];show fw hss yk)|?_];rw[Bu _ (by rw[Cr,ķ cg]),ab,Io.len,<-WM];let nOn:M≠nm:=iH eO Eo λz=>(nomatch z)
     let nOs:M≠sl:=iH eO Im λz=>(nomatch z)
     let k1:Kt Pb (upd Pb nm<|.dT<|pQ<|ss++[g.2]):=(Kt.Č _).ì λxs z=>by rw[Eo]at z;cases z
     let hs1:upd Pb nm (.dT<|pQ<|ss++[g.2]) sl=į (.Æ<|sb.L .H):=by rw[aM nns.Ð];show Im
     calc%[29,.Â %[9,rb,_|aP.of hs1],sl,_,_,rb,rb,hs1,by rw[ab,Io.len];show fw hss yk|?_];let k2:Kt Pb (upd (upd Pb nm<|.dT<|pQ<|ss++[g.2]) sl<|.Æ<|sb.L .H++[.H M]):=k1.ì λxs z=>by rw[hs1]at z;cases z
     calc%[rb,ktO.À k2,k2 _ _ eO|?_];rw[eP];calc%[(smF.bB fnm).bB fsl,%[0,sb++[M],by rw[au,b4];rfl|(Io.mv k2).snoc (by have:=k2 _ _ eO;rwa [Gp]at this)],%[?_|QB.mv k2],%[0,pa,?_|QD.mv k2],?_,?_|λg' G=>?_];.rw[aM n3.Ð,aM nnr.Ð];show Mh
     .rw[aM n4.Ð,aM nnp.Ð];show Mi
     .rw[aM nns,au]
     .rw[aM nsd.Ð,aM nnd.Ð];show WQ
     .rw[aM (nfs g' G),aM (nfn g' G)];show WR g' G
   .intro σ' Ip z;let(rfl,afV,e11,F11):=z;let(smF,(sb,Im,Io),(Mh,QB),(pa,Mi,QD),Eo,WQ,WR):=id F11;refine%[14,.Â %[9,rb,_|aP.of Mi],nm,.M (((eG ss g.2).Ĝ g.2:ı):Ŀ),rb,?_|?_]
    .have:=jJ.t Eo e11;rw[Cr,Ĺ LR]at this;show this
    .calc%[zsz 2|λtp O=>?_];let kQ:aB Ip (upd Ip tp<|.Ç [.X (S [g.1]),.M (((eG ss g.2).Ĝ g.2:ı):Ŀ)]):=aB.ì O;let eQ:upd Ip tp (.Ç [.X (S [g.1]),.M (((eG ss g.2).Ĝ g.2:ı):Ŀ)]) tp=į (.Ç [.X (S [g.1]),.M (((eG ss g.2).Ĝ g.2:ı):Ŀ)]):=au;let FQ:=F11.same kQ;let ktQ:=afV.À<|Kt.of kQ;generalize upd Ip tp (.Ç [.X (S [g.1]),.M (((eG ss g.2).Ĝ g.2:ı):Ŀ)])=H12 at FQ eQ ktQ ⊢;let(smG,(sc,hsG,ptG),(hrG,rtG),(pb,hpG,qtG),hnG,hdG,hfG):=FQ;calc%[15,pl,_,_,rb,rb,hpG,by rw[ab,qtG.len];show aH<|ap hps<|gT _ _|?_];let k3:Kt H12 (upd H12 pl<|.Æ<|pb.L .H++[.H tp]):=(Kt.Č _).ì λxs z=>by rw[hpG]at z;cases z
     calc%[%[18,_,_,_|rb],ktQ.À k3,smG.bB fpl,%[0,sc,?_|ptG.mv k3],%[?_|rtG.mv k3],%[0,pb++[tp],by rw[au,b4];rfl|(qtG.mv k3).snoc<|k3 _ _ eQ],?_,?_|λg' G=>?_];.rw[aM n4];show hsG
     .rw[aM n5];show hrG
     .rw[aM nnp];show hnG
     .rw[aM zy.Ð];show hdG
     .rw[aM (nfp g' G)];show hfG g' G
  .rintro I F ⟨⟨w6,w7,w8,rfl⟩,kt,FF⟩;rw[show (mU gs f).v=gs.v from ab _,c6]at FF;let eT:Tb s0 (n+1)=((gs.ć jm ((Tb s0 n).1,[])).1,(Tb s0 n).2++[(Ļ<|[]∈st,(gs.ć jm ((Tb s0 n).1,[])).2)]):=by
    show stepT (Tb s0 n)=_;let e1:(Tb s0 n).1.Î n []=st:=by rw[ah,hst];rfl
    unfold stepT Gk;rw[oO,e1,hgs]
   let ok2:tU s0 (Tb s0<|n+1):=ok.step (by rw[oO];show hlt);let xQ:=zB gs (Tb s0 n).1 [];generalize gs.ć jm ((Tb s0 n).1,[])=acc at FF eT xQ;let hps:acc.2.v<=700:=by have:=xQ.2;simp only[kr]at this;lia
   let(smF,(sb,Im,Io),(Mh,QB),(pa,Mi,QD),Eo,WQ,WR):=FF;calc%[9,.Â %[9,rb,_|aP.of Mh],a|%[13,Ts st,rb,.Ò<|bf.of<|kt _ _ adN,rb,Gj st|?_]];rw[show inV (V.X<|S []) (Ts st)=Ļ ([]∈st) from LC [] st,show (if Ķ=ĳ then !Ļ (([]:İ ı)∈st) else Ļ (([]:İ ı)∈st))=Ļ (([]:İ ı)∈st) from rfl];calc%[3,pl,_,rb|.Â %[aP.of Mi|λtp O=>?_]];calc%[zsz 2|λrp hrp=>?_];let kA:aB F (upd (upd F tp<|.Ç<|pa.L .H) rp<|.Ç [.bl (Ļ<|[]∈st),.H tp]):=(aB.ì O).bB<|(aB.ì O).Ó hrp;let eA:upd (upd F tp<|.Ç<|pa.L .H) rp (.Ç [.bl (Ļ<|[]∈st),.H tp]) rp=į (.Ç [.bl (Ļ<|[]∈st),.H tp]):=au;let eB:upd (upd F tp<|.Ç<|pa.L .H) rp (.Ç [.bl (Ļ<|[]∈st),.H tp]) tp=į (.Ç<|pa.L .H):=by rw[aM (aQ au hrp)];show au
   generalize upd (upd F tp<|.Ç<|pa.L .H) rp (.Ç [.bl (Ļ<|[]∈st),.H tp])=H9 at kA eA eB ⊢;let hr9:=kA _ _ Mh;calc%[15,rl,_,_,rb,rb,hr9,by rw[ab,hrn];show a7 (show n<14702 by lia) yk|?_];let k3:Kt H9 (upd H9 rl<|.Æ<|ra.L .H++[.H rp]):=(Kt.Č _).ì λxs z=>by rw[hr9]at z;cases z
   let k4:=(Kt.of kA).À k3;calc%[%[10,_,_|%[18,_,_,_|rb]],(smF.À kA).bB frl,%[4,sb,ra++[rp],?_,by rw[au,b4];rfl,?_|?_],?_|ok2];.rw[aM n3];show kA _ _ Im
   .rw[eT];show Io.mv k4
   .rw[eT];show(QB.mv k4).snoc (q:=(Ļ<|[]∈st,acc.2)) %[1,tp,pa,k3 _ _ eA,k3 _ _ eB|QD.mv k4]
   .rw[aM nnr,eT];show kA _ _ Eo
 .let hge:(Tb s0 n).1.v<=n:=Nat.le_of_not_lt λz=>hc<|aS<|ii fv z
  let hle:=ok.le;rw[oO]at hle;let hall:(Tb s0 n).1.v=n:=mP hge hle;calc%[3,rl,_,rb|.Â %[aP.of WT|λr hr'=>?_]];let k:=aB.ì (o:=.Ç (ra.L .H)) hr';show q s0 n r ra _ (sm.À k) %[snd,Zr,uy,ok,hall,ap hle few|λr hr=>ok.wide l0 hr] au<|rt.mv<|Kt.of k
def Bj (rws:İ Rw)(i c:ı):ĵ ı:=(rws[i]?).bind λr=>(r.2.find? λq=>Ļ<|q.1=c).L (·.2)
def Gr (rws:İ Rw)(i:ı):ō:=match rws[i]? with| some r=>r.1| none=>false
def Cu (pre:İ Rw)(b)(qs)(i c):Bj (pre++[(b,qs)]) i c=if i<pre.v then Bj pre i c else if i=pre.v then (qs.find? λq=>Ļ<|q.1=c).L (·.2) else Ĵ:=by
 unfold Bj;by_cases h:i<pre.v;.rw[Ĺ h,ck h]
 .rw[ķ h];by_cases d:i=pre.v;.rw[Ĺ d,d];simp
  .rw[ķ d,b9 (by simp;lia)];rfl
def abG (pre:İ Rw)(b)(i c):Bj (pre++[(b,[])]) i c=Bj pre i c:=by
 rw[Cu];by_cases h:i<pre.v;.rw[Ĺ h]
 .rw[ķ h];have:Bj pre i c=Ĵ:=by unfold Bj;rw[b9 (iF h)];rfl
  rw[this];simp
def WY (d:İ (ı×ı))(c0 j0 c)(h:c0∉d.L (·.1)):((d++[(c0,j0)]).find? λq=>Ļ<|q.1=c)=if c=c0 then some (c0,j0) else d.find? λq=>Ļ (q.1=c):=by
 rw[List.find?_append];by_cases e:c=c0
 .rw[Ĺ e];have:(d.find? λq=>Ļ<|q.1=c)=Ĵ:=by
   rw[List.find?_eq_none];intro x hx z;show h (by rw[<-e];show a5.Ù %[0,x,hx|dC z])
  rw[this];simp[e]
 .rw[ķ e];simp[ib e]
def abH (pre:İ Rw)(b)(q:İ (ı×ı))(c0 j0 i c)(h:c0∉q.L (·.1)):Bj (pre++[(b,q++[(c0,j0)])]) i c=if i=pre.v/\c=c0 then į j0 else Bj (pre++[(b,q)]) i c:=by
 rw[Cu,Cu];by_cases h1:i<pre.v;.rw[Ĺ h1,Ĺ h1,ķ yf]
 .rw[ķ h1,ķ h1];by_cases d:i=pre.v
  .rw[Ĺ d,Ĺ d,WY q c0 j0 c h];by_cases g:c=c0;.rw[Ĺ g,Ĺ %[d|g]];rfl
   .rw[ķ g,ķ λz=>g z.2]
  .rw[ķ d,ķ d,ķ λz=>d z.1]
def Ir (pre:İ Rw)(r:Rw)(i):Gr (pre++[r]) i=if i=pre.v then r.1 else Gr pre i:=by
 unfold Gr;by_cases h:i<pre.v;.rw[ķ (bb h),ck h]
 .by_cases d:i=pre.v;.rw[Ĺ d,d];simp
  .rw[ķ d,b9 (by simp;lia),b9 (iF h)]
def nR (H:Hp)(d:ĸ)(z:ı)(rws:İ Rw):Prop:=∃kvs,H d=į (.dT kvs)/\kvs.v<=z/\∀i c:ı,cF kvs [Sum.Â (i:Ŀ),bM [c]]=(Bj rws i c).L λ(j:ı)=>V.M (j:Ŀ)
def qu (H:Hp)(e:ĸ)(z:ı)(rws:İ Rw):Prop:=∃kvs,H e=į (.dK kvs)/\kvs.v<=z/\∀i:ı,cF kvs (Sum.Â (i:Ŀ))=if Gr rws i=ĳ then į (.bl ĳ) else Ĵ
def W2 (C:ĸ)(H:Hp)(m:ĸ)(rws:İ Rw):Prop:=∃dx r d e,H m=į (.Ē C dx [("rows",.H r),("steps",.H d),("end_states",.H e)])/\(∃ra,H r=į (.Ç<|ra.L .H)/\RT H ra rws)/\(∃z,nR H d z rws)/\∃z,qu H e z rws
def Ep (C:ĸ)(H:Hp)(m e:ĸ)(rws:İ Rw):Prop:=∃dx r d,H m=į (.Ē C dx [("rows",.H r),("steps",.H d),("end_states",.H e)])/\(∃ra,H r=į (.Ç<|ra.L .H)/\RT H ra rws)/\(∃z,nR H d z rws)/\∃z,qu H e z rws
def Ep.at_ (h:Ep C H m e rws):W2 C H m rws:=by let(dx,r,d,h):=h;show%[17,dx,r,d,e|h]
structure MI (C:ĸ)(H:Hp)(m dx r d e:ĸ)(ra:İ ĸ)(rws:İ Rw)(H2:Hp):Prop where
 kp:∀b o,H b=į o->b≠m->H2 b=į o
 ob:H2 m=į (.Ē C dx [("rows",.H r),("steps",.H d),("end_states",.H e)])
 hr:H2 r=į (.Ç<|ra.L .H)
 rt:RT H2 ra rws
def MI.upd (h:MI C H m dx r d e ra rws H2)(hx:H x=Ĵ)(hm:m≠x)(B:∀xs,H2 x≠į (.Ç xs)):MI C H m dx r d e ra rws (L2.ì H2 x o):=by let k:Kt H2 (L2.ì H2 x o):=(Kt.Č H2).ì B;show%[λb o' g q=>by rw[aM (aQ g hx)];show h.kp b o' g q,by rw[aM hm];show h.ob,k _ _ h.hr|h.rt.mv k]
def MI.fresh (h:MI C H m dx r d e ra rws H2)(hx:H2 x=Ĵ):H x=Ĵ/\m≠x:=by
 let hm:m≠x:=aQ h.ob hx;calc%[?_|hm];cases y:H x with| none=>rfl| some o=>rw[h.kp x o y hm.Ð]at hx;cases hx
def MI.new (h:MI C H m dx r d e ra rws H2)(hx:H2 x=Ĵ):MI C H m dx r d e ra rws (L2.ì H2 x o):=h.ì (h.à hx).1 (h.à hx).2 λxs z=>by rw[hx]at z;cases z
def nR.mv (h:nR H d z rws)(s:aB H H'):nR H' d z rws:=by let(kvs,h1,g):=h;show%[0,kvs,s _ _ h1|g]
def qu.mv (h:qu H d z rws)(s:aB H H'):qu H' d z rws:=by let(kvs,h1,g):=h;show%[0,kvs,s _ _ h1|g]
def adO (C:ĸ):Sp:=λvs H Q _=>∃(m dx p:Addr) (ts:AA),vs=[.H m,.H p]/\H m=į (.Ē C dx [])/\H p=į (.Æ<|Ts ts)/\ts.v<=700/\(∀t∈ts,t.v<=20)/\
 ∀(s0:dH) (n:ı) (e:ĸ) (H':Hp),(∀b o,H b=į o->b≠m->H' b=į o)->qI ts s0 n->H e=Ĵ->Ep C H' m e (Tb s0 n).2->Q .đ H'
def take_snoc {α:Type}{l:İ α}{x:α}(h:l[i]?=į x):l.È (i+1)=l.È i++[x]:=by rw[b6,h];rfl
def QH {i i' c c':ı}:([Sum.Â (i:Ŀ),bM [c]]:İ Key)=[Sum.Â (i':Ŀ),bM [c']]↔i=i'/\c=c':=by
 constructor
 .intro h;injection h with h1 h2;injection h2 with h2 _;let g:(i:Ŀ)=i':=Sum.Â.inj h1;let d:[c]=[c']:=qZ<|xL h2;show%[Iff.mp Int.ofNat_inj g|by simpa using d]
 .rintro⟨rfl,rfl⟩;rfl
def W3 {ra:İ ĸ}{i:ı}{x:V}(h:(ra.L V.H)[i]?=į x):∃a,ra[i]?=į a/\x=.H a:=by rw[a_]at h;let(a,h1,d):=g9.mp h;show%[0,a,h1|d.Ð]
def QJ (G:GG K mg):MF P w K mg base G.m' 5 (adO G.e'):=by
 calc G.m'.F.cH gK ?_;intro bA A outer s H vs Q E hr h;let(m,dx,p,ts,rfl,hm,hp,hl,ht,q):=h;let hu:=mX hr;calc%[0,_,(aC (aO (i:=2) gK.nd rb (Or.Â rb)<|aY (Gq G) hr.Ø rb<|ak aU aA)<|aC (rY aG bw rb)<|aC (rY aG BP rb)<|aC (rY aG Bv rb)<|aD<|c7 b7 rb (Kz ym G.B'<|ak bw aA) (mK rb<|cM (bL (i:=3) gK.nd rb<|Or.Â rb)<|cM (bL (i:=4) gK.nd rb<|Or.Â rb) jV)<|aC (kW<|cC (dJ<|bK dN cD aF λ_ _=>rfl) (aD<|pD hu (dw aG rb) bO gG rb) bN)<|aD<|c7 b7 rb (gD<|bK dN cD aF λ_ _=>rfl) (mK rb<|cM (bL (i:=5) gK.nd rb<|Or.Â rb)<|cM (bL (i:=6) gK.nd rb<|Or.Â rb) jV)<|aD<|pD hu (dw aG rb) (dz<|ak bO<|ak cV aA) fj rb)|?_];calc%[6,p,ts,rb,hp,hl,ht|λs0 n r ra H1 s1 tb hr1 rt=>?_];let hm1:=s1 _ _ hm;let nrm:r≠m:=iH hr1 hm1 λz=>(nomatch z)
 calc%[16,m,G.e',dx,[],rb,hm1,G.h'.cl,G.h'.nr,(by show 0<1000;decide)|?_];let hm2:upd H1 m (.Ē G.e' dx<|eY "rows" (.H r) []) m=į (.Ē G.e' dx [("rows",.H r)]):=au;let QK:∀b o,H1 b=į o->b≠m->upd H1 m (.Ē G.e' dx<|eY "rows" (.H r) []) b=some o:=λb o e B=>by rw[aM B];show e
 generalize upd H1 m (.Ē G.e' dx<|eY "rows" (.H r) [])=H2 at hm2 QK ⊢;intro d hd;let W4:m≠d:=aQ hm2 hd;calc%[16,m,G.e',dx,[("rows",.H r)],rb,by rw[aM W4];show hm2,G.h'.cl,G.h'.ns,(by show 1<1000;decide)|?_];let Dm:upd (upd H2 d<|.dT []) m (.Ē G.e' dx<|eY "steps" (.H d) [("rows",.H r)]) m=į (.Ē G.e' dx [("rows",.H r),("steps",.H d)]):=au;let M:upd (upd H2 d<|.dT []) m (.Ē G.e' dx<|eY "steps" (.H d) [("rows",.H r)]) d=į (.dT []):=by rw[aM W4.Ð];show au
 let Z:∀b o,H2 b=į o->b≠m->upd (upd H2 d<|.dT []) m (.Ē G.e' dx<|eY "steps" (.H d) [("rows",.H r)]) b=some o:=λb o e B=>by rw[aM B,aM (aQ e hd)];show e
 generalize upd (upd H2 d<|.dT []) m (.Ē G.e' dx<|eY "steps" (.H d) [("rows",.H r)])=H3 at Dm M Z ⊢;intro e he;let W5:m≠e:=aQ Dm he;let nde:d≠e:=aQ M he;calc%[16,m,G.e',dx,[("rows",.H r),("steps",.H d)],rb,by rw[aM W5];show Dm,G.h'.cl,G.h'.ne,(by show 2<1000;decide)|?_];let hm4:upd (upd H3 e<|.dK []) m (.Ē G.e' dx<|eY "end_states" (.H e) [("rows",.H r),("steps",.H d)]) m=į (.Ē G.e' dx [("rows",.H r),("steps",.H d),("end_states",.H e)]):=au;let he4:upd (upd H3 e<|.dK []) m (.Ē G.e' dx<|eY "end_states" (.H e) [("rows",.H r),("steps",.H d)]) e=į (.dK []):=by rw[aM W5.Ð];show au
 let hd4:upd (upd H3 e<|.dK []) m (.Ē G.e' dx<|eY "end_states" (.H e) [("rows",.H r),("steps",.H d)]) d=į (.dT []):=by rw[aM W4.Ð,aM nde];show M
 let Iu:∀b o,H3 b=į o->b≠m->upd (upd H3 e<|.dK []) m (.Ē G.e' dx<|eY "end_states" (.H e) [("rows",.H r),("steps",.H d)]) b=some o:=λb o z B=>by rw[aM B,aM (aQ z he)];show z
 generalize upd (upd H3 e<|.dK []) m (.Ē G.e' dx<|eY "end_states" (.H e) [("rows",.H r),("steps",.H d)])=H4 at hm4 he4 hd4 Iu ⊢;let kp:∀b o,H1 b=į o->b≠m->H4 b=į o:=λb o z B=>Iu b o (Z b o (QK b o z B) B) B;let kt:Kt H1 H4:=λb xs z=>kp b _ z λy=>by rw[y,hm1]at z;cases z
 let fH:∀b,b≠m->H2 b=Ĵ->H b=Ĵ:=λb B z=>by
  cases y:H b with| none=>rfl| some o=>rw[QK b o (s1 _ _ y) B]at z;cases z
 have G.m'.fd:H d=Ĵ:=fH d W4.Ð hd;let fe:H e=Ĵ:=by
  cases y:H e with| none=>rfl| some o=>rw[Z e o (QK e o (s1 _ _ y) W5.Ð) W5.Ð]at he;cases he
 let M0:MI G.e' H m dx r d e ra (Tb s0 n).2 H4:=%[λb o z B=>kp b o (s1 _ _ z) B,hm4,kp r _ hr1 nrm|rt.mv kt]
 calc%[2,r,rb,%[_|bf.of M0.hr]|?_];let few:=tb.few;let wide:=tb.wide;let hrl:ra.v=n:=by rw[rt.len,oO]
 let knd:∀(i:ı) (st:dH) (g:Rw),(Tb s0 n).1[i]?=į st->(Tb s0 n).2[i]?=į g->(g.2.L (·.1)).Ö:=λi st g h1 h2=>by rw[(tb.ok.row i st g h1 h2).keys];show adM st
 let hss:(Tb s0 n).1.v=(Tb s0 n).2.v:=by rw[oO,tb.all]
 let qq:=q s0 n;let qM:∀H',(∀b o,H b=į o->b≠m->H' b=į o)->Ep G.e' H' m e (Tb s0 n).2->Q .đ H':=λH' z y=>q s0 n e H' z tb fe y;clear qq q tb;let O:(Tb s0 n).2.v=n:=oO s0 n;generalize (Tb s0 n).2=rws at M0 wide knd hss qM O rt;refine Hs (K:=K) (a:=r) (xs:=ra.L V.H) (λi I J=>(∃v3 v4 v5 v6,I=[į (.H m),į (.H p),į (.H r),v3,v4,v5,v6])/\MI G.e' H m dx r d e ra rws J/\nR J d (i*700) (rws.È i)/\qu J e i (rws.È i))
  %[%[17,_,_,_,_|rb],M0,%[2,[],hd4,bE _|λi c=>by rw[ye];rfl]|%[2,[],he4,bE _|λi=>by rw[ye];rfl]] (λi I J _ h=>bf.of h.2.1.hr) ?_ ?_
 .rintro i x I J tt hx ⟨⟨v3,v4,v5,v6,rfl⟩,M5,S5,E5⟩ hT;let(Y,har,rfl):=W3 hx;let hir:i<ra.v:=(al.mp har).1;obtain⟨g,hrw⟩:∃g,rws[i]?=į g:=%[_|ae yf]
  obtain⟨st,hst⟩:∃st,(Tb s0 n).1[i]?=į st:=%[_|ae yf]
  let nd':=knd i st g hst hrw;let wd':=wide g<|ax hrw;let htk:(rws.È i).v=i:=by rw[ba];lia
  let etk:=take_snoc hrw;let kT:aB J (upd J tt<|.Ç [.M i,.H Y]):=aB.ì hT;let M6:=M5.new (o:=.Ç [.M i,.H Y]) hT;let S6:=S5.mv kT;let E6:=E5.mv kT;calc%[41,tt,_,rb,bf.of au,rb,_,_,rb,_,_,rb,rb|?_];generalize upd J tt (.Ç [.M i,.H Y])=H6 at M6 S6 E6 ⊢;let(pa,pas,h1,h2,qt):=M6.rt.ą i Y g har hrw;refine%[0,λI H7=>I=[į (.H m),į (.H p),į (.H r),į (.M i),į (.H Y),v5,v6]/\Kt H6 H7/\MI G.e' H m dx r d e ra rws H7/\nR H7 d (i*700) (rws.È i)/\qu H7 e (i+1) (rws.È<|i+1),?_|?_]
  .calc%[5,Y,_,0,_,rb,rb,bf.of h1,bh (j:=0) rb|aZ _ rb ?_];let(kvs,L,hk2,hk3):=E6;cases B:g.1 with
   | false=>
    calc bZ %[34,rb,Kt.Č _,M6,S6,kvs,L,du hk2|λj=>?_];rw[etk,Ir,htk,B];by_cases z:j=i
    .rw[Ĺ z,hk3,z];have:Gr (rws.È i) i=Ķ:=by unfold Gr;rw[b9 (fq htk)]
     rw[this]
    .rw[ķ z];show hk3 j
   | true=>
    calc cu ?_;calc%[39,m,G.e',dx,_,_,rb,M6.ob,G.h'.cl,G.h'.ne,rb,e,_,rb,n8.k (k:=Sum.Â (i:Ŀ)) L<|a7 (show kvs.v<14702 by lia) yk|?_];let k1:Kt H6 (upd H6 e<|.dK<|putK kvs (Sum.Â (i:Ŀ))<|.bl true):=(Kt.Č _).ì λxs z=>by rw[L]at z;cases z
    refine%[34,rb,k1,M6.ì fe W5 (λxs z=>by rw[L]at z;cases z),?_,putK kvs (Sum.Â (i:Ŀ))<|.bl ĳ,au,ap (mJ _ _ _)<|e6 hk2|λj=>?_]
    .let(kd,hd1,F):=S6;show%[0,kd,by rw[aM nde];show hd1|F]
    .rw[wG,etk,Ir,htk,B];by_cases z:j=i;.rw[Ĺ (by rw[z]),Ĺ z];rfl
     .rw[ķ (λy=>z (by have:=Sum.Â.inj y;show Iff.mp Int.ofNat_inj this)),ķ z];show hk3 j
  .intro σ' H7 z;let(rfl,k7,M7,S7,E7):=z;refine%[17,Y,_,1,_|%[34,rb,rb,bf.of<|k7 _ _ h1,bh (j:=1) rb,pa,rb,%[_|bf.of<|k7 _ _ h2]|nP (K:=K) (a:=pa) (xs:=pas.L V.H) (λj I D=>(∃v5 v6,I=[į (.H m),į (.H p),į (.H r),į (.M i),į (.H Y),v5,v6])/\Kt H7 D/\MI G.e' H m dx r d e ra rws D/\nR D d (i*700+j) (rws.È i++[(g.1,g.2.È j)])/\qu D e (i+1) (rws.È<|i+1))
    %[%[10,_,_|rb],Kt.Č _,M7,?_|E7] (λj I D _ h=>bf.of<|h.2.1 _ _<|k7 _ _ h2) ?_ ?_]]
   .let(kd,hd1,F,M):=S7;show%[2,kd,hd1,F|λi' c=>by rw[ye,abG];show M i' c]
   .rintro j y I D hy ⟨⟨u5,u6,rfl⟩,k8,M8,S8,E8⟩;let(aq,haq,rfl):=W3 hy;let hjq:j<pas.v:=(al.mp haq).1;let bV:=qt.ď;obtain⟨zE,hq'⟩:∃q',g.2[j]?=į q':=%[_|ae yf]
    let hq8:=k8 _ _<|k7 _ _<|qt.ą j aq zE haq hq';let eq8:=take_snoc hq';let nin:zE.1∉(g.2.È j).L (·.1):=λz=>by
     let e1:(g.2.L (·.1))[j]?=į zE.1:=by rw[a_,hq'];rfl
     rw[List.map_take]at z;let e2:zE.1∈(g.2.L (·.1)).Í j:=ax (i:=0) (by rw[fz];show e1);let HN:((g.2.L (·.1)).È j++(g.2.L (·.1)).Í j).Ö:=by rw[cy];show nd'
     show(lS.mp HN).2.2 _ z _ e2 rfl
    calc%[41,aq,_,rb,bf.of hq8,rb,_,_,rb,_,_,rb,rb|?_];let(kd,hd1,F,M):=S8;calc%[38,m,G.e',dx,_,_,rb,M8.ob,G.h'.cl,G.h'.ns,rb,zsz 2|λN hkt=>?_];let kK:aB D (upd D N<|.Ç [.M i,.X (S [zE.1])]):=aB.ì hkt;let eK:upd D N (.Ç [.M i,.X (S [zE.1])]) N=į (.Ç<|([Sum.Â (i:Ŀ),bM [zE.1]]:İ Key).L kV):=au;let M9:=M8.new (o:=.Ç [.M i,.X (S [zE.1])]) hkt;let hd9:=kK _ _ hd1;let E9:=E8.mv kK;let k9:=k8.À<|Kt.of kK;calc%[1,d,_,rb,n8.t (k:=[Sum.Â (i:Ŀ),bM [zE.1]]) hd9 eK<|a7 (show kd.v<14701*700+700+1 by lia) yk|?_];let nt:∀xs,upd D N (.Ç [.M i,.X (S [zE.1])]) d≠į (.Ç xs):=λxs z=>by rw[hd9]at z;cases z
    refine%[%[10,_,_|rb],k9.ì nt,M9.ì G.m'.fd W4 nt,%[2,_,au,ap (mJ _ _ _) yf|λi' c=>?_]|?_]
    .rw[wG,eq8,abH _ _ _ _ _ _ _ nin,htk];by_cases z:i'=i/\c=zE.1;.rw[Ĺ (QH.Ù z),Ĺ z];rfl
     .rw[ķ λy=>z (QH.mp y),ķ z];show M i' c
    .let(ke,h1,h2):=E9;show%[0,ke,by rw[aM nde.Ð];show h1|h2]
   .rintro I D ⟨⟨u5,u6,rfl⟩,k8,M8,S8,E8⟩;let bV:=qt.ď;rw[ab,bV,c6]at S8;calc%[%[17,_,_,_,_|rb],M8,?_|E8];let(kd,hd1,F,M):=S8;rw[etk];show%[2,kd,hd1,yf|M]
 .rintro I J ⟨⟨v3,v4,v5,v6,rfl⟩,M5,S5,E5⟩;rw[ab,hrl,<-O,c6]at S5 E5;show qM J M5.kp %[21,dx,r,d,M5.ob,%[0,ra,M5.hr|M5.rt]|%[9,%[_|S5],_|E5]]
def pairD (q:ı×ı):Ś:=.Ĕ [.X (S [q.1]),.M q.2]
def afW (r:Rw):Ś:=.Ĕ [.Ă r.1,.Ĕ (r.2.L pairD)]
def afX (rws:İ Rw):Ś:=.Ĕ (rws.L afW)
def TabAt (H:Hp)(r:ĸ)(rws:İ Rw):Prop:=∃ra,H r=į (.Ç<|ra.L .H)/\RT H ra rws
def TabAt.mv (h:TabAt H r rws)(k:Kt H H'):TabAt H' r rws:=by let(ra,h1,d):=h;show%[0,ra,k _ _ h1|d.mv k]
def adP (rws:İ Rw):Prop:=∀r∈rws,∀q∈r.2,q.1<128
theorem TQ {α:Type}{f:α->Ś}:∀{as:İ ĸ} {d:İ α},as.v=d.v->(∀(i:ı) a q,as[i]?=į a->d[i]?=į q->iy K H n (f q) (.H a))->Af K H n (d.L f) (as.L .H)
 | [],[],_,_=>.ê
 | [],_::_,h,_=>by simp at h
 | _::_,[],h,_=>by simp at h
 | a::as,q::d,h,g=>.á (g 0 a q rb rb) (TQ (by simpa using h) λi x y h1 B=>g (i+1) x y h1 B)
def TabAt.has (h:TabAt H r rws)(ha:adP rws):iy K H 4 (afX rws) (.H r):=by let(ra,h1,D):=h;calc .Ç (bf.of h1)<|TQ D.ď λi a q hi g=>?_;let(pa,M,L,J,B):=D.ą i a q hi g;calc .Ç (bf.of L)<|.á (.bl _)<|.á (.Ç (bf.of J)<|TQ B.ď λj b p G hp=>?_) .ê;let F:=ha q (ax g) p<|ax hp;show .Ç (bf.of<|B.ą j b p G hp)<|.á (.X _ λc d=>by rw[am.mp d];show F)<|.á (.M _) .ê
def qI.asc (h:qI ts s0 n)(ha:∀t∈ts,∀c∈t,c<128):adP (Tb s0 n).2:=by
 intro r hr q D;let(i,hi):=g6 hr;let h1:=(al.mp hi).1;let F:=h.ok.le;obtain⟨st,hst⟩:∃st,(Tb s0 n).1[i]?=į st:=%[_|ae<|a7 h1 F]
 let hk:=(h.ok.row i st r hst hi).keys;let hm:q.1∈(gn st).L (·.1):=by rw[<-hk];show bX D
 let g:=((El st).keys q.1).mp hm;let(t,d):=sd _ g;let d:=Qx.mp d;let(w,B,_):=h.ok.of st (ax hst);rw[B]at d;have:=(h.mem _).mp<|xP.mp d;show ha _ this q.1 yi
theorem Gs (s0:dH)(h:(Tb s0 n).1.v=n):∀k,(Tb s0<|n+k).1=(Tb s0 n).1
 | 0=>rfl
 | k+1=>by
  let d:=Gs s0 h k;show (stepT<|Tb s0<|n+k).1=_;unfold stepT Gk;rw[oO,d];have:(Tb s0 n).1.Î (n+k) []=[]:=by rw[ah,b9 (by simp_all)];rfl
  rw[this];rfl
def qI.uniq (h:qI ts s0 n)(h':qI ts' s0' n')(hm:∀x,x∈ts↔x∈ts'):s0=s0'/\n=n':=by
 let e:s0=s0':=up_eq (Qt h.rise h.nd) (Qt h'.rise h'.nd) λx=>by rw[h.mem,h'.mem,hm]
 subst e;calc%[rb|?_];rcases dE n n' with z|z
 .have:=Gs s0 h.ĝ<|n'-n;rw[show n+(n'-n)=n' from ed (ay z)]at this;have:=Ő List.v this;rw[h.all,h'.all]at this;show this.Ð
 .have:=Gs s0 h'.ĝ<|n-n';rw[show n'+(n-n')=n from ed z]at this;have:=Ő List.v this;rw[h.all,h'.all]at this;show this
def qI.afY (h:qI ts s0 n)(hm:∀x,x∈ts↔x∈ts'):qI ts' s0 n:=%[h.nd,λt=>by rw[h.mem,hm],h.rise,h.ok,h.ĝ,h.few|h.wide]
def mj (ws:AA):İ (İ ı):=ws.ī λw=>(List.å w.v).L λi=>tb w (i+1)
def Gu:t∈mj ws↔∃w∈ws,∃i,i<w.v/\t=tb w (i+1):=by
 unfold mj;rw[gf];constructor
 .intro z;let(w,hw,h):=z;let(i,hi,e):=a5.mp h;show%[27,w,hw,i,b3.mp hi|e.Ð]
 .intro z;let(w,hw,i,hi,e):=z;show%[0,w,hw|a5.Ù %[0,i,b3.Ù hi|e.Ð]]
def Ml (h:∀x,x∈ws↔x∈us)(t):t∈mj ws↔t∈mj us:=by rw[Gu,Gu];show%[λ⟨w,hw,r⟩=>%[0,w,(h w).mp hw|r]|λ⟨w,hw,r⟩=>%[0,w,(h w).Ù hw|r]]
def Mp (ws)(w):mj (ws++[w])=mj ws++(List.å w.v).L λi=>tb w (i+1):=by unfold mj;rw[oy];simp
def qw (d:∀x∈ws,fu x):(mj ws).v<=ws.v*9/\∀t∈mj ws,t.v<=10/\∀c∈t,c<128:=by
 constructor
 .induction ws with| nil=>simp[mj]| cons w ws ih=>have h1:=ih λx hx=>d x<|av _ hx;let g:=(d w a4).hi;unfold mj at h1 ⊢;rw[xm,aE,ab,cS,bv];lia
 .intro t B;let(w,hw,i,hi,rfl):=Gu.mp B;let W:=d w hw;let g:=W.hi;calc%[by rw[adK];show e6 g|λc q=>?_];unfold tb at q;rcases aT.mp q with y|y
  .rcases aT.mp y with y|y;.have:=(W.az c<|dm<|tS.mp y).2;lia
   .rw[am.mp y];decide
  .have:=(W.az c<|e9 y).2;lia
def aeX (C:ĸ):Sp:=λvs H Q _=>∃(m:Addr) (rws:İ Rw),vs=[.H m]/\W2 C H m rws/\∀r,TabAt H r rws->Q (.H r) H
def Mq (G:GG K mg):MF P w K mg base G.p' 1 (aeX G.e'):=by calc G.p'.F.cH Ce ?_;intro bA A outer s H vs Q E hr h;let(m,rws,rfl,M,q):=h;let(dx,r,d,e,h1,g,_):=M;calc%[0,_,(aD<|aW<|dw aG rb)|?_];show%[12,m,G.e',dx,_,_,rb,h1,G.h'.cl,G.h'.nr,rb|q r g]
def afZ (CB C:ĸ):Sp:=λvs H Q _=>∃(p d:Addr) (ws:AA),vs=[.H p]/\dZ CB H p d ws/\ws.v<64/\
 ∀(m e:ĸ) (s0:dH) (n:ı) (H':Hp),aB H H'->qI (mj ws) s0 n->H e=Ĵ->Ep C H' m e (Tb s0 n).2->Q (.H m) H'
def TV (G:GG K mg):MF P w K mg base G.A' 7 (afZ G.d' G.e'):=by
 calc G.A'.F.cH oM ?_;intro bA A outer s H vs Q E hr h;let(p,d,ws,rfl,B,F,q):=h;calc%[0,_,(aC (aO (i:=1) oM.nd rb (Or.Â rb)<|dF aA)<|aC (c7 b7 rb (gD<|nG aG G.f'.cl G.r'.m (Lz G) hr.Ø G.r'.b .ê fB) (bL (i:=2) oM.nd rb<|Or.Â rb)<|aD<|cX<|dO cx kg ki (N7 K) aU<|ak (aY (xO G) hr.Ø rb<|ak bw aA) aA)<|aD<|aW<|pB (G.m'.Lq G.G') (QJ G) hr.Ø rb G.F' G.m'.b .ê fB<|ak aU aA)|?_];calc%[zsz 0|λL hL=>?_];let s1:aB H (upd H L<|.Æ []):=aB.ì hL;let eL:upd H L (.Æ []) L=į (.Æ<|Ts []):=au;generalize upd H L (.Æ [])=H1 at s1 eL ⊢;let B1:=B.same s1;let(dx,hp1):=B1.ob;calc%[61,p,dx,_,rb,hp1,rb,p,d,ws,rb,B1,F|λt us H2 s2 nt M pm rs=>?_];let Z:=s2 _ _ eL;let hW:∀x∈us,fu x:=λx hx=>B.az x<|pm.æ.mp hx;let hl:us.v<64:=by rw[pm.length_eq];show F
 refine%[2,t,rb,%[_|bf.of M]|nP (K:=K) (a:=t) (xs:=Ts us) (λi I g=>∃(v2:ĵ V),I=[į (.H p),į (.H L),v2]/\aB H g/\g t=į (.Ç<|Ts us)/\g L=į (.Æ<|Ts<|mj<|us.È i))
  %[7,Ĵ,rb,s1.À s2,M|Z] (λi I g _ ⟨_,_,_,h,_⟩=>bf.of h) ?_ ?_]
 .intro i y I g hi z;let(v2,rfl,sm,J,D):=z;let(wd,Mr,rfl):=k_ hi;let W:=hW wd<|ax Mr;let wh:=W.hi;let hil:i<us.v:=(al.mp Mr).1;let hb:=(qw λx hx=>hW x<|dm (i:=i) hx).1;rw[ba]at hb;calc%[25,.Â %[9,rb,_|aP.of D],wd,rb,yf|λtp H4 N ntp Y=>?_];refine%[16,L,tp,_,_,rb,rb,N _ _ D,bf.of Y,?_|?_]
  .rw[ab,ab,ab,cS];show ay<|aH yf
  .calc%[7,_,rb,(sm.À N).bB hL,?_|?_];.rw[aM λz=>by rw[z,D]at J;cases J];show N _ _ J
   .rw[au,b6,Mr];show _=į (HO.Æ<|Ts<|mj<|us.È i++[wd]);rw[Mp];unfold Ts;rw[b4 (f:=λl=>V.X (S l)) (l₁:=mj (us.È i))]
 .intro I g z;let(v2,rfl,sm,J,D):=z;rw[ab,c6]at D;let hb:=qw hW;calc(λm dx hm O hne=>?_);let k6:aB g (upd (upd g dx<|.own m) m<|.Ē G.e' dx []):=(aB.ì O).bB hm;calc%[16,m,dx,L,mj us,rb,au,k6 _ _ D,yf,λt M=>ap (hb.2 t M).1 yk|λs0 n e H7 kp7 tb he ME=>%[rb|?_]];let k37:aB g H7:=λb o e=>kp7 b o (k6 _ _ e)<|aQ e hm;calc q m e s0 n H7 (sm.À k37) (tb.afY λx=>Ml (λy=>pm.æ) x) ?_ ME;cases z:H e with| none=>rfl| some o=>rw[k6 _ _ (sm _ _ z)]at he;cases he
structure Er (CB:ĸ)(H:Hp)(p d l:ĸ)(ws us:AA):Prop where
 bk:dZ CB H p d ws
 ls:H l=į (.Æ<|Ts us)
 nd:us.Ö
 mm:∀x,x∈us↔x∈ws
def Er.len (B:Er CB H p d l ws us):us.v=ws.v:=((xa B.nd B.bk.nd).Ù λx=>B.mm x).Ę
def Er.mv (B:Er CB H p d l ws us)(s:aB H H'):Er CB H' p d l ws us:=%[B.bk.same s,s _ _ B.ls,B.nd|B.mm]
def Er.wd (B:Er CB H p d l ws us):∀x∈us,fu x:=λx hx=>B.bk.az x ((B.mm x).mp hx)
def abI (h:∀x∈ws,fu x):∀t∈mj ws,∀c∈t,c<128:=λt d=>((qw h).2 t d).2
def Es (c:ı):ō:=Ļ (97<=c)&&Ļ (c<=122)
def Iw (c:ı):ō:=Ļ (65<=c)&&Ļ (c<=90)
def Iz (l:İ ı):ō:=match l with|[c]=>Es c||Iw c|_=>false
def VN (a b:ı):([a]<[b])↔a<b:=by simp[fb]
def TX (a b:ı):(!Ļ ([a]<[b]))=Ļ (b<=a):=by
 by_cases h:a<b;.rw[aS ((VN a b).Ù h),aw (ii Nat.not_le h)];rfl
 .rw[aw (λz=>h<|(VN a b).mp z),aS (iF h)];rfl
def aeY (K:W.Ì)(H:Hp)(x:V):Prop:=∃t,n6 K H x t/\W.kitOne K t (.Ä "str")=į Ķ
def adQ (K:W.Ì):Sp:=λvs H Q _=>(∃x,vs=[x]/\aeY K H x/\Q (.bl Ķ) H)\/(∃l,vs=[.X (S l)]/\l.v<=1000/\Q (.bl<|Iz l) H)
def TY (G:GG K mg):DF P w K mg base uD 1 (adQ K):=by
 refine G.X'.cH Tp (λf bA A outer s H vs Q E hr h=>?_) λvs H Q E h=>?_
 .refine%[0,_,aC (cC (QW.qt (wu (fK<|dJ<|aX jd ym G.n' f8<|ak aG<|ak (o8 (v:=.ty "str") ym G.K' PyProof.ô.boot_str rb) aA)
    <|rT<|bW JB (aX cI ym G.b' bP<|ak aG aA) aF<|bQ _)) (aD<|aW gG) bN)
   (aD (aW (Rm (nF vI vI (bU [97] yo) aG<|bU [122] yo)
   <|mG<|nF vI vI (bU [65] yo) aG<|bU [90] yo)))|?_]
  rcases h with⟨x,rfl,⟨t,ty,hk⟩,q⟩|⟨l,rfl,D,q⟩;.show%[22,_,_,_,Ķ,rb,ty,hk|cu<|cu q]
  .let hz:l.v<=Ľ:=ay<|aH D;calc%[22,_,_,_,ĳ,rb,.X _,yn|bZ %[7,l,rb,hz,rb|aZ _ rb ?_]];by_cases h1:l.v=1
   .let(c,rfl):=List.length_eq_one_iff.mp h1;calc RM rb ?_;calc%[1,[97],[c],rb,rb|aZ (Ļ<|97<=c) (by rw[TX]) ?_];let q':Q (.bl<|Es c||Iw c) H:=q;let g:(Iw c=(Es c||Iw c))->J7 Yj Yj (tC<|.X<|S [65]) (cT 0) (tC<|.X<|S [90]) [į (.X<|S [c])] H Q:=λe=>by
     calc%[1,[65],[c],rb,rb|aZ (Ļ<|65<=c) (by rw[TX]) ?_];rw[<-e]at q';by_cases d:65<=c
     .rw[aS d];calc cu %[1,[c],[90],rb,rb|?_];rw[TX];simpa [Iw,d] using q'
     .rw[aw d];calc bZ ?_;simpa [Iw,d] using q'
    by_cases d:97<=c
    .rw[aS d];calc cu %[1,[c],[122],rb,rb|aZ _ rb ?_];rw[TX];by_cases B:c<=122
     .rw[aS B];calc cu ?_;simpa [Es,d,B] using q'
     .rw[aw B];show bZ<|g (by simp[Es,d,B])
    .rw[aw d];show bZ<|g (by simp[Es,d])
   .let e:(!Ļ (V.M (l.v:Ŀ)=V.M 1))=ĳ:=by
     rw[aw];rfl;intro z;injection z with z;lia
    rw[e];let F:Iz l=Ķ:=by
     match l,h1 with| [],_=>rfl| [c],h=>show ŀ rb h| _::_::_,_=>rfl
    rw[F]at q;show cu q
 .rcases h with⟨x,rfl,_⟩|⟨x,rfl,_⟩ <;> rfl
def tV (c:ı):Prop:=Iz [c]=ĳ
def tV.lt (h:tV c):c<128:=by unfold tV Iz Es Iw at h;simp at h;lia
def Ms (h:isLet c):tV c:=by simp[tV,Iz,Es,h.1,h.2]
def W6 (h:isLet c):tV (c-32):=by let h1:=h.1;let d:=h.2;simp[tV,Iz,Es,Iw];lia
abbrev ones (cs:İ ı):İ (İ ı):=cs.L λc=>[c]
structure Blk (r w:ı)(ls:AA):Prop where
 len:ls.v=r
 iG:∀l∈ls,l.v=w
def uL (c:ı):Prop:=c=46\/tV c
def mkC (c:ı):Prop:=c∈MK
structure Et (r w:ı)(aj aN:AA)(i j:ı):Prop where
 r1:1<=r
 r9:r<=9
 w1:1<=w
 w9:w<=9
 br:Blk r w aj
 bm:Blk r w aN
 cr:∀l∈aj,∀c∈l,uL c
 cm:∀l∈aN,∀c∈l,mkC c
 bi:i<r
 bj:j<w
def zF (cs)(c):ones cs++[[c]]=ones (cs++[c]):=by simp[ones]
def cell (R:AA)(i j:ı):ı:=(R.Î i []).Î j 0
def cell_eq {R:AA}(hi:i<R.v)(d:j<R[i].v):cell R i j=R[i][j]:=by unfold cell;rw[ah (l:=R),ae hi];show (R[i]).Î j 0=_;rw[ah,ae d];rfl
def abJ:Sp:=λvs H Q _=>∃i:Int,vs=[.M i]/\Q (.bl ĳ) H
def Bk (G:GG K mg):DF P w K mg base rE 1 abJ:=by calc G.W'.cH Oe ?_;intro f bA A outer s H vs Q E hr h;let(i,rfl,q):=h;calc%[0,_,(aD<|aW<|pZ (aX jd ym G.n' f8<|ak aG<|ak (o8 (v:=.ty "int") ym G.J' PyProof.ô.boot_int rb) aA)<|mG<|acp<|aX jd ym G.n' f8<|ak aG<|ak (o8 (v:=.ty "bool") ym G.Q' PyProof.ô.boot_bool rb) aA)|?_];show%[22,_,_,_,ĳ,rb,.M _,yn|cu %[22,_,_,_,Ķ,rb,.M _,yn|q]]
def oR {ls:AA}{i:ı}{l:İ ı}(h:ls[i]?=į l):(Ts ls)[i]?=į (.X<|S l):=by simp[Ts,h]
def Am (n):((List.É n ĳ).ĝ id)=ĳ:=by simp
def xR (n):(List.É n ĳ).L V.bl++[V.bl ĳ]=(List.É (n+1) ĳ).L V.bl:=by rw[List.replicate_succ',b4];rfl
def abK:Sp:=λvs H Q _=>∃(p:Addr) (ls:AA) (r w:Nat),vs=[.H p]/\H p=į (.Ç<|Ts ls)/\Blk r w ls/\1<=r/\r<=9/\1<=w/\w<=9/\∀H',aB H H'->Q (.bl ĳ) H'
def Bl (G:GG K mg):DF P w K mg base rF 1 abK:=by
 calc G.ab'.cH pW ?_;intro f bA A outer s H vs Q E hr h;let(p,ls,r,w,rfl,hp,J,r1,r9,w1,w9,q):=h;let Z:(Ts ls).v=r:=by rw[ab,J.len]
 let h0:0<ls.v:=by rw[J.len];show r1
 calc%[0,_,(aC (cC (QW.qt<|wu (fK<|dJ<|aX jd ym G.n' f8<|ak aG<|ak (o8 (v:=.ty "tuple") ym G.g' cz rb) aA)<|rT<|fK<|wC mW mW aF (aX bY ym G.b' bP<|ak aG aA)<|R6 ym G.N') (aD<|aW gG) bN)<|aC (cC (fK<|dJ<|aX (nH rb) ym G.o' nQ<|ak (gk rb (fY.of pW.nd yn) (gD aG) (λ_ _ _ _ _=>dD) λ_ _ _ _ _=>(aX (Kv K) ym G.n' f8<|ak aG<|ak (o8 (v:=.ty "str") ym G.K' PyProof.ô.boot_str rb) aA)) aA) (aD<|aW gG) bN)<|aC (aO (i:=1) pW.nd rb (Or.Ò rb)<|aX cI ym G.b' bP<|ak (bK dN aG aF λ_ _=>rfl) aA)<|aD<|aW<|pZ (nF mW mW aF aU<|R6 ym G.N')<|mG<|aX (nH rb) ym G.o' nQ<|ak (gk rb (fY.of pW.nd yn) (gD aG) (λ_ _ _ _ _=>dD) λ_ _ _ _ _=>(fZ jk (aX cI ym G.b' bP<|ak aG aA) bw<|bQ _)) aA)|?_];calc%[22,_,_,_,ĳ,rb,.Ç hp,yn|aZ _ rb<|bZ ?_];calc%[24,p,_,rb,.Ò<|bf.of hp,_,_,rb,rb|aZ ĳ (by rw[Z];simp;show ii sx r1)<|cu %[1,_,_,rb,rb|aZ ĳ (by rw[Z];simp;show ii sx r9)<|bZ ?_]];refine%[2,p,rb,%[_|bf.of hp]|λL N=>wN (xs:=Ts ls) (λi ys H2=>ys=(List.É i ĳ).L V.bl/\H2 L=į (.Æ ys)/\aB H H2) %[rb,au|aB.ì N] (λi ys H2 _ h=>bf.of<|h.2.2 _ _ hp) ?_ ?_]
 .intro i x ys H2 hi z;let(rfl,g,sm):=z;let(l,O,rfl):=k_ hi;let D:i<(Ts ls).v:=(al.mp hi).1;refine%[16,_,_,_,ĳ,rb,.X _,yn,g,by rw[ab,ee];show aH yf|d8.mk D %[xR i,au|sm.bB N]]
 .intro ys H2 z;let(rfl,g,sm):=z;calc%[1,L,_,rb,aP.of g|?_];rw[Am];calc(aZ _ rb<|bZ ?_);let d:ls[0].v=w:=J.iG _<|be _;let hz:ls[0].v<=Ľ:=ay<|aH yf;calc%[17,p,_,_,.X<|S ls[0]|%[34,rb,rb,bf.of<|sm _ _ hp,bh (j:=0)<|oR (by simp[h0]),_,rb,hz|?_]];calc%[1,_,_,rb,rb|aZ ĳ (by rw[d];simp;lia)<|cu %[1,_,_,rb,rb|aZ ĳ (by rw[d];simp;lia)<|cu ?_]];refine%[2,p,rb,%[_|bf.of<|sm _ _ hp]|λL2 Y=>wN (xs:=Ts ls) (λi ys F=>ys=(List.É i ĳ).L V.bl/\F L2=į (.Æ ys)/\aB H F) %[rb,au|sm.bB<|sm.Ó Y] (λi ys H2 _ h=>bf.of<|h.2.2 _ _ hp) ?_ ?_]
  .intro i x ys F hi z;let(rfl,M,B):=z;let(l,O,rfl):=k_ hi;let D:i<(Ts ls).v:=(al.mp hi).1;let QL:l.v=w:=J.iG _<|ax O;calc%[36,_,rb,ay<|aH yf,rb,M,by rw[ab,ee];show aH yf|d8.mk D %[?_,au|B.bB<|sm.Ó Y]];rw[QL,d,aS rfl];show xR i
  .intro ys F z;let(rfl,M,B):=z;calc%[1,L2,_,rb,aP.of M|?_];rw[Am];show q F B
def sZ {r w:ı}{ls:AA}(h:Blk r w ls):ls.Ë.v=r*w:=by
 rw[List.length_flatten];have:ls.L List.v=List.É r w:=by rw[<-h.len,List.eq_replicate_iff];show%[yi|λb g=>by let(l,d,rfl):=a5.mp g;show h.iG l d]
 rw[this,List.sum_replicate_nat]
def adR:Sp:=λvs H Q _=>∃(p:Addr) (ls:AA) (r w:Nat),vs=[.H p]/\H p=į (.Ç<|Ts ls)/\Blk r w ls/\1<=r/\r<=9/\1<=w/\w<=9/\(∀l∈ls,∀c∈l,uL c)/\∀H',aB H H'->Q (.bl ĳ) H'
def Om (G:GG K mg):DF P w K mg base rG 2 adR:=by
 calc G.ac'.cH Bg ?_;intro f bA A outer s H vs Q E hr h;let(p,ls,r,w,rfl,hp,J,r1,r9,w1,w9,O,q):=h;let Z:r*w<=81:=i4 r9 w9;let N:=sZ J;calc%[0,_,(aD<|aW<|pZ (aY (Bl G) hr.Ø rb<|ak aG aA)<|mG<|aX (nH rb) ym G.o' nQ<|ak (gk rb (fY.of Bg.nd yn) (yR<|dO cw fE fF BJ (bU [] yo)<|ak aG aA) (λ_ _ _ _ _=>dD) λ_ _ _ _ _=>(Rm (fZ sH aG (lH ym G.k')<|bQ _)<|mG<|aY (TY G) hr.Ø rb<|ak aG aA)) aA)|?_];calc%[47,p,ls,r,w,rb,hp,J,r1,r9,w1,w9|λH1 s1=>(aZ ĳ rb<|cu ?_)];calc%[14,rb,p,ls,rb,rb|%[20,bf.of<|s1 _ _ hp,yf,_,rb|λL F=>?_]];refine wL (λi ys H2=>ys=(List.É i ĳ).L V.bl/\H2 L=į (.Æ ys)/\aB H H2) %[rb,au|s1.bB<|s1.Ó F] ?_ ?_
 .intro i c ys H2 hi z;let(rfl,d,sm):=z;let B:i<ls.Ë.v:=(al.mp hi).1;let(l,Y,D):=rc.mp (ax hi);let g:H2 L=į (.Æ<|(List.É i ĳ).L V.bl)/\((List.É i ĳ).L V.bl).v<Ľ/\d8 ls.Ë.v i ((List.É i ĳ).L V.bl++[V.bl ĳ]=(List.É (i+1) ĳ).L V.bl/\upd H2 L (.Æ<|(List.É i ĳ).L V.bl++[V.bl ĳ]) L=į (.Æ<|(List.É i ĳ).L V.bl++[V.bl ĳ])/\aB H (upd H2 L<|.Æ<|(List.É i ĳ).L V.bl++[V.bl ĳ])):=
   %[d,by rw[ab,ee];show aH yf|d8.mk B %[xR i,au|sm.bB<|s1.Ó F]]
  calc%[1,[c],[46],rb,rb|aZ _ rb ?_];rcases O l Y c D with e|e
  .subst e;rw[aS rfl];show cu g
  .by_cases M:[c]=[46]
   .rw[aS M];show cu g
   .rw[aw M];calc bZ<|.Ò %[2,[c],rb,by show 1<=1000;decide|?_];rw[show Iz [c]=ĳ from e];show g
 .intro ys H2 z;let(rfl,d,sm):=z;calc%[1,L,_,rb,aP.of d|?_];rw[Am];show q H2 sm
def abL:Sp:=λvs H Q _=>∃(p:Addr) (ls:AA) (r w:Nat),vs=[.H p]/\H p=į (.Ç<|Ts ls)/\Blk r w ls/\1<=r/\r<=9/\1<=w/\w<=9/\(∀l∈ls,∀c∈l,mkC c)/\∀H',aB H H'->Q (.bl ĳ) H'
def Mt (G:GG K mg):DF P w K mg base pX 2 abL:=by
 calc G.ad'.cH zu ?_;intro f bA A outer s H vs Q E hr h;let(p,ls,r,w,rfl,hp,F,r1,r9,w1,w9,M,q):=h;let O:r*w<=81:=i4 r9 w9;let J:=sZ F;calc%[0,_,(aD<|aW<|pZ (aY (Bl G) hr.Ø rb<|ak aG aA)<|mG<|aX (nH rb) ym G.o' nQ<|ak (gk rb (fY.of zu.nd yn) (yR<|dO cw fE fF BJ (bU [] yo)<|ak aG aA) (λ_ _ _ _ _=>dD) λ_ _ _ _ _=>(fZ Kl aG (lH ym G.U') rb)) aA)|?_];calc%[47,p,ls,r,w,rb,hp,F,r1,r9,w1,w9|λH1 s1=>(aZ ĳ rb<|cu ?_)];calc%[14,rb,p,ls,rb,rb|%[20,bf.of<|s1 _ _ hp,yf,_,rb|λL D=>?_]];refine wL (λi ys H2=>ys=(List.É i ĳ).L V.bl/\H2 L=į (.Æ ys)/\aB H H2) %[rb,au|s1.bB<|s1.Ó D] ?_ ?_
 .intro i c ys H2 hi z;let(rfl,d,sm):=z;let g:i<ls.Ë.v:=(al.mp hi).1;let(l,N,B):=rc.mp (ax hi);calc%[6,c,MK,rb,rb,d,by rw[ab,ee];show aH yf|d8.mk g %[?_,au|sm.bB<|s1.Ó D]];rw[aS (show c∈MK from M l N c B)];show xR i
 .intro ys H2 z;let(rfl,d,sm):=z;calc%[1,L,_,rb,aP.of d|?_];rw[Am];show q H2 sm
def Zu (K:W.Ì):Sp:=λvs H Q _=>∃(p:Addr) (ls:AA) (r w:Nat) (i j:Int),vs=[.H p,.M i,.M j]/\bf K H p (Ts ls)/\Blk r w ls/\1<=r/\r<=9/\w<=9/\Q (.bl<|Ļ<|0<=i/\i<r/\0<=j/\j<w) H
def yp (G:GG K mg):DF P w K mg base oh 2 (Zu K):=by
 calc G.ae'.cH Jr ?_;intro f bA A outer s H vs Q E hr h;let(p,ls,r,w,i,j,rfl,hp,D,r1,r9,w9,q):=h;let Z:(Ts ls).v=r:=by rw[ab,D.len]
 let F:0<ls.v:=by rw[D.len];lia
 let B:ls[0].v=w:=D.iG _<|be _;calc%[0,_,(aC (cC (QW.qt<|wu (fK<|dJ<|aY (Bk G) hr.Ø rb<|ak aU aA)<|rT<|fK<|dJ<|aY (Bk G) hr.Ø rb<|ak bw aA) (aD<|aW gG) bN)<|aD<|aW<|pZ (nF mW wB aF aU<|aX bY ym G.b' bP<|ak aG aA)<|mG<|nF mW wB aF bw<|aX cI ym G.b' bP<|ak (bK dN aG aF λ_ _=>rfl) aA)|?_];calc%[0,i,rb|bZ %[0,j,rb|aZ _ rb<|bZ ?_]];calc%[1,_,_,rb,rb|aZ _ rb ?_];by_cases h1:0<=i
 .rw[aS h1];calc cu %[24,p,_,rb,.Ò hp,_,_,rb,rb|aZ _ rb ?_];rw[Z];by_cases d:i<(r:Ŀ)
  .rw[aS d];calc cu %[1,_,_,rb,rb|aZ _ rb ?_];by_cases g:0<=j
   .rw[aS g];calc cu %[5,p,_,_,.X<|S ls[0],rb,rb,hp,bh (j:=0)<|oR (by simp[F])|%[33,_,rb,ay<|aH yf,_,_,rb,rb|?_]];rw[B];simpa [h1,d,g] using q
   .rw[aw g];calc bZ ?_;simpa [h1,d,g] using q
  .rw[aw d];calc bZ ?_;simpa [h1,d] using q
 .rw[aw h1];calc bZ<|aZ _ rb<|bZ ?_;simpa [h1] using q
def abM (K:W.Ì):Sp:=λvs H Q _=>∃(p b:Addr) (ls:AA) (r w:Nat) (i j:Nat),vs=[.H p,.H b]/\H p=į (.Ç<|Ts ls)/\H b=į (.Ç [.M i,.M j])/\Blk r w ls/\1<=r/\r<=9/\w<=9/\i<r/\j<w/\Q (.bl ĳ) H
def Gv (G:GG K mg):DF P w K mg base mZ 3 (abM K):=by calc G.af'.cH Ge ?_;intro f bA A outer s H vs Q E hr h;let(p,b,ls,r,w,i,j,rfl,hp,d,B,r1,r9,w9,hi,g,q):=h;calc%[0,_,(aD<|aW<|pZ (aX jd ym G.n' f8<|ak aU<|ak (o8 (v:=.ty "tuple") ym G.g' cz rb) aA)<|pZ (fZ jk (aX bY ym G.b' bP<|ak aU aA) aF<|bQ _)<|mG<|aY (yp G) hr.Ø rb<|ak aG<|ak (bK dN aU aF λ_ _=>rfl)<|ak (bK dN aU aF λ_ _=>rfl) aA)|?_];calc%[22,_,_,_,ĳ,rb,.Ç d,yn|aZ ĳ rb<|cu ?_];calc%[4,b,_,rb,.Ò<|bf.of d,rb|aZ ĳ rb<|cu ?_];calc%[5,b,_,_,.M i,rb,rb,bf.of d,bh (j:=0) rb|%[5,b,_,_,.M j,rb,rb,bf.of d,bh (j:=1) rb|?_]];calc%[48,p,ls,r,w,i,j,rb,bf.of hp,B,r1,r9,w9|?_];rw[aS %[eJ _,ii fv hi,yf|yf]];show q
def abN:Sp:=λvs H Q _=>∃(pr pm pb:Addr) (r w:Nat) (aj aN:AA) (i j:Nat),vs=[.H pr,.H pm,.H pb]/\H pr=į (.Ç<|Ts aj)/\H pm=į (.Ç<|Ts aN)/\H pb=į (.Ç [.M i,.M j])/\Et r w aj aN i j/\∀H',aB H H'->Q (.bl ĳ) H'
def Oo (G:GG K mg):DF P w K mg base rH 4 abN:=by
 calc G.ag'.cH Og ?_;intro f bA A outer s H vs Q E hr h;let(pr,pm,pb,r,w,aj,aN,i,j,rfl,g,hm,N,B,q):=h;let O:(Ts aj).v=r:=by rw[ab,B.br.len]
 let J:(Ts aN).v=r:=by rw[ab,B.bm.len]
 let L:0<aj.v:=by rw[B.br.len];show B.r1
 let F:0<aN.v:=by rw[B.bm.len];show B.r1
 let M:aj[0].v=w:=B.br.iG _<|be _;let D:aN[0].v=w:=B.bm.iG _<|be _;let w9:=B.w9;calc%[0,_,(aC (cC (QW.qt<|wu (fK<|dJ<|aY (Om G) hr.Ø rb<|ak aG aA)<|rT<|fK<|dJ<|aY (Mt G) hr.Ø rb<|ak aU aA) (aD<|aW gG) bN)<|aC (cC (QW.qt<|wu (bW JB (aX bY ym G.b' bP<|ak aU aA) (aX bY ym G.b' bP<|ak aG aA)<|bQ _)<|rT<|bW JB (aX cI ym G.b' bP<|ak (bK dN aU aF λ_ _=>rfl) aA) (aX cI ym G.b' bP<|ak (bK dN aG aF λ_ _=>rfl) aA)<|bQ _) (aD<|aW gG) bN)<|aD<|aW<|aY (Gv G) hr.Ø rb<|ak aG<|ak bw aA)|?_];calc%[66,pr,aj,r,w,rb,g,B.br,B.r1,B.r9,B.w1,B.w9,B.cr|λH1 s1=>(aZ _ rb<|bZ ?_)];calc%[66,pm,aN,r,w,rb,s1 _ _ hm,B.bm,B.r1,B.r9,B.w1,B.w9,B.cm|λH2 s2=>(aZ _ rb<|bZ ?_)];let d:=s1.À s2;calc%[42,pm,_,rb,.Ò<|bf.of<|d _ _ hm,pr,_,rb,.Ò<|bf.of<|d _ _ g,rb|aZ _ rb ?_];calc RM (by rw[O,J]) ?_;calc%[17,pm,_,_,.X<|S aN[0]|%[34,rb,rb,bf.of<|d _ _ hm,bh (j:=0)<|oR (by simp[F]),_,rb,ay<|aH yf|%[5,pr,_,_,.X<|S aj[0],rb,rb,bf.of<|d _ _ g,bh (j:=0)<|oR (by simp[L])|%[7,_,rb,ay<|aH yf,rb|aZ _ rb ?_]]]];calc RM (by rw[M,D]) ?_;calc%[10,pr,pb|%[49,aj,r,w,i,j,rb,d _ _ g,d _ _ N,B.br,B.r1,B.r9,B.w9,B.bi,B.bj|?_]];show q H2 d
structure cY (C:ĸ)(H:Hp)(p:ĸ)(r w:ı)(aj aN:AA)(i j:ı):Prop where
 ex:∃dx pr pm pb,H p=į (.Ē C dx [("rows",.H pr),("marks",.H pm),("begin",.H pb)])/\H pr=į (.Ç<|Ts aj)/\H pm=į (.Ç<|Ts aN)/\H pb=į (.Ç [.M i,.M j])
 ok:Et r w aj aN i j
def cY.mv {r w:ı}{aj aN:AA}{i j:ı}(B:cY C H p r w aj aN i j)(s:aB H H'):cY C H' p r w aj aN i j:=by let((dx,pr,pm,pb,a,b,c,d),o):=B;show%[%[22,dx,pr,pm,pb,s _ _ a,s _ _ b,s _ _ c|s _ _ d]|o]
def abO (C:ĸ):Sp:=λvs H Q _=>∃(p dx pr pm pb:Addr) (r w:Nat) (aj aN:AA) (i j:Nat),vs=[.H p,.H pr,.H pm,.H pb]/\H p=į (.Ē C dx [])/\H pr=į (.Ç<|Ts aj)/\H pm=į (.Ç<|Ts aN)/\H pb=į (.Ç [.M i,.M j])/\Et r w aj aN i j/\
 ∀H',(∀b o,H b=į o->b≠p->H' b=į o)->H' p=į (.Ē C dx [("rows",.H pr),("marks",.H pm),("begin",.H pb)])->Q .đ H'
def qJ (G:GG K mg):MF P w K mg base G.l' 5 (abO G.c'):=by
 calc G.l'.F.cH Js ?_;intro bA A outer s H vs Q E hr h;let(p,dx,pr,pm,pb,r,w,aj,aN,i,j,rfl,hp,g,hm,D,B,q):=h;calc%[0,_,(aC (cC (fK<|dJ<|aY (Oo G) hr.Ø rb<|ak aU<|ak bw<|ak bO aA) uf bN)<|aC (rY aG aU rb)<|aC (rY aG bw rb)<|aD<|rY aG bO rb)|?_];calc%[10,pr,pm|%[53,pb,r,w,aj,aN,i,j,rb,g,hm,D,B|λH1 s1=>(aZ _ rb<|bZ ?_)]];calc%[16,p,G.c',dx,_,rb,s1 _ _ hp,G.a'.cl,G.a'.nr,by show 0<1000;decide|?_];calc%[16,p,G.c',dx,_,rb,au,G.a'.cl,G.a'.nm,by show 1<1000;decide|?_];calc%[16,p,G.c',dx,_,rb,au,G.a'.cl,G.a'.nb,by show 2<1000;decide|?_];calc q _ (λb o e d=>?_) ?_;.rw[aM d,aM d,aM d];show s1 _ _ e
 .show au
def atC (aj:AA)(r w:ı)(i j:Ŀ):ı:=if 0<=i/\i<r/\0<=j/\j<w then (aj.Î i.Õ []).Î j.Õ 0 else 46
def af0 (C:ĸ):Sp:=λvs H Q _=>∃(p:Addr) (r w:Nat) (aj aN:AA) (bi bj:Nat) (i j:Int),vs=[.H p,.M i,.M j]/\cY C H p r w aj aN bi bj/\Q (.X<|S [atC aj r w i j]) H
def JQ (G:GG K mg):MF P w K mg base G.j' 3 (af0 G.c'):=by
 calc G.j'.F.cH Oh ?_;intro bA A outer s H vs Q E hr h;let(p,r,w,aj,aN,bi,bj,i,j,rfl,B,q):=h;let((dx,pr,pm,pb,hp,d,hm,F),O):=B;let w9:=O.w9;calc%[0,_,(aD<|aW<|rU (dJ<|aY (yp G) hr.Ø rb<|ak (dw aG rb)<|ak aU<|ak bw aA) (bK uV (bK dN (dw aG rb) aU λ_ _=>rfl) bw λ_ _=>rfl)<|lH ym G.k')|?_];calc%[12,p,G.c',dx,_,_,rb,hp,G.a'.cl,G.a'.nr,rb|%[48,pr,aj,r,w,i,j,rb,bf.of d,O.br,O.r1,O.r9,O.w9|aZ _ rb ?_]];by_cases h:0<=i/\i<r/\0<=j/\j<w
 .rw[aS h];let e:atC aj r w i j=(aj.Î i.Õ []).Î j.Õ 0:=Ĺ h;rw[e]at q;obtain⟨i,rfl⟩:∃k:Nat,i=k:=%[i.Õ|yf]
  obtain⟨j,rfl⟩:∃k:Nat,j=k:=%[j.Õ|yf]
  rw[cq,cq]at q;let hi:i<aj.v:=by rw[O.br.len];simp_all
  let g:aj[i]?=į (aj.Î i []):=by rw[ah,ae hi];rfl
  let hw:(aj.Î i []).v=w:=O.br.iG _<|ax g;let D:(aj.Î i [])[j]?=į ((aj.Î i []).Î j 0):=by rw[ah (l:=aj.Î i []),ae (by simp_all)];rfl
  refine cu %[12,p,G.c',dx,_,_,rb,hp,G.a'.cl,G.a'.nr,rb|%[22,pr,_,_,_,rb,rb,bf.of d|%[29,bh<|oR g,_,_,_,rb,rb,ay<|aH yf,bh D|q]]]
 .rw[aw h];let e:atC aj r w i j=46:=ķ h;rw[e]at q;show bZ q
def isFree (aj:AA):ō:=aj.Ë.ĝ λc=>Ļ ([c]=[46])
def adS (C:ĸ):Sp:=λvs H Q _=>∃(p:Addr) (r w:Nat) (aj aN:AA) (bi bj:Nat),vs=[.H p]/\cY C H p r w aj aN bi bj/\∀H',aB H H'->Q (.bl<|isFree aj) H'
def T4 (G:GG K mg):MF P w K mg base G.t' 1 (adS G.c'):=by
 calc G.t'.F.cH tL ?_;intro bA A outer s H vs Q E hr h;let(p,r,w,aj,aN,bi,bj,rfl,B,q):=h;let((dx,pr,pm,pb,hp,D,hm,N),O):=B;let M:r*w<=81:=i4 O.r9 O.w9;let J:=sZ O.br;calc%[0,_,(aD<|aW<|aX (nH rb) ym G.o' nQ<|ak (gk rb (fY.of tL.nd yn) (yR<|dO cw fE fF BJ (bU [] yo)<|ak (dw aG rb) aA) (λ_ _ _ _ _=>dD) λ_ _ _ _ _=>(fZ sH aG (lH ym G.k')<|bQ _)) aA)|?_];calc%[rb|%[39,p,G.c',dx,_,_,rb,hp,G.a'.cl,G.a'.nr,rb,pr,aj,rb,rb|%[20,bf.of D,yf,_,rb|λL F=>?_]]];refine wL (λi ys H2=>ys=((aj.Ë.È i).L λc=>Ļ<|[c]=[46]).L V.bl/\H2 L=į (.Æ ys)/\aB H H2) %[rb,au|aB.ì F] ?_ ?_
 .intro i c ys H2 hi z;let(rfl,d,sm):=z;let g:i<aj.Ë.v:=(al.mp hi).1;calc%[6,[c],[46],rb,rb,d,?_|d8.mk g %[?_,au|sm.bB F]];.rw[ab,ab,ba];show aH (by grind)
  .rw[b6,hi];simp
 .intro ys H2 z;let(rfl,d,sm):=z;rw[c6]at d;calc%[1,L,_,rb,aP.of d|?_];let e:((aj.Ë.L λc=>Ļ<|[c]=[46]).ĝ id)=isFree aj:=by
   unfold isFree;rw[List.all_map];rfl
  rw[e];show q H2 sm
def dX (aj:AA)(j:ı):İ ı:=aj.L λl=>l.Î j 0
def lineOf (aj:AA)(i j:ı)(way:Ŀ):İ ı:=if way=0 then aj.Î i [] else dX aj j
def placeOf (i j:ı)(way:Ŀ):ı:=if way=0 then j else i
def aeZ:Sp:=λvs H Q _=>∃(p:Addr) (aj:AA) (r w j:Nat),vs=[.H p,.M j]/\H p=į (.Ç<|Ts aj)/\Blk r w aj/\r<=9/\w<=9/\j<w/\∀H',aB H H'->Q (.X<|S<|dX aj j) H'
def vW (G:GG K mg):DF P w K mg base m7 1 aeZ:=by
 calc G.ah'.cH vR ?_;intro f bA A outer s H vs Q E hr h;let(p,aj,r,w,j,rfl,hp,g,r9,w9,J,q):=h;calc%[0,_,(aD<|aW<|dO cw fE fF rN (bU [] yo)<|ak (gk rb (fY.of vR.nd yn) (gD aG) (λ_ _ _ _ _=>dD) λ_ _ _ _ _=>(bK uV aG bw λ_ _=>rfl)) aA)|?_];let Z:(Ts aj).v=r:=by rw[ab,g.len]
 refine%[25,rb,p,rb,%[_|bf.of hp]|λL D=>wN (xs:=Ts aj) (λi ys H2=>ys=Ts (ones<|(aj.È i).L λl=>l.Î j 0)/\H2 L=į (.Æ ys)/\aB H H2) %[rb,au|aB.ì D] (λi ys H2 _ h=>bf.of<|h.2.2 _ _ hp) ?_ ?_]
 .intro i x ys H2 hi z;let(rfl,d,sm):=z;let(l,F,rfl):=k_ hi;let B:i<(Ts aj).v:=(al.mp hi).1;let M:l.v=w:=g.iG _<|ax F;calc%[46,l,_,l.Î j 0,rb,rb,ay<|aH yf,?_,d,?_|d8.mk B %[?_,au|sm.bB D]];.show bh (by rw[ah,ae (by simp_all)];rfl)
  .rw[ab,ab,ab,ba];show aH (by grind)
  .rw[jX,zF,b6,F];simp
 .intro ys H2 z;let(rfl,d,sm):=z;rw[Z,<-g.len,c6]at d;calc%[6,L,_,rb,rb,aP.of d,?_|?_];.rw[nC,ab,g.len];lia
  .rw[nC];show q H2 sm
def oU {r w:ı}{aj:AA}(d:Blk r w aj){i j:ı}(hi:i<r){way:Ŀ}:(lineOf aj i j way).v=if way=0 then w else r:=by
 unfold lineOf;by_cases h:way=0
 .rw[Ĺ h,Ĺ h,ah,ae (by rw[d.len];show hi)];show d.iG _<|be _
 .rw[ķ h,ķ h];unfold dX;rw[ab,d.len]
def uM (l):(cj l).v<=l.v:=by unfold cj;rw[gm];show ap (qo _).length_le (by rw[gm];show ai _)
def uN (l):(cA l).v<=l.v:=(qo _).length_le
def Mu (i j:ı)(way:Ŀ)(l:İ ı):İ V:=if way=0 then [.M i,.M ((j:Ŀ)-(cj<|l.È j).v),.X (S<|cj (l.È j)++cA (l.Í j))] else [.M ((i:Ŀ)-(cj<|l.È i).v),.M j,.X (S<|cj (l.È i)++cA (l.Í i))]
def ae0 (C:ĸ):Sp:=λvs H Q _=>∃(p:Addr) (r w:Nat) (aj aN:AA) (bi bj i j:Nat) (way:Int),vs=[.H p,.M i,.M j,.M way]/\cY C H p r w aj aN bi bj/\i<r/\j<w/\(way=0\/way=1)/\
 ∀(t:ĸ) (H':Hp),aB H H'->H t=Ĵ->H' t=į (.Ç<|Mu i j way<|lineOf aj i j way)->Q (.H t) H'
def adT (G:GG K mg):MF P w K mg base G.u' 2 (ae0 G.c'):=by
 calc G.u'.F.cH jz ?_;intro bA A outer s H vs Q E hr h;let(p,r,w,aj,aN,bi,bj,i,j,way,rfl,B,hi,hj,zf,q):=h;let((dx,pr,pm,pb,hp,L,hm,hb),O):=B;let r9:=O.r9;let w9:=O.w9;calc%[0,_,(aC (aO (i:=4) jz.nd rb (Or.Â rb)<|rU (bW jk bO aF<|bQ _) (bK dN (dw aG rb) aU λ_ _=>rfl)<|aY (vW G) hr.Ø rb<|ak (dw aG rb)<|ak bw aA)<|aC (aO (i:=5) jz.nd rb (Or.Â rb)<|rU (bW jk bO aF<|bQ _) bw aU)<|aC (aO (i:=6) jz.nd rb (Or.Â rb)<|bK dN (dO cw PySem.F.slot_str_rpartition PySem.F.type_str_rpartition Yo (f9 wK cD jU<|fQ cV)<|ak (lH ym G.k') aA) aF λ_ _=>rfl)<|aC (aO (i:=7) jz.nd rb (Or.Â rb)<|aR h_ fj<|bK dN (dO cw PySem.F.slot_str_partition PySem.F.type_str_partition aaT (f9 wK cD (fQ cV) jU)<|ak (lH ym G.k') aA) aF λ_ _=>rfl)<|aC (aO (i:=8) jz.nd rb (Or.Â rb)<|aR jq cV<|aX cI ym G.b' bP<|ak fj aA)<|aD<|aW<|rU (bW jk bO aF<|bQ _) (dz<|ak aU<|ak jl<|ak iJ aA)<|dz<|ak jl<|ak bw<|ak iJ aA)|?_];let g:aj[i]?=į (aj.Î i []):=by rw[ah,ae (by rw[O.br.len];show hi)];rfl
 rcases zf with rfl|rfl
 .let d:(lineOf aj i j 0).v=w:=oU O.br hi;let el:aj.Î i []=lineOf aj i j 0:=rfl;rw[el]at g;let hz:∀l:İ ı,l.v<=100->l.v<=Ľ:=λl h=>ay<|aH yf;calc%[rb|aZ _ rb<|cu ?_];calc%[12,p,G.c',dx,_,_,rb,hp,G.a'.cl,G.a'.nr,rb|%[5,pr,_,_,_,rb,rb,bf.of L,bh<|oR g|?_]];generalize hL:lineOf aj i j 0=l at d g ⊢;calc%[rb|aZ _ rb<|cu ?_];calc%[44,_,rb,l,rb,hz _ yf,rb|?_];rw[zA];calc%[7,_,rb,rb,by rw[ba];grind|λp1 J Z F=>?_];calc%[5,p1,_,_,_,rb,rb,bf.of au,bh (j:=2) rb|?_];let s1:aB H (upd H p1<|.Ç [.X J,.X Z,.X (S<|cj<|l.È j)]):=aB.ì F;generalize upd H p1 (.Ç [.X J,.X Z,.X (S<|cj<|l.È j)])=H1 at s1 ⊢;let t1:=uM<|l.È j;let t2:=uN<|l.Í j;rw[ba]at t1;rw[cp]at t2;calc%[44,_,rb,l,rb,hz _ yf,rb|?_];rw[kZ];calc%[7,_,rb,rb,by rw[cp];show ap (i9 _ _) yf|λp2 Y N D=>?_];calc%[28,p2,_,_,_,rb,rb,bf.of au,bh (j:=0) rb,_,_,rb,rb,ay<|aH (by grind)|?_];let s2:=s1.bB (o:=HO.Ç [.X (S<|cA<|l.Í j),.X Y,.X N])<|s1.Ó D;generalize upd H1 p2 (HO.Ç [.X (S<|cA<|l.Í j),.X Y,.X N])=H2 at s2 ⊢;calc%[33,_,rb,hz _ yf,_,_,rb,rb|?_];calc%[rb|aZ _ rb<|cu ?_];calc%[zsz 3|λt M=>?_];show q t _ (s2.bB<|s2.Ó M) (s2.Ó M) (by rw[au,hL];rfl)
 .let d:(lineOf aj i j 1).v=r:=oU O.br hi;let el:dX aj j=lineOf aj i j 1:=rfl;let hz:∀l:İ ı,l.v<=100->l.v<=Ľ:=λl h=>ay<|aH yf;calc%[rb|aZ _ rb<|bZ ?_];calc%[12,p,G.c',dx,_,_,rb,hp,G.a'.cl,G.a'.nr,rb|%[38,pr,aj,r,w,j,rb,L,O.br,r9,w9,hj|λH0 s0=>?_]];rw[el];generalize hL:lineOf aj i j 1=l at d ⊢;calc%[rb|aZ _ rb<|bZ ?_];calc%[44,_,rb,l,rb,hz _ yf,rb|?_];rw[zA];calc%[7,_,rb,rb,by rw[ba];lia|λp1 J Z F=>?_];calc%[5,p1,_,_,_,rb,rb,bf.of au,bh (j:=2) rb|?_];let s1:aB H (upd H0 p1<|.Ç [.X J,.X Z,.X (S<|cj<|l.È i)]):=s0.bB<|s0.Ó F;generalize upd H0 p1 (.Ç [.X J,.X Z,.X (S<|cj<|l.È i)])=H1 at s1 ⊢;let t1:=uM<|l.È i;let t2:=uN<|l.Í i;rw[ba]at t1;rw[cp]at t2;calc%[44,_,rb,l,rb,hz _ yf,rb|?_];rw[kZ];calc%[7,_,rb,rb,by rw[cp];lia|λp2 Y N D=>?_];calc%[28,p2,_,_,_,rb,rb,bf.of au,bh (j:=0) rb,_,_,rb,rb,ay<|aH yf|?_];let s2:=s1.bB (o:=HO.Ç [.X (S<|cA<|l.Í i),.X Y,.X N])<|s1.Ó D;generalize upd H1 p2 (HO.Ç [.X (S<|cA<|l.Í i),.X Y,.X N])=H2 at s2 ⊢;calc%[33,_,rb,hz _ yf,_,_,rb,rb|?_];calc%[rb|aZ _ rb<|bZ ?_];calc%[zsz 3|λt M=>?_];show q t _ (s2.bB<|s2.Ó M) (s2.Ó M) (by rw[au,hL];rfl)
abbrev bF:=ı×ı×ı
def rk (t:bF):ı:=t.1*1000+t.2.1
def sw (t:bF):bF:=(t.2.1,t.1,t.2.2)
def qR (t:bF):Prop:=t.1<9/\t.2.1<9/\t.2.2<128
def zG (H:Hp)(a:ĸ)(t:bF):Prop:=H a=į (.Ç [.M t.1,.M t.2.1,.X (S [t.2.2])])
def tO (H:Hp)(a:ĸ):bF:=match H a with| some (.Ç [.M x,.M y,.X z])=>(x.Õ,y.Õ,z.ñ.I.headD 0)| _=>(0,0,0)
def T5 (h:zG H a t):tO H a=t:=by unfold tO;rw[show H a=_ from h];rfl
structure dI (H:Hp)(as:İ ĸ)(ts:İ bF):Prop where
 at_:∀a∈as,zG H a (tO H a)
 eq:as.L (tO H)=ts
def dI.jh (k:∀a xs,H a=į (.Ç xs)->H' a=į (.Ç xs))(h:dI H as ts):dI H' as ts:=by let e:∀a∈as,tO H' a=tO H a:=λa ha=>T5<|k a _<|h.ą a ha;show%[λa ha=>by rw[e a ha];show k a _<|h.ą a ha|by rw[<-h.eq];show d6 e]
def dI.mv (k:aB H H')(h:dI H as ts):dI H' as ts:=h.jh λa xs e=>k a _ e
def d7 (d:H M=į (.Æ ys)):∀a xs,H a=į (.Ç xs)->upd H M (.Æ zs) a=į (.Ç xs):=λa xs e=>by
 let ne:a≠M:=λz=>by rw[z,d]at e;cases e
 rw[aM ne];show e
def dI.snoc (h:dI H as ts)(ha:zG H a t):dI H (as++[a]) (ts++[t]):=by
 calc%[λb d=>?_|by rw[b4,h.eq,ww,T5 ha]];rcases aT.mp d with z|z;.show h.ą b z
 .rw[am.mp z,T5 ha];show ha
def dI.nil:dI H [] []:=%[λa h=>by simp at h|rb]
def dI.len (h:dI H as ts):as.v=ts.v:=by rw[<-h.eq,ab]
def dI.get (h:dI H as ts)(hi:i<as.v):∃t,ts[i]?=į t/\zG H as[i] t:=%[0,tO H as[i],by rw[<-h.eq];simp[hi]|h.ą _<|be _]
def dI.perm {as as':İ ĸ}(h:dI H as ts)(p:as'.ò as):dI H as' (as'.L<|tO H)/\(as'.L<|tO H).ò ts:=%[%[λa ha=>h.ą a<|p.æ.mp ha|rb]|by rw[<-h.eq];show p.L _]
def bG (aj:AA)(w:ı):İ (İ ı):=(List.å w).L (dX aj)
def gO {r w:ı}{aj:AA}(h:Blk r w aj):Blk w r (bG aj w):=
 %[by unfold bG;rw[ab,cS]|λl d=>by let(j,_,rfl):=a5.mp d;unfold dX;rw[ab,h.len]]
def xT {r w:ı}{aj:AA}(h:Blk r w aj){q:ı->Prop}(hp:∀l∈aj,∀c∈l,q c):∀l∈bG aj w,∀c∈l,q c:=λl B c D=>by let(j,g,rfl):=a5.mp B;let g:=b3.mp g;let(l',d,rfl):=a5.mp D;let hw:=h.iG l' d;rw[ah,ae (by simp_all)];show hp l' d _<|be _
def IK {r w:ı}{aj:AA}(h:Blk r w aj):bG (bG aj w) r=aj:=by
 apply rg;.unfold bG;rw[ab,cS,h.len]
 .intro i h1 g;let hw:=h.iG aj[i]<|be _;rw[show (bG (bG aj w) r)[i]=dX (bG aj w) i by simp[bG]];unfold dX bG;rw[c8];apply rg;.rw[ab,cS,hw]
  .intro j q d;rw[xE,List.getElem_range];show (aj.L λl=>l.Î j 0).Î i 0=aj[i][j];rw[ah,ae (by rw[ab];show g),xE];show (aj[i]).Î j 0=_;rw[ah,ae d];rfl
def Mv {r w:ı}{aj aN:AA}{bi bj:ı}(B:Et r w aj aN bi bj):Et w r (bG aj w) (bG aN w) bj bi:=%[B.w1,B.w9,B.r1,B.r9,gO B.br,gO B.bm,xT B.br B.cr,xT B.bm B.cm,B.bj|B.bi]
def setAt (R:AA)(i j z:ı):İ (İ ı):=R.ĉ i ((R.Î i []).ĉ j z)
def bI (R:AA)(ts:İ bF):İ (İ ı):=ts.ć (λR t=>setAt R t.1 t.2.1 t.2.2) R
def Gw {r w:ı}{R:AA}(h:Blk r w R){i j z:ı}(hi:i<r):Blk r w (setAt R i j z):=by
 calc%[by unfold setAt;rw[oP,h.len]|λl d=>?_];rcases se d with y|y;.show h.iG l y
 .rw[y,oP,ah,ae (by rw[h.len];show hi)];show h.iG _<|be _
def abP {r w:ı}{R:AA}(h:Blk r w R){i j z:ı}(hi:i<r){d:ı->Prop}(hp:∀l∈R,∀c∈l,d c)(hz:d z):∀l∈setAt R i j z,∀c∈l,d c:=λl q c g=>by
 rcases se q with y|y;.show hp l y c g
 .rw[y]at g;rcases se g with u|u
  .rw[ah,ae (by rw[h.len];show hi)]at u;show hp _ (be _) c u
  .rw[u];show hz
def inB (r w:ı)(t:bF):Prop:=t.1<r/\t.2.1<w/\tV t.2.2
theorem jg {r w:ı}:∀{ts:İ bF} {R:AA},Blk r w R->(∀t∈ts,inB r w t)->Blk r w (bI R ts)
 | [],_,h,_=>h
 | t::ts,_,h,k=>jg (ts:=ts) (Gw h (k t a4).1) λx hx=>k x (av _ hx)
theorem Cv {r w:ı}:∀{ts:İ bF} {R:AA},Blk r w R->(∀t∈ts,inB r w t)->(∀l∈R,∀c∈l,uL c)->∀l∈bI R ts,∀c∈l,uL c
 | [],_,_,_,g=>g
 | t::ts,_,h,k,g=>Cv (ts:=ts) (Gw h (k t a4).1) (λx hx=>k x<|av _ hx) (abP h (k t a4).1 g<|.Ò (k t a4).2.2)
def Zv {r w:ı}{aj aN:AA}{bi bj:ı}(B:Et r w aj aN bi bj)(k:∀t∈ts,inB r w t):Et r w (bI aj ts) aN bi bj:=%[B.r1,B.r9,B.w1,B.w9,jg B.br k,B.bm,Cv B.br k B.cr,B.cm,B.bi|B.bj]
def W7 (R)(ts:İ bF)(t:bF):bI R (ts++[t])=setAt (bI R ts) t.1 t.2.1 t.2.2:=by unfold bI;rw[tm];rfl
structure gq (H0 H:Hp)(ps:İ ĸ)(R:AA):Prop where
 len:ps.v=R.v
 nd:ps.Ö
 fr:∀p∈ps,H0 p=Ĵ
 at_:∀(i:ı) (h:i<ps.v),H ps[i]=į (.Æ<|Ts<|ones<|R.Î i [])
def gq.mv (h:gq H0 H ps R)(k:∀p∈ps,H' p=H p):gq H0 H' ps R:=%[h.ď,h.nd,h.fr|λi hi=>by rw[k _ (be _)];show h.ą i hi]
def gq.mvS (h:gq H0 H ps R)(k:aB H H'):gq H0 H' ps R:=%[h.ď,h.nd,h.fr|λi hi=>k _ _<|h.ą i hi]
def gq.snoc (h:gq H0 H ps R)(hn:p∉ps)(g:H0 p=Ĵ)(hp:H p=į (.Æ<|Ts<|ones l)):gq H0 H (ps++[p]) (R++[l]):=by
 refine%[by simp[h.len],?_,λx hx=>?_|λi hi=>?_]
 .rw[lS];calc%[h.nd,yi|λa ha b d=>?_];rw[am.mp d];show λz=>hn<|z ▸ ha
 .rcases aT.mp hx with z|z;.show h.fr x z
  .rw[am.mp z];show g
 .by_cases c:i<ps.v;.rw[List.getElem_append_left c,h.ą i c,ah,ah,ck (by rw[<-h.len];show c)]
  .let e:i=ps.v:=by simp at hi;lia
   subst e;rw[List.getElem_append_right (ai _)];simp only[mB,List.getElem_singleton];rw[hp,ah,dS (by rw[h.len];show ai _),h.len];simp
def gq.set (h:gq H0 H ps R)(hi:i<ps.v):gq H0 (upd H ps[i]<|.Æ<|(Ts<|ones<|R.Î i []).ĉ j<|.X<|S [z]) ps (setAt R i j z):=by
 let e:(Ts<|ones<|R.Î i []).ĉ j (.X<|S [z])=Ts (ones<|(R.Î i []).ĉ j z):=by show List.ĉ (((R.Î i []).L λc=>[c]).L λl=>V.X<|S l) j (V.X<|S [z])=((List.ĉ (R.Î i []) j z).L λc=>[c]).L λl=>V.X (S l);rw[List.map_set,List.map_set]
 rw[e];calc%[by unfold setAt;rw[oP];show h.ď,h.nd,h.fr|λk hk=>?_];by_cases c:k=i
 .subst c;rw[au];unfold setAt;rw[ah (l:=R.ĉ _ _),kC (by rw[<-h.len];show hi)];rfl
 .rw[aM (λz=>c<|(List.getElem_inj h.nd).mp z),h.ą k hk];unfold setAt;rw[ah (l:=R.ĉ _ _),nL (λz=>c z.Ð),<-ah]
def af2:Sp:=λvs H Q _=>∃(p:Addr) (aj:AA) (r w:Nat),vs=[.H p]/\H p=į (.Ç<|Ts aj)/\Blk r w aj/\1<=r/\r<=9/\w<=9/\∀(p':ĸ) (H':Hp),aB H H'->H' p'=į (.Ç<|Ts<|bG aj w)->Q (.H p') H'
def vX (G:GG K mg):DF P w K mg base m8 2 af2:=by
 calc G.ai'.cH vU ?_;intro f bA A outer s H vs Q E hr h;let(p,aj,r,w,rfl,hp,d,r1,r9,w9,q):=h;calc%[0,_,(aD<|aW<|cR cJ ym G.g' cz<|ak (gk rb (fY.of vU.nd yn) (jD ym G.i'<|ak (aX cI ym G.b' bP<|ak (bK dN aG aF λ_ _=>rfl) aA) aA) (λ_ _ _ _ _=>dD) λ_ _ _ _ _=>(aY (vW G) hr.Ø rb<|ak aU<|ak aG aA)) aA)|?_];let F:0<aj.v:=by rw[d.len];show r1
 let L:aj[0].v=w:=d.iG _<|be _;calc%[17,p,_,_,.X<|S aj[0]|%[34,rb,rb,bf.of hp,bh (j:=0)<|oR (by simp[F]),_,rb,ay<|aH yf|%[7,_,rb,eJ _,yf|?_]]];intro M B;rw[cq,L];refine wJ (lo:=0) (n:=w) (λi ys H2=>ys=Ts ((List.å i).L<|dX aj)/\H2 M=į (.Æ ys)/\aB H H2) %[rb,au|aB.ì B] ?_ ?_
 .intro i ys H2 hi z;let(rfl,g,sm):=z;calc%[38,p,aj,r,w,i,by rw[vx];rfl,sm _ _ hp,d,r9,w9,hi|λN D=>%[D _ _ g,?_|d8.mk hi %[?_,au|(sm.À D).bB B]]];.rw[ab,ab,cS];show aH yf
  .rw[jX,f_,b4];rfl
 .intro ys H2 z;let(rfl,g,sm):=z;calc%[3,M,_,rb|.Â %[aP.of g|λl J=>?_]];show q l _ (sm.bB<|sm.Ó J) au
def Zw (C:ĸ):Sp:=λvs H Q _=>∃(p:Addr) (r w:Nat) (aj aN:AA) (bi bj:Nat),vs=[.H p]/\cY C H p r w aj aN bi bj/\∀(p':ĸ) (H':Hp),aB H H'->cY C H' p' w r (bG aj w) (bG aN w) bj bi->Q (.H p') H'
def W8 (G:GG K mg):MF P w K mg base G.v' 8 (Zw G.c'):=by
 calc G.v'.F.cH uE ?_;intro bA A outer s H vs Q E hr h;let(p,r,w,aj,aN,bi,bj,rfl,BA,q):=h;let((dx,pr,pm,pb,hx,M,Y,d),B):=BA;calc%[0,_,(aC (aO (i:=1) uE.nd rb (Or.Â rb)<|dz<|ak (bK dN (dw aG rb) aF λ_ _=>rfl)<|ak (bK dN (dw aG rb) aF λ_ _=>rfl) aA)<|aD<|aW<|pB (G.l'.Lq G.D') (qJ G) hr.Ø rb G.C' G.l'.b .ê fB<|ak (aY (vX G) hr.Ø rb<|ak (dw aG rb) aA)<|ak (aY (vX G) hr.Ø rb<|ak (dw aG rb) aA)<|ak aU aA)|?_];calc%[12,p,G.c',dx,_,_,rb,hx,G.a'.cl,G.a'.nb,rb|%[5,pb,_,_,.M bj,rb,rb,bf.of d,bh (j:=1) rb|?_]];calc%[12,p,G.c',dx,_,_,rb,hx,G.a'.cl,G.a'.nb,rb|%[16,pb,_,_,.M bi,rb,rb,bf.of d,bh (j:=0) rb,zsz 2|λb hb=>?_]];let s1:aB H (upd H b<|.Ç [.M bj,.M bi]):=aB.ì hb;calc%[12,p,G.c',dx,_,_,rb,s1 _ _ hx,G.a'.cl,G.a'.nr,rb|%[55,pr,aj,r,w,rb,s1 _ _ M,B.br,B.r1,B.r9,B.w9|λp1 H1 Z h1=>?_]];let s2:=s1.À Z;calc%[12,p,G.c',dx,_,_,rb,s2 _ _ hx,G.a'.cl,G.a'.nm,rb|%[55,pm,aN,r,w,rb,s2 _ _ Y,B.bm,B.r1,B.r9,B.w9|λp2 H2 F h2=>?_]];let s3:=s2.À F;calc(λx J nx O nex=>?_);let L:aB H2 (upd (upd H2 J<|HO.own x) x<|HO.Ē G.c' J []):=λb o e=>by rw[aM (aQ e nx),aM (aQ e O)];show e
 let g:H2 b=į (.Ç [.M bj,.M bi]):=F _ _<|Z _ _ au;calc%[17,x,J,p1,p2|%[62,b,w,r,bG aj w,bG aN w,bj,bi,rb,au,L _ _<|F _ _ h1,L _ _ h2,L _ _ g,Mv B|λH3 kp N=>%[rb|?_]]];let D:aB H2 H3:=λb o e=>kp b o (L b o e)<|aQ e nx;show q x H3 (s3.À D) %[%[22,J,p1,p2,b,N,D _ _<|F _ _ h1,D _ _ h2|D _ _ g]|Mv B]
def adU (C:ĸ):Sp:=λvs H Q _=>∃(p t:Addr) (as:İ ĸ) (ts:İ bF) (r w:Nat) (aj aN:AA) (bi bj:Nat),vs=[.H p,.H t]/\cY C H p r w aj aN bi bj/\H t=į (.Ç<|as.L V.H)/\dI H as ts/\(∀t∈ts,inB r w t)/\
 ∀(p':ĸ) (H':Hp),aB H H'->cY C H' p' r w (bI aj ts) aN bi bj->Q (.H p') H'
def abQ (G:GG K mg):MF P w K mg base G.w' 8 (adU G.c'):=by
 calc G.w'.F.cH iM ?_;intro bA A outer s H vs Q E hr h;let(p,t,as,ts,r,w,aj,aN,bi,bj,rfl,BA,ht,hL,cg,q):=h;let((dx,pr,pm,pb,hx,hpr,hpm,hpb),B):=BA;let r9:=B.r9;let w9:=B.w9;let L:=B.br;calc%[0,_,(aC (Pu (ix:=2) (ns:=["row"]) iM.nd rb (Or.Â rb) rb (gJ.of ["self","laying","lines",".3","column","sign"] [3] yn) (gD<|dw aG rb) (λ_ _ _ _ _=>(pF (show (["row","self","laying","lines",".3","column","sign"]:İ ņ).Ö by decide +kernel) rb ym)) (λ_ _ _ _ _=>dD) λ_ _ _ _ _=>(cR (R9 rb) ym G.E' tz<|ak aG aA))<|aC (c7 b7 rb (gD aU) (mK rb<|cM (bL (i:=3) iM.nd rb<|Or.Â rb)<|cM (bL (i:=4) iM.nd rb<|Or.Â rb)<|cM (bL (i:=5) iM.nd rb<|Or.Â rb) jV)<|aD<|acv cV<|acX (bK d9 bw bO λ_ _=>rfl) cD set_list)<|aD<|aW<|pB (G.l'.Lq G.D') (qJ G) hr.Ø rb G.C' G.l'.b .ê fB<|ak (cR cJ ym G.g' cz<|ak (gk rb (fY.of iM.nd yn) (eU bw) (λ_ _ _ _ _=>dD) λ_ _ _ _ _=>(acY K cw fE fF (Yn K) (bU [] yo)<|ak aG aA)) aA)<|ak (dw aG rb)<|ak (dw aG rb) aA)|?_];refine%[37,p,G.c',dx,_,_,rb,hx,G.a'.cl,G.a'.nr|%[25,rb,pr,rb,%[_|bf.of hpr]|λM hM=>Dj (f:=fV [3] 0) (tt:=jt) (xs:=Ts aj) (λi ys H2=>∃ps:İ ĸ,ys=ps.L V.H/\H2 M=į (.Æ ys)/\aB H H2/\gq H H2 ps (aj.È i)/\M∉ps)
  %[13,[],rb,au,aB.ì hM,%[yi,qk,λp h=>by simp at h|λi h=>by simp at h]|yi] (λi ys H2 _ h=>by let(_,_,_,sm,_):=h;show bf.of<|sm _ _ hpr) ?_ ?_]]
 .intro i x ys H2 hi z;let(ps,rfl,IV,sm,yq,nM):=z;let(l,hl,rfl):=k_ hi;let hil:i<(Ts aj).v:=(al.mp hi).1;let QL:l.v=w:=L.iG _<|ax hl;let lZ:(Ts aj).v=r:=by rw[ab,L.len]
  let hpl:ps.v<=9:=by rw[yq.len,ba,L.len];lia
  calc aak %[2,l,rb,yf|λc hc=>?_];let ncM:M≠c:=λz=>by rw[<-z,IV]at hc;cases hc
  let ncp:c∉ps:=λz=>by let(k,hk,e):=cn.mp z;have:=yq.ą k hk;rw[e,hc]at this;cases this
  refine%[by rw[aM ncM];show IV,by rw[ab];show aH yf|d8.mk hil %[13,ps++[c],yi,au,(sm.bB<|sm.Ó hc).bB hM,?_|?_]]
  .rw[show aj.È (i+1)=aj.È i++[l] by rw[b6,hl];rfl];calc gq.mv ((yq.mvS<|aB.ì hc).snoc ncp (sm.Ó hc) au) λy hy=>aM λz=>?_;rcases aT.mp hy with u|u
   .show nM<|z ▸ u
   .show ncM<|z.Ð.À<|am.mp u
  .intro z;rcases aT.mp z with u|u;.show nM u
   .show ncM<|am.mp u
 .intro ys H2 z;let(ps,rfl,IV,sm,yq,nM):=z;rw[de (by rw[ab];show ai _)]at yq;refine%[2,t,rb,%[_|bf.of<|sm _ _ ht]|nP (K:=K) (a:=t) (xs:=as.L V.H) (λi I H3=>∃v3 v4 v5:ĵ V,I=[į (.H p),į (.H t),į (.H M),v3,v4,v5]/\aB H H3/\H3 M=į (.Æ<|ps.L V.H)/\gq H H3 ps (bI aj<|ts.È i))
   %[8,Ĵ,Ĵ,Ĵ,rb,sm,IV|yq] (λi I H3 _ h=>by let(_,_,_,_,sm,_):=h;show bf.of<|sm _ _ ht) ?_ ?_]
  .intro i x I H3 d z;let(v3,v4,v5,rfl,g,Eu,D):=z;rw[a_]at d;let hi:i<as.v:=by
    rcases dE i as.v with z|z;.show z
    .rw[b9 z]at d;cases d
   rw[ae hi]at d;let d:V.H as[i]=x:=bo d;subst d;let(u,eu,hU):=hL.get hi;let hum:=ax eu;let(u1,u2,u3):=cg u hum;let hb3:Blk r w (bI aj<|ts.È i):=jg L λy hy=>cg y<|dm hy;let hpl:ps.v=r:=by rw[D.len,hb3.len]
   let Z:u.1<ps.v:=by simp_all
   calc%[1,as[i],_,rb,bf.of<|g _ _ hU|%[19,rb,_,_,rb|%[10,_,_|%[14,rb,_,_,rb,rb|?_]]]];refine%[5,M,_,_,.H ps[u.1],rb,rb,aP.of Eu,bh (by simp[Z])|%[5,ps[u.1],_,_,u.2.1,rb,rb,D.ą u.1 Z,?_|?_]]
   .have:((bI aj<|ts.È i).Î u.1 []).v=w:=by
     rw[ah,ae (by rw[hb3.len];show u1)];show hb3.iG _<|be _
    unfold G6;rw[ab,ab,this,Ĺ (eJ _),Ĺ (ii fv u2)];congr 1
   .refine%[8,_,_,_,rb,g.bB<|D.fr _<|be _,?_|?_]
    .let ne:M≠ps[u.1]:=λz=>nM (by rw[z];show be _)
     rw[aM ne];show Eu
    .rw[show bI aj (ts.È<|i+1)=setAt (bI aj<|ts.È i) u.1 u.2.1 u.2.2 by rw[b6,eu];show W7 _ _ _];show D.ĉ Z
  .intro I H3 z;let(v3,v4,v5,rfl,g,Eu,D):=z;rw[de (by rw[ab,hL.len];show ai _)]at D;let B':=Zv B cg;let hpl:ps.v=r:=by rw[D.len,B'.br.len]
   refine%[2,M,rb,%[_|aP.of Eu]|λN hN=>uh (xs:=ps.L V.H) (λi ys O=>ys=Ts ((bI aj ts).È i)/\O N=į (.Æ ys)/\aB H3 O) %[rb,au|aB.ì hN] (λi ys O _ h=>aP.of<|h.2.2 _ _ Eu) ?_ ?_]
   .intro i x ys O hi z;let(rfl,J,W9):=z;rw[a_]at hi;let F:i<ps.v:=by
     rcases dE i ps.v with z|z;.show z
     .rw[b9 z]at hi;cases hi
    rw[ae F]at hi;let hi:V.H ps[i]=x:=bo hi;subst hi;let hri:i<(bI aj ts).v:=by rw[<-D.len];show F
    let hg:(bI aj ts).Î i []=(bI aj ts)[i]:=by rw[ah,ae hri];rfl
    let hw:(bI aj ts)[i].v=w:=B'.br.iG _<|be _;let hat:=D.ą i F;rw[hg]at hat;calc%[9,rb,ps[i]|%[51,ones (bI aj ts)[i],rb,rb,aP.of<|W9 _ _ hat,by rw[nC,hw];lia,J,?_|d8.mk (by rw[ab];show F) %[?_,au|W9.bB hN]]];.rw[ab,ba];show aH (by grind)
    .rw[nC,jX,b6,ae hri];rfl
   .intro ys O z;let(rfl,J,W9):=z;rw[de (by rw[ab,D.len];show ai _)]at J;calc%[3,N,_,rb|.Â %[aP.of J|λl hl=>?_]];let Y:=(g.À W9).bB (o:=.Ç (Ts<|bI aj ts))<|(g.À W9).Ó hl;calc%[12,p,G.c',dx,_,_,rb,Y _ _ hx,G.a'.cl,G.a'.nm,rb|%[12,p,G.c',dx,_,_,rb,Y _ _ hx,G.a'.cl,G.a'.nb,rb|λx dy nx ndx nex=>?_]];let s6:aB (upd O l<|.Ç<|Ts<|bI aj ts) (upd (upd (upd O l<|.Ç<|Ts<|bI aj ts) dy<|HO.own x) x<|HO.Ē G.c' dy []):=λb o e=>by rw[aM (aQ e nx),aM (aQ e ndx)];show e
    calc%[17,x,dy,l,pm|%[62,pb,r,w,bI aj ts,aN,bi,bj,rb,au,s6 _ _ au,s6 _ _<|Y _ _ hpm,s6 _ _<|Y _ _ hpb,B'|λH5 kp hx5=>%[rb|?_]]];let s7:aB (upd O l<|.Ç<|Ts<|bI aj ts) H5:=λb o e=>kp b o (s6 b o e)<|aQ e nx;show q x H5 (Y.À s7) %[%[22,dy,l,pm,pb,hx5,s7 _ _ au,s7 _ _<|Y _ _ hpm|s7 _ _<|Y _ _ hpb]|B']
def lq (l:İ ı)(m:Ŀ):ı:=if 0<=m/\m<l.v then l.Î m.Õ 0 else 46
def Gx {l:İ ı}(h:m<l.v):lq l (m:Ŀ)=l[m]:=by unfold lq;rw[Ĺ %[eJ _|ii fv h],cq,ah,ae h];rfl
def Zx {l:İ ı}{m:Ŀ}(h:¬(0<=m/\m<l.v)):lq l m=46:=ķ h
def abR {r w:ı}{aj:AA}(B:Blk r w aj){i j:ı}(hi:i<r)(F:j<w){way:Ŀ}(hw:way=0\/way=1)(t:Ŀ):atC aj r w ((i:Ŀ)+t*way) ((j:Ŀ)+t*(1-way))=lq (lineOf aj i j way) ((placeOf i j way:ı)+t):=by
 let d:=oU B hi (j:=j) (way:=way);rcases hw with rfl|rfl
 .rw[Ĺ rfl]at d;unfold atC lq;rw[d];let g:(i:Ŀ)+t*0=i:=yf;let q:(j:Ŀ)+t*(1-0)=j+t:=yf;rw[g,q];show (if _ then _ else _)=(if 0<=(j:Ŀ)+t/\(j:Ŀ)+t<w then _ else _)
  by_cases h:0<=(j:Ŀ)+t/\(j:Ŀ)+t<w;.rw[Ĺ h,Ĺ %[yf,ii fv hi,h.1|h.2],cq];rfl
  .rw[ķ h,ķ (λz=>h %[z.2.2.1|z.2.2.2])]
 .rw[ķ yk]at d;unfold atC lq;rw[d];let g:(i:Ŀ)+t*1=i+t:=yf;let q:(j:Ŀ)+t*(1-1)=j:=yf;rw[g,q];show (if _ then _ else _)=(if 0<=(i:Ŀ)+t/\(i:Ŀ)+t<r then _ else _)
  by_cases h:0<=(i:Ŀ)+t/\(i:Ŀ)+t<r
  .rw[Ĺ h,Ĺ %[h.1,h.2,yf|yf],cq];show (aj.Î ((i:Ŀ)+t).Õ []).Î j 0=(aj.L λl=>l.Î j 0).Î ((i:Ŀ)+t).Õ 0;let D:((i:Ŀ)+t).Õ<aj.v:=by rw[B.len];simp_all
   rw[ah (l:=aj),ah (l:=aj.L λl=>l.Î j 0),a_,ae D];rfl
  .rw[ķ h,ķ (λz=>h %[z.1|z.2.1])]
def iW (l:İ ı)(k c:ı):İ ı:=(cj<|l.È k).L PyProof.ô.lo1++c::(cA<|l.Í<|k+1).L PyProof.ô.lo1
def QV {r w:ı}{aj:AA}(cr:∀l∈aj,∀c∈l,uL c){i j:ı}{way:Ŀ}(D:Blk r w aj)(B:j<w):∀c∈lineOf aj i j way,uL c:=λc d=>by
 unfold lineOf at d;split at d
 .rw[ah]at d;cases e:aj[i]? with| none=>rw[e]at d;simp at d| some l=>rw[e]at d;show cr l (ax e) c d
 .let(l,q,rfl):=a5.mp d;let g:j<l.v:=by rw[D.iG l q];show B
  rw[ah,ae g];show cr l q _<|be _
def JR (h:uL c):c<128:=by
 rcases h with e|e;.rw[e];decide
 .show e.lt
def abS {r w:ı}{R:AA}(g:Blk r w R){i j z:ı}(hi:i<r)(B:j<w):dX (setAt R i j z) j=(dX R j).ĉ i z:=by
 apply fi;intro m;let d:i<R.v:=by rw[g.len];show hi
 let q:(R.Î i []).v=w:=by rw[ah,ae d];show g.iG _<|be _
 unfold dX setAt;rw[a_,qh,qh,a_];by_cases hm:i=m
 .subst hm;rw[Ĺ rb,Ĺ rb,Ĺ d,Ĺ (by rw[ab];show d)];show į (((R.Î i []).ĉ j z).Î j 0)=į z;rw[ah,qh,Ĺ rb,Ĺ (by simp_all)];rfl
 .rw[ķ hm,ķ hm]
def Zy {r w:ı}{R:AA}(g:Blk r w R){i j z:ı}(hi:i<r)(q:j<w){way:Ŀ}:lineOf (setAt R i j z) i j way=(lineOf R i j way).ĉ (placeOf i j way) z:=by
 unfold lineOf placeOf;by_cases h:way=0
 .rw[Ĺ h,Ĺ h,Ĺ h];let d:i<R.v:=by rw[g.len];show hi
  unfold setAt;rw[ah,qh,Ĺ rb,Ĺ d];rfl
 .rw[ķ h,ķ h,ķ h];show abS g hi q
def W_ {l:İ ı}(hk:k<l.v):cj ((l.ĉ k 97).È k)=cj (l.È k)/\cA ((l.ĉ k 97).Í k)=97::cA (l.Í<|k+1):=by
 constructor;.rw[List.take_set,sK (by rw[ba];show mS _ _)]
 .let d:k<(l.ĉ k 97).v:=by rw[oP];show hk
  rw[r8 d,List.getElem_set_self,List.drop_set_of_lt (eW _)];rfl
def jT (ws:AA)(l:İ ı)(k:ı):İ ı:=if (iW l k 97).v=1 then AL else AL.û λc=>Ļ (iW l k c∈ws)
def af3 (C CB:ĸ):Sp:=λvs H Q _=>∃(pb g d:Addr) (ws:AA) (r w:Nat) (aj aN:AA) (bi bj i j:Nat) (way:Int),vs=[.H pb,.H g,.M i,.M j,.M way]/\cY C H pb r w aj aN bi bj/\dZ CB H g d ws/\i<r/\j<w/\(way=0\/way=1)/\
 ∀H',aB H H'->Q (.X<|S<|jT ws (lineOf aj i j way)<|placeOf i j way) H'
def abT (hw:way=0\/way=1)(hk:placeOf i j way=k):lV (Mu i j way l) 2=į (.X<|S<|cj (l.È k)++cA (l.Í k))/\(way=0->lV (Mu i j way l) 1=į (.M<|(k:Ŀ)-(cj<|l.È k).v))/\(way=1->lV (Mu i j way l) 0=į (.M<|(k:Ŀ)-(cj<|l.È k).v)):=by
 subst hk;rcases hw with rfl|rfl;.show%[bh (j:=2) rb,λ_=>bh (j:=1) rb|λz=>by lia]
 .show%[bh (j:=2) rb,λz=>by lia|λ_=>bh (j:=0) rb]
def IW (h:c∈cA l):c∈l:=(qo _).subset h
def I_ (h:c∈cj l):c∈l:=by unfold cj at h;rw[tS]at h;show tS.mp<|(qo _).subset h
def Cw (G:GG K mg):DF P w K mg base kh 10 (af3 G.c' G.d'):=by
 calc G.al'.cH iB ?_;intro f bA A outer s H vs Q E hr h;let(pb,pk,d,ws,r,w,aj,aN,bi,bj,i,j,way,rfl,B,BK,hi,hj,zf,q):=h;let(dx,_,_,_,ex,_):=id B.ex;let r9:=B.ok.r9;let w9:=B.ok.w9;let hll:=oU B.ok.br hi (j:=j) (way:=way);let hk:placeOf i j way<(lineOf aj i j way).v:=by rw[hll];unfold placeOf;split <;> assumption
 let hl9:(lineOf aj i j way).v<=9:=by rw[hll];split <;> assumption
 let qx:=QV B.ok.cr (i:=i) (way:=way) B.ok.br hj;let hz:∀n,n<=100->n<=Ľ:=λn h=>ay<|aH yf;calc%[0,_,(aC (aO (i:=5) iB.nd rb (Or.Â rb)<|lD (lD aG G.a'.cl G.w'.m (abQ G) hr.Ø G.w'.b .ê fB<|ak (dz<|ak (dz<|ak bw<|ak bO<|ak (bU [97] yo) aA) aA) aA) G.a'.cl G.u'.m (adT G) hr.Ø G.u'.b .ê fB<|ak bw<|ak bO<|ak cD aA)<|aC (cC (bW jk (aX cI ym G.b' bP<|ak (bK dN cV aF λ_ _=>rfl) aA) aF<|bQ _) (aD<|aW<|lH ym G.O') bN)<|aC (kW<|aO (i:=6) iB.nd rb (Or.Â rb)<|rU (bW jk cD aF<|bQ _) (aR jq bO<|bK dN cV aF λ_ _=>rfl)<|aR jq bw<|bK dN cV aF λ_ _=>rfl)<|aC (aO (i:=7) iB.nd rb (Or.Ò rb)<|vB cw pi pE Di<|f9 wK (bK dN cV aF λ_ _=>rfl) jU<|fQ fj)<|aC (aO (i:=8) iB.nd rb (Or.Ò rb)<|vB cw pi pE Di<|f9 wK (bK dN cV aF λ_ _=>rfl) (fQ<|aR cZ fj aF) jU)<|aD<|aW<|dO cw fE fF rN (bU [] yo)<|ak (je (ns:=["letter"]) rb (gJ.of ["board","book","row","column","way","run","place","ahead","behind"] [] yn) (yR<|lH ym G.O') (λ_ _ _ _ _=>(pF (show (["letter","board","book","row","column","way","run","place","ahead","behind"]:İ ņ).Ö by decide +kernel) rb ym)) (λ_ _ _ _ _=>(vH<|dJ<|lD bw G.f'.cl G.x'.m (adI G) hr.Ø G.x'.b .ê fB<|ak (aR h_ (aR h_ jl aG) rA) aA)) λ_ _ _ _ _=>aG) aA)|?_];calc%[15,pb,dx,_,rb,ex,rb,zsz 3|λg ht1=>%[zsz 1|λZ Ja=>?_]];let s1:aB H (upd H g<|HO.Ç [V.M i,V.M j,V.X (S [97])]):=aB.ì ht1;let s2:=s1.bB (o:=HO.Ç [V.H g])<|s1.Ó Ja;let n12:g≠Z:=λz=>by rw[<-z,au]at Ja;cases Ja
 let h1:upd (upd H g<|HO.Ç [V.M i,V.M j,V.X (S [97])]) Z (HO.Ç [V.H g]) g=į (.Ç [.M i,.M j,.X (S [97])]):=by rw[aM n12,au]
 let h2:upd (upd H g<|HO.Ç [V.M i,V.M j,V.X (S [97])]) Z (HO.Ç [V.H g]) Z=į (.Ç [.H g]):=au;generalize upd (upd H g<|HO.Ç [V.M i,V.M j,V.X (S [97])]) Z (HO.Ç [V.H g])=H2 at s2 h1 h2 ⊢;calc%[18,pb,Z,[g]|%[53,[(i,j,97)],r,w,aj,aN,bi,bj,rb,B.mv s2,h2,dI.ê.snoc (t:=(i,j,97)) h1,λt ht=>by rw[am.mp ht];show%[hi,hj|by show Iz [97]=ĳ;decide]|λx1 H3 s3 B3=>?_]];let el:bI aj [(i,j,97)]=setAt aj i j 97:=rfl;rw[el]at B3;let(dx1,_,_,_,ex1,_):=id B3.ex;calc%[8,x1,dx1,_,rb,ex1,rb|%[18,x1,r,w|%[53,setAt aj i j 97,aN,bi,bj,i,j,way,rb,B3,hi,hj,zf|λt H4 s4 ht Ql=>?_]]];let O:=(s2.À s3).À s4;rw[Zy B.ok.br hi hj]at Ql;generalize lineOf aj i j way=l at hk hl9 qx q Ql;generalize hK:placeOf i j way=k at hk q Ql;let(pa,pc):=W_ hk;let(M,vb,vc):=abT (l:=l.ĉ k 97) zf hK;rw[pa,pc]at M;rw[pa]at vb vc;let t1l:=uM<|l.È k;rw[ba]at t1l;let t2l:=uN<|l.Í<|k+1;rw[cp]at t2l;let hta:∀c∈cj (l.È k),c<128:=λc F=>JR<|qx c<|dm<|I_ F;let hha:∀c∈cA (l.Í<|k+1),c<128:=λc F=>JR<|qx c<|e9<|IW F;let D:∀c,(iW l k c).v=(cj<|l.È k).v+1+(cA<|l.Í<|k+1).v:=λc=>by unfold iW;rw[aE,ab,bv,ab];lia
 let J:∀c,iW l k c=(cj<|l.È k).L PyProof.ô.lo1++[c]++(cA<|l.Í<|k+1).L PyProof.ô.lo1:=λc=>by unfold iW;rw[bz];rfl
 generalize hX:cj (l.È k)=X at M vb vc t1l hta D J;generalize hY:cA (l.Í<|k+1)=Y at M t2l hha D J;generalize Mu i j way (l.ĉ k 97)=rv at M vb vc Ql;let Xa:=bf.of (K:=K) Ql;calc%[5,t,_,_,_,rb,rb,Xa,M|%[7,_,rb,hz _ (by rw[aE,bv];lia),rb|aZ _ rb ?_]];by_cases h1:X.v+1+Y.v=1
 .let e:Ļ (V.M ((X++97::Y).v:ı)=V.M 1)=ĳ:=aS (by rw[aE,bv,show X.v+(Y.v+1)=1 by lia];rfl);rw[e];calc cu ?_;have:=q H4 O;unfold jT at this;rw[Ĺ (by rw[D];show h1)]at this;show this
 .let e:Ļ (V.M ((X++97::Y).v:ı)=V.M 1)=Ķ:=aw (λz=>by
   injection z with z;rw[aE,bv]at z;lia)
  rw[e];calc bZ ?_;let hq:=q H4;refine%[0,λI H'=>H'=H4/\I=[į (.H pb),į (.H pk),į (.M i),į (.M j),į (.M way),į (.H t),į (.M (X.v:ı)),Ĵ,Ĵ],?_|?_]
  .rcases zf with rfl|rfl
   .calc%[rb|cu %[28,t,_,_,_,rb,rb,Xa,vb rb,_,_,rb,rb,rb|?_]];have:(j:Ŀ)-((k:Ŀ)-(X.v:Ŀ))=(X.v:Ŀ):=by rw[<-hK];show (j:Ŀ)-((j:Ŀ)-_)=_;lia
    show Ő (λv:Ŀ=>([į (V.H pb),į (V.H pk),į (V.M i),į (V.M j),į (V.M 0),į (V.H t),į (V.M v),Ĵ,Ĵ]:St)) this
   .calc%[rb|bZ %[28,t,_,_,_,rb,rb,Xa,vc rb,_,_,rb,rb,rb|?_]];have:(i:Ŀ)-((k:Ŀ)-(X.v:Ŀ))=(X.v:Ŀ):=by rw[<-hK];show (i:Ŀ)-((i:Ŀ)-_)=_;lia
    show Ő (λv:Ŀ=>([į (V.H pb),į (V.H pk),į (V.M i),į (V.M j),į (V.M 1),į (V.H t),į (V.M v),Ĵ,Ĵ]:St)) this
  rintro I H' ⟨rfl,rfl⟩;calc%[5,t,_,_,_,rb,rb,Xa,M|%[44,_,rb,_,rb,hz _ (by rw[aE,bv];lia),rb|?_]];rw[zA,List.take_left' rfl];calc%[13,X,rb,rb,yf,hta|?_];let e1:(X.v:Ŀ)+1=((X.v+1:ı):Ŀ):=rfl;calc%[22,t,_,_,_,rb,rb,Xa|%[14,M,_,_,rb,rb|%[44,_,rb,_,rb,hz _ (by rw[aE,bv];lia),rb|?_]]];rw[e1,kZ,show (X++97::Y).Í (X.v+1)=Y by rw[List.drop_append,iq,tw (di _ _)];rfl];calc%[13,Y,rb,rb,by grind,hha|?_];let BK4:=BK.same O;refine%[11,rb,AL,rb|λL hL=>R8 (f:=fV [] 0) (tt:=tB (RD G.d' "has" (aau G.d') [] E0 (cT 2)<|dM (qN Aa (qN Aa (cT 8)<|cT 0)<|cT 9) kJ)) (te:=cT 0) (λn ys H5=>ys=Ts (ones<|(AL.È n).û λc=>Ļ<|iW l k c∈ws)/\H5 L=į (.Æ ys)/\aB H' H5) %[rb,au|aB.ì hL] ?_ ?_]
  .intro n c ys H5 hn z;let(rfl,yr,s5):=z;let N:n<AL.v:=(al.mp hn).1;let agv:n<26:=N;let BK5:=BK4.same s5;let(dk,ek):=BK5.ob;calc%[8,pk,dk,_,rb,ek,rb|%[4,_,_,rb,rb,hz _ (by rw[ab];simp;lia)|%[4,_,_,rb,rb,hz _ (by rw[aE,ab,ab];simp;lia)|%[43,pk,d,ws,_,rb,BK5|aZ _ rb ?_]]]];rw[<-J];by_cases F:iW l k c∈ws
   .rw[aS F];refine cu %[yr,?_|d8.mk N %[?_,au|s5.bB hL]]
    .rw[ab,ab];show aH<|ap (kM _ _) (by rw[ba];lia)
    .rw[b6,hn,ip,jX,zF];simp[F]
   .rw[aw F];calc bZ<|d8.mk N %[?_,yr|s5];rw[b6,hn,ip];simp[F]
  .intro ys H5 z;let(rfl,yr,s5):=z;rw[c6]at yr;refine%[6,L,_,rb,rb,aP.of yr,?_|?_]
   .rw[nC];show ap (kM _ _) yk
   .rw[nC];have:=q H5<|O.À s5;unfold jT at this;rw[ķ (by rw[D];show h1)]at this;show this
def poss (i j:Ŀ):İ (Ŀ×Ŀ):=[(i-1,j),(i+1,j),(i,j-1),(i,j+1)]
def Ew (aj:AA)(r w:ı)(i j:Ŀ):ō:=(poss i j).Ğ λp=>!Ļ ([atC aj r w p.1 p.2]=[46])
def Zz {q d B g:ĸ}{i j:Ŀ}{H:Hp}(h1:H q=į (.Ç [.M (i-1),.M j]))(F:H d=į (.Ç [.M (i+1),.M j]))(G:H B=į (.Ç [.M i,.M (j-1)]))(D:H g=į (.Ç [.M i,.M (j+1)])){n:ı}{x:V}(h:([V.H q,V.H d,V.H B,V.H g]:İ V)[n]?=į x):∃(t:Addr) (p:Ŀ×Ŀ),x=.H t/\H t=į (.Ç [.M p.1,.M p.2])/\(poss i j)[n]?=į p:=by
 match n,h with| 0,h=>show%[1,q,(i-1,j),(bo h).Ð,h1|rb]| 1,h=>show%[1,d,(i+1,j),(bo h).Ð,F|rb]| 2,h=>show%[1,B,(i,j-1),(bo h).Ð,G|rb]| 3,h=>show%[1,g,(i,j+1),(bo h).Ð,D|rb]| n+4,h=>show ŀ h yi
def Xb (C:ĸ):Sp:=λvs H Q _=>∃(b:Addr) (r w:Nat) (aj aN:AA) (bi bj:Nat) (i j:Int),vs=[.H b,.M i,.M j]/\cY C H b r w aj aN bi bj/\∀H',aB H H'->Q (.bl<|Ew aj r w i j) H'
def T6 (G:GG K mg):DF P w K mg base iU 4 (Xb G.c'):=by
 calc G.ak'.cH j4 ?_;intro f bA A outer s H vs Q E hr h;let(b,r,w,aj,aN,bi,bj,i,j,rfl,B,q):=h;calc%[0,_,(aC (aO (i:=3) j4.nd rb (Or.Â rb)<|dz<|ak (dz<|ak (aR jq aU aF)<|ak bw aA)<|ak (dz<|ak (aR cZ aU aF)<|ak bw aA)<|ak (dz<|ak aU<|ak (aR jq bw aF) aA)<|ak (dz<|ak aU<|ak (aR cZ bw aF) aA) aA)<|aD<|aW<|aX (KC rb) ym G.L' Hh<|ak (gk rb (fY.of j4.nd yn) (gD bO) (λ_ _ _ _ _=>dD) λ_ _ _ _ _=>(fZ sI (lD aU G.a'.cl G.j'.m (JQ G) hr.Ø G.j'.b .ê fB<|ak (bK (rO K) aG aF λ_ _=>rfl)<|ak (bK (rO K) aG aF λ_ _=>rfl) aA) (lH ym G.k')<|bQ _)) aA)|?_];calc%[4,_,_,rb,rb,zsz 2|λd h1=>%[4,_,_,rb,rb,zsz 2|λF h2=>%[4,_,_,rb,rb,zsz 2|λg h3=>%[4,_,_,rb,rb,zsz 2|λD h4=>%[zsz 4|λT hT=>?_]]]]];let s1:aB H (upd H d<|HO.Ç [.M (i-1),.M j]):=aB.ì h1;let s2:=s1.bB (o:=HO.Ç [.M (i+1),.M j])<|s1.Ó h2;let s3:=s2.bB (o:=HO.Ç [.M i,.M (j-1)])<|s2.Ó h3;let s4:=s3.bB (o:=HO.Ç [.M i,.M (j+1)])<|s3.Ó h4;let s5:=s4.bB (o:=HO.Ç [.H d,.H F,.H g,.H D])<|s4.Ó hT;let N:aB _ _:=aB.ì (o:=HO.Ç [.H d,.H F,.H g,.H D]) hT;let O:aB _ _:=aB.ì (o:=HO.Ç [.M i,.M (j+1)]) h4;let k3:aB _ _:=aB.ì (o:=HO.Ç [.M i,.M (j-1)]) h3;let k2:aB _ _:=aB.ì (o:=HO.Ç [.M (i+1),.M j]) h2;let e1:=N _ _<|O _ _<|k3 _ _<|k2 _ _<|au (H:=H) (a:=d) (o:=HO.Ç [.M (i-1),.M j]);let e2:=N _ _<|O _ _<|k3 _ _<|au (a:=F) (o:=HO.Ç [.M (i+1),.M j]);let e3:=N _ _<|O _ _<|au (a:=g) (o:=HO.Ç [.M i,.M (j-1)]);let e4:=N _ _<|au (a:=D) (o:=HO.Ç [.M i,.M (j+1)]);let Z:upd (upd (upd (upd (upd H d<|HO.Ç [.M (i-1),.M j]) F<|HO.Ç [.M (i+1),.M j]) g<|HO.Ç [.M i,.M (j-1)]) D<|HO.Ç [.M i,.M (j+1)]) T (HO.Ç [.H d,.H F,.H g,.H D]) T=į (.Ç [.H d,.H F,.H g,.H D]):=au;generalize upd (upd (upd (upd (upd H d<|HO.Ç [.M (i-1),.M j]) F<|HO.Ç [.M (i+1),.M j]) g<|HO.Ç [.M i,.M (j-1)]) D<|HO.Ç [.M i,.M (j+1)]) T (HO.Ç [.H d,.H F,.H g,.H D])=H5 at s5 e1 e2 e3 e4 Z ⊢;refine%[2,T,rb,%[_|bf.of Z]|λL hL=>wN (xs:=[V.H d,V.H F,V.H g,V.H D]) (λn ys J=>ys=(((poss i j).È n).L λp=>!Ļ ([atC aj r w p.1 p.2]=[46])).L V.bl/\J L=į (.Æ ys)/\aB H5 J) %[rb,au|aB.ì hL] (λn ys J _ h=>bf.of<|h.2.2 _ _ Z) ?_ ?_]
 .intro n x ys J hx z;let(rfl,Y,M):=z;let(t,p,rfl,ht,hp):=Zz e1 e2 e3 e4 hx;let hn:n<4:=(al.mp hx).1;let B6:=B.mv<|s5.À M;let(dx,_,_,_,ex,_):=id B6.ex;let hS:=bf.of (K:=K)<|M _ _ ht;calc%[8,b,dx,_,rb,ex,rb|%[5,t,_,_,_,rb,rb,hS,bh (j:=0) rb|%[5,t,_,_,_,rb,rb,hS,bh (j:=1) rb|%[10,b,r|%[32,w,aj,aN,bi,bj,p.1,p.2,rb,B6|%[6,_,_,rb,rb,Y,?_|d8.mk hn %[?_,au|M.bB hL]]]]]]];.rw[ab,ab,ba];show aH (by have:(poss i j).v=4:=rfl;lia)
  .rw[b6,hp];simp
 .intro ys J z;let(rfl,Y,M):=z;calc%[1,L,_,rb,aP.of Y|?_];let e:((((poss i j).È 4).L λp=>!Ļ ([atC aj r w p.1 p.2]=[46])).Ğ id)=Ew aj r w i j:=by
   unfold Ew;rw[List.any_map];rfl
  show Q (.bl _) J;rw[show ([V.H d,V.H F,V.H g,V.H D]:İ V).v=4 from rb,e];show q J<|s5.À M
def cells (r w:ı):İ (ı×ı):=(List.å r).ī λi=>(List.å w).L λj=>(i,j)
def Xc:(cells 9 9).v=81:=by decide +kernel
def Xd:∀r w:Fin 10,cells r.val w.val=(cells 9 9).û λc=>Ļ (c.1<r.val)&&Ļ (c.2<w.val):=by decide +kernel
def Xe {r w:ı}{c:ı×ı}:c∈cells r w↔c.1<r/\c.2<w:=by
 unfold cells;constructor
 .intro h;let(i,hi,h):=gf.mp h;let(j,g,rfl):=a5.mp h;show%[b3.mp hi|b3.mp g]
 .rintro⟨h1,d⟩;show gf.Ù %[0,c.1,b3.Ù h1|a5.Ù %[0,c.2,b3.Ù d|rb]]
def Cy (H:Hp)(a:ĸ)(p:ı×ı):Prop:=H a=į (.Ç [.M p.1,.M p.2])
def pO (H:Hp)(a:ĸ):ı×ı:=match H a with| some (.Ç [.M x,.M y])=>(x.Õ,y.Õ)| _=>(0,0)
def T7 (h:Cy H a p):pO H a=p:=by unfold pO;rw[show H a=_ from h];rfl
structure dU (H:Hp)(as:İ ĸ)(ps:İ (ı×ı)):Prop where
 at_:∀a∈as,Cy H a (pO H a)
 eq:as.L (pO H)=ps
def dU.jh (k:∀a xs,H a=į (.Ç xs)->H' a=į (.Ç xs))(h:dU H as ps):dU H' as ps:=by let e:∀a∈as,pO H' a=pO H a:=λa ha=>T7<|k a _<|h.ą a ha;show%[λa ha=>by rw[e a ha];show k a _<|h.ą a ha|by rw[<-h.eq];show d6 e]
def dU.mv (k:aB H H')(h:dU H as ps):dU H' as ps:=h.jh λa xs e=>k a _ e
def dU.app (h:dU H as ps)(g:dU H bs qs):dU H (as++bs) (ps++qs):=by
 calc%[λb d=>?_|by rw[b4,h.eq,g.eq]];rcases aT.mp d with z|z;.show h.ą b z
 .show g.ą b z
def dU.one (ha:Cy H a p):dU H [a] [p]:=%[λb d=>by rw[am.mp d,T7 ha];show ha|by rw[ww,T7 ha]]
def dU.nil:dU H [] []:=%[λa h=>by simp at h|rb]
def dU.len (h:dU H as ps):as.v=ps.v:=by rw[<-h.eq,ab]
def dU.get (h:dU H as ps)(hi:i<as.v):∃p,ps[i]?=į p/\Cy H as[i] p:=%[0,pO H as[i],by rw[<-h.eq];simp[hi]|h.ą _<|be _]
def Jb (p:ı×ı):Dt:=.Ç [.M p.1,.M p.2]
def abU:∀{as:İ ĸ},(∀a∈as,Cy H a (pO H a))->j7 K H 1 ((as.L<|pO H).L Jb) (as.L V.H):=by
 intro as h
 induction as with| nil=>show .ê| cons a as ih=>show .á (.Ç (bf.of<|h a a4)<|.á (.M _)<|.á (.M _) .ê)<|ih λx hx=>h x<|av _ hx
def frB (aj:AA)(r w:ı)(c:ı×ı):ō:=Ļ ([atC aj r w c.1 c.2]=[46])
def Bm (aj:AA)(r w:ı)(c:ı×ı):ō:=Ew aj r w c.1 c.2
def uO (aj:AA)(r w:ı):İ (ı×ı):=(cells r w).û λc=>frB aj r w c&&Bm aj r w c
def cB (aj:AA)(r w bi bj:ı):İ (ı×ı):=if isFree aj=ĳ then [(bi,bj)] else uO aj r w
def T8 (i w):cells (i+1) w=cells i w++(List.å w).L λj=>(i,j):=by unfold cells;rw[f_,oy];simp
def adV {aj:AA}{r w i j:ı}(g:Blk r w aj)(hi:i<r)(q:j<w):∃(h1:i<aj.v) (d:j<aj[i].v),atC aj r w (i:Ŀ) (j:Ŀ)=aj[i][j]:=by
 let h1:i<aj.v:=by rw[g.len];show hi
 let d:j<aj[i].v:=by rw[g.iG _ (be _)];show q
 calc%[10,h1,d|?_];unfold atC;rw[Ĺ %[eJ _,ii fv hi,yf|yf],cq,cq,ah (l:=aj),ae h1];show aj[i].Î j 0=_;rw[ah,ae d];rfl
def abV (C:ĸ):Sp:=λvs H Q _=>∃(b:Addr) (r w:Nat) (aj aN:AA) (bi bj:Nat),vs=[.H b]/\cY C H b r w aj aN bi bj/\
 ∀(p:ĸ) (as:İ ĸ) (H':Hp),aB H H'->H' p=į (.Æ<|as.L V.H)->dU H' as ((cells r w).û<|frB aj r w)->Q (.H p) H'
def yt (G:GG K mg):DF P w K mg base oE 1 (abV G.c'):=by
 calc G.am'.cH m9 ?_;intro f bA A outer s H vs Q E hr h;let(b,r,w,aj,aN,bi,bj,rfl,B,q):=h;let((dx,pr,pm,pb,hb,Y,hm,hbb),O):=B;let r9:=O.r9;let w9:=O.w9;let lZ:(Ts aj).v=r:=by rw[ab,O.br.len]
 calc%[0,_,(aC (aO (i:=1) m9.nd rb (Or.Â rb)<|dF aA)<|aC (c7 b7 rb (Kz ym G.B'<|ak (dw aG rb) aA) (mK rb<|cM (bL (i:=2) m9.nd rb<|Or.Ò rb)<|cM (bL (i:=3) m9.nd rb<|Or.Â rb) jV)<|aD<|cX<|dO cx kg ki qe aU<|ak (je (ns:=["column","sign"]) rb (gJ.of ["board","cells","row","signs"] [] yn) (Ys ym G.B'<|ak bO aA) (λ_ _ _ _ _=>(Pq K rb (show (["column","sign","board","cells","row","signs"]:İ ņ).Ö by decide +kernel) rb rb ym ym)) (λ_ _ _ _ _=>(vH<|bW sH aU (lH ym G.k')<|bQ _)) λ_ _ _ _ _=>(dz<|ak cD<|ak aG aA)) aA)<|aD<|aW aU)|?_];calc%[zsz 0|λF hF=>?_];let s0:aB H (upd H F<|HO.Æ []):=aB.ì hF;refine%[37,b,G.c',dx,_,_,rb,s0 _ _ hb,G.a'.cl,G.a'.nr|%[25,rb,pr,rb,%[_|bf.of<|s0 _ _ Y]|Hs (K:=K) (a:=pr) (xs:=Ts aj) (λi I H2=>∃(v2 v3:ĵ V) (as:İ ĸ),I=[į (.H b),į (.H F),v2,v3]/\aB H H2/\H2 F=į (.Æ<|as.L V.H)/\dU H2 as ((cells i w).û<|frB aj r w)/\as.v<=i*9)
  %[15,Ĵ,Ĵ,[],rb,s0,au,dU.ê|bE _] (λi I H2 _ h=>by let(_,_,_,_,sm,_):=h;show bf.of<|sm _ _ Y) ?_ ?_]]
 .intro i x I H2 T hx z hT;let(v2,v3,as,rfl,sm,iY,hP,hal):=z;let(l,hl,rfl):=k_ hx;let Z:i<r:=by have:=(al.mp hx).1;simp_all
  let hir:i<aj.v:=by rw[O.br.len];show Z
  let hlr:l=aj[i]:=by rw[ae hir]at hl;show(bo hl).Ð
  let QL:l.v=w:=O.br.iG _<|ax hl;let k1:aB H2 (upd H2 T<|HO.Ç [.M i,.X (S l)]):=aB.ì hT;calc%[41,T,_,rb,bf.of au,rb,_,_,rb,_,_,rb,rb|?_];let qT:=k1 _ _ iY;let Ey:=sm.À k1;let Jc:=hP.mv k1;generalize upd H2 T (HO.Ç [.M i,.X (S l)])=H3 at k1 qT Ey Jc ⊢;refine%[11,.Â %[9,rb,_|aP.of qT],l,rb|λL hL=>Vp (f:=fV [] 0) (KT:=K) (λj ys d=>∃bs:İ ĸ,ys=bs.L V.H/\bs.v<=j/\d L=į (.Æ ys)/\aB H3 d/\dU d bs (((List.å j).L λj=>(i,j)).û<|frB aj r w))
   %[13,[],rb,ai _,au,aB.ì hL|dU.ê] ?_ ?_]
  .intro j c ys d U hj z hU;let(bs,rfl,iZ,lg,M,Mw):=z;let J:j<l.v:=(al.mp hj).1;let(_,_,hat):=adV O.br Z (show j<w by simp_all);let hcj:atC aj r w (i:Ŀ) (j:Ŀ)=c:=by
    rw[hat];subst hlr;rw[ae J]at hj;show bo hj
   let k5:aB d (upd d U<|HO.Ç [.M j,.X (S [c])]):=aB.ì hU;calc%[21,U,_,_,rb,bf.of au|?_];let yr:=k5 _ _ lg;let QX:=Mw.mv k5;let s5:=M.À k5;generalize upd d U (HO.Ç [.M j,.X (S [c])])=H5 at k5 yr QX s5 ⊢;calc%[1,[c],[46],rb,rb|aZ _ rb ?_];by_cases hc:c=46
   .let D:frB aj r w (i,j)=ĳ:=by
     unfold frB;rw[hcj];show aS (by rw[hc])
    rw[aS (show [c]=[46] by rw[hc])];calc cu %[zsz 2|λg hg=>?_];let k6:aB H5 (upd H5 g<|HO.Ç [.M (i:Ŀ),.M (j:Ŀ)]):=aB.ì hg;let lu:=k6 _ _ yr;calc%[lu,by rw[ab];show aH yf|d8.mk J %[13,bs++[g],yi,by simp;show iZ,by rw[au],(s5.À k6).bB hL|?_]];rw[f_,b4,ip];have:([j].L λj=>(i,j)).û (frB aj r w)=[(i,j)]:=by simp[D]
    rw[this];show((QX.mv k6).app<|dU.one<|show Cy _ g (i,j) from au).jh<|d7 lu
   .let D:frB aj r w (i,j)=Ķ:=by
     unfold frB;rw[hcj];show aw λz=>hc (by injection z)
    rw[aw (show ¬[c]=[46] from λz=>hc (by injection z))];calc bZ<|d8.mk J %[13,bs,rb,du iZ,yr,s5|?_];rw[f_,b4,ip];have:([j].L λj=>(i,j)).û (frB aj r w)=[]:=by simp[D]
    rw[this,gy];show QX
  .intro ys d z;let(bs,rfl,iZ,lg,M,Mw):=z;let nT:=M _ _ qT;let N:=(Jc.mv M).app Mw;rw[QL]at N iZ;calc%[16,F,L,_,_,rb,rb,nT,lg,by rw[ab,ab];show ay<|aH yf|?_];calc%[15,_,_,as++bs,rb,(Ey.À M).bB hF,by rw[au,b4],?_|by simp;lia];rw[T8,ip];show N.jh<|d7 nT
 .intro I H2 z;let(v2,v3,as,rfl,sm,iY,hP,hal):=z;rw[lZ]at hP;show(q F as H2 sm iY hP)
def abW (C:ĸ):Sp:=λvs H Q _=>∃(b:Addr) (r w:Nat) (aj aN:AA) (bi bj:Nat),vs=[.H b]/\cY C H b r w aj aN bi bj/\
 ∀(p:ĸ) (as:İ ĸ) (H':Hp),aB H H'->H' p=į (.Ç<|as.L V.H)->dU H' as (cB aj r w bi bj)->Q (.H p) H'
def ZC (G:GG K mg):DF P w K mg base Ag 5 (abW G.c'):=by
 calc G.an'.cH Zb ?_;intro f bA A outer s H vs Q E hr h;let(b,r,w,aj,aN,bi,bj,rfl,B,q):=h;let(dx,_,_,_,hb,_,_,_):=id B.ex;let r9:=B.ok.r9;let w9:=B.ok.w9;calc%[0,_,(aC (cC (dJ<|nG aG G.a'.cl G.t'.m (T4 G) hr.Ø G.t'.b .ê fB) (aD<|aW<|dz<|ak (dw aG rb) aA) bN)<|aD<|aW<|cR cJ ym G.g' cz<|ak (je (ns:=["cell"]) rb (gJ.of ["board"] [] yn) (eU<|aY (yt G) hr.Ø rb<|ak aG aA) (λ_ _ _ _ _=>(pF (show (["cell","board"]:İ ņ).Ö by decide +kernel) rb ym)) (λ_ _ _ _ _=>(vH<|dJ<|aY (T6 G) hr.Ø rb<|ak aU<|ak (bK (rO K) aG aF λ_ _=>rfl)<|ak (bK (rO K) aG aF λ_ _=>rfl) aA)) λ_ _ _ _ _=>aG) aA)|?_];calc%[8,b,dx,_,rb,hb,rb|%[32,b,r,w,aj,aN,bi,bj,rb,B|λH1 s1=>(aZ _ rb ?_)]];let Y:=B.mv s1;by_cases hf:isFree aj=ĳ
 .rw[hf];let(N,pr,pm,pb,O,_,_,hpb):=id Y.ex;calc cu %[38,b,G.c',N,_,_,rb,O,G.a'.cl,G.a'.nb,rb,zsz 1|λt ht=>?_];let k:aB H1 (upd H1 t<|HO.Ç [.H pb]):=aB.ì ht;calc q t [pb] _ (s1.À k) au ?_;let e:cB aj r w bi bj=[(bi,bj)]:=Ĺ hf;rw[e];show dU.one<|show Cy _ pb (bi,bj) from k _ _ hpb
 .rw[show isFree aj=Ķ by simpa using hf];calc bZ ?_;let e:cB aj r w bi bj=uO aj r w:=ķ hf;rw[e]at q;calc%[32,b,r,w,aj,aN,bi,bj,rb,Y|λp as H2 s2 hp hP=>?_];let hal:as.v<=81:=by
   rw[hP.len];calc ap (kM _ _) ?_;have:=Xd %[r|xl r9] %[w|yf];rw[this];show ap (kM _ _) (by rw[Xc];decide)
  refine%[2,p,rb,%[_|aP.of hp]|λL hL=>Ba (K:=K) (a:=p) (f:=fV [] 0) (tt:=tB (qX (Xb G.c') [] E0<|dM (cT 1)<|dM (qN (RG K) (cT 0)<|tC<|V.M 0)<|dM (qN (RG K) (cT 0)<|tC<|V.M 1) kJ)) (te:=cT 0) (xs:=as.L V.H) (λn ys g=>∃bs:İ ĸ,ys=bs.L V.H/\bs.v<=n/\g L=į (.Æ ys)/\aB H2 g/\dU g bs ((((cells r w).û<|frB aj r w).È n).û<|Bm aj r w))
   %[13,[],rb,ai _,au,aB.ì hL|dU.ê] (λn ys g _ h=>by let(_,_,_,_,sm,_):=h;show aP.of<|sm _ _ hp) ?_ ?_]
  .intro n x ys g hx z;let(bs,rfl,Z,jC,F,M):=z;let(hn,hx):=rfg hx;subst hx;let((u,v),hc,J):=(hP.mv F).get hn;let B3:=Y.mv<|s2.À F;let hS:=bf.of (K:=K) J;calc%[5,as[n],_,_,_,rb,rb,hS,bh (j:=0) rb|%[5,as[n],_,_,_,rb,rb,hS,bh (j:=1) rb|%[10,b,r|%[32,w,aj,aN,bi,bj,(u:Ŀ),(v:Ŀ),rb,B3|λH4 D=>(aZ _ rb ?_)]]]];let lg:=D _ _ jC;by_cases d:Bm aj r w (u,v)=ĳ
   .have:Ew aj r w (u:Ŀ) (v:Ŀ)=ĳ:=d;rw[this];calc cu %[lg,by rw[ab];show aH yf|d8.mk (by rw[ab];show hn) %[13,bs++[as[n]],yi,by simp;show Z,by rw[au],(F.À D).bB hL|?_]];rw[b6,hc,ip];let e2:((į (u,v)).I).û (Bm aj r w)=[(u,v)]:=by simp[d]
    rw[e2];show((M.mv D).app<|dU.one<|D _ _ J).jh<|d7 lg
   .have:Ew aj r w (u:Ŀ) (v:Ŀ)=Ķ:=by simpa [Bm] using d
    rw[this];calc bZ<|d8.mk (by rw[ab];show hn) %[13,bs,rb,du Z,lg,F.À D|?_];rw[b6,hc,ip];let e2:((į (u,v)).I).û (Bm aj r w)=[]:=by simp[d]
    rw[e2,gy];show M.mv D
  .intro ys g z;let(bs,rfl,Z,jC,F,M):=z;rw[ab,hP.len,c6,List.filter_filter]at M;calc%[3,L,_,rb|.Â %[aP.of jC|λt ht=>?_]];let k:aB g (upd g t<|HO.Ç<|bs.L V.H):=aB.ì ht;calc q t bs _ (((s1.À s2).À F).À k) au ?_;let e3:(cells r w).û (λa=>Bm aj r w a&&frB aj r w a)=uO aj r w:=by
    unfold uO;show List.filter_congr λc _=>Bool.and_comm _ _
   rw[<-e3];show M.mv k
def adX:Sp:=λvs H Q _=>∃(p:Addr) (as:İ ĸ) (ts:İ bF),vs=[.H p]/\H p=į (.Ç<|as.L V.H)/\dI H as ts/\(∀t∈ts,qR t)/\(ts.L λt=>rk<|sw t).Ö/\ts.v<=63/\
 ∀(p':ĸ) (as':İ ĸ) (d:İ bF) (H':Hp),aB H H'->H' p'=į (.Ç<|as'.L V.H)->dI H' as' d->d.ò (ts.L sw)->(d.L rk).Ã (·<·)->Q (.H p') H'
def Cz (G:GG K mg):DF P w K mg base j_ 1 adX:=by
 calc G.aa'.cH Cd ?_;intro f bA A outer s H vs Q E hr h;let(p,as,ts,rfl,hp,Y,hok,J,h63,q):=h;calc%[0,_,(aD<|aW<|cR cJ ym G.g' cz<|ak (aX Jo ym G.s' lx<|ak (je (ns:=["row","column","sign"]) rb (gJ.of ["laying"] [] yn) (gD aG) (λ_ _ _ _ _=>(Ab K rb (show (["row","column","sign","laying"]:İ ņ).Ö by decide +kernel) rb rb rb ym ym ym)) (λ_ _ _ _ _=>dD) λ_ _ _ _ _=>(dz<|ak aU<|ak aG<|ak bw aA)) aA) aA)|?_];let bV:=Y.ď;refine%[2,p,rb,%[_|bf.of hp]|λM hM=>Dk (f:=fV [] 0) (tt:=jt) (xs:=as.L V.H) (λi ys d=>∃bs:İ ĸ,ys=bs.L V.H/\bs.v=i/\d M=į (.Æ ys)/\aB H d/\dI d bs ((ts.È i).L sw))
  %[13,[],rb,rb,au,aB.ì hM|dI.ê] (λi ys d _ h=>by let(_,_,_,_,sm,_):=h;show bf.of<|sm _ _ hp) ?_ ?_]
 .intro i x ys d hx z;let(bs,rfl,Z,D,sm,B):=z;let(hi,hx):=rfg hx;let(t,et,hT):=Y.get hi;calc JH hx.Ð (bf.of<|sm _ _ hT) ?_;calc%[zsz 3|λc g=>?_];let nM:M≠c:=λz=>by rw[<-z,D]at g;cases g
  let L:upd d c (.Ç [.M t.2.1,.M t.1,.X (S [t.2.2])]) M=į (.Æ<|bs.L V.H):=by rw[aM nM];show D
  calc%[L,by rw[ab,Z];show aH yf|d8.mk (by rw[ab];show hi) %[13,bs++[c],yi,by simp[Z],by rw[au],?_|?_]];.show(sm.bB<|sm.Ó g).bB hM
  .rw[show (ts.È<|i+1).L sw=(ts.È i).L sw++[sw t] by rw[List.take_succ,et];simp];calc dI.snoc ?_ ?_;.show(B.mv<|aB.ì g).jh<|d7 L
   .show d7 L _ _ au
 .intro ys d z;let(bs,rfl,Z,D,sm,B):=z;rw[ab]at Z;rw[de (by rw[ab];simp_all)]at B;let F:bs.L (λa=>rk<|tO d a)=ts.L λt=>rk (sw t):=by
   have:(bs.L<|tO d).L rk=(ts.L sw).L rk:=by rw[B.eq]
   rw[c8,c8]at this;show this
  let O:∀a∈bs,qR (tO d a):=λa ha=>by
   have:tO d a∈ts.L sw:=by rw[<-B.eq];show bX ha
   let(t,ht,e):=a5.mp this;rw[<-e];have:=hok t ht;show%[this.2.1,this.1|this.2.2]
  refine%[35,M,bs,λa=>rk<|tO d a,rb,aP.of D,by simp_all +arith,λa ha=>?_,by rw[F];show J|λp1 as' N pm pw=>?_]
  .have:=O a ha;show%[8,(tO d a).1,(tO d a).2.1,[.X (S [(tO d a).2.2])],B.ą a ha,by have:=this.2.1;show a7 this<|gT _ _,rb|.Ò %[_|rb]]
  .let(l1,l2):=B.perm pm;calc%[3,p1,_,rb|.Â %[aP.of au|λl hl=>?_]];let s1:aB d (upd d p1<|.Æ<|as'.L V.H):=aB.ì N;let s2:=s1.bB (o:=.Ç (as'.L V.H))<|s1.Ó hl;show q l as' _ _ (sm.À s2) au (l1.mv s2) l2 (by rw[c8];show pw)
def cO (t:bF):ı×ı:=(t.1,t.2.1)
def abX (K:W.Ì):Sp:=λvs H Q _=>∃(p:Addr) (as:İ ĸ) (ts:İ bF),vs=[.H p]/\(aP K H p (as.L V.H)\/bf K H p (as.L V.H))/\dI H as ts/\ts.v<=63/\
 ∀(p':ĸ) (bs:İ ĸ) (H':Hp),aB H H'->H p'=Ĵ->H' p'=į (.Æ<|bs.L V.H)->dU H' bs (ts.L cO)->Q (.H p') H'
def Bo (Y:GG K mg):DF P w K mg base rJ 1 (abX K):=by
 calc Y.aj'.cH Oi ?_;intro f bA A outer s H vs Q E hr h;let(p,as,ts,rfl,hp,N,h63,q):=h;calc%[0,_,(aD<|aW<|je (ns:=["row","column","sign"]) rb (gJ.of ["laying"] [] yn) ((eU aG).or<|gD aG) (λ_ _ _ _ _=>(Ab K rb (show (["row","column","sign","laying"]:İ ņ).Ö by decide +kernel) rb rb rb ym ym ym)) (λ_ _ _ _ _=>dD) λ_ _ _ _ _=>(dz<|ak aG<|ak aU aA))|?_];let bV:=N.ď;let step:∀(M:ĸ) (i:ı) (x:V) (ys:İ V) (d:Hp),H M=Ĵ->(as.L V.H)[i]?=į x->(∃bs:İ ĸ,ys=bs.L V.H/\bs.v=i/\d M=į (.Æ ys)/\aB H d/\dU d bs ((ts.È i).L cO))->
   wQ (as.L V.H).v i M (λv H Q=>∃a p q r,v=.H a/\bf K H a [p,q,r]/\Q [į p,į q,į r]) (fV [] 0) [į (V.H p)] jt (acD<|dM (cT 0)<|dM (cT 1) kJ) x d ys λys d=>∃bs:İ ĸ,ys=bs.L V.H/\bs.v=i+1/\d M=į (.Æ ys)/\aB H d/\dU d bs ((ts.È<|i+1).L cO):=by
  intro M i x ys d g hx z;let(bs,rfl,Z,J,sm,G):=z;let(hi,hx):=rfg hx;let(t,et,hT):=N.get hi;calc JH hx.Ð (bf.of<|sm _ _ hT) ?_;calc%[zsz 2|λc F=>?_];let O:M≠c:=λz=>by rw[<-z,J]at F;cases F
  let L:upd d c (.Ç [.M t.1,.M t.2.1]) M=į (.Æ<|bs.L V.H):=by rw[aM O];show J
  calc%[L,by rw[ab,Z];show aH yf|d8.mk (by rw[ab];show hi) %[13,bs++[c],yi,by simp[Z],by rw[au],?_|?_]];.show(sm.bB<|sm.Ó F).bB g
  .rw[show (ts.È<|i+1).L cO=(ts.È i).L cO++[cO t] by rw[List.take_succ,et];simp];calc dU.app ((G.mv<|aB.ì F).jh<|d7 L)<|dU.one (p:=cO t) ?_;show d7 L _ _ au
 let D:∀(M:ĸ) (ys:İ V) (d:Hp),H M=Ĵ->(∃bs:İ ĸ,ys=bs.L V.H/\bs.v=(as.L V.H).v/\d M=į (.Æ ys)/\aB H d/\dU d bs ((ts.È (as.L V.H).v).L cO))->Q (.H M) d:=by intro M ys d g z;let(bs,rfl,Z,J,sm,G):=z;rw[de (by rw[ab];simp[*])]at G;show q M bs d sm g J G
 let B:∀M:ĸ,H M=Ĵ->∀d:Hp,aB H d->(aP K H p (as.L V.H)->aP K d p (as.L V.H))/\(bf K H p (as.L V.H)->bf K d p (as.L V.H)):=λM _ d sm=>%[λz=>sm.î z|λz=>sm.acU z]
 rcases hp with hp|hp
 .refine .Â %[2,p,rb,%[_|hp]|λM g=>uW (f:=fV [] 0) (tt:=jt) (xs:=as.L V.H) (λi ys d=>∃bs:İ ĸ,ys=bs.L V.H/\bs.v=i/\d M=į (.Æ ys)/\aB H d/\dU d bs ((ts.È i).L cO))
   %[13,[],rb,rb,au,aB.ì g|dU.ê] (λi ys d _ h=>by let(_,_,_,_,sm,_):=h;show(B M g d sm).1 hp) (λi x ys d hx h=>step M i x ys d g hx h) λys d h=>D M ys d g h]
 .refine .Ò %[2,p,rb,%[_|hp]|λM g=>Dk (f:=fV [] 0) (tt:=jt) (xs:=as.L V.H) (λi ys d=>∃bs:İ ĸ,ys=bs.L V.H/\bs.v=i/\d M=į (.Æ ys)/\aB H d/\dU d bs ((ts.È i).L cO))
   %[13,[],rb,rb,au,aB.ì g|dU.ê] (λi ys d _ h=>by let(_,_,_,_,sm,_):=h;show(B M g d sm).2 hp) (λi x ys d hx h=>step M i x ys d g hx h) λys d h=>D M ys d g h]
def ZD:Sp:=λvs H Q _=>∃c:Nat,vs=[.X (S [c])]/\c<128/\Q (.X<|S [PyProof.ô.lo1 c]) H
def Mx (G:GG K mg):DF P w K mg base pU 1 ZD:=by calc G.Y'.cH Lp ?_;intro f bA A outer s H vs Q E hr h;let(c,rfl,g,q):=h;calc%[0,_,(aD<|aW<|vB cw pi pE Di aG)|?_];show%[63,rb,[c],rb,rb,by show 1<=1000;decide,λe d=>by rw[am.mp d];show g|q]
def gM (r w n:ı):İ (ı×ı):=(List.å r).ī λi=>(List.å<|w+1-n).L λj=>(i,j)
def Bp (r w n):gM (r+1) w n=gM r w n++(List.å<|w+1-n).L λj=>(r,j):=by unfold gM;rw[f_,oy];simp
def rK {r w n:ı}{c:ı×ı}:c∈gM r w n↔c.1<r/\c.2<w+1-n:=by
 unfold gM;simp only[gf,a5,b3];constructor;.intro z;let(i,hi,j,g,rfl):=z;show%[hi|g]
 .rintro⟨h1,d⟩;show%[27,c.1,h1,c.2,d|rb]
def xU (r w n):(gM r w n).v=r*(w+1-n):=by
 induction r with| zero=>simp[gM]| succ r ih=>rw[Bp,aE,ih,ab,cS,qi]
def ZF (C:ĸ):Sp:=λvs H Q _=>∃(b:Addr) (r w:Nat) (aj aN:AA) (bi bj:Nat) (l:İ ı),vs=[.H b,.X (S l)]/\cY C H b r w aj aN bi bj/\l.v<=9/\
 ∀(p:ĸ) (as:İ ĸ) (H':Hp),aB H H'->H p=Ĵ->H' p=į (.Æ<|as.L V.H)->dU H' as (gM r w l.v)->Q (.H p) H'
def Xf (G:GG K mg):DF P w K mg base xu 1 (ZF G.c'):=by
 calc G.ao'.cH uF ?_;intro f bA A outer s H vs Q E hr h;let(b,r,w,aj,aN,bi,bj,l,rfl,B,hl9,q):=h;let((dx,pr,pm,pb,hb,J,hm,hbb),O):=B;let r9:=O.r9;let w9:=O.w9;let lZ:(Ts aj).v=r:=by rw[ab,O.br.len]
 let h0:0<aj.v:=by rw[O.br.len];show O.r1
 let D:aj[0].v=w:=O.br.iG _<|be _;let at0:lV (Ts aj) 0=į (.X<|S aj[0]):=bh (j:=0)<|oR<|ae h0;calc%[0,_,(aC (aO (i:=2) uF.nd rb (Or.Â rb)<|dF aA)<|aC (c7 b7 rb (jD ym G.i'<|ak (aX bY ym G.b' bP<|ak (dw aG rb) aA) aA) (bL (i:=3) uF.nd rb<|Or.Ò rb)<|aD<|cX<|dO cx kg ki qe bw<|ak (gk rb (fY.of uF.nd yn) (jD ym G.i'<|ak (aR cZ (aR jq (aX cI ym G.b' bP<|ak (bK dN (dw aG rb) aF λ_ _=>rfl) aA)<|aX cI ym G.b' bP<|ak aU aA) aF) aA) (λ_ _ _ _ _=>dD) λ_ _ _ _ _=>(dz<|ak cD<|ak aG aA)) aA)<|aD<|aW bw)|?_];calc%[zsz 0|λF hF=>?_];let s0:aB H (upd H F<|HO.Æ []):=aB.ì hF;calc%[39,b,G.c',dx,_,_,rb,s0 _ _ hb,G.a'.cl,G.a'.nr,rb,pr,_,rb,.Ò<|bf.of<|s0 _ _ J|?_];rw[lZ];calc%[7,_,rb,eJ _,yf|?_];rw[cq];refine jE (lo:=0) (n:=r) (λi I H2=>∃(Z:ĵ V) (as:İ ĸ),I=[į (.H b),į (.X<|S l),į (.H F),Z]/\aB H H2/\H2 F=į (.Æ<|as.L V.H)/\dU H2 as (gM i w l.v))
  %[4,Ĵ,[],rb,s0,au|by simpa [gM] using dU.nil] ?_ ?_
 .intro i I H2 hi z;let(Z,as,rfl,sm,Y,N):=z;calc%[9,.Â %[9,rb,_|aP.of Y],b|%[16,G.c',dx,_,_,rb,sm _ _ hb,G.a'.cl,G.a'.nr,rb|%[17,pr,_,_,_|%[50,rb,rb,bf.of<|sm _ _ J,at0,_,rb|%[25,by rw[D];show ay<|aH yf,_,rb,ay<|aH yf|%[24,_,_,rb,rb,_,_,rb,rb|%[0,_,rb|?_]]]]]]];rw[D];calc%[yf,yf|?_];let en:((w:Ŀ)-(l.v:Ŀ)+1).Õ=w+1-l.v:=yf;rw[en];refine λL hL=>wJ (lo:=0) (n:=w+1-l.v) (λj ys d=>∃bs:İ ĸ,ys=bs.L V.H/\bs.v=j/\d L=į (.Æ ys)/\aB H2 d/\dU d bs ((List.å j).L λj=>(i,j)))
   %[13,[],rb,rb,au,aB.ì hL|dU.ê] ?_ ?_
  .intro j ys d hj z;let(bs,rfl,iZ,lg,M,Mw):=z;calc%[zsz 2|λg hg=>?_];let k6:aB d (upd d g<|HO.Ç [.M (0+(i:Ŀ)),.M (0+(j:Ŀ))]):=aB.ì hg;let lu:=k6 _ _ lg;calc%[lu,by rw[ab];show aH (by simp[cE,c9]at *;lia)|d8.mk hj %[13,bs++[g],yi,by simp;show iZ,by rw[au],(M.À k6).bB hL|?_]];rw[f_,b4];calc((Mw.mv k6).app<|dU.one (p:=(i,j)) ?_).jh<|d7 lu;show upd d g (HO.Ç [.M (0+(i:Ŀ)),.M (0+(j:Ŀ))]) g=į (.Ç [.M (i:Ŀ),.M (j:Ŀ)]);rw[au,vx,vx]
  .intro ys d z;let(bs,rfl,iZ,lg,M,Mw):=z;let nT:=M _ _ Y;let hal:=N.ď;rw[xU]at hal;let h81:i*(w+1-l.v)<=9*10:=i4 yf<|ap (i9 _ _) yf;calc%[16,F,L,_,_,rb,rb,nT,lg,by rw[ab,ab];show ay<|aH (by simp_all;lia)|?_];calc%[4,_,as++bs,rb,(sm.À M).bB hF,by rw[au,b4]|?_];rw[Bp];show((N.mv M).app Mw).jh<|d7 nT
 .intro I H2 z;let(Z,as,rfl,sm,Y,N):=z;show(q F as H2 sm hF Y N)
def oV (aj:AA)(r w i j:ı)(l:İ ı)(k:ı):ō:=Ļ (atC aj r w i ((j+k:ı):Ŀ)=46)||Ļ (PyProof.ô.lo1 (atC aj r w i ((j+k:ı):Ŀ))=l.Î k 0)
def oW (aj:AA)(r w i j:ı)(l:İ ı)(k:ı):ĵ bF:=if atC aj r w i ((j+k:ı):Ŀ)=46 then į (i,j+k,l.Î k 0) else Ĵ
def lQ (aj:AA)(r w i j:ı)(l:İ ı)(n:ı):İ bF:=(List.å n).ø (oW aj r w i j l)
def rM (aj:AA)(r w i j:ı)(l:İ ı):ō:=Ļ (atC aj r w i ((j:Ŀ)-1)=46)&&Ļ (atC aj r w i ((j:Ŀ)+(l.v:Ŀ))=46)
def b_ (aj:AA)(r w i j:ı)(l:İ ı):İ bF:=if (rM aj r w i j l&&(List.å l.v).ĝ (oV aj r w i j l))=ĳ then lQ aj r w i j l l.v else []
def xV (aj)(r w i j)(l)(n):lQ aj r w i j l (n+1)=lQ aj r w i j l n++(oW aj r w i j l n).I:=by unfold lQ;rw[f_,List.filterMap_append];congr 1
def all_succ (f:ı->ō)(n):(List.å<|n+1).ĝ f=((List.å n).ĝ f&&f n):=by rw[f_,List.all_append];simp
def Jd (aj)(r w i j)(l)(n):(lQ aj r w i j l n).v<=n:=by unfold lQ;show ap (List.length_filterMap_le _ _) (by rw[cS];show ai _)
def adY {r w bi bj:ı}{aj aN:AA}(O:Et r w aj aN bi bj)(i j:Ŀ):atC aj r w i j<128:=by
 unfold atC;split
 .rename_i h;let(h1,D,F,B):=h;let q:i.Õ<aj.v:=by rw[O.br.len];simp_all
  let d:aj.Î i.Õ []=aj[i.Õ]:=by rw[ah,ae q];rfl
  let g:j.Õ<aj[i.Õ].v:=by rw[O.br.iG _ (be _)];lia
  rw[d,ah,ae g];show JR<|O.cr _ (be _) _<|be _
 .decide
def abY (C:ĸ):Sp:=λvs H Q _=>∃(b:Addr) (r w:Nat) (aj aN:AA) (bi bj i j:Nat) (l:İ ı),vs=[.H b,.M i,.M j,.X (S l)]/\cY C H b r w aj aN bi bj/\j<1000/\l.v<=9/\
 ∀(p:ĸ) (as:İ ĸ) (H':Hp),aB H H'->H p=Ĵ->H' p=į (.Æ<|as.L V.H)->dI H' as (b_ aj r w i j l)->Q (.H p) H'
def Av (G:GG K mg):DF P w K mg base jL 4 (abY G.c'):=by
 calc G.ap'.cH gQ ?_;intro f bA A outer s H vs Q E hr h;let(b,r,w,aj,aN,bi,bj,i,j,l,rfl,B,hj,hl9,q):=h;let(dx,_,_,_,ex,_):=id B.ex;let O:=B.ok;let hz:l.v<=Ľ:=ay<|aH yf;calc%[0,_,(aC (cC (QW.qt<|wu (bW sI (lD aG G.a'.cl G.j'.m (JQ G) hr.Ø G.j'.b .ê fB<|ak aU<|ak (aR jq bw aF) aA) (lH ym G.k')<|bQ _)<|rT<|bW sI (lD aG G.a'.cl G.j'.m (JQ G) hr.Ø G.j'.b .ê fB<|ak aU<|ak (aR cZ bw<|aX cI ym G.b' bP<|ak bO aA) aA) (lH ym G.k')<|bQ _) (aD<|aW<|dF aA) bN)<|aC (aO (i:=4) gQ.nd rb (Or.Â rb)<|dF aA)<|aC (c7 b7 rb (Y_ ym G.B' bO bw) (mK rb<|cM (bL (i:=5) gQ.nd rb<|Or.Â rb)<|cM (bL (i:=6) gQ.nd rb<|Or.Â rb) jV)<|aC (aO (i:=7) gQ.nd rb (Or.Â rb)<|lD aG G.a'.cl G.j'.m (JQ G) hr.Ø G.j'.b .ê fB<|ak aU<|ak cV aA)<|aD<|cC (bW sH iJ (lH ym G.k')<|bQ _) (aD<|cX<|dO cx eD eI fU cD<|ak (dz<|ak aU<|ak cV<|ak fj aA) aA)<|aD<|cC (bW sI (aY (Mx G) hr.Ø rb<|ak iJ aA) fj<|bQ _) (aD<|aW<|dF aA) bN)<|aD<|aW cD)|?_];let d:b_ aj r w i j l=[]->∀(H':Hp),aB H H'->(0<=Ľ)/\∀p,H' p=Ĵ->Q (.H p) (upd H' p<|.Æ []):=λe H' sm=>%[yk|λp hp=>q p [] _ (sm.bB<|sm.Ó hp) (sm.Ó hp) au (by rw[e];show dI.ê)]
 calc%[21,b,dx,_,rb,ex|%[14,rb,_,_,rb,rb|%[10,b,r|%[32,w,aj,aN,bi,bj,_,_,rb,B|%[1,_,_,rb,rb|aZ _ rb ?_]]]]];by_cases M:atC aj r w (i:Ŀ) ((j:Ŀ)-1)=46
 .rw[aS (show [atC aj r w (i:Ŀ) ((j:Ŀ)-1)]=[46] by rw[M])];calc bZ %[8,b,dx,_,rb,ex,rb|%[33,l,rb,hz,_,_,rb,rb|%[10,b,r|%[32,w,aj,aN,bi,bj,_,_,rb,B|%[1,_,_,rb,rb|aZ _ rb ?_]]]]];by_cases N:atC aj r w (i:Ŀ) ((j:Ŀ)+(l.v:Ŀ))=46
  .rw[aS (show [atC aj r w (i:Ŀ) ((j:Ŀ)+(l.v:Ŀ))]=[46] by rw[N])];calc bZ ?_;let he:rM aj r w i j l=ĳ:=by unfold rM;rw[aS M,aS N];rfl
   calc%[zsz 0|λF hF=>?_];let s0:aB H (upd H F<|HO.Æ []):=aB.ì hF;refine%[4,l,j,rb,rb,hj|Wr (l:=l) (k:=j) (λn I H2=>∃(v5 v6 v7:ĵ V) (as:İ ĸ),I=[į (.H b),į (.M i),į (.M j),į (.X<|S l),į (.H F),v5,v6,v7]/\aB H H2/\H2 F=į (.Æ<|as.L V.H)/\dI H2 as (lQ aj r w i j l n)/\(List.å n).ĝ (oV aj r w i j l)=ĳ)
    %[5,Ĵ,Ĵ,Ĵ,[],rb,s0,au,dI.ê|rb] ?_ ?_]
   .intro n c I H2 T hn z hT;let(v5,v6,v7,as,rfl,sm,iY,hL,ha):=z;let hnl:n<l.v:=(al.mp hn).1;let ec:l.Î n 0=c:=by rw[ah,hn];rfl
    let k1:aB H2 (upd H2 T<|HO.Ç [.M ((j+n:ı):Ŀ),.X (S [c])]):=aB.ì hT;calc%[41,T,_,rb,bf.of au,rb,_,_,rb,_,_,rb,rb|?_];let L:=k1 _ _ iY;let D:=sm.À k1;let Z:=hL.mv k1;generalize upd H2 T (HO.Ç [.M ((j+n:ı):Ŀ),.X (S [c])])=H3 at k1 L D Z ⊢;let B3:=B.mv D;let bV:=Z.ď;let htl:=Jd aj r w i j l n;calc%[8,b,dx,_,rb,D _ _ ex,rb|%[10,b,r|%[32,w,aj,aN,bi,bj,_,_,rb,B3|?_]]];calc%[1,[atC aj r w (i:Ŀ) ((j+n:ı):Ŀ)],[46],rb,rb|aZ _ rb ?_];by_cases J:atC aj r w (i:Ŀ) ((j+n:ı):Ŀ)=46
    .rw[aS (show [atC aj r w (i:Ŀ) ((j+n:ı):Ŀ)]=[46] by rw[J])];calc cu %[.Â %[9,rb,_|aP.of L],zsz 3|λg hg=>?_];let k4:aB H3 (upd H3 g<|HO.Ç [.M (i:Ŀ),.M ((j+n:ı):Ŀ),.X (S [c])]):=aB.ì hg;let nT:=k4 _ _ L;calc%[15,F,_,_,rb,rb,nT,by rw[ab];show aH yf|?_];refine%[5,_,_,_,as++[g],rb,(D.À k4).bB hF,by rw[au,b4];rfl,?_|?_]
     .rw[xV];let et:oW aj r w i j l n=į (i,j+n,c):=by unfold oW;rw[Ĺ J,ec]
      rw[et];show((Z.mv k4).snoc (t:=(i,j+n,c)) au).jh<|d7 nT
     .rw[all_succ,ha];show oV aj r w i j l n=ĳ;unfold oV;rw[aS J];rfl
    .rw[aw (show ¬[atC aj r w (i:Ŀ) ((j+n:ı):Ŀ)]=[46] from λz=>J (by injection z))];calc bZ %[33,_,rb,adY O _ _,[PyProof.ô.lo1 (atC aj r w (i:Ŀ) ((j+n:ı):Ŀ))],[c],rb,rb|aZ _ rb ?_];by_cases Y:PyProof.ô.lo1 (atC aj r w (i:Ŀ) ((j+n:ı):Ŀ))=c
     .rw[aS (show [PyProof.ô.lo1 (atC aj r w (i:Ŀ) ((j+n:ı):Ŀ))]=[c] by rw[Y])];refine bZ %[5,_,_,_,as,rb,D,L,?_|?_]
      .rw[xV];let et:oW aj r w i j l n=Ĵ:=by unfold oW;rw[ķ J]
       rw[et];simpa using Z
      .rw[all_succ,ha];show oV aj r w i j l n=ĳ;unfold oV;rw[ec,aS Y,Bool.or_true]
     .rw[aw (show ¬[PyProof.ô.lo1 (atC aj r w (i:Ŀ) ((j+n:ı):Ŀ))]=[c] from λz=>Y (by injection z))];calc cu<|d ?_ H3 D;unfold b_;rw[if_neg];intro z;let z2:=(dP _ _ ▸ z).2;rw[iE]at z2;let z3:=z2 n<|b3.Ù hnl;unfold oV at z3;rw[aw J,ec,aw Y]at z3;show ŀ z3 yk
   .intro I H2 z;let(v5,v6,v7,as,rfl,sm,iY,hL,ha):=z;calc(q F as H2 sm hF iY ?_);let e:b_ aj r w i j l=lQ aj r w i j l l.v:=by unfold b_;rw[he,ha];show Ĺ rfl
    rw[e];show hL
  .rw[aw (show ¬[atC aj r w (i:Ŀ) ((j:Ŀ)+(l.v:Ŀ))]=[46] from λz=>N (by injection z))];calc cu<|d ?_ H<|aB.Č _;unfold b_ rM;rw[aw N,ml,mh];show ķ yk
 .rw[aw (show ¬[atC aj r w (i:Ŀ) ((j:Ŀ)-1)]=[46] from λz=>M (by injection z))];calc cu<|d ?_ H<|aB.Č _;unfold b_ rM;rw[aw M,mh,mh];show ķ yk
def qK (c:ı×ı):İ Key:=[Sum.Â (c.1:Ŀ),Sum.Â (c.2:Ŀ)]
def ZG (h:qK a=qK b):a=b:=by unfold qK at h;injection h with h1 h2;injection h2 with h2 _;injection h1 with h1;injection h2 with h2;show wf (ny h1)<|ny h2
def QZ {κ:Type} [Ŏ κ] (kvs:İ (κ×V))(k:κ)(v):(putK kvs k v).v<=kvs.v+1:=by
 unfold putK;split;.rw[ab];show di _ _
 .simp
def ZJ (d:H M=į (.dT ks)):∀a xs,H a=į (.Ç xs)->upd H M (.dT ks') a=į (.Ç xs):=λa xs e=>by
 let ne:a≠M:=λz=>by rw[z,d]at e;cases e
 rw[aM ne];show e
def oX (ws aj:AA)(c:ı×ı):İ ı:=jT ws (lineOf aj c.1 c.2 1) (placeOf c.1 c.2 1)
def pY (aj:AA)(r w:ı):İ (ı×ı):=(cells r w).û (frB aj r w)
def CG {aj:AA}{r w:ı}{c:ı×ı}:c∈pY aj r w↔(c.1<r/\c.2<w)/\atC aj r w c.1 c.2=46:=by
 unfold pY;rw[fc];unfold frB;rw[i6];constructor
 .rintro⟨h1,d⟩;show%[by simp only[cells,gf,a5,b3]at h1;let(i,hi,j,g,rfl):=h1;show%[hi|g]|by injection d]
 .rintro⟨h1,d⟩;show%[by simp only[cells,gf,a5,b3];show%[27,c.1,h1.1,c.2,h1.2|rb]|by rw[d]]
def ZK {aj:AA}{r w:ı}(r9:r<=9)(w9:w<=9):(pY aj r w).v<=81:=by
 unfold pY;calc ap (kM _ _) ?_;have:(cells r w).v=r*w:=by
  unfold cells
  induction r with| zero=>simp| succ r ih=>rw[f_,oy,aE,ih (ay r9)];simp[qi]
 rw[this];show i4 r9 w9
def adZ (C CB:ĸ):Sp:=λvs H Q _=>∃(b k d:Addr) (ws:AA) (r w:Nat) (aj aN:AA) (bi bj:Nat),vs=[.H b,.H k]/\cY C H b r w aj aN bi bj/\dZ CB H k d ws/\
 ∀(p:ĸ) (kvs:İ (İ Key×V)) (H':Hp),aB H H'->H p=Ĵ->H' p=į (.dT kvs)->(∀c∈pY aj r w,cF kvs (qK c)=į (.X<|S<|oX ws aj c))->Q (.H p) H'
def Ez (L:GG K mg):DF P w K mg base lN 11 (adZ L.c' L.d'):=by
 calc L.aq'.cH kj ?_;intro f bA A outer s H vs Q E hr h;let(b,k,d,ws,r,w,aj,aN,bi,bj,rfl,B,BK,q):=h;let hu:=mX hr;calc%[0,_,(aC (aO (i:=2) kj.nd rb (Or.Â rb) BP)<|aC (c7 b7 rb (eU<|aY (yt L) hr.Ø rb<|ak aG aA) (mK rb<|cM (bL (i:=3) kj.nd rb<|Or.Â rb)<|cM (bL (i:=4) kj.nd rb<|Or.Â rb) jV)<|aD<|pD hu bw (dz<|ak bO<|ak cD aA) (aY (Cw L) hr.Ø rb<|ak aG<|ak aU<|ak bO<|ak cD<|ak aF aA) rb)<|aD<|aW bw)|?_];intro F hF;let s0:aB H (upd H F<|HO.dT []):=aB.ì hF;let qU:upd H F (HO.dT []) F=į (.dT []):=au;generalize upd H F (HO.dT [])=H0 at s0 qU ⊢;calc%[32,b,r,w,aj,aN,bi,bj,rb,B.mv s0|λp as H1 s1 hp hP=>?_];let Q0:=s1 _ _ qU;let npF:p≠F:=λz=>by rw[z,Q0]at hp;cases hp
 let hal:as.v<=81:=by rw[hP.len];show ZK B.ok.r9 B.ok.w9
 let hpL:(cells r w).û (frB aj r w)=pY aj r w:=rfl;rw[hpL]at hP;refine%[2,p,rb,%[_|aP.of hp]|jH (K:=K) (a:=p) (xs:=as.L V.H) (λn I H2=>∃(Z v4:ĵ V) (kvs:İ (İ Key×V)),I=[į (.H b),į (.H k),į (.H F),Z,v4]/\aB H H2/\H2 p=į (.Æ<|as.L V.H)/\dU H2 as (pY aj r w)/\H2 F=į (.dT kvs)/\kvs.v<=n/\∀c∈(pY aj r w).È n,cF kvs (qK c)=į (.X<|S<|oX ws aj c))
  %[46,Ĵ,Ĵ,[],rb,s0.À s1,hp,hP,Q0,ai _|λc hc=>by simp at hc] (λn I H2 _ h=>by let(_,_,_,_,_,h2,_):=h;show aP.of h2) ?_ ?_]
 .intro n x I H2 hx z;let(Z,v4,kvs,rfl,sm,M,G,iY,J,D):=z;let(hi,hx):=rfg hx;subst hx;let(c,ec,hc):=G.get hi;let N:=CG.mp<|ax ec;calc%[41,as[n],_,rb,bf.of hc,rb,_,_,rb,_,_,rb,rb|?_];calc%[18,b,k,d|%[17,ws,r,w,aj|%[48,aN,bi,bj,c.1,c.2,1,rb,B.mv sm,BK.same sm,N.1.1,N.1.2,.Ò rb|λH3 Y=>?_]]];calc%[zsz 2|λg hg=>?_];let O:aB H3 (upd H3 g<|HO.Ç [.M (c.1:Ŀ),.M (c.2:Ŀ)]):=aB.ì hg;let nT:=O _ _<|Y _ _ iY;calc%[1,F,_,rb,n8.t (k:=qK c) nT au<|aH yf|?_];calc%[46,_,_,putK kvs (qK c) _,rb,((sm.À Y).À O).bB hF,by rw[aM npF];show O _ _<|Y _ _ M,((G.mv Y).mv O).jh<|ZJ nT,au,ap (QZ _ _ _)<|e6 J|λe he=>?_];rw[wG];by_cases z:qK e=qK c;.rw[Ĺ z,ZG z];rfl
  .rw[ķ z];rw[b6,ec]at he;rcases aT.mp he with y|y;.show D e y
   .have:e=c:=by simpa using y
    show ŀ (by rw[this]) z
 .intro I H2 z;let(Z,v4,kvs,rfl,sm,M,G,iY,J,D):=z;rw[ab,G.len,c6]at D;show(q F kvs H2 sm hF iY D)
def jO (fit:ı×ı->İ ı)(hk:İ (ı×ı))(ts:İ bF):ō:=(Ļ (1<=ts.v)&&Ļ (ts.v<=7))&&(ts.ĝ (λt=>Ļ<|t.2.2∈fit (cO t))&&ts.Ğ (λt=>Ļ<|cO t∈hk))
def abZ (h:Jb a=Jb b):a=b:=by unfold Jb at h;injection h with h;injection h with h1 h2;injection h2 with h2 _;injection h1 with h1;injection h2 with h2;show wf (ny h1)<|ny h2
def ab0 {hk:İ (ı×ı)}:Jb c∈hk.L Jb↔c∈hk:=%[λh=>by let(d,hd,e):=a5.mp h;rw[<-abZ e];show hd|λh=>bX h]
def ae1 (K:W.Ì):Sp:=λvs H Q _=>∃(p d j:Addr) (as bs:İ ĸ) (ts:İ bF) (kvs:İ (İ Key×V)) (fit:ı×ı->İ ı) (hk:İ (ı×ı)),vs=[.H p,.H d,.H j]/\H p=į (.Æ<|as.L V.H)/\dI H as ts/\ts.v<=63/\H d=į (.dT kvs)/\(∀t∈ts,cF kvs (qK<|cO t)=į (.X<|S<|fit<|cO t))/\
 H j=į (.Ç<|bs.L V.H)/\dU H bs hk/\∀H',aB H H'->Q (.bl<|jO fit hk ts) H'
def Gy (J:GG K mg):DF P w K mg base m_ 2 (ae1 K):=by
 calc J.ar'.cH vV ?_;intro f bA A outer s H vs Q E hr h;let(p,d,j,as,bs,ts,kvs,fit,hk,rfl,hp,hL,h63,hd,hkv,hj,hJ,q):=h;let hu:=mX hr;let hal:=hL.ď;let N:(as.L V.H).v=ts.v:=by rw[ab];show hal
 calc%[0,_,(aC (cC (fK<|wC mW mW aF (aX bY ym J.b' bP<|ak aG aA)<|R6 ym J.V') (aD<|aW gG) bN)<|aC (cC (fK<|dJ<|aX (nH rb) ym J.o' nQ<|ak (je (ns:=["row","column","letter"]) rb (gJ.of ["triples","fitting","joining"] [] yn) (eU aG) (λ_ _ _ _ _=>(Ab K rb (show (["row","column","letter","triples","fitting","joining"]:İ ņ).Ö by decide +kernel) rb rb rb ym ym ym)) (λ_ _ _ _ _=>dD) λ_ _ _ _ _=>(fZ Kl bw (Ft hu cD (dz<|ak aG<|ak aU aA) λ_ _=>rfl) rb)) aA) (aD<|aW gG) bN)<|aD<|aW<|aX (KC rb) ym J.L' Hh<|ak (gk rb (fY.of vV.nd yn) (eU<|aY (Bo J) hr.Ø rb<|ak aG aA) (λ_ _ _ _ _=>dD) λ_ _ _ _ _=>(fZ (abn K hr.ß) aG bO rb)) aA)|?_];calc%[24,p,_,rb,.Â<|aP.of hp,_,_,rb,rb|aZ _ rb ?_];rw[N];let no:jO fit hk ts=Ķ->Q (.bl Ķ) H:=λe=>by have:=q H<|aB.Č _;rw[e]at this;show this
 by_cases c1:1<=ts.v
 .rw[aS (show (1:Ŀ)<=(ts.v:Ŀ) from ii sx c1)];calc cu %[1,_,_,rb,rb|aZ _ rb ?_];by_cases c2:ts.v<=7
  .rw[aS (show (ts.v:Ŀ)<=7 from ii sx c2)];calc bZ ?_;refine%[2,p,rb,%[_|aP.of hp]|λL yq=>uW (f:=fV [] 0) (tt:=jt) (xs:=as.L V.H) (λi ys B=>ys=((ts.È i).L λt=>Ļ<|t.2.2∈fit (cO t)).L V.bl/\B L=į (.Æ ys)/\aB H B)
    %[rb,au|aB.ì yq] (λi ys B _ h=>aP.of<|h.2.2 _ _ hp) ?_ ?_]
   .intro i x ys B hx z;let(rfl,lu,sm):=z;let(hi,hx):=rfg hx;let(t,et,hT):=hL.get hi;calc JH hx.Ð (bf.of<|sm _ _ hT) ?_;calc%[zsz 2|λg hg=>?_];let k4:aB B (upd B g<|HO.Ç [.M (t.1:Ŀ),.M (t.2.1:Ŀ)]):=aB.ì hg;let Y:=jJ.t (k:=qK (cO t)) (k4 _ _<|sm _ _ hd)<|show upd B g (HO.Ç [.M (t.1:Ŀ),.M (t.2.1:Ŀ)]) g=į (.Ç<|(qK<|cO t).L kV) from au;rw[hkv t (ax et)]at Y;calc%[1,d,_,rb,Y|%[6,_,_,rb,rb,k4 _ _ lu,?_|d8.mk (by rw[ab];show hi) %[?_,au|(sm.À k4).bB yq]]];.rw[ab,ab,ba];show aH (by grind)
    .rw[b6,et];simp
   .intro ys B z;let(rfl,lu,sm):=z;rw[N,c6]at lu;calc%[1,L,_,rb,aP.of lu|aZ _ rb ?_];rw[List.all_map];by_cases c3:ts.ĝ (λt=>Ļ<|t.2.2∈fit (cO t))=ĳ
    .rw[show (ts.ĝ<|id ∘ λt=>Ļ (t.2.2∈fit (cO t)))=ĳ from c3];calc bZ ?_;let uz:=sm _ _ hp;calc%[15,p,as,ts,rb,.Â<|aP.of uz,hL.mv sm,h63|λp7 cs H7 s7 hn7 Mz Z=>?_];let D:=sm.À s7;let hcl:cs.v=ts.v:=by rw[Z.len,ab]
     refine%[2,p7,rb,%[_|aP.of Mz]|λM hM=>uh (K:=K) (a:=p7) (xs:=cs.L V.H) (λi ys F=>ys=((ts.È i).L λt=>Ļ<|cO t∈hk).L V.bl/\F M=į (.Æ ys)/\aB H7 F)
      %[rb,au|aB.ì hM] (λi ys F _ h=>aP.of<|h.2.2 _ _ Mz) ?_ ?_]
     .intro i x ys F hx z;let(rfl,MJ,G):=z;let(hi,hx):=rfg hx;subst hx;let(c,ec,hc):=Z.get hi;obtain⟨t,et,rfl⟩:∃t,ts[i]?=į t/\cO t=c:=by
       rw[a_]at ec;show g9.mp ec
      let O:=(hJ.mv D).mv G;let hj8:=G _ _<|D _ _ hj;refine%[35,2,Jb<|cO t,hk.L Jb,yk,.Ç (bf.of<|G _ _ hc)<|.á (.M _)<|.á (.M _) .ê,?_,MJ,?_|d8.mk (by rw[ab];show hi) %[?_,au|G.bB hM]]
      .rw[<-O.eq];show .Ç (bf.of hj8)<|abU O.ą
      .rw[ab,ab,ba];show aH (by grind)
      .rw[b6,et,b4,b4];congr 1;show [V.bl _]=[V.bl _]
       congr 2;show om.Ù ab0
     .intro ys F z;let(rfl,MJ,G):=z;rw[ab,hcl,c6]at MJ;calc%[1,M,_,rb,aP.of MJ|?_];rw[List.any_map];let e:jO fit hk ts=ts.Ğ (id ∘ λt=>Ļ (cO t∈hk)):=by
       unfold jO;rw[aS c1,aS c2,c3];rfl
      rw[<-e];show q F<|D.À G
    .rw[show (ts.ĝ<|id ∘ λt=>Ļ (t.2.2∈fit (cO t)))=Ķ from tj.Ù c3];calc cu ?_;have:=q B sm;let e:jO fit hk ts=Ķ:=by
      unfold jO;rw[tj.Ù c3,mh,ml]
     rw[e]at this;show this
  .rw[aw (show ¬(ts.v:Ŀ)<=7 by lia)];calc cu<|no ?_;unfold jO;rw[aw c2,ml,mh]
 .rw[aw (show ¬(1:Ŀ)<=(ts.v:Ŀ) by simp_all)];calc bZ<|no ?_;unfold jO;rw[aw c1,mh,mh]
def eN:İ ı->İ ı->İ (İ ı)
 | [],_=>[[]]
 | c::ls,rk=>(if c∈rk then (eN ls<|rk.Đ c).L (c :: ·) else [])++(if 63∈rk then (eN ls<|rk.Đ 63).L (PyProof.ô.up1 c :: ·) else [])
def Ao (h:isLet c):PyProof.ô.up1 c=c-32/\dh (PyProof.ô.up1 c)=63/\dh c=c/\c<128/\PyProof.ô.up1 c<128:=by let h1:=h.1;let d:=h.2;let e:PyProof.ô.up1 c=c-32:=Ĺ<|show 97<=c/\c<=122 from h;rw[e];show%[rb,Ĺ %[fo yf|kU d _],ķ yf,yf|iN yf]
theorem vY:∀(ls rk:İ ı) {t:İ ı},t∈eN ls rk->t.v=ls.v
 | [],_,t,h=>by rw[am.mp h]
 | c::ls,rk,t,h=>by
  unfold eN at h;rcases aT.mp h with z|z
  .split at z
   .let(u,d,rfl):=a5.mp z;simp[vY ls _ d]
   .simp at z
  .split at z
   .let(u,d,rfl):=a5.mp z;simp[vY ls _ d]
   .simp at z
def ab1 {c:ı}{ls rk:İ ı}(h:c∈rk):(eN ls<|rk.Đ c).v<=(eN (c::ls) rk).v:=by rw[eN,Ĺ h,aE,ab];show di _ _
def ab2 {c:ı}{ls rk:İ ı}(h:63∈rk):(eN ls<|rk.Đ 63).v<=(eN (c::ls) rk).v:=by rw[eN,Ĺ h,aE,ab (as:=eN ls (rk.Đ 63))];show gT _ _
def uQ (o:ı):Sp:=λvs H Q _=>∃(ls rk:İ ı),vs=[.X (S ls),.X (S rk)]/\(∀c∈ls,isLet c)/\ls.v<o/\o<=10/\rk.v<=100/\(eN ls rk).v<=900/\
 ∀(p:ĸ) (H':Hp),aB H H'->H p=Ĵ->H' p=į (.Æ<|Ts<|eN ls rk)->Q (.H p) H'
def ZL (D:q_ K mg name st ps)(d:∀vs H Q E,¬sp vs H Q E):Df P w K mg base name k ps sp:=by let(f,fd,F,b,g):=D.ex;show%[f,fd,%[λvs H Q E h=>ŀ h<|d vs H Q E|λA outer s H args us vs Q E _ _ _ _ h=>ŀ h<|d vs H Q E],b,g|F.kp]
def Oq (c:ı)(ts:AA)(n:ı){t:İ ı}(h:ts[n]?=į t):Ts ((ts.È<|n+1).L (c :: ·))=Ts ((ts.È n).L (c :: ·))++[V.X (S<|[c]++t)]:=by rw[b6,h,b4];show(jX _ _).Ð
def MN (hk:1<=k)(D:q_ K mg "sign_texts" jA ["letters","rack"])(T:DW P w K mg base f fd)(bT:j6 K fd ["sign"] [])(mT:mg "tile_of"=į (.H f))(kT:W.ĩ K (.H f)=ĳ)(MP:Df P w K mg base "sign_texts" k ["letters","rack"] (uQ o)):Df P w K mg base "sign_texts" (k+1) ["letters","rack"] (uQ<|o+1):=by
 calc D.cH ni λf' bA A outer s H vs Q E hr h=>?_;let(ls,rk,rfl,G,B,ho,hrk,Z,q):=h;let Y:Tj (rZ ug P w K mg base ["letters","rack","texts","sign","tile","left"] "sign_texts" (aJ jA) f' bA A outer s H E).GX 1 3 4 5 f fd:=%[ni.nd,rb,rb,rb,rb,.Â rb,.Ò rb,.Â rb,.Â rb,rb,rb,rb,T,bT,mT,kT,rb|hr.Ø hk]
 refine%[0,_,aC (cC (bW sH aG (bU [] yo)<|bQ _) (aD<|aW<|dF<|ak (bU [] yo) aA) bN)
  (aC (aO (i:=2) ni.nd rb (Or.Â rb)<|dF aA)
  (aC (adz Y yo b7 rb (aar aG λ_ _=>rfl) (aeL<|aar aG λ_ _=>rfl) rb rb rb rb (λ_=>rfl)
  <|aD<|cX<|dO cx kg ki qe bw<|ak (gk rb (fY.of ni.nd yn) (eU<|aY MP hr rb<|ak (f9 wK aG (fQ aF) jU)<|ak cV aA) (λ_ _ _ _ _=>dD) λ_ _ _ _ _=>(aR h_ cD aG)) aA)
 <|aD<|aW bw))|?_]
 refine%[1,_,_,rb,rb|aZ _ rb ?_]
 match ls,G,B,Z,q with
 | [],G,B,Z,q=>rw[aS rfl];show cu %[zsz 1|λp hp=>q p _ (aB.ì hp) hp au]
 | c::ls,G,B,Z,q=>
  rw[aw (show ¬c::ls=[] from λz=>by cases z)];calc bZ %[zsz 0|λF hF=>?_];let(u1,u2,u3,u4,u5):=Ao (G c a4);let hl':∀d∈ls,isLet d:=λd hd=>G d<|av _ hd;let hlo':ls.v<o:=by simp at B;show B
  let hz:(c::ls).v<=Ľ:=ay<|aH yf;let s0:aB H (upd H F<|HO.Æ []):=aB.ì hF;let qU:upd H F (HO.Æ []) F=į (.Æ []):=au;generalize upd H F (HO.Æ [])=H0 at s0 qU ⊢;let one:∀(d:ı) (H2:Hp) (ts:AA) (Dn:St->Hp->Prop) (Dr:VK),aB H H2->H2 F=į (.Æ<|Ts ts)->dh d∈rk->ts.v<=900->(eN ls<|rk.Đ<|dh d).v<=900->
    (∀J,aB H J->J F=į (.Æ (Ts (ts++(eN ls<|rk.Đ<|dh d).L (d :: ·))))->Dn [į (.X<|S<|c::ls),į (.X<|S rk),į (.H F),į (.X<|S [d]),į (.X<|S [dh d]),į (.X<|S<|rk.Đ<|dh d)] J)->
    (Jy<|U6 K "list" zX (cT 2)<|dM (JD (Jz K<|qX (uQ o) [] E0<|dM (tSl RP (cT 0) (JC<|tC<|V.M 1) zT)<|dM (cT 5) kJ) jt<|qN Aa (cT 4)<|cT 0) kJ) {nx:=Dn,rt:=Dr} [į (.X<|S<|c::ls),į (.X<|S rk),į (.H F),į (.X<|S [d]),į (.X<|S [dh d]),į (.X<|S<|rk.Đ<|dh d)] H2:=by
   intro d H2 ts Dn Dr sm iY cg h9 h9' nx;let af5:jZ (c::ls) (į 1) Ĵ=ls:=by rw[show (1:Ŀ)=((1:ı):Ŀ) from rb,kZ];rfl
   let h10:ls.v<=10:=yf;calc%[9,.Â %[9,rb,_|aP.of iY],_|%[25,rb,c::ls,rb,hz|%[26,ls,rk.Đ<|dh d,by rw[af5];rfl,hl',hlo',ay ho,ap qE hrk,h9'|λp J O hn3 hp3=>?_]]];let qT:=O _ _ iY;refine%[2,p,rb,%[_|aP.of hp3]|λL hL=>uh (K:=K) (a:=p) (xs:=Ts (eN ls<|rk.Đ<|dh d)) (λi ys H4=>ys=Ts (((eN ls<|rk.Đ<|dh d).È i).L (d :: ·))/\H4 L=į (.Æ ys)/\aB J H4)
    %[rb,au|aB.ì hL] (λi ys H4 _ h=>aP.of<|h.2.2 _ _ hp3) ?_ ?_]
   .intro i x ys H4 hx z;let(rfl,lg,s4):=z;let(t,ht,rfl):=k_ hx;let hil:i<(Ts<|eN ls<|rk.Đ<|dh d).v:=(al.mp hx).1;let htl:=vY _ _<|ax ht;calc%[23,[d],t,rb,rb,ay<|aH (by simp;lia),lg,?_|d8.mk hil %[?_,au|s4.bB hL]];.rw[ab,ab,ba];show aH yf
    .show(Oq d _ i ht).Ð
   .intro ys H4 z;let(rfl,lg,s4):=z;rw[ab,c6]at lg;let nT:=s4 _ _ qT;refine%[16,F,L,_,_,rb,rb,nT,lg,?_|nx _ (((sm.À O).À s4).bB hF) ?_]
    .rw[ab,ab,ab];show ap (Nat.add_le_add h9 h9') yk
    .rw[au];unfold Ts;rw[b4]
  calc%[15,S<|c::ls,0,c,rb,rb,by rw[iI];show hz,bh (j:=0) rb|?_];calc%[15,S<|c::ls,0,c,rb,rb,by rw[iI];show hz,bh (j:=0) rb|%[33,c,rb,u4,c,PyProof.ô.up1 c,rb,rb|?_]];let two:∀(H2:Hp) (ts:AA) (v4 v5 v6:ĵ V),aB H H2->H2 F=į (.Æ<|Ts ts)->ts=(if c∈rk then (eN ls<|rk.Đ c).L (c :: ·) else [])->
    uZ 1 3 4 5 (Jy<|U6 K "list" zX (cT 2)<|dM (JD (Jz K<|qX (uQ o) [] E0<|dM (tSl RP (cT 0) (JC<|tC<|V.M 1) zT)<|dM (cT 5) kJ) jt<|qN Aa (cT 4)<|cT 0) kJ) (PyProof.ô.up1 c) {nx:=XD (cT 2) {nx:=λx H'=>Q V.đ H',rt:=Q},rt:=Q} [į (.X<|S<|c::ls),į (.X<|S rk),į (.H F),v4,v5,v6] H2:=by
   intro H2 ts v4 v5 v6 sm iY M;let af6:ts.v<=(eN (c::ls) rk).v:=by rw[eN,<-M,aE];show di _ _
   calc%[2,rk,rb,yf|?_];by_cases g:63∈rk
   .rw[Ĺ (by rw[u2];show g)];refine one (PyProof.ô.up1 c) H2 ts _ _ sm iY (by rw[u2];show g) (ap af6 Z) (by rw[u2];show ap (ab2 g) Z) λJ O qT=>(q F J O hF ?_)
    rw[qT,u2,eN,Ĺ g,M]
   .rw[ķ (by rw[u2];show g)];calc(q F H2 sm hF ?_);rw[iY,eN,ķ g,M,gy]
  calc%[2,rk,rb,yf|?_];rw[u3];by_cases N:c∈rk
  .rw[Ĺ N];have:=one c H0 [] (uZ 1 3 4 5 (Jy<|U6 K "list" zX (cT 2)<|dM (JD (Jz K<|qX (uQ o) [] E0<|dM (tSl RP (cT 0) (JC<|tC<|V.M 1) zT)<|dM (cT 5) kJ) jt<|qN Aa (cT 4)<|cT 0) kJ) (PyProof.ô.up1 c) {nx:=XD (cT 2) {nx:=λx H'=>Q V.đ H',rt:=Q},rt:=Q}) Q s0 qU (by rw[u3];show N) (by show 0<=900;decide) (by rw[u3];show ap (ab1 N) Z) λJ O qT=>two J _ _ _ _ O qT (by rw[u3,Ĺ N];rfl);rw[u3]at this;show this
  .rw[ķ N];show two H0 [] _ _ _ s0 qU (by rw[ķ N])
def Jw (G:GG K mg):DF P w K mg base jA 9 (uQ 8):=by
 let(f,fd,F,b,m):=G.Z'.ex;let T:DW P w K mg base f fd:=abm F Tq rb rb yo yo yo;let d:Df P w K mg base "sign_texts" 1 ["letters","rack"] (uQ 0):=ZL G.P' λvs H Q E h=>by let(ls,rk,_,_,h,_):=h;show ŀ h<|lh _
 let st:=λo k hk (h:Df P w K mg base "sign_texts" k ["letters","rack"] (uQ o))=>MN (o:=o) (k:=k) hk G.P' T b m F.kp h;show st 7 8 yk<|st 6 7 yk<|st 5 6 yk<|st 4 5 yk<|st 3 4 yk<|st 2 3 yk<|st 1 2 yk<|st 0 1 yk d
def lO (H:Hp)(a:ĸ):İ bF:=match H a with
 | some (.Ç xs)=>xs.L λv=>match v with| .H b=>tO H b| _=>(0,0,0)
 | _=>[]
def tW (H:Hp)(a:ĸ)(ts:İ bF):Prop:=∃bs:İ ĸ,H a=į (.Ç<|bs.L V.H)/\dI H bs ts
def T9 (h:tW H a ts):lO H a=ts:=by let(bs,h1,d):=h;unfold lO;rw[h1];show ((bs.L V.H).L _)=ts;rw[c8,<-d.eq];rfl
def tW.jh (k:∀a xs,H a=į (.Ç xs)->H' a=į (.Ç xs))(h:tW H a ts):tW H' a ts:=let %[bs,h1|h2]:=h;%[0,bs,k _ _ h1|h2.jh k]
structure dW (H:Hp)(as:İ ĸ)(ls:İ (İ bF)):Prop where
 at_:∀a∈as,tW H a (lO H a)
 eq:as.L (lO H)=ls
def dW.jh (k:∀a xs,H a=į (.Ç xs)->H' a=į (.Ç xs))(h:dW H as ls):dW H' as ls:=by let e:∀a∈as,lO H' a=lO H a:=λa ha=>T9<|(h.ą a ha).jh k;show%[λa ha=>by rw[e a ha];show(h.ą a ha).jh k|by rw[<-h.eq];show d6 e]
def dW.mv (k:aB H H')(h:dW H as ls):dW H' as ls:=h.jh λa xs e=>k a _ e
def dW.nil:dW H [] []:=%[λa h=>by simp at h|rb]
def dW.app (h:dW H as ls)(g:dW H bs ms):dW H (as++bs) (ls++ms):=by
 calc%[λb d=>?_|by rw[b4,h.eq,g.eq]];rcases aT.mp d with z|z;.show h.ą b z
 .show g.ą b z
def dW.one (ha:tW H a ts):dW H [a] [ts]:=%[λb d=>by rw[am.mp d,T9 ha];show ha|by rw[ww,T9 ha]]
def dW.len (h:dW H as ls):as.v=ls.v:=by rw[<-h.eq,ab]
def dW.get (h:dW H as ls)(hi:i<as.v):∃t,ls[i]?=į t/\tW H as[i] t:=%[0,lO H as[i],by rw[<-h.eq];simp[hi]|h.ą _<|be _]
def gC (ts:İ bF)(ss:İ ı):İ bF:=List.zipWith (λt c=>(t.1,t.2.1,c)) ts ss
def T_ (h1:ts[i]?=į t)(d:ss[i]?=į c):(gC ts ss).È (i+1)=(gC ts ss).È i++[(t.1,t.2.1,c)]:=by rw[b6];congr 1;unfold gC;rw[List.getElem?_zipWith,h1,d];rfl
def Je {ts:İ bF}{ss:İ ı}(h:ts.v=ss.v):(gC ts ss).v=ts.v:=by unfold gC;rw[List.length_zipWith];simp_all
def oY (ts:İ bF):İ ı:=ts.L λt=>t.2.2
def tX (ts:İ bF)(rk:İ ı):İ (İ bF):=(eN (oY ts) rk).L (gC ts)
def ab3:Sp:=λvs H Q _=>∃(p:Addr) (as:İ ĸ) (ts:İ bF) (rk:İ ı),vs=[.H p,.X (S rk)]/\H p=į (.Æ<|as.L V.H)/\dI H as ts/\ts.v<=7/\(∀t∈ts,isLet t.2.2)/\rk.v<=100/\(eN (oY ts) rk).v<=900/\
 ∀(p':ĸ) (as':İ ĸ) (H':Hp),aB H H'->H p'=Ĵ->H' p'=į (.Æ<|as'.L V.H)->dW H' as' (tX ts rk)->Q (.H p') H'
def Jx (Gz:GG K mg):DF P w K mg base oF 10 ab3:=by
 calc Gz.as'.cH nj ?_;intro f bA A outer s H vs Q E hr h;let(p,as,ts,rk,rfl,hp,hL,h7,ZM,hrk,xW,q):=h;let hal:=hL.ď;calc%[0,_,(aC (aO (i:=2) nj.nd rb (Or.Â rb)<|aY (Bo Gz) hr.Ø rb<|ak aG aA)<|aC (aO (i:=3) nj.nd rb (Or.Â rb)<|dF aA)<|aC (c7 b7 rb (eU<|aY (Jw Gz) hr.Ø rb<|ak (dO cw fE fF rN (bU [] yo)<|ak (je (ns:=["row","column","letter"]) rb (gJ.of ["triples","rack","cells","layings","signs"] [] yn) (eU aG) (λ_ _ _ _ _=>(Ab K rb (show (["row","column","letter","triples","rack","cells","layings","signs"]:İ ņ).Ö by decide +kernel) rb rb rb ym ym ym)) (λ_ _ _ _ _=>dD) λ_ _ _ _ _=>bw) aA)<|ak aU aA) (bL (i:=4) nj.nd rb<|Or.Â rb)<|aD<|cX<|dO cx eD eI fU bO<|ak (cR cJ ym Gz.g' cz<|ak (je (ns:=["cell","sign"]) rb (gJ.of ["triples","rack","cells","layings","signs"] [] yn) (abp ym Gz.R'<|ak bw<|ak cD aA) (λ_ _ _ _ _=>(Pq K rb (show (["cell","sign","triples","rack","cells","layings","signs"]:İ ņ).Ö by decide +kernel) rb rb ym ym)) (λ_ _ _ _ _=>dD) λ_ _ _ _ _=>(dz<|ak (bK (rO K) aG aF λ_ _=>rfl)<|ak (bK (rO K) aG aF λ_ _=>rfl)<|ak aU aA)) aA) aA)<|aD<|aW bO)|?_];calc%[15,p,as,ts,rb,.Â<|aP.of hp,hL,yf|λpc N O sc hnc hpc hPc=>?_];let hcl:N.v=ts.v:=by rw[hPc.len,ab]
 calc%[zsz 0|λF hF=>?_];let s0:aB O (upd O F<|HO.Æ []):=aB.ì hF;let qU:upd O F (HO.Æ []) F=į (.Æ []):=au;generalize upd O F (HO.Æ [])=H0 at s0 qU ⊢;let hp0:=s0 _ _<|sc _ _ hp;let hL0:=(hL.mv sc).mv s0;refine%[25,rb,p,rb,%[_|aP.of hp0]|λL yq=>uW (f:=fV [] 0) (tt:=jt) (xs:=as.L V.H) (λi ys d=>ys=Ts (ones<|(oY ts).È i)/\d L=į (.Æ ys)/\aB H0 d)
  %[rb,au|aB.ì yq] (λi ys d _ h=>aP.of<|h.2.2 _ _ hp0) ?_ ?_]
 .intro i x ys d hx z;let(rfl,lu,sm):=z;let(hi,hx):=rfg hx;let(t,et,hT):=hL0.get hi;calc JH hx.Ð (bf.of<|sm _ _ hT) ?_;calc%[lu,?_|d8.mk (by rw[ab];show hi) %[?_,au|sm.bB yq]];.rw[ab,ab,ba];show aH (by grind)
  .have:(oY ts)[i]?=į t.2.2:=by unfold oY;rw[a_,et];rfl
   rw[b6,this,jX,zF];rfl
 .intro ys d z;let(rfl,lu,sm):=z;let hsl:(oY ts).v=ts.v:=ab _;rw[ab,hal,<-hsl,c6]at lu;calc%[6,L,ones<|oY ts,rb,rb,aP.of lu,by rw[nC];lia|?_];rw[nC];refine%[26,oY ts,rk,rb,λc hc=>?_,by simp_all +arith,yk,hrk,xW|λpS H1 s1 Y G=>?_]
  .let(t,ht,rfl):=a5.mp hc;show ZM t ht
  generalize hTX:eN (oY ts) rk=tx at xW G;let af7:∀t∈tx,t.v=ts.v:=λt ht=>by rw[<-hTX]at ht;rw[vY _ _ ht,hsl]
  let sc1:aB O H1:=(s0.À sm).À s1;let Q0:=s1 _ _<|sm _ _ qU;let nSF:pS≠F:=λz=>by rw[z,sm _ _ qU]at Y;cases Y
  refine%[2,pS,rb,%[_|aP.of G]|jH (K:=K) (a:=pS) (xs:=Ts tx) (λn I H2=>∃(v4:ĵ V) (bs:İ ĸ),I=[į (.H p),į (.X<|S rk),į (.H pc),į (.H F),v4]/\aB O H2/\H2 pS=į (.Æ<|Ts tx)/\H2 F=į (.Æ<|bs.L V.H)/\dW H2 bs ((tx.È n).L<|gC ts)/\bs.v=n)
   %[23,Ĵ,[],rb,sc1,G,Q0,dW.ê|rb] (λn I H2 _ h=>by let(_,_,_,_,h2,_):=h;show aP.of h2) ?_ ?_]
  .intro n x I H2 hx z;let(v4,bs,rfl,s2,hp2,iY,hY,iZ):=z;let(ss,hss,rfl):=k_ hx;let hnl:n<(Ts tx).v:=(al.mp hx).1;rw[ab]at hnl;let af8:=af7 ss<|ax hss;let ad0:=s2 _ _ hpc;let af9:=hPc.mv s2;refine%[14,.Â %[9,rb,_|aP.of iY],pc,ss,rb,%[_|aP.of ad0]|λM hM=>adC (f:=fV [] 0) (tt:=jt) (KT:=K) (xs:=N.L V.H) (l:=ss) (by rw[ab,hcl,af8]) (λi zs d=>∃ds:İ ĸ,zs=ds.L V.H/\ds.v=i/\d M=į (.Æ zs)/\aB H2 d/\dI d ds ((gC ts ss).È i))
    %[13,[],rb,rb,au,aB.ì hM|dI.ê] (λi zs d _ h=>by let(_,_,_,_,Bh,_):=h;show aP.of<|Bh _ _ ad0) ?_ ?_]
   .intro i x c zs d T hx hc z hT;let(ds,rfl,D,mV,J,hB):=z;let(hi,hx):=rfg hx;subst hx;let(cc,ec,hcc):=af9.get hi;obtain⟨t,et,rfl⟩:∃t,ts[i]?=į t/\cO t=cc:=by
     rw[a_]at ec;show g9.mp ec
    let B:aB d (upd d T<|HO.Ç [.H N[i],.X (S [c])]):=aB.ì hT;calc aez rb (bf.of au) ?_;let ad1:=B _ _<|J _ _ hcc;let uP:=B _ _ mV;let s7:=J.À B;let hB7:=hB.mv B;generalize upd d T (HO.Ç [.H N[i],.X (S [c])])=H7 at B ad1 uP s7 hB7 ⊢;let hS7:=bf.of (K:=K) ad1;calc%[5,N[i],_,_,_,rb,rb,hS7,bh (j:=0) rb|%[16,N[i],_,_,_,rb,rb,hS7,bh (j:=1) rb,zsz 3|λg hg=>?_]];let k8:aB H7 (upd H7 g<|HO.Ç [.M ((cO t).1:Ŀ),.M ((cO t).2:Ŀ),.X (S [c])]):=aB.ì hg;let MJ:=k8 _ _ uP;calc%[MJ,by rw[ab,D];show aH yf|d8.mk (by rw[ab];show hi) %[13,ds++[g],yi,by simp[D],by rw[au],(s7.À k8).bB hM|?_]];rw[T_ et hc];show((hB7.mv k8).snoc (t:=(t.1,t.2.1,c)) au).jh<|d7 MJ
   .intro zs d z;let(ds,rfl,D,mV,J,hB):=z;rw[ab]at D;rw[de (by rw[Je yf,ab];simp_all)]at hB;calc%[3,M,_,rb|.Â %[aP.of mV|λT hT=>?_]];let B:aB d (upd d T<|HO.Ç<|ds.L V.H):=aB.ì hT;let Z:=B _ _<|J _ _ iY;calc%[15,F,_,_,rb,rb,Z,by rw[ab,iZ];show aH yf|?_];calc%[23,_,bs++[T],rb,((s2.À J).À B).bB hF,by rw[aM nSF];show B _ _<|J _ _ hp2,by rw[au,b4];rfl,?_|by simp[iZ]];rw[b6,hss,b4];show(((hY.mv J).mv B).app<|dW.one (ts:=gC ts ss) %[0,ds,au|hB.mv B]).jh<|d7 Z
  .intro I H2 z;let(v4,bs,rfl,s2,hp2,iY,hY,iZ):=z;rw[ab,c6]at hY;calc(q F bs H2 (sc.À s2) (sc.Ó hF) iY ?_);unfold tX;rw[hTX];show hY
def zH {aj:AA}{r w i j:ı}{l:İ ı}(h:t∈b_ aj r w i j l):∃k,k<l.v/\t=(i,j+k,l.Î k 0)/\atC aj r w i ((j+k:ı):Ŀ)=46:=by
 unfold b_ at h;split at h
 .unfold lQ at h;let(k,hk,e):=mx.mp h;unfold oW at e;split at e
  .rename_i M;show%[2,k,b3.mp hk,(bo e).Ð|M]
  .cases e
 .simp at h
def EY {aj:AA}{r w i j:ı}{l:İ ı}(hi:i<r)(d:j<w+1-l.v)(h:t∈b_ aj r w i j l):cO t∈pY aj r w:=by let(k,hk,rfl,M):=zH h;show CG.Ù %[%[hi|by show j+k<w;(simp[cE,c9]at *;lia)]|M]
def zJ {aj:AA}{r w i j:ı}{l:İ ı}(d:fu l)(h:t∈b_ aj r w i j l):isLet t.2.2:=by let(k,hk,rfl,_):=zH h;show isLet<|l.Î k 0;rw[ah,ae hk];show d.az _<|be _
def uR (aj)(r w i j)(l):(b_ aj r w i j l).v<=l.v:=by
 unfold b_;split;.show Jd ..
 .show bE _
def qL (fit:ı×ı->İ ı)(hk:İ (ı×ı))(aj:AA)(r w:ı)(rk l:İ ı)(c:ı×ı):İ (İ bF):=if jO fit hk (b_ aj r w c.1 c.2 l)=ĳ then tX (b_ aj r w c.1 c.2 l) rk else []
def uT (fit:ı×ı->İ ı)(hk:İ (ı×ı))(aj:AA)(r w:ı)(rk l:İ ı):İ (İ bF):=(gM r w l.v).ī (qL fit hk aj r w rk l)
def eX (ws:AA)(hk:İ (ı×ı))(aj:AA)(r w:ı)(rk:İ ı)(us:AA):İ (İ bF):=us.ī (uT (oX ws aj) hk aj r w rk)
theorem Aq {α β:Type}{f:α->İ β}:∀{l:İ α},(∀x∈l,(f x).v<=b)->(l.ī f).v<=l.v*b
 | [],_=>by simp
 | x::l,h=>by rw[xm,aE,bv,qi];have:=h x a4;have:=Aq (l:=l) λy d=>h y<|av _ d;lia
def ZP {hk:İ (ı×ı)}{aj:AA}{r w g:ı}{rk l:İ ı}(d:∀ls,ls.v<=l.v->(eN ls rk).v<=g)(c:ı×ı):(qL fit hk aj r w rk l c).v<=g:=by
 unfold qL;split;.unfold tX;rw[ab];show d _ (by unfold oY;rw[ab];show uR ..)
 .show bE _
def Jf {hk:İ (ı×ı)}{aj:AA}{r w g:ı}{rk l:İ ı}(d:∀ls,ls.v<=l.v->(eN ls rk).v<=g)(q:2<=l.v):(uT fit hk aj r w rk l).v<=r*(w-1)*g:=by unfold uT;calc ap (Aq λc _=>ZP d c) ?_;rw[xU];show lI _<|Nat.mul_le_mul_left _<|ve yf
def Jg {α β:Type}{f:α->İ β}{l:İ α}{x:α}(h:l[n]?=į x):(l.È<|n+1).ī f=(l.È n).ī f++f x:=by rw[b6,h,oy];simp
def ZQ (C CB:ĸ):Sp:=λvs H Q _=>∃(b k d:Addr) (ws:AA) (r w:Nat) (aj aN:AA) (bi bj g:Nat) (rk:İ ı),vs=[.H b,.H k,.X (S rk)]/\cY C H b r w aj aN bi bj/\dZ CB H k d ws/\ws.v<64/\rk.v<=100/\(∀l∈ws,∀ls,ls.v<=l.v->(eN ls rk).v<=g)/\g<=900/\ws.v*(r*(w-1)*g)<=1999/\
 ∀(p:ĸ) (as:İ ĸ) (us:AA) (H':Hp),aB H H'->H p=Ĵ->H' p=į (.Æ<|as.L V.H)->us.ò ws->dW H' as (eX ws (cB aj r w bi bj) aj r w rk us)->as.v<=1999->Q (.H p) H'
def qW (G:GG K mg):DF P w K mg base jM 12 (ZQ G.c' G.d'):=by
 calc G.at'.cH dG ?_;intro f bA A outer s H vs Q E hr h;let(b,k,d,ws,r,w,aj,aN,bi,bj,g,rk,rfl,B,BK,Ua,hrk,hg,hg9,hbd,q):=h;let O:=B.ok;calc%[0,_,(aC (aO (i:=3) dG.nd rb (Or.Â rb)<|aY (Ez G) hr.Ø rb<|ak aG<|ak aU aA)<|aC (aO (i:=4) dG.nd rb (Or.Â rb)<|aY (ZC G) hr.Ø rb<|ak aG aA)<|aC (aO (i:=5) dG.nd rb (Or.Â rb)<|dF aA)<|aC (c7 b7 rb (gD<|nG aU G.f'.cl G.r'.m (Lz G) hr.Ø G.r'.b .ê fB) (bL (i:=6) dG.nd rb<|Or.Â rb)<|aD<|c7 b7 rb (eU<|aY (Xf G) hr.Ø rb<|ak aG<|ak fj aA) (mK rb<|cM (bL (i:=7) dG.nd rb<|Or.Â rb)<|cM (bL (i:=8) dG.nd rb<|Or.Â rb) jV)<|aC (aO (i:=9) dG.nd rb (Or.Â rb)<|aY (Av G) hr.Ø rb<|ak aG<|ak iJ<|ak jl<|ak fj aA)<|aD<|cC (dJ<|aY (Gy G) hr.Ø rb<|ak rA<|ak bO<|ak cD aA) (aD<|cX<|dO cx kg ki qe cV<|ak (aY (Jx G) hr.Ø rb<|ak rA<|ak bw aA) aA) bN)<|aD<|aW cV)|?_];calc%[17,b,k,d,ws|%[52,r,w,aj,aN,bi,bj,rb,B,BK|λpd kvs H1 s1 hn1 hd1 hkv=>?_]];calc%[32,b,r,w,aj,aN,bi,bj,rb,B.mv s1|λpj js H2 s2 hj2 hJ2=>?_];let sj:=s1.À s2;let hd2:=s2 _ _ hd1;calc%[zsz 0|λF hF=>?_];let s0:aB H2 (upd H2 F<|HO.Æ []):=aB.ì hF;let qU:upd H2 F (HO.Æ []) F=į (.Æ []):=au;generalize upd H2 F (HO.Æ [])=H0 at s0 qU ⊢;let BK0:=BK.same<|sj.À s0;let(dk,ek):=BK0.ob;calc%[61,k,dk,_,rb,ek,rb,k,d,ws,rb,BK0,Ua|λpu us H3 s3 hnu hpu pm _=>?_];let s23:=s0.À s3;let qT:=s3 _ _ qU;let hul:us.v=ws.v:=pm.Ę;let huw:∀l∈us,fu l:=λl hl=>BK.az l<|pm.æ.mp hl;let aav:4000<=Ľ:=by decide
 refine%[2,pu,rb,%[_|bf.of hpu]|nP (K:=K) (a:=pu) (xs:=Ts us) (λn I H4=>∃(v6 v7 v8 v9:ĵ V) (as:İ ĸ),I=[į (.H b),į (.H k),į (.X<|S rk),į (.H pd),į (.H pj),į (.H F),v6,v7,v8,v9]/\aB H2 H4/\H4 pu=į (.Ç<|Ts us)/\H4 F=į (.Æ<|as.L V.H)/\dW H4 as ((us.È n).ī<|uT (oX ws aj) (cB aj r w bi bj) aj r w rk))
  %[37,Ĵ,Ĵ,Ĵ,Ĵ,[],rb,s23,hpu,qT|dW.ê] (λn I H4 _ h=>by let(_,_,_,_,_,_,_,h2,_):=h;show bf.of h2) ?_ ?_]
 .intro n x I H4 hx z;let(v6,v7,v8,v9,as,rfl,s4,hu4,nT,hY):=z;let(l,hl,rfl):=k_ hx;let hnl:n<us.v:=(al.mp hl).1;let hW:=huw l<|ax hl;let hl2:=hW.lo;let hl9:=hW.hi;let hal:as.v<=n*(r*(w-1)*g):=by
   rw[hY.len];calc ap (Aq (b:=r*(w-1)*g) λx hx=>Jf (hg x<|pm.æ.mp<|dm hx) (huw x<|dm hx).lo) ?_;show lI _ (by rw[ba];show mS _ _)
  let hbig:(n+1)*(r*(w-1)*g)<=1999:=ap (lI _ yf) hbd;let B4:=B.mv<|sj.À s4;calc%[10,b,r|%[52,w,aj,aN,bi,bj,l,rb,B4,hl9|λps cs H5 s5 WW WX QX=>?_]];let s25:=s4.À s5;let hF5:=s5 _ _ nT;let nsF:ps≠F:=λz=>by rw[z,nT]at WW;cases WW
  let Wo:=hg l<|pm.æ.mp<|ax hl;let hcl:cs.v<=r*(w-1):=by rw[QX.len,xU];show Nat.mul_le_mul_left _ yf
  refine%[2,ps,rb,%[_|aP.of WX]|jH (K:=K) (a:=ps) (xs:=cs.L V.H) (λm I Y=>∃(v7 v8 v9:ĵ V) (bs:İ ĸ),I=[į (.H b),į (.H k),į (.X<|S rk),į (.H pd),į (.H pj),į (.H F),į (.X<|S l),v7,v8,v9]/\aB H2 Y/\Y pu=į (.Ç<|Ts us)/\Y ps=į (.Æ<|cs.L V.H)/\dU Y cs (gM r w l.v)/\Y F=į (.Æ<|bs.L V.H)/\
    dW Y bs ((us.È n).ī (uT (oX ws aj) (cB aj r w bi bj) aj r w rk)++((gM r w l.v).È m).ī (qL (oX ws aj) (cB aj r w bi bj) aj r w rk l))/\bs.v<=as.v+m*g)
   %[47,v7,v8,v9,as,rb,s25,s5 _ _ hu4,WX,QX,hF5,by simpa using hY.mv s5|di _ _] (λm I Y _ h=>by let(_,_,_,_,_,_,_,h2,_):=h;show aP.of h2) ?_ ?_]
  .intro m x I Y hx z;let(v7,v8,v9,bs,rfl,s6,Z,uz,Xg,M,E_,hb6):=z;let(hi,hx):=rfg hx;subst hx;let(c,ec,hc):=Xg.get hi;let(hc1,hc2):=rK.mp (ax ec);let hmg:as.v+(m+1)*g<=1999:=by
    let h1:(m+1)*g<=r*(w-1)*g:=lI _ yf;let h2:(n+1)*(r*(w-1)*g)=n*(r*(w-1)*g)+r*(w-1)*g:=qi _ _;lia
   let agw:(m+1)*g=m*g+g:=qi _ _;calc%[41,cs[m],_,rb,bf.of hc,rb,_,_,rb,_,_,rb,rb|?_];let B6:=B.mv<|sj.À s6;calc%[18,b,r,w|%[60,aj,aN,bi,bj,c.1,c.2,l,rb,B6,by have:=O.w9;(simp[cE,c9]at *;lia),hl9|λpt ats H7 s7 hn7 Mz hT7=>?_]];let L:=s6.À s7;let hF7:=s7 _ _ M;let ntF:pt≠F:=λz=>by rw[z,M]at hn7;cases hn7
   let htl:=uR aj r w c.1 c.2 l;let hfree:∀t∈b_ aj r w c.1 c.2 l,cO t∈pY aj r w:=λt ht=>EY hc1 hc2 ht;calc%[17,pt,pd,pj,ats|%[56,js,b_ aj r w c.1 c.2 l,kvs,oX ws aj,cB aj r w bi bj,rb,Mz,hT7,yf,L _ _ hd2,λt ht=>hkv _<|hfree t ht,L _ _ hj2,hJ2.mv L|λH8 J=>(aZ _ rb ?_)]];let Q5:=L.À J;let hF8:=J _ _ hF7;let keep:∀(H9:Hp) (cs':İ ĸ),aB H8 H9->dW H9 cs' (qL (oX ws aj) (cB aj r w bi bj) aj r w rk l c)->dW H9 (bs++cs') ((us.È n).ī (uT (oX ws aj) (cB aj r w bi bj) aj r w rk)++((gM r w l.v).È<|m+1).ī (qL (oX ws aj) (cB aj r w bi bj) aj r w rk l)):=λH9 cs' s9 hY'=>by rw[Jg ec,<-bz];show(((E_.mv s7).mv J).mv s9).app hY'
   by_cases D:jO (oX ws aj) (cB aj r w bi bj) (b_ aj r w c.1 c.2 l)=ĳ
   .rw[D];let h7:(b_ aj r w c.1 c.2 l).v<=7:=by
     unfold jO at D;simp only[dP,i6]at D;show D.1.2
    let ZR:qL (oX ws aj) (cB aj r w bi bj) aj r w rk l c=tX (b_ aj r w c.1 c.2 l) rk:=by unfold qL;rw[Ĺ D]
    calc cu %[.Â %[9,rb,_|aP.of hF8]|%[47,pt,ats,b_ aj r w c.1 c.2 l,rk,rb,J _ _ Mz,hT7.mv J,h7,λt ht=>zJ hW ht,hrk,ap (Wo _ (by unfold oY;rw[ab];show uR ..)) hg9|λpl ls H9 s9 hn9 hp9 hY9=>?_]];let N:=s9 _ _ hF8;let hll:ls.v<=g:=by rw[hY9.len];unfold tX;rw[ab];show Wo _ (by unfold oY;rw[ab];show uR ..)
    calc%[16,F,pl,_,_,rb,rb,N,hp9,by rw[ab,ab];lia|?_];calc%[47,_,_,_,bs++ls,rb,(Q5.À s9).bB hF,?_,by rw[aM nsF];show s9 _ _<|J _ _<|s7 _ _ uz,?_,by rw[au,b4],?_|by rw[aE];lia];.show d7 N _ _<|s9 _ _<|J _ _<|s7 _ _ Z
    .show(((Xg.mv s7).mv J).mv s9).jh<|d7 N
    .show(keep H9 ls s9 (by rw[ZR];show hY9)).jh<|d7 N
   .rw[tj.Ù D];let ZR:qL (oX ws aj) (cB aj r w bi bj) aj r w rk l c=[]:=by unfold qL;rw[ķ D]
    calc bZ %[47,_,_,_,bs,rb,Q5,J _ _<|s7 _ _ Z,J _ _<|s7 _ _ uz,(Xg.mv s7).mv J,hF8,?_|yf];have:=keep H8 [] (aB.Č _) (by rw[ZR];show dW.ê);rw[gy]at this;show this
  .intro I Y z;let(v7,v8,v9,bs,rfl,s6,Z,uz,Xg,M,E_,hb6):=z;calc%[37,_,_,_,_,bs,rb,s6,Z,M|?_];rw[ab,Xg.len,c6]at E_;rw[Jg hl];show E_
 .intro I H4 z;let(v6,v7,v8,v9,as,rfl,s4,hu4,nT,hY):=z;rw[ab,c6]at hY;let hal:as.v<=1999:=by
   rw[hY.len];calc ap (Aq (b:=r*(w-1)*g) λx hx=>Jf (hg x<|pm.æ.mp hx) (huw x hx).lo) ?_;rw[hul];show hbd
  show(q F as us H4 (sj.À s4) (sj.Ó hF) nT pm hY hal)
def qy {r w:ı}{aj:AA}(g:Blk r w aj){i j:ı}(hi:i<r)(q:j<w):cell (bG aj w) j i=cell aj i j:=by
 let d:i<aj.v:=by rw[g.len];show hi
 unfold cell;rw[show (bG aj w).Î j []=dX aj j by
  unfold bG;rw[ah,a_,ie q];rfl]
 unfold dX;rw[ah,a_,ae d,ah (l:=aj),ae d];rfl
def ab4 {r w:ı}{aj:AA}(g:Blk r w aj){i j:ı}(hi:i<r)(d:j<w):atC (bG aj w) w r (j:Ŀ) (i:Ŀ)=atC aj r w (i:Ŀ) (j:Ŀ):=by unfold atC;rw[Ĺ %[eJ _,ii fv d,yf|yf],Ĺ %[yf,yf,yf|yf]];show qy g hi d
def xX (aj):isFree aj=ĳ↔∀l∈aj,∀c∈l,c=46:=by
 unfold isFree;rw[iE];constructor
 .intro h l d c q;simpa using h c (rc.Ù %[0,l,d|q])
 .intro h c q;let(l,d,g):=rc.mp q;simpa using h l d c g
def Xh {r w:ı}{aj:AA}(d:Blk r w aj):isFree (bG aj w)=isFree aj:=by
 cases h1:isFree aj with
 | true=>show(xX _).Ù<|xT d<|(xX _).mp h1
 | false=>
  cases g:isFree (bG aj w) with| false=>rfl| true=>have:=xT (gO d)<|(xX _).mp g;rw[IK d]at this;rw[(xX _).Ù this]at h1;cases h1
def CJ {r w:ı}{aj:AA}(g:Blk r w aj)(u v:Ŀ):atC (bG aj w) w r v u=atC aj r w u v:=by
 by_cases h:0<=u/\u<r/\0<=v/\v<w
 .obtain⟨i,rfl⟩:∃k:Nat,u=k:=%[u.Õ|yf]
  obtain⟨j,rfl⟩:∃k:Nat,v=k:=%[v.Õ|yf]
  show ab4 g (by simp_all) (by simp_all)
 .let d:atC aj r w u v=46:=ķ h;let q:atC (bG aj w) w r v u=46:=ķ λz=>h %[z.2.2.1,z.2.2.2,z.1|z.2.1];rw[d,q]
def ab5 {r w:ı}{aj:AA}(g:Blk r w aj)(u v:Ŀ):Ew (bG aj w) w r v u=Ew aj r w u v:=by unfold Ew poss;simp only[oB,List.any_nil,tF,CJ g];generalize (!Ļ ([atC aj r w u (v-1)]=[46]))=a;generalize (!Ļ ([atC aj r w u (v+1)]=[46]))=b;generalize (!Ļ ([atC aj r w (u-1) v]=[46]))=c;generalize (!Ļ ([atC aj r w (u+1) v]=[46]))=d;cases a <;> cases b <;> cases c <;> cases d <;> rfl
def M4 {aj:AA}{r w:ı}{c:ı×ı}:c∈uO aj r w↔(c.1<r/\c.2<w)/\frB aj r w c=ĳ/\Bm aj r w c=ĳ:=by unfold uO;rw[fc,Xe,dP]
def Xi {r w:ı}{aj:AA}(d:Blk r w aj)(i j:ı):(j,i)∈uO (bG aj w) w r↔(i,j)∈uO aj r w:=by
 rw[M4,M4];let g:frB (bG aj w) w r (j,i)=frB aj r w (i,j):=by unfold frB;rw[CJ d]
 let q:Bm (bG aj w) w r (j,i)=Bm aj r w (i,j):=ab5 d _ _;rw[g,q];show%[λ⟨⟨a,b⟩,c⟩=>%[%[b|a]|c]|λ⟨⟨a,b⟩,c⟩=>%[%[b|a]|c]]
theorem CK:∀(ls rk:İ ı) {t:İ ı},(∀c∈ls,isLet c)->t∈eN ls rk->∀c∈t,tV c
 | [],_,t,_,h,c,g=>by rw[am.mp h]at g;simp at g
 | d::ls,rk,t,hl,h,c,g=>by
  let hd:=hl d a4;let q:∀c∈ls,isLet c:=λc g=>hl c<|av _ g;unfold eN at h;rcases aT.mp h with z|z
  .split at z
   .let(u,B,rfl):=a5.mp z;rcases a8.mp g with e|e;.rw[e];show Ms hd
    .show CK ls _ q B c e
   .simp at z
  .split at z
   .let(u,B,rfl):=a5.mp z;rcases a8.mp g with e|e;.rw[e,(Ao hd).1];show W6 hd
    .show CK ls _ q B c e
   .simp at z
theorem M_:∀{ts:İ bF} {ss:İ ı},ts.v=ss.v->(gC ts ss).L cO=ts.L cO/\oY (gC ts ss)=ss
 | [],[],_=>%[rb|rb]
 | [],_::_,h=>by simp at h
 | _::_,[],h=>by simp at h
 | t::ts,c::ss,h=>by
  let d:=M_ (ts:=ts) (ss:=ss) (by simpa using h);constructor
  .show cO t::(gC ts ss).L cO=cO t::ts.L cO;rw[d.1]
  .show c::oY (gC ts ss)=c::ss;rw[d.2]
theorem zK (aj)(r w i j)(l):∀n,((lQ aj r w i j l n).L λt=>t.2.1).Ã (·<·)/\∀t∈lQ aj r w i j l n,t.1=i/\t.2.1<j+n
 | 0=>%[List.Ã.ê|λt h=>by simp[lQ]at h]
 | n+1=>by
  let(h1,g):=zK aj r w i j l n;rw[xV];cases e:oW aj r w i j l n with
  | none=>simp only[Option.toList_none,gy];show%[h1|λt d=>%[(g t d).1|fh (g t d).2]]
  | some u=>
   let B:u=(i,j+n,l.Î n 0):=by
    unfold oW at e;split at e;.show(bo e).Ð
    .cases e
   subst B;simp only[Option.toList_some];constructor
   .rw[b4,e8];calc%[h1,yi|λa ha b q=>?_];let(t,d,rfl):=a5.mp ha;simp only[bS,kD,am]at q;rw[q];show(g t d).2
   .intro t d;rcases aT.mp d with z|z;.show%[(g t z).1|fh (g t z).2]
    .rw[am.mp z];show%[rb|eW _]
def Xj (aj)(r w i j)(l):((b_ aj r w i j l).L λt=>t.2.1).Ã (·<·)/\∀t∈b_ aj r w i j l,t.1=i:=by
 unfold b_;split;.show%[(zK aj r w i j l _).1|λt d=>((zK aj r w i j l _).2 t d).1]
 .show%[List.Ã.ê|λt h=>by simp at h]
structure fP (aj:AA)(r w:ı)(hk:İ (ı×ı))(ts:İ bF):Prop where
 ne:ts≠[]
 len:ts.v<=7
 cell:∀t∈ts,t.1<r/\t.2.1<w/\atC aj r w t.1 t.2.1=46/\tV t.2.2
 row:∃i,∀t∈ts,t.1=i
 col:(ts.L λt=>t.2.1).Ã (·<·)
 hook:∃t∈ts,cO t∈hk
def lC {ws us:AA}{hk:İ (ı×ı)}{aj:AA}{r w:ı}{rk:İ ı}(hw:∀l∈us,fu l)(h:x∈eX ws hk aj r w rk us):fP aj r w hk x:=by
 unfold eX at h;let(l,hl,h):=gf.mp h;unfold uT at h;let(c,Y,h):=gf.mp h;let(L,J):=rK.mp Y;unfold qL at h;split at h
 .rename_i g;unfold tX at h;let(ss,F,rfl):=a5.mp h;let M:(b_ aj r w c.1 c.2 l).v=ss.v:=by rw[vY _ _ F];unfold oY;rw[ab]
  let(G,e2):=M_ M;let N:=Je M;unfold jO at g;simp only[dP,i6]at g;let((n1,n7),_,D):=g;let(k1,k2):=Xj aj r w c.1 c.2 l;let Z:∀d∈oY (b_ aj r w c.1 c.2 l),isLet d:=λd hd=>by let(t,q,rfl):=a5.mp hd;show zJ (hw l hl) q
  let back:∀t∈gC (b_ aj r w c.1 c.2 l) ss,∃t'∈b_ aj r w c.1 c.2 l,cO t'=cO t:=λt q=>by
   have:cO t∈(b_ aj r w c.1 c.2 l).L cO:=by rw[<-G];show bX q
   let(t',h1,B):=a5.mp this;show%[0,t',h1|B]
  calc%[λz=>?_,yf,λt q=>?_,%[c.1|λt q=>?_],?_|?_];.rw[z]at N;simp at N;lia
  .let(t',h1,B):=back t q;let hf:=CG.mp<|EY L J h1;rw[B]at hf;show%[hf.1.1,hf.1.2,hf.2|CK _ _ Z F _ (by rw[<-e2];show bX (f:=λt:bF=>t.2.2) q)]
  .let(t',h1,B):=back t q;have:=k2 t' h1;let O:(cO t').1=(cO t).1:=by rw[B]
   let O:t'.1=t.1:=O;lia
  .let e3:(gC (b_ aj r w c.1 c.2 l) ss).L (λt=>t.2.1)=(b_ aj r w c.1 c.2 l).L λt=>t.2.1:=by
    have:=Ő (List.L Prod.snd) G;rw[c8,c8]at this;show this
   rw[e3];show k1
  .let(t',h1,B):=xy.mp D;let B:=dC B;have:cO t'∈(gC (b_ aj r w c.1 c.2 l) ss).L cO:=by rw[G];show bX h1
   let(t,q,e):=a5.mp this;show%[0,t,q|by rw[e];show B]
 .simp at h
def fP.rk {aj:AA}{r w:ı}{hk:İ (ı×ı)}(h:fP aj r w hk ts):(ts.L My.rk).Ã (·<·):=by let(i,hi):=h.row;let d:=h.col;rw[e_]at d ⊢;calc lv (λ{a b} ha hb hab=>?_) d;unfold My.rk;rw[hi a ha,hi b hb];show rn hab _
def fP.rkw {aj:AA}{r w:ı}{hk:İ (ı×ı)}(h:fP aj r w hk ts):((ts.L sw).L My.rk).Ã (·<·):=by let(i,hi):=h.row;let d:=h.col;rw[c8,e_];rw[e_]at d;calc lv (λ{a b} ha hb hab=>?_) d;show a.2.1*1000+a.1<b.2.1*1000+b.1;rw[hi a ha,hi b hb];simp_all
structure jP (aj:AA)(r w:ı)(hk:İ (ı×ı))(ts:İ bF):Prop where
 ne:ts≠[]
 len:ts.v<=7
 cell:∀t∈ts,t.1<r/\t.2.1<w/\atC aj r w t.1 t.2.1=46/\tV t.2.2
 rk:(ts.L My.rk).Ã (·<·)
 hook:∃t∈ts,cO t∈hk
def Ot {r w bi bj:ı}{aj:AA}(d:Blk r w aj){c:ı×ı}(h:c∈cB (bG aj w) w r bj bi):(c.2,c.1)∈cB aj r w bi bj:=by
 unfold cB at h ⊢;rw[Xh d]at h;split at h
 .rename_i hf;rw[Ĺ hf];rw[am.mp h];show am.Ù rfl
 .rename_i hf;rw[ķ hf];show(Xi d c.2 c.1).mp h
def mC (ws:AA)(aj:AA)(r w bi bj:ı)(rk:İ ı):İ (İ bF):=eX ws (cB aj r w bi bj) aj r w rk ws++(eX ws (cB (bG aj w) w r bj bi) (bG aj w) w r rk ws).L λts=>ts.L sw
def fP.ok {aj:AA}{r w:ı}{hk:İ (ı×ı)}(h:fP aj r w hk ts):jP aj r w hk ts:=%[h.ne,h.ď,h.ù,h.rk|h.hook]
def fP.down {aj:AA}{r w bi bj:ı}(q:Blk r w aj)(h:fP (bG aj w) w r (cB (bG aj w) w r bj bi) ts):jP aj r w (cB aj r w bi bj) (ts.L sw):=by
 refine%[λz=>h.ne<|vS.mp z,by rw[ab];show h.ď,λt g=>?_,h.rkw|?_]
 .let(u,D,rfl):=a5.mp g;let(a,b,c,d):=h.ù u D;rw[CJ q]at c;show%[b,a,c|d]
 .let(t,g,B):=h.hook;show%[0,sw t,bX g|Ot q B]
def Q7 {ws:AA}{aj:AA}{r w bi bj:ı}{rk:İ ı}(d:Blk r w aj)(hw:∀l∈ws,fu l)(h:x∈mC ws aj r w bi bj rk):jP aj r w (cB aj r w bi bj) x:=by
 unfold mC at h;rcases aT.mp h with z|z;.show(lC hw z).ok
 .let(u,g,rfl):=a5.mp z;show(lC hw g).down d
theorem jP.qR {aj:AA}{r w:ı}{hk:İ (ı×ı)}(h:jP aj r w hk ts)(r9:r<=9)(w9:w<=9):∀t∈ts,qR t:=λt g=>by let(a,b,_,d):=h.ù t g;show%[a7 a r9,a7 b w9|d.lt]
def tW.lay (h:tW H a ts)(B:ts≠[])(ok:∀t∈ts,qR t):pH K H a ts:=by
 let(bs,h1,q):=h;calc%[?_,B|λt D=>%[by have:=(ok t D).2.1;show a7 this<|gT _ _|(ok t D).2.2]];calc .Ç (bf.of h1) ?_;let g:∀bs:İ ĸ,(∀b∈bs,zG H b (tO H b)/\(tO H b).2.2<128)->j7 K H 1 ((bs.L<|tO H).L iz) (bs.L V.H):=by
  intro bs
  induction bs with| nil=>show λ_=>.ê| cons b bs ih=>intro d;let(F,hz):=d b a4;show .á (.Ç (bf.of F)<|.á (.M _)<|.á (.M _)<|.á (.X _ λc G=>by rw[am.mp G];show hz) .ê)<|ih λx hx=>d x<|av _ hx
 have:=g bs λb d=>%[q.ą b d|(ok _ (by rw[<-q.eq];show bX d)).2.2]
 rw[q.eq]at this;show this
theorem aaw:∀{as bs:İ bF},(as.L My.rk).Ã (·<·)->(bs.L My.rk).Ã (·<·)->as.ò bs->as=bs
 | [],bs,_,_,p=>(List.nil_perm.mp p).Ð ▸ rfl
 | a::as,[],_,_,p=>ŀ p.Ę yi
 | a::as,b::bs,ha,hb,p=>by
  let g:=f7.mp ha;let d:=f7.mp hb;let e:a=b:=by
   rcases a8.mp (p.æ.mp<|a4 (a:=a) (l:=as)) with z|z;.show z
   .rcases a8.mp (p.æ.Ù<|a4 (a:=b) (l:=bs)) with y|y;.show y.Ð
    .let h1:=d.1 (My.rk a)<|bX z;let q:=g.1 (My.rk b)<|bX y;lia
  subst e;rw[aaw g.2 d.2 ((List.perm_cons _).mp p)]
def vo {ws us:AA}{hk:İ (ı×ı)}{aj:AA}{r w:ı}{rk:İ ı}(p:us.ò ws)(x:İ bF):x∈eX ws hk aj r w rk us↔x∈eX ws hk aj r w rk ws:=by unfold eX;rw[gf,gf];show%[λ⟨l,h1,d⟩=>%[0,l,p.æ.mp h1|d]|λ⟨l,h1,d⟩=>%[0,l,p.æ.Ù h1|d]]
def ae2 (C CB:ĸ):Sp:=λvs H Q _=>∃(b k d:Addr) (ws:AA) (r w:Nat) (aj aN:AA) (bi bj g:Nat) (rk:İ ı),vs=[.H b,.H k,.X (S rk)]/\cY C H b r w aj aN bi bj/\dZ CB H k d ws/\ws.v<64/\rk.v<=100/\(∀l∈ws,∀ls,ls.v<=l.v->(eN ls rk).v<=g)/\g<=900/\ws.v*(r*(w-1)*g)<=1999/\ws.v*(w*(r-1)*g)<=1999/\
 ∀(p:ĸ) (as:İ ĸ) (L:İ (İ bF)) (H':Hp),aB H H'->H' p=į (.Ç<|as.L V.H)->dW H' as L->Wk L->L.Ö->L.v<=3998->(∀x,x∈L↔x∈mC ws aj r w bi bj rk)->Q (.H p) H'
def lR (J:GG K mg):DF P w K mg base nu 13 (ae2 J.c' J.d'):=by
 calc J.au'.cH pK ?_;intro f bA A outer s H vs Q E hr h;let(b,k,d,ws,r,w',aj,aN,bi,bj,g,rk,rfl,B,BK,Ua,hrk,hg,hg9,hbd,hbe,q):=h;let O:=B.ok;let aav:4000<=Ľ:=by decide
 calc%[0,_,(aC (aO (i:=3) pK.nd rb (Or.Â rb)<|aY (qW J) hr.Ø rb<|ak aG<|ak aU<|ak bw aA)<|aC (Pu (ix:=4) (ns:=["laying"]) pK.nd rb (Or.Â rb) rb (gJ.of ["board","book","rack","across","down"] [] yn) (eU<|aY (qW J) hr.Ø rb<|ak (nG aG J.a'.cl J.v'.m (W8 J) hr.Ø J.v'.b .ê fB)<|ak aU<|ak bw aA) (λ_ _ _ _ _=>(pF (show (["laying","board","book","rack","across","down"]:İ ņ).Ö by decide +kernel) rb ym)) (λ_ _ _ _ _=>dD) λ_ _ _ _ _=>(aY (Cz J) hr.Ø rb<|ak aG aA))<|aD<|aW<|cR cJ ym J.g' cz<|ak (aX (Ar rb hr.ß) ym J.s' lx<|ak (cR (Ob rb hr.ß) ym J.M' PyProof.ô.boot_set<|ak (aR acL bO cD) aA) aA) aA)|?_];calc%[18,b,k,d|%[17,ws,r,w',aj|%[56,aN,bi,bj,g,rk,rb,B,BK,Ua,hrk,hg,hg9,hbd|λp1 D us1 H1 s1 hn1 hp1 pm1 hY1 hl1=>?_]]];let B1:=B.mv s1;let(dx,_,_,_,ex,_):=id B1.ex;calc%[8,b,dx,_,rb,ex,rb|%[32,b,r,w',aj,aN,bi,bj,rb,B1|λpt Ht st Bt=>?_]];let s1t:=s1.À st;calc%[18,pt,k,d|%[17,ws,w',r,bG aj w'|%[56,bG aN w',bj,bi,g,rk,rb,Bt,BK.same s1t,Ua,hrk,hg,hg9,hbe|λp2 as2 us2 H2 s2 hn2 hp2 KR Xk hl2=>?_]]];let sH2:=s1t.À s2;let af_:=s2 _ _<|st _ _ hp1;let aga:=(hY1.mv st).mv s2;let hw1:∀l∈us1,fu l:=λl hl=>BK.az l<|pm1.æ.mp hl;let hw2:∀l∈us2,fu l:=λl hl=>BK.az l<|KR.æ.mp hl;let ok2:∀x∈eX ws (cB (bG aj w') w' r bj bi) (bG aj w') w' r rk us2,fP (bG aj w') w' r (cB (bG aj w') w' r bj bi) x:=λx hx=>lC hw2 hx;generalize hX:eX ws (cB (bG aj w') w' r bj bi) (bG aj w') w' r rk us2=X at Xk ok2;refine%[2,p2,rb,%[_|aP.of hp2]|λL hL=>Ba (f:=fV [] 0) (tt:=jt) (K:=K) (a:=p2) (xs:=as2.L V.H) (λi ys Y=>∃ds:İ ĸ,ys=ds.L V.H/\ds.v=i/\Y L=į (.Æ ys)/\aB H2 Y/\dW Y ds ((X.È i).L λts=>ts.L sw))
  %[13,[],rb,rb,au,aB.ì hL|dW.ê] (λi ys Y _ h=>by let(_,_,_,_,sm,_):=h;show aP.of<|sm _ _ hp2) ?_ ?_]
 .intro i x ys Y hx z;let(ds,rfl,hdl,lu,s6,E_):=z;let(hi,hx):=rfg hx;subst hx;let(ts,et,(bs,hbs,hLb)):=Xk.get hi;let hok:=ok2 ts<|ax et;let agb:=(hok.ok).qR O.w9 O.r9;let hnd:(ts.L λt=>My.rk<|sw t).Ö:=by
   have:=hok.rkw;rw[c8]at this;show List.Ã.imp (λ{a b} hab=>bb hab) this
  calc aak ?_;calc%[46,as2[i],bs,ts,rb,s6 _ _ hbs,hLb.mv s6,agb,hnd,by have:=hok.ď;lia|λp7 bs7 ts7 F s7 Mz hL7 pm7 pw7=>?_];let e7:ts7=ts.L sw:=aaw pw7 hok.rkw pm7;subst e7;let ad2:=s7 _ _ lu;calc%[ad2,by rw[ab,hdl];lia|d8.mk (by rw[ab];show hi) %[13,ds++[p7],yi,by simp[hdl],by rw[au],(s6.À s7).bB hL|?_]];rw[b6,et,b4];show((E_.mv s7).app<|dW.one (ts:=ts.L sw) %[0,bs7,Mz|hL7]).jh<|d7 ad2
 .intro ys Y z;let(ds,rfl,hdl,lu,s6,E_):=z;rw[ab]at hdl;rw[de (by rw[ab];have:=Xk.ď;simp_all)]at E_;let agc:=s6 _ _ af_;let agd:=aga.mv s6;calc%[16,p1,L,_,_,rb,rb,agc,lu,by rw[ab,ab];lia|λpc hpc=>?_];let k7:aB Y (upd Y pc<|HO.Æ<|D.L V.H++ds.L V.H):=aB.ì hpc;let ad3:upd Y pc (HO.Æ<|D.L V.H++ds.L V.H) pc=į (.Æ<|(D++ds).L V.H):=by rw[au,b4]
  let Fb:=(agd.app E_).mv k7;let sH7:=(sH2.À s6).À k7;generalize upd Y pc (HO.Æ<|D.L V.H++ds.L V.H)=F at k7 ad3 Fb sH7 ⊢;let N:∀x,x∈(eX ws (cB aj r w' bi bj) aj r w' rk us1++X.L λts=>ts.L sw)↔x∈mC ws aj r w' bi bj rk:=λx=>by
   unfold mC;rw[aT,aT,vo pm1,<-hX,a5,a5];constructor
   .rintro(z|⟨u,hu,rfl⟩);.show .Â z
    .show .Ò %[0,u,(vo KR u).mp hu|rb]
   .rintro(z|⟨u,hu,rfl⟩);.show .Â z
    .show .Ò %[0,u,(vo KR u).Ù hu|rb]
  generalize hM:(eX ws (cB aj r w' bi bj) aj r w' rk us1++X.L λts=>ts.L sw)=M at Fb N;let hlay:∀a∈D++ds,pH K F a (lO F a):=λa ha=>by
   let hm:lO F a∈M:=by rw[<-Fb.eq];show bX ha
   let hok:=Q7 O.br BK.az<|(N _).mp hm;show(Fb.ą a ha).lay hok.ne<|hok.qR O.r9 O.w9
  calc%[15,pc,D++ds,lO F,rb,aP.of ad3,by rw[aE];lia,hlay|λps bs hps G hnd hall=>?_];let k8:aB F (upd F ps<|HO.ext<|pI w ps bs):=aB.ì hps;let agf:upd F ps (HO.ext<|pI w ps bs) ps=į (.ext<|pI w ps bs):=au;let iZ:bs.v<=D.v+ds.v:=by
   let h1:(bs.L<|lO F).v<=M.v:=hnd.Ė (l₂:=M) λx hx=>by let(a,ha,rfl):=a5.mp hx;rw[<-Fb.eq];show bX<|G a ha
   rw[ab]at h1;rw[<-Fb.len,aE]at h1;show h1
  calc%[15,ps,bs,lO F,rb,agf,yf,λa ha=>(hlay a<|G a ha).mv k8|λpq bs' hpq Z up=>?_];let k9:=k8.bB (o:=HO.Æ (bs'.L V.H))<|k8.Ó hpq;let agx:upd (upd F ps<|HO.ext<|pI w ps bs) pq (HO.Æ<|bs'.L V.H) pq=į (.Æ<|bs'.L V.H):=au;calc%[3,pq,_,rb|.Â %[aP.of au|λT hT=>?_]];let k10:=k9.bB (o:=HO.Ç (bs'.L V.H))<|k9.Ó hT;let hYf:dW (upd (upd (upd F ps<|HO.ext<|pI w ps bs) pq<|HO.Æ<|bs'.L V.H) T<|HO.Ç<|bs'.L V.H) bs' (bs'.L<|lO F):=(dW.mk (λa ha=>Fb.ą a<|G a<|Z.æ.mp ha) rb).mv k10;calc q T bs' _ _ (sH7.À k10) au hYf up ((Z.L<|lO F).nodup_iff.Ù hnd) (by rw[ab,Z.length_eq];lia) λx=>?_;rw[<-N x,(Z.L<|lO F).æ];constructor
  .intro hx;let(a,ha,rfl):=a5.mp hx;rw[<-Fb.eq];show bX<|G a ha
  .intro hx;rw[<-Fb.eq]at hx;let(a,ha,rfl):=a5.mp hx;show hall a ha
def ab6 {l:İ ı}(g:low<=k)(B:k<=high)(D:high<=l.v)(d:cj (l.È k)=(l.È k).Í low)(q:cA (l.Í k)=(l.Í k).È (high-k)):cj (l.È k)++cA (l.Í k)=(l.Í low).È (high-low)/\(cj<|l.È k).v=k-low:=by
 constructor;.rw[d,q,List.drop_take,show high-low=(k-low)+(high-k) by grind,List.take_add,List.drop_drop,show low+(k-low)=k from ed g]
 .rw[d,cp,ba];show gN yf
def Q8 {r w:ı}{A B:AA}(ha:Blk r w A)(d:Blk r w B)(h:∀i j,i<r->j<w->cell A i j=cell B i j):A=B:=by
 apply rg;.rw[ha.len,d.len]
 .intro i h1 q;let F:=ha.iG A[i]<|be _;let G:=d.iG B[i]<|be _;let hr:i<r:=by rw[<-ha.len];show h1
  apply rg;.rw[F,G]
  .intro j D g;have:=h i j hr (by simp_all);rw[cell_eq h1 D,cell_eq q g]at this;show this
def set_same {r w:ı}{R:AA}(g:Blk r w R){i j z:ı}(hi:i<r)(q:j<w):cell (setAt R i j z) i j=z:=by
 let d:i<R.v:=by rw[g.len];show hi
 let hw:(R.Î i []).v=w:=by rw[ah,ae d];show g.iG _<|be _
 unfold cell setAt;rw[ah (l:=R.ĉ _ _),kC d];show ((R.Î i []).ĉ j z).Î j 0=z;rw[ah,kC (by rw[hw];show q)];rfl
def Xl (h:¬(i=i'/\j=j')):cell (setAt R i j z) i' j'=cell R i' j':=by
 unfold cell setAt;by_cases e:i=i'
 .subst e;let ne:j≠j':=λy=>h %[rb|y];rw[ah (l:=R.ĉ _ _)];by_cases hi:i<R.v
  .rw[kC hi];show ((R.Î i []).ĉ j z).Î j' 0=_;rw[ah,nL ne,<-ah]
  .rw[sK (iF hi),<-ah]
 .rw[ah (l:=R.ĉ _ _),nL e,<-ah]
theorem i_:∀{ts:İ bF} {R:AA},(∀t∈ts,¬(t.1=i/\t.2.1=j))->cell (bI R ts) i j=cell R i j
 | [],_,_=>rfl
 | t::ts,R,h=>(i_ (ts:=ts) λx hx=>h x<|av _ hx).À (Xl<|h t a4)
theorem pR {r w:ı}:∀{ts:İ bF} {R:AA} {t:bF},Blk r w R->(∀t∈ts,inB r w t)->ts.Ã (λa b=>¬(a.1=b.1/\a.2.1=b.2.1))->t∈ts->cell (bI R ts) t.1 t.2.1=t.2.2
 | u::ts,R,t,hb,cg,pw,hm=>by
  let(p1,p2):=f7.mp pw;let d:=cg u a4;rcases a8.mp hm with z|z
  .subst z;show(i_ λx hx y=>p1 x hx %[y.1.Ð|y.2.Ð]).À<|set_same hb d.1 d.2.1
  .show pR (ts:=ts) (R:=setAt R u.1 u.2.1 u.2.2) (Gw hb d.1) (λx hx=>cg x<|av _ hx) p2 z
def vZ {ts:İ bF}(d:(ts.L rk).Ã (·<·)):ts.Ã (λa b=>¬(a.1=b.1/\a.2.1=b.2.1)):=by
 rw[e_]at d;calc d.imp λ{a b} h z=>?_;unfold rk at h
 simp_all
def Xm {r w:ı}{aj:AA}{ts d:İ bF}(q:Blk r w aj)(F:∀t∈ts,inB r w t)(pw:(ts.L rk).Ã (·<·))(pm:d.ò (ts.L sw))(J:(d.L rk).Ã (·<·)):bG (bI aj ts) w=bI (bG aj w) d:=by
 let D:∀t∈d,inB w r t:=λt g=>by let(u,G,e):=a5.mp (pm.æ.mp g);have:=F u G;rw[<-e];show%[this.2.1,this.1|this.2.2]
 calc Q8 (gO<|jg q F) (jg (gO q) D) λj i M hi=>?_;rw[qy (jg q F) hi M];by_cases h:∃t∈ts,t.1=i/\t.2.1=j
 .let(t,g,L,O):=h;let h1:=pR q F (vZ pw) g;let hm:sw t∈d:=pm.æ.Ù<|bX g;let Z:=pR (gO q) D (vZ J) hm;rw[L,O]at h1;let B:cell (bI (bG aj w) d) t.2.1 t.1=t.2.2:=Z;rw[L,O]at B;rw[h1,B]
 .let N:∀t∈ts,¬(t.1=i/\t.2.1=j):=λt g z=>h %[0,t,g|z]
  let Y:∀t∈d,¬(t.1=j/\t.2.1=i):=λt g z=>by let(u,G,e):=a5.mp (pm.æ.mp g);rw[<-e]at z;show N u G %[z.2|z.1]
  rw[i_ N,i_ Y,qy q hi M]
def Ub {r w:ı}{aj:AA}(d:Blk r w aj){i j:ı}(hi:i<r):lineOf (bG aj w) j i 1=lineOf aj i j 0:=by
 unfold lineOf;rw[ķ yk,Ĺ rfl];let e:=IK d;have:(bG (bG aj w) r).Î i []=dX (bG aj w) i:=by unfold bG;rw[ah,a_,ie hi];rfl
 rw[<-this,e]
def Uc {w:ı}{aj:AA}{i j:ı}(d:j<w):lineOf (bG aj w) j i 0=lineOf aj i j 1:=by unfold lineOf;rw[Ĺ rb,ķ yk];unfold bG;rw[ah,a_,ie d];rfl
def ad5 {r w:ı}{aj:AA}(d:Blk r w aj):bG (bG aj w) r=aj:=Q8 (gO<|gO d) d λi j hi g=>by rw[qy (gO d) g hi,qy d hi g]
def tY {aj:AA}{r w i j:ı}(hi:i<r)(d:j<w):atC aj r w (i:Ŀ) (j:Ŀ)=cell aj i j:=by unfold atC cell;rw[Ĺ %[eJ _,ii fv hi,yf|yf],cq,cq]
def zL (t:bF):bF:=(t.1,t.2.1,PyProof.ô.lo1 t.2.2)
theorem Q9:∀{ts:İ bF} {ss:İ ı},ss.L PyProof.ô.lo1=oY ts->(gC ts ss).L zL=ts
 | [],[],_=>rfl
 | [],_::_,h=>by cases h
 | _::_,[],h=>by cases h
 | t::ts,c::ss,h=>by injection h with h1 h2;show (t.1,t.2.1,PyProof.ô.lo1 c)::(gC ts ss).L zL=t::ts;rw[Q9 h2,h1]
def Q_ {L:İ ı}(g:j<=p)(d:p<j+n)(hn:j+n<=L.v)(h1:∀c,j<=c->c<j+n->L[c]?≠į 46)(G:0<j->L[j-1]?=į 46)(D:j+n<L.v->L[j+n]?=į 46):cj (L.È p)++cA (L.Í p)=(L.Í j).È n:=by
 let F:cj (L.È p)=(L.È p).Í j:=by
  rcases sn j with z|z
  .subst z;rw[x_];calc Hi λz=>?_;let(c,q,e):=List.mem_take_iff_getElem.mp z;show h1 c (bE _) (by grind) (by rw[ae (by calc a7 ?_ (by assumption);lia),e])
  .have:=Kw (l:=L.È p) (i:=j-1) (by rw[n9 (df yf yf)];show G z) λk hk=>by
    rw[mI];split;.show h1 k yf yf
    .simp
   rwa [show j-1+1=j by lia]at this
 let B:cA (L.Í p)=(L.Í p).È (j+n-p):=by
  rcases dE (j+n) L.v with z|z
  .refine wO (by rw[fz,show p+(j+n-p)=j+n from ed (ay d)];show D z) λk hk=>?_
   rw[fz];show h1 _ (ap g<|di _ _) (by simp[cE,c9]at *;lia)
  .rw[de (by rw[cp];show kU z _)];calc yS λz'=>?_;let(c,q,e):=cn.mp z';rw[cp]at q;show h1 (p+c) yf (by simp[cE,c9]at *;lia) (by rw[<-fz,ae (by rw[cp];show q),e])
 have:=(ab6 (low:=j) (high:=j+n) g (ay d) hn F B).1
 rwa [show j+n-j=n by simp]at this
def Fd {r w:ı}{R:AA}(d:Blk r w R){i c:ı}(hi:i<r)(q:c<w):(R.Î i [])[c]?=į (cell R i c):=by
 let g:(R.Î i []).v=w:=by rw[ah,ae (by rw[d.len];show hi)];show d.iG _<|be _
 unfold cell;rw[ah (l:=R.Î i []),ae (by simp_all)];rfl
def Xn {r w:ı}{R:AA}(d:Blk r w R){m c:ı}(hm:m<r):(dX R c)[m]?=į (cell R m c):=by unfold dX cell;rw[a_,ah (l:=R),ae (by rw[d.len];show hm)];rfl
theorem Nb:∀{ls rk t:İ ı},(∀c∈ls,isLet c)->t∈eN ls rk->t.L PyProof.ô.lo1=ls
 | [],_,t,_,h=>by rw[am.mp h];rfl
 | d::ls,rk,t,hl,h=>by
  let hd:=hl d a4;let(B,F,G,_):=Ao hd;let g:∀c∈ls,isLet c:=λc D=>hl c<|av _ D;unfold isLet at hd;unfold eN at h;rcases aT.mp h with z|z
  .split at z
   .let(u,q,rfl):=a5.mp z;rw[bS,Nb g q,show PyProof.ô.lo1 d=d from ķ yf]
   .simp at z
  .split at z
   .let(u,q,rfl):=a5.mp z;rw[bS,Nb g q,B,show PyProof.ô.lo1 (d-32)=d by unfold PyProof.Rows.lo1;rw[Ĺ (by simp_all;lia)];lia]
   .simp at z
def zM (R:AA)(i j d:ı):İ ı:=cj ((lineOf R i j (d:Ŀ)).È<|placeOf i j (d:Ŀ))++cA ((lineOf R i j (d:Ŀ)).Í<|placeOf i j (d:Ŀ))
def tZ (aj:AA)(x:İ bF)(t:bF)(d:ı):İ ı:=(zM (bI aj x) t.1 t.2.1 d).L PyProof.ô.lo1
def oZ (aj:AA)(x:İ bF)(wd:İ ı):Prop:=∃t∈x,∃d,d<=1/\tZ aj x t d=wd
structure xY (aj:AA)(r w:ı)(l:İ ı)(i j:ı)(x:İ bF):Prop where
 li:i<r
 lj:j+l.v<=w
 ends:rM aj r w i j l=ĳ
 fit:∀k,k<l.v->oV aj r w i j l k=ĳ
 low:x.L zL=b_ aj r w i j l
 laid:∀k,k<l.v->atC aj r w i ((j+k:ı):Ŀ)=46->∃t∈x,t.1=i/\t.2.1=j+k/\PyProof.ô.lo1 t.2.2=l.Î k 0
 back:∀t∈x,∃k,k<l.v/\t.1=i/\t.2.1=j+k
def aax {hk:İ (ı×ı)}{aj:AA}{r w i j:ı}{rk l ss:İ ı}(G:fu l)(hi:i<r)(M:j<w+1-l.v)(q:jO fit hk (b_ aj r w i j l)=ĳ)(F:ss∈eN (oY<|b_ aj r w i j l) rk):xY aj r w l i j (gC (b_ aj r w i j l) ss):=by
 let Z:=Q9<|Nb (λd hd=>by let(t,B,rfl):=a5.mp hd;show zJ G B) F
 unfold jO at q;simp only[dP,i6]at q;let D:=q.1.1;let g:(rM aj r w i j l&&(List.å l.v).ĝ (oV aj r w i j l))=ĳ:=by
  by_cases z:(rM aj r w i j l&&(List.å l.v).ĝ (oV aj r w i j l))=ĳ;.show z
  .unfold b_ at D;rw[ķ z]at D;simp at D
 let L:b_ aj r w i j l=lQ aj r w i j l l.v:=Ĺ g;let(J,hf):=Bool.and_eq_true_iff.mp g;let N:=G.lo;refine%[hi,by simp[cE,c9]at *;lia,J,λk hk=>iE.mp hf k<|b3.Ù hk,Z,λk hk hz=>?_|λt B=>?_]
 .have:(i,j+k,l.Î k 0)∈(gC (b_ aj r w i j l) ss).L zL:=by
   rw[Z,L];show mx.Ù %[0,k,b3.Ù hk|Ĺ hz]
  let(t,B,e):=a5.mp this;injection e with e1 e;injection e with e2 e3;show%[7,t,B,e1,e2|e3]
 .let hm:zL t∈b_ aj r w i j l:=by rw[<-Z];show bX B
  let(k,hk,e,_):=zH hm;injection e with e1 e;injection e with e2 e3;show%[2,k,hk,e1|e2]
def ab7 (l)(k c):(iW l k c).v=(iW l k 97).v:=by unfold iW;simp
def Nf {ws vs l:AA}(h:∀x∈ws,x∈vs)(d:c∈jT ws m k):c∈jT vs m k:=by
 unfold jT at d ⊢;split at d;.rename_i z;rw[Ĺ z];show d
 .rename_i z;rw[ķ z];let(a,b):=fc.mp d;show fc.Ù %[a|aS<|h _<|dC b]
def ZV (h:∀x∈vs,x∈ws\/x=wd)(d:c∈jT vs m k)(hn:iW m k c≠wd):c∈jT ws m k:=by
 unfold jT at d ⊢;split at d;.rename_i z;rw[Ĺ z];show d
 .rename_i z;rw[ķ z];let(a,b):=fc.mp d;show fc.Ù %[a|aS<|(h _<|dC b).resolve_right hn]
def zN (h:∀t∈T,t.2.2∈fit (cO t)->t.2.2∈agg (cO t))(d:jO fit hk T=ĳ):jO agg hk T=ĳ:=by unfold jO at d ⊢;simp only[dP,i6,iE]at d ⊢;show%[d.1,λt g=>h t g<|d.2.1 t g|d.2.2]
def lU {ws us:AA}{hk:İ (ı×ı)}{aj:AA}{r w:ı}{rk:İ ı}:x∈eX ws hk aj r w rk us↔∃l∈us,∃i j ss,i<r/\j<w+1-l.v/\jO (oX ws aj) hk (b_ aj r w i j l)=ĳ/\ss∈eN (oY<|b_ aj r w i j l) rk/\x=gC (b_ aj r w i j l) ss:=by
 unfold eX uT qL;simp only[gf];constructor
 .intro z;let(l,g,c,B,h):=z;let(h1,q):=rK.mp B;split at h
  .rename_i z;let(ss,d,rfl):=a5.mp h;show%[57,l,g,c.1,c.2,ss,h1,q,z,d|rb]
  .simp at h
 .intro z;let(l,g,i,j,ss,h1,q,z,d,rfl):=z;show%[27,l,g,(i,j),rK.Ù %[h1|q]|by rw[Ĺ z];show bX d]
section
variable {aj:AA}{r w:ı}{l:İ ı}{i j:ı}{x:İ bF}{hk:İ (ı×ı)}
theorem xY.cell (A:xY aj r w l i j x)(D:Blk r w aj)(O:fP aj r w hk x)(hk:k<l.v):PyProof.ô.lo1 (cell (bI aj x) i<|j+k)=l.Î k 0:=by
 let G:∀t∈x,inB r w t:=λt g=>let %[a,b,_|d]:=O.ù t g;%[a,b|d]
 let lj:=A.lj;by_cases z:atC aj r w i ((j+k:ı):Ŀ)=46
 .let(t,g,B,F,q):=A.ģ k hk z;have:=pR D G (vZ O.rk) g;rw[B,F]at this;rw[this,q]
 .let hf:=A.fit k hk;unfold oV at hf;rw[aw z,Bool.false_or,i6]at hf;rw[i_,<-tY A.li (show j+k<w by lia)];.show hf
  .intro t g e;have:=(O.ù t g).2.2.1;rw[e.1,e.2]at this;show z this
def xY.edge (A:xY aj r w l i j x)(q:c<w)(h:c+1=j\/c=j+l.v):My.ù (bI aj x) i c=46:=by
 let d:=A.ends;unfold rM at d;simp only[dP,i6]at d;rw[i_,<-tY A.li q]
 .rcases h with h|h;.rw[<-d.1,show ((j:ı):Ŀ)-1=(c:Ŀ) by lia]
  .rw[<-d.2,show ((j:ı):Ŀ)+(l.v:Ŀ)=(c:Ŀ) by simp_all]
 .intro t g e;let(k,k1,_,B):=A.back t g;lia
def xY.row (A:xY aj r w l i j x)(q:Blk r w aj)(O:fP aj r w hk x)(D:fu l)(g:t∈x):tZ aj x t 0=l:=by
 let(Y,k1,G,k3):=A.back t g;let F:∀t∈x,inB r w t:=λt g=>let %[a,b,_|d]:=O.ù t g;%[a,b|d]
 let B:=jg q F;let lj:=A.lj;let N:((bI aj x).Î i []).v=w:=by rw[ah,ae (by rw[B.len];show A.li)];show B.iG _<|be _
 let e:zM (bI aj x) t.1 t.2.1 0=(((bI aj x).Î i []).Í j).È l.v:=by
  rw[G];show cj (((bI aj x).Î i []).È t.2.1)++cA (((bI aj x).Î i []).Í t.2.1)=_;refine Q_ (by simp_all) (by simp_all) (by simp_all) (λc M J=>?_) (λz=>?_) λz=>?_
  .rw[Fd B A.li (a7 J lj)];intro z;have:=A.ù q O (k:=c-j)<|df yf yf;rw[show j+(c-j)=c from ed M,bo z]at this;have:=D.az (l.Î (c-j) 0) (by rw[ah,ae yf];show be _);unfold isLet at this;let L:PyProof.ô.lo1 46=46:=rfl;lia
  .rw[Fd B A.li (iN yf),A.edge yf (.Â yf)]
  .rw[Fd B A.li (by simp_all),A.edge yf (.Ò rb)]
 unfold tZ;rw[e];apply fi;intro k;rw[a_,mI];split
 .rename_i hk;rw[fz,Fd B A.li yf,rV,A.ù q O hk,ah,ae hk];rfl
 .rw[b9 (by simp_all)];rfl
def ab8 {l:İ ı}(hk:k<l.v)(hz:z≠46):cj ((l.ĉ k z).È k)++cA ((l.ĉ k z).Í k)=cj (l.È k)++z::cA (l.Í<|k+1):=by
 let d:k<(l.ĉ k z).v:=by rw[oP];show hk
 rw[List.take_set,sK (by rw[ba];show mS _ _),r8 d,List.getElem_set_self,List.drop_set_of_lt (eW _)];unfold cA;rw[List.takeWhile_cons,Ĺ (by simpa using hz)]
def xY.col (A:xY aj r w l i j x)(q:Blk r w aj)(O:fP aj r w hk x)(g:t∈x):tZ aj x t 1=iW (dX aj t.2.1) t.1 (PyProof.ô.lo1 t.2.2):=by
 let G:∀t∈x,inB r w t:=λt g=>let %[a,b,_|d]:=O.ù t g;%[a,b|d]
 let F:=jg q G;let(k,k1,N,k3):=A.back t g;let(c1,Y,_,D):=O.ù t g;let M:(dX aj t.2.1).v=r:=by unfold dX;rw[ab,q.len]
 let L:dX (bI aj x) t.2.1=(dX aj t.2.1).ĉ t.1 t.2.2:=by
  apply fi;intro m;rw[qh];rcases dE m r with z|z
  .rw[Xn F z,Xn q z];split
   .rename_i e;subst e;rw[Ĺ (by simp_all),pR q G (vZ O.rk) g]
   .rename_i e;rw[i_ λu J z=>e (by let(_,_,Z,_):=A.back u J;simp_all)]
  .rw[b9 (by unfold dX;rw[ab,F.len];show z),ķ yf,b9 (by simp_all)]
 let B:t.2.2≠46:=λz=>by rw[z]at D;show ŀ D (by unfold tV;decide)
 let e:zM (bI aj x) t.1 t.2.1 1=cj ((dX aj t.2.1).È t.1)++t.2.2::cA ((dX aj t.2.1).Í<|t.1+1):=by show cj ((dX (bI aj x) t.2.1).È t.1)++cA ((dX (bI aj x) t.2.1).Í t.1)=_;rw[L,ab8 yf B]
 unfold tZ;rw[e];unfold iW;rw[b4,bS]
end
def vp {ws vs:AA}{hk:İ (ı×ı)}{aj:AA}{r w:ı}{rk wd:İ ı}(M:Blk r w aj)(L:∀l∈vs,fu l)(h:∀x,x∈vs↔x∈ws\/x=wd)(hn:wd∉ws)(h2:2<=wd.v)(x:İ bF):x∈eX ws hk aj r w rk ws↔x∈eX vs hk aj r w rk vs/\¬oZ aj x wd:=by
 let D:∀l∈ws,fu l:=λl q=>L l<|(h l).Ù<|.Â q;let Y:∀{t:bF} {l:İ ı} {i j:ı},t∈b_ aj r w i j l->x.L zL=b_ aj r w i j l->∃u∈x,zL u=t:=λB e=>by rw[<-e]at B;show a5.mp B
 constructor
 .intro hx;let O:=lC D hx;let(l,q,i,j,ss,hi,F,d,g,e):=lU.mp hx;let A:=aax (D l q) hi F d g;rw[<-e]at A;calc%[lU.Ù %[57,l,(h l).Ù<|.Â q,i,j,ss,hi,F,zN (λt _ B=>Nf (l:=[]) (λy N=>(h y).Ù<|.Â N) B) d,g|e]|?_];intro z;let(t,B,wy,t_,G):=z;rcases(show wy=0\/wy=1 by lia) with z|z
  .subst z;rw[A.row M O (D l q) B]at G;show hn<|G ▸ q
  .subst z;rw[A.col M O B]at G;let hm:zL t∈b_ aj r w i j l:=by rw[<-A.low];show bX B
   unfold jO at d;simp only[dP,iE,i6]at d;let hf:=d.2.1 _ hm;let hf:PyProof.ô.lo1 t.2.2∈jT ws (dX aj t.2.1) t.1:=hf;unfold jT at hf;rw[ķ (by rw[<-ab7 _ _ (PyProof.ô.lo1 t.2.2),G];lia)]at hf;have:=dC (fc.mp hf).2;rw[G]at this;show hn this
 .rintro⟨hx,hf⟩;let O:=lC L hx;let(l,q,i,j,ss,hi,F,d,g,e):=lU.mp hx;let A:=aax (L l q) hi F d g;rw[<-e]at A;let(t0,J):=sd _ O.ne;let Z:l∈ws:=((h l).mp q).resolve_right λz=>hf %[27,t0,J,0,yk|by rw[A.row M O (L l q) J,z]];calc lU.Ù %[57,l,Z,i,j,ss,hi,F,zN (λt B hm=>?_) d,g|e];let(u,hu,rfl):=Y B A.low;calc ZV (λy N=>(h y).mp N) hm λz=>hf %[27,u,hu,1,yk|?_];rw[A.col M O hu];show z
def Xo {r w:ı}{R:AA}(g:Blk r w R){i j d:ı}(hi:i<r)(q:j<w)(B:d<=1):zM (bG R w) j i (1-d)=zM R i j d:=by
 rcases(show d=0\/d=1 by lia) with z|z
 .subst z;show cj ((lineOf (bG R w) j i 1).È j)++cA ((lineOf (bG R w) j i 1).Í j)=_;rw[Ub g hi];rfl
 .subst z;show cj ((lineOf (bG R w) j i 0).È i)++cA ((lineOf (bG R w) j i 0).Í i)=_;rw[Uc q];rfl
def Fe {aj:AA}{r w:ı}{hk:İ (ı×ı)}{wd:İ ı}(J:Blk r w aj)(O:fP (bG aj w) w r hk y):oZ aj (y.L sw) wd↔oZ (bG aj w) y wd:=by
 let D:=gO J;let F:∀t∈y,inB w r t:=λt G=>let %[a,b,_|d]:=O.ù t G;%[a,b|d]
 let L:=jg D F;let M:bG (bI (bG aj w) y) r=bI aj (y.L sw):=by
  have:=Xm D F O.rk (ya _) O.rkw
  rwa [ad5 J]at this
 let go:∀u∈y,∀g,g<=1->tZ aj (y.L sw) (sw u) (1-g)=tZ (bG aj w) y u g:=λu q g B=>by unfold tZ;rw[<-M];show Ő _<|Xo L (F u q).1 (F u q).2.1 B
 constructor
 .intro z;let(t,G,g,B,e):=z;let(u,q,rfl):=a5.mp G;have:=go u q (1-g)<|i9 1 g;rw[show 1-(1-g)=g from ff B]at this;show%[27,u,q,1-g,i9 1 g|by rw[<-this];show e]
 .intro z;let(u,q,g,B,e):=z;show%[27,sw u,bX q,1-g,i9 1 g|by rw[go u q g B];show e]
def Xp {ws vs aj:AA}{r w bi bj:ı}{rk wd:İ ı}(g:Blk r w aj)(d:∀l∈vs,fu l)(h:∀x,x∈vs↔x∈ws\/x=wd)(hn:wd∉ws)(B:2<=wd.v)(x:İ bF):x∈mC ws aj r w bi bj rk↔x∈mC vs aj r w bi bj rk/\¬oZ aj x wd:=by
 unfold mC;rw[aT,aT,vp g d h hn B];constructor
 .rintro(z|z);.show%[.Â z.1|z.2]
  .let(y,q,rfl):=a5.mp z;let(D,F):=(vp (gO g) d h hn B y).mp q;show%[.Ò<|bX D|λz=>F<|(Fe g<|lC d D).mp z]
 .rintro⟨z|z,hf⟩;.show .Â %[z|hf]
  .let(y,q,rfl):=a5.mp z;show .Ò<|bX<|(vp (gO g) d h hn B y).Ù %[q|λz=>hf<|(Fe g<|lC d q).Ù z]
def JT (H:Hp)(d:ĸ)(x:İ bF):Prop:=∃kvs:İ (İ Key×V),H d=į (.dT kvs)/\∀i j:Ŀ,(∃t∈x,(t.1:Ŀ)=i/\(t.2.1:Ŀ)=j/\cF kvs [Sum.Â i,Sum.Â j]=į (.X<|S [t.2.2]))\/((∀t∈x,¬((t.1:Ŀ)=i/\(t.2.1:Ŀ)=j))/\cF kvs [Sum.Â i,Sum.Â j]=Ĵ)
def JT.mv (h:JT H d x)(s:aB H H'):JT H' d x:=let %[k,e|r]:=h;%[0,k,s _ _ e|r]
structure Ra (H:Hp)(p d:ĸ)(r w:ı)(aj:AA)(x:İ bF):Prop where
 ls:H p=į (.Æ<|Ts aj)
 dt:JT H d x
 br:Blk r w aj
 r9:r<=9
 w9:w<=9
 r1:1<=r
 Rb:∀t∈x,inB r w t
 ds:x.Ã (λa b=>¬(a.1=b.1/\a.2.1=b.2.1))
def Ra.mv {r w:ı}{aj:AA}(h:Ra H p d r w aj x)(s:aB H H'):Ra H' p d r w aj x:=%[s _ _ h.ls,h.dt.mv s,h.br,h.r9,h.w9,h.r1,h.Rb|h.ds]
def agh:Sp:=λvs H Q _=>∃(p d:Addr) (r w:Nat) (aj:AA) (x:İ bF) (i j:Int),vs=[.H p,.H d,.M i,.M j]/\Ra H p d r w aj x/\∀H',aB H H'->Q (.X<|S [atC (bI aj x) r w i j]) H'
def CN (Gz:GG K mg):DF P w K mg base Ei 1 agh:=by
 calc Gz.bo'.cH abt ?_;intro f bA A outer s H vs Q E hr h;let(p,d,r,w',aj,x,i,j,rfl,O,q):=h;let hu:=mX hr;let w9:=O.w9;let(kvs,hd,hk):=O.dt;calc%[0,_,(aC (cC (CQ<|Kf hu (dz<|ak bw<|ak bO aA) aU) (aD<|aW<|Ft hu aU (dz<|ak bw<|ak bO aA) λ_ _=>rfl) bN)<|aC (cC (QW.qt<|CT (wC mW wB aF bw<|aX bY ym Gz.b' bP<|ak aG aA)<|zP<|wC mW wB aF bO<|aX cI ym Gz.b' bP<|ak (bK d9 aG aF λ_ _=>rfl) aA) (aD<|aW<|bK uV (bK d9 aG bw λ_ _=>rfl) bO λ_ _=>rfl) bN)<|aD<|aW<|bU [46] yo)|?_];calc%[zsz 2|λg hg=>?_];let k1:aB H (upd H g<|HO.Ç [.M i,.M j]):=aB.ì hg;let g1:upd H g (HO.Ç [.M i,.M j]) g=į (.Ç<|([Sum.Â i,Sum.Â j]:İ Key).L kV):=au;generalize upd H g (HO.Ç [.M i,.M j])=H1 at k1 g1 ⊢;let G:=jJ.t (k1 _ _ hd) g1;calc%[1,d,_,rb,G|?_];rcases hk i j with⟨t,M,e1,e2,N⟩|⟨hno,N⟩
 .rw[N];calc(aZ ĳ rb<|cu ?_);calc%[zsz 2|λg2 Z=>?_];let k2:=k1.bB (o:=HO.Ç [.M i,.M j])<|k1.Ó Z;let G2:=jJ.t (H:=upd H1 g2 (HO.Ç [.M i,.M j])) (b:=g2) (k:=[Sum.Â i,Sum.Â j]) (k2 _ _ hd) au;rw[N]at G2;calc%[1,d,_,rb,G2|?_];let cg:=O.Rb t M;have:atC (bI aj x) r w' i j=t.2.2:=by
   rw[<-e1,<-e2,tY cg.1 cg.2.1,pR O.br O.Rb O.ds M]
  rw[<-this];show q _ k2
 .rw[N];calc(aZ Ķ rb<|bZ ?_);let O1:=O.mv k1;let J:(Ts aj).v=r:=by rw[ab,O.br.len]
  let out:¬(0<=i/\i<r/\0<=j/\j<w')->Q (.X<|S [46]) H1:=λz=>by let e:atC (bI aj x) r w' i j=46:=ķ z;have:=q H1 k1;rw[e]at this;show this
  let D:aj[0]?=į (aj.Î 0 []):=by rw[ah,ae (by rw[O.br.len];show O.r1)];rfl
  let B:(aj.Î 0 []).v=w':=O.br.iG _<|ax D;refine%[1,_,_,rb,rb|jr (λc1=>?_) λc1=>?_]
  .refine%[24,p,_,rb,.Â<|aP.of O1.ls,_,_,rb,rb|jr (λY=>?_) λY=>bZ ?_]
   .refine%[1,_,_,rb,rb|jr (λc3=>?_) λc3=>(aZ Ķ rb<|bZ ?_)]
    .calc%[5,p,_,_,_,rb,rb,aP.of O1.ls,bh (j:=0)<|oR D|?_];let hgz:(aj.Î 0 []).v<=1000:=yf;refine%[33,_,rb,ay<|aH yf,_,_,rb,rb|jr (λL=>?_) λL=>?_]
     .rw[J]at Y;rw[B]at L;let d1:=dC c1;let d2:=dC Y;let d3:=dC c3;let d4:=dC L;obtain⟨i,rfl⟩:∃k:Nat,i=k:=%[i.Õ|yf]
      obtain⟨j,rfl⟩:∃k:Nat,j=k:=%[j.Õ|yf]
      let hi:i<aj.v:=by rw[O.br.len];show Iff.mp fv d2
      let F:aj[i]?=į (aj.Î i []):=by rw[ah,ae hi];rfl
      let hw:(aj.Î i []).v=w':=O.br.iG _<|ax F;let hgj:(aj.Î i [])[j]?=į ((aj.Î i []).Î j 0):=by rw[ah (l:=aj.Î i []),ae yf];rfl
      let e:atC (bI aj x) r w' (i:Ŀ) (j:Ŀ)=(aj.Î i []).Î j 0:=by rw[tY yf yf,i_ λt M z=>hno t M %[yf|yf]];rfl
      let q1:=q H1 k1;rw[e]at q1;show%[22,p,_,_,_,rb,rb,aP.of O1.ls|%[29,bh<|oR F,_,_,_,rb,rb,ay<|aH yf,bh hgj|q1]]
     .refine out λz=>L<|aS ?_
      rw[B];show z.2.2.2
    .show out λz=>c3<|aS z.2.2.1
   .refine out λz=>Y<|aS ?_
    rw[J];show z.2.1
  .show out λz=>c1<|aS z.1
def rP (d i:ı)(m:Ŀ):Ŀ:=if d=0 then i else m
def cP (d j:ı)(m:Ŀ):Ŀ:=if d=0 then m else j
def Ud (h:wy<=1)(i)(m):rP wy i m-wy=rP wy i (m-1)/\rP wy i m+wy=rP wy i (m+1):=by
 unfold rP;by_cases z:wy=0;.rw[Ĺ z,Ĺ z,Ĺ z,z];simp
 .rw[ķ z,ķ z,ķ z];(simp_all;lia)
def Ue (h:wy<=1)(j)(m):cP wy j m-(1-wy)=cP wy j (m-1)/\cP wy j m+(1-wy)=cP wy j (m+1):=by
 unfold cP;by_cases z:wy=0;.rw[Ĺ z,Ĺ z,Ĺ z,z];lia
 .rw[ķ z,ķ z,ķ z];lia
def ae3 {r w:ı}{R:AA}(g:Blk r w R){i j d:ı}(hi:i<r)(q:j<w)(h:d<=1)(m:Ŀ):atC R r w (rP d i m) (cP d j m)=lq (lineOf R i j (d:Ŀ)) m:=by
 have:=abR g hi q (way:=(d:Ŀ)) yf<|m-(placeOf i j (d:Ŀ):ı);rw[show ((placeOf i j (d:Ŀ):ı):Ŀ)+(m-(placeOf i j (d:Ŀ):ı))=m by lia]at this;rw[<-this];unfold rP cP placeOf;rcases(show d=0\/d=1 by lia) with z|z
 .subst z;rw[Ĺ rb,Ĺ rb,Ĺ (show ((0:ı):Ŀ)=0 from rb)];congr 1 <;> lia
 .subst z;rw[ķ yk,ķ yk,ķ yk];congr 1 <;> lia
def Ng (h:lq l m≠46):∃n:Nat,m=n/\n<l.v/\l[n]?≠į 46/\l[n]?=į (lq l m):=by
 by_cases z:0<=m/\m<l.v
 .obtain⟨n,rfl⟩:∃n:Nat,m=n:=%[m.Õ|yf]
  let hn:n<l.v:=by simp_all
  rw[Gx hn]at h ⊢;show%[7,n,rb,hn,by rw[ae hn];simpa using h|ae hn]
 .show ŀ (Zx z) h
def ae4:Sp:=λvs H Q _=>∃(p d:Addr) (r w:Nat) (aj:AA) (x:İ bF) (i j g:Nat),vs=[.H p,.H d,.M i,.M j,.M g]/\Ra H p d r w aj x/\i<r/\j<w/\g<=1/\(∀l∈aj,∀c∈l,uL c)/\cell (bI aj x) i j≠46/\∀H',aB H H'->Q (.X<|S<|(zM (bI aj x) i j g).L PyProof.ô.lo1) H'
def ab9 (Gz:GG K mg):DF P w K mg base JM 2 ae4:=by
 calc Gz.bp'.cH oN ?_;intro f bA A outer s H vs Q E hr h;let(p,d,r,w',aj,x,i,j,B,rfl,O,hi,hj,J,qx,hcl,q):=h;let hB:=jg O.br O.Rb;let cg:=O.Rb;let D:=ae3 hB hi hj J;let L:=oU hB hi (j:=j) (way:=(B:Ŀ));let hk:placeOf i j (B:Ŀ)<(lineOf (bI aj x) i j (B:Ŀ)).v:=by rw[L];unfold placeOf;split <;> assumption
 let r9:=O.r9;let w9:=O.w9;let hl9:(lineOf (bI aj x) i j (B:Ŀ)).v<=9:=by rw[L];split <;> assumption
 let G:∀c∈lineOf (bI aj x) i j (B:Ŀ),c<128:=λc hc=>JR<|QV (Cv O.br O.Rb qx) hB hj c hc;let N:lq (lineOf (bI aj x) i j (B:Ŀ)) (placeOf i j (B:Ŀ):ı)≠46:=by
  rw[<-D];have:atC (bI aj x) r w' (i:Ŀ) (j:Ŀ)≠46:=by rw[tY hi hj];show hcl
  let Y:rP B i (placeOf i j (B:Ŀ):ı)=i:=by unfold rP placeOf;split <;> simp_all
  let Z:cP B j (placeOf i j (B:Ŀ):ı)=j:=by unfold cP placeOf;split <;> simp_all
  rw[Y,Z];show this
 let hst:∀m:Ŀ,m=(placeOf i j (B:Ŀ):ı)->rP B i m=i/\cP B j m=j:=λm e=>by subst e;unfold rP cP placeOf;constructor <;> split <;> simp_all
 let hq:∀H',aB H H'->∀run,run=cj ((lineOf (bI aj x) i j (B:Ŀ)).È<|placeOf i j (B:Ŀ))++cA ((lineOf (bI aj x) i j (B:Ŀ)).Í<|placeOf i j (B:Ŀ))->Q (.X<|S<|run.L PyProof.ô.lo1) H':=λH' s _ e=>by rw[e];show q H' s
 clear q L;generalize lineOf (bI aj x) i j (B:Ŀ)=l at D hk hl9 G N hq;generalize placeOf i j (B:Ŀ)=k at hk N hst hq;calc%[0,_,(aC (aO (i:=5) oN.nd rb (Or.Â rb) cD)<|aC (aO (i:=6) oN.nd rb (Or.Â rb)<|aR jq aF cD)<|aC (kW<|wA b7 (bW sI (aY (CN Gz) hr.Ø rb<|ak aG<|ak aU<|ak (aR jq bw cV)<|ak (aR jq bO fj) aA) (bU [46] yo)<|bQ _)<|aC (aO (i:=2) oN.nd rb (Or.Â rb)<|aR jq bw cV)<|aD<|aO (i:=3) oN.nd rb (Or.Â rb)<|aR jq bO fj)<|aC (aO (i:=7) oN.nd rb (Or.Â rb)<|bU [] yo)<|aC (kW<|wA b7 (bW sI (aY (CN Gz) hr.Ø rb<|ak aG<|ak aU<|ak bw<|ak bO aA) (bU [46] yo)<|bQ _)<|aC (aO (i:=7) oN.nd rb (Or.Â rb)<|aR h_ iJ<|aY (CN Gz) hr.Ø rb<|ak aG<|ak aU<|ak bw<|ak bO aA)<|aC (aO (i:=2) oN.nd rb (Or.Â rb)<|aR cZ bw cV)<|aD<|aO (i:=3) oN.nd rb (Or.Â rb)<|aR cZ bO fj)<|aD<|aW<|vB cw pi pE Di iJ)|?_];let(er,ec):=hst k rfl;calc%[1,_,_,rb,rb|?_];rw[<-er,<-ec];refine%[λI H'=>∃low:Nat,aB H H'/\low<=k/\I=[į (.H p),į (.H d),į (.M<|rP B i low),į (.M<|cP B j low),į (.M B),į (.M B),į (.M<|1-B),Ĵ]/\(∀y,low<=y->y<=k->l[y]?≠į 46)/\(0<low->l[low-1]?=į 46),?_|?_]
 .refine%[λm I H'=>aB H H'/\m<=k/\I=[į (.H p),į (.H d),į (.M<|rP B i m),į (.M<|cP B j m),į (.M B),į (.M B),į (.M<|1-B),Ĵ]/\∀y,m<=y->y<=k->l[y]?≠į 46,%[7,k,aB.Č _,ai _,rb|λy h1 M=>?_]|?_]
  .let(n,e,_,F,_):=Ng N;rw[show y=n by lia];show F
  intro m I H' z;let(sm,hm,rfl,hx):=z;calc%[24,_,_,rb,rb,_,_,rb,rb|%[17,p,d,r,w'|%[43,aj,x,_,_,rb,O.mv sm|λH2 s2=>?_]]];rw[(Ud J i m).1,(Ue J j m).1,D];let Nh:([lq l ((m:Ŀ)-1)]=[46])↔lq l ((m:Ŀ)-1)=46:=yi;calc%[1,_,_,rb,rb|aZ _ rb ?_];by_cases hz:lq l ((m:Ŀ)-1)=46
  .rw[aS (Nh.Ù hz)];calc bZ %[13,m,sm.À s2,hm,rb,hx|λh0=>?_];let hl:m-1<l.v:=iN yf;rw[show (m:Ŀ)-1=((m-1:ı):Ŀ) by grind,Gx hl]at hz;rw[ae hl,hz]
  .rw[aw (λz=>hz<|Nh.mp z)];let(n,en,hn,F,_):=Ng hz;refine cu %[0,λI H4=>aB H H4/\I=[į (.H p),į (.H d),į (.M<|rP B i n),į (.M<|cP B j n),į (.M B),į (.M B),į (.M<|1-B),none],λσ' H' ⟨Y,Z⟩=>%[13,n,yf,Y,yf,Z|λy h1 M=>?_]|?_]
   .by_cases hy:y=n;.rw[hy];show F
    .show hx y yf M
   .calc%[42,_,_,rb,rb,_,_,rb,rb,sm.À s2|?_];rw[<-en,<-(Ud J i m).1,<-(Ue J j m).1];rfl
 .intro I H1 z;let(low,Ni,hlk,rfl,hx,hlow):=z;let ae5:∀g,low+g<=l.v->k<low+g->(∀y,low<=y->y<low+g->l[y]?≠į 46)->(low+g<l.v->l[low+g]?=į 46)->cj (l.È k)++cA (l.Í k)=(l.Í low).È g:=λg h1 M h3 h4=>Q_ hlk M h1 h3 hlow h4;refine%[λI H'=>aB H H'/\∃a b:ĵ V,I=[į (.H p),į (.H d),a,b,į (.M B),į (.M B),į (.M<|1-B),į (.X<|S<|cj (l.È k)++cA (l.Í k))],?_|?_]
  .calc%[λm I H'=>∃g,m+(low+g)=l.v/\aB H H'/\I=[į (.H p),į (.H d),į (.M<|rP B i (low+g:ı)),į (.M<|cP B j (low+g:ı)),į (.M B),į (.M B),į (.M<|1-B),į (.X<|S<|(l.Í low).È g)]/\∀y,low<=y->y<low+g->l[y]?≠į 46,%[4,l.v-low,0,yf,Ni,rb|λy h1 M=>(ŀ M<|Nat.not_lt_of_ge h1)]|?_];intro m I H' z;let(g,hm,sm,rfl,hy):=z;let Nh:([lq l ((low+g:ı):Ŀ)]=[46])↔lq l ((low+g:ı):Ŀ)=46:=yi;calc%[17,p,d,r,w'|%[43,aj,x,_,_,rb,O.mv sm|λH2 s2=>?_]];rw[D];calc%[1,_,_,rb,rb|aZ _ rb ?_];by_cases hz:lq l ((low+g:ı):Ŀ)=46
   .rw[aS (Nh.Ù hz)];let hnx:low+g<l.v->l[low+g]?=į 46:=λh0=>by
     rw[Gx h0]at hz;rw[ae h0,hz]
    let hkg:k<low+g:=by
     rcases dE k (low+g) with z|z;.show z
     .show ŀ (hnx<|fw z hk)<|hx _ (di _ _) z
    let et:=ae5 g yf hkg hy hnx;show bZ %[sm.À s2|%[10,_,_|by rw[et]]]
   .rw[aw (λz=>hz<|Nh.mp z)];let(n,en,hn,F,hget):=Ng hz;obtain rfl:n=low+g:=by lia
    refine cu %[0,λI H4=>aB H H4/\I=[į (.H p),į (.H d),į (.M<|rP B i (low+(g+1):ı)),į (.M<|cP B j (low+(g+1):ı)),į (.M B),į (.M B),į (.M<|1-B),į (.X<|S<|(l.Í low).È<|g+1)],λσ' H' ⟨Y,Z⟩=>%[44,m-1,vj yf yf,g+1,yf,Y,Z|λy h1 M=>?_]|?_]
    .by_cases hyn:y=low+g;.rw[hyn];show F
     .show hy y h1 yf
    .calc%[17,p,d,r,w'|%[43,aj,x,_,_,rb,O.mv<|sm.À s2|λH3 s3=>?_]];rw[D];calc%[4,_,_,rb,rb,ay<|aH (by rw[ba];simp;lia)|?_];calc%[42,_,_,rb,rb,_,_,rb,rb,(sm.À s2).À s3|?_];let Wo:g<(l.Í low).v:=by rw[cp];show fo yf
     let agi:(l.Í low).È g++[lq l ((low+g:ı):Ŀ)]=(l.Í low).È (g+1):=by rw[b6,fz,hget];rfl
     rw[agi,show ((low+(g+1):ı):Ŀ)=((low+g:ı):Ŀ)+1 from rb,<-(Ud J i _).2,<-(Ue J j _).2];rfl
  .intro I H2 z;let(sm,a,b,rfl):=z;let hrl:(cj (l.È k)++cA (l.Í k)).v<=1000:=by
    let t1:=uM<|l.È k;let t2:=uN<|l.Í k;rw[ba]at t1;rw[cp]at t2;rw[aE];lia
   calc%[63,rb,_,rb,rb,hrl,λc hc=>?_|hq H2 sm _ rb];rcases aT.mp hc with z|z;.show G c<|dm<|I_ z
   .show G c<|e9<|IW z
def Xq (L:dI H as ts)(hi:i<ts.v):∃(h:i<as.v),H as[i]=į (.Ç [.M ts[i].1,.M ts[i].2.1,.X (S [ts[i].2.2])]):=by
 let h:i<as.v:=by rw[L.len];show hi
 let(t,e,d):=L.get h;rw[ae hi]at e;let e:=bo e;rw[<-e]at d;show%[h|d]
def Ug:Sp:=λvs H Q _=>∃(p t:Addr) (as:İ ĸ) (r w:Nat) (aj:AA) (x:İ bF) (wd:İ ı),vs=[.H p,.H t,.X (S wd)]/\H p=į (.Æ<|Ts aj)/\H t=į (.Ç<|as.L V.H)/\dI H as x/\x.v<=7/\Blk r w aj/\r<=9/\w<=9/\1<=r/\(∀l∈aj,∀c∈l,uL c)/\(∀t∈x,inB r w t)/\x.Ã (λa b=>¬(a.1=b.1/\a.2.1=b.2.1))/\wd.v<=100/\∀b H',(b=ĳ↔oZ aj x wd)->aB H H'->Q (.bl b) H'
def Nj (Gz:GG K mg):DF P w K mg base Aj 3 Ug:=by
 calc Gz.bq'.cH jN ?_;intro f bA A outer s H vs Q E hr h;let(p,t,as,r,w',aj,x,wd,rfl,hp,Z,hL,h7,hb,r9,w9,r1,qx,cg,hds,hwl,q):=h;let B:=mX hr;let N:=hL.ď;calc%[0,_,(aC (aO (i:=3) jN.nd rb (Or.Â rb) BP)<|aC (c7 b7 rb (gD aU) (mK rb<|cM (bL (i:=4) jN.nd rb<|Or.Â rb)<|cM (bL (i:=5) jN.nd rb<|Or.Â rb)<|cM (bL (i:=6) jN.nd rb<|Or.Â rb) jV)<|aD<|pD B bO (dz<|ak cD<|ak cV aA) fj rb)<|aC (c7 b7 rb (gD aU) (mK rb<|cM (bL (i:=4) jN.nd rb<|Or.Â rb)<|cM (bL (i:=5) jN.nd rb<|Or.Â rb)<|cM (bL (i:=6) jN.nd rb<|Or.Â rb) jV)<|aD<|c7 b7 rb (eU<|dF<|ak aF<|ak aF aA) (bL (i:=7) jN.nd rb<|Or.Â rb)<|aD<|cC (bW sH (aY (ab9 Gz) hr.Ø rb<|ak aG<|ak bO<|ak cD<|ak cV<|ak iJ aA) bw<|bQ _) (aD<|aW gG) bN)<|aD<|aW gG)|?_];intro F hF;let s0:aB H (upd H F<|HO.dT []):=aB.ì hF;let qU:upd H F (HO.dT []) F=į (.dT []):=au;generalize upd H F (HO.dT [])=H0 at s0 qU ⊢;refine%[2,t,rb,%[_|bf.of<|s0 _ _ Z]|nP (K:=K) (a:=t) (xs:=as.L V.H) (λn I H2=>∃(v4 v5 v6:ĵ V) (kvs:İ (İ Key×V)),I=[į (.H p),į (.H t),į (.X<|S wd),į (.H F),v4,v5,v6,Ĵ]/\aB H H2/\H2 F=į (.dT kvs)/\kvs.v<=n/\∀i j:Ŀ,(∃t∈x.È n,(t.1:Ŀ)=i/\(t.2.1:Ŀ)=j/\cF kvs [Sum.Â i,Sum.Â j]=į (.X<|S [t.2.2]))\/((∀t∈x.È n,¬((t.1:Ŀ)=i/\(t.2.1:Ŀ)=j))/\cF kvs [Sum.Â i,Sum.Â j]=Ĵ))
  %[5,Ĵ,Ĵ,Ĵ,[],rb,s0,qU,ai _|λi j=>.Ò %[λt Z=>by simp at Z|rb]] (λn I H2 _ h=>by let(_,_,_,_,_,sm,_):=h;show bf.of<|sm _ _ Z) ?_ ?_]
 .intro n y I H2 D z;let(v4,v5,v6,kvs,rfl,sm,iY,hkl,G):=z;let(hi,D):=rfg D;subst D;let hn:n<x.v:=yf;let(_,en):=Xq (hL.mv sm) hn;let ex:x[n]?=į x[n]:=ae hn;calc%[1,as[n],_,rb,bf.of en|%[19,rb,_,_,rb|%[10,_,_|%[14,rb,_,_,rb,rb|?_]]]];calc%[zsz 2|λg hg=>?_];let k4:aB H2 (upd H2 g<|HO.Ç [.M (x[n].1:Ŀ),.M (x[n].2.1:Ŀ)]):=aB.ì hg;let nT:=k4 _ _ iY;calc%[1,F,_,rb,n8.t (k:=[Sum.Â (x[n].1:Ŀ),Sum.Â (x[n].2.1:Ŀ)]) nT au<|aH yf|?_];calc%[5,_,_,_,putK kvs _ _,rb,(sm.À k4).bB hF,au,ap (QZ _ _ _)<|e6 hkl|λi j=>?_];rw[wG,b6,ex];by_cases z:([Sum.Â i,Sum.Â j]:İ Key)=[Sum.Â (x[n].1:Ŀ),Sum.Â (x[n].2.1:Ŀ)]
  .rw[Ĺ z];injection z with z1 z2;injection z2 with z2 _;injection z1 with z1;injection z2 with z2;show .Â %[7,x[n],dq _<|am.Ù rb,z1.Ð,z2.Ð|rb]
  .rw[ķ z];rcases G i j with⟨u,B,e1,e2,e3⟩|⟨h1,h2⟩;.show .Â %[7,u,nI _ B,e1,e2|e3]
   .calc .Ò %[λu B e=>?_|h2];rcases aT.mp B with y|y;.show h1 u y e
    .have:u=x[n]:=by simpa using y
     subst this;show z (by rw[e.1,e.2])
 .intro I H1 z;let(v4,v5,v6,kvs,rfl,Ni,Q0,hkl,G):=z;rw[ab,N,c6]at G;let O:Ra H1 p F r w' aj x:=%[Ni _ _ hp,%[0,kvs,Q0|G],hb,r9,w9,r1,cg|hds]
  let hL1:=hL.mv Ni;let ht1:=Ni _ _ Z;refine%[2,t,rb,%[_|bf.of ht1]|nP (K:=K) (a:=t) (xs:=as.L V.H) (λn I H2=>∃(v4 v5 v6 v7:ĵ V),I=[į (.H p),į (.H t),į (.X<|S wd),į (.H F),v4,v5,v6,v7]/\aB H1 H2/\∀u∈x.È n,∀d,d<=1->tZ aj x u d≠wd)
   %[43,v4,v5,v6,Ĵ,rb,aB.Č _|λu B=>by simp at B] (λn I H2 _ h=>by let(_,_,_,_,_,sm,_):=h;show bf.of<|sm _ _ ht1) ?_ ?_]
  .intro n y I H2 D z;let(v4,v5,v6,v7,rfl,sm,J):=z;let(hi,D):=rfg D;subst D;let hn:n<x.v:=yf;let(_,en):=Xq (hL1.mv sm) hn;let ex:x[n]?=į x[n]:=ae hn;let L:x[n]∈x:=be hn;let(i1,i2,i3):=cg _ L;let hcl:cell (bI aj x) x[n].1 x[n].2.1≠46:=by
    rw[pR hb cg hds L];intro z;rw[z]at i3;show ŀ i3 (by unfold tV;decide)
   calc%[1,as[n],_,rb,bf.of en|%[19,rb,_,_,rb|%[10,_,_|%[14,rb,_,_,rb,rb|?_]]]];calc%[zsz 2|λM hM=>?_];let k3:aB H2 (upd H2 M<|HO.Æ [.M 0,.M 1]):=aB.ì hM;let Eu:upd H2 M (HO.Æ [.M 0,.M 1]) M=į (.Æ [.M 0,.M 1]):=au;generalize upd H2 M (HO.Æ [.M 0,.M 1])=H3 at k3 Eu ⊢;let O3:=O.mv<|sm.À k3;refine%[2,M,rb,%[_|aP.of Eu]|jH (K:=K) (a:=M) (xs:=[.M 0,.M 1]) (λm I H4=>∃v7:ĵ V,I=[į (.H p),į (.H t),į (.X<|S wd),į (.H F),į (.M x[n].1),į (.M x[n].2.1),į (.X<|S [x[n].2.2]),v7]/\aB H3 H4/\∀d,d<m->tZ aj x x[n] d≠wd)
    %[2,v7,rb,aB.Č _|λd h=>by simp_all] (λm I H4 _ h=>by let(_,_,s,_):=h;show aP.of<|s _ _ Eu) ?_ ?_]
   .intro m y I H4 D z;let(v7,rfl,Y,ZW):=z;let hm:m<=1:=by have:=(al.mp D).1;simp at this;show dA this
    let ey:y=.M (m:ı):=by rcases(show m=0\/m=1 by lia) with z|z <;> (subst z;show(bo D).Ð)
    subst ey;calc%[10,p,F|%[68,r,w',aj,x,x[n].1,x[n].2.1,m,rb,O3.mv Y,i1,i2,hm,qx,hcl|λH5 s5=>?_]];calc%[1,_,_,rb,rb|aZ _ rb ?_];by_cases hz:tZ aj x x[n] m=wd
    .rw[aS (show (zM (bI aj x) x[n].1 x[n].2.1 m).L PyProof.ô.lo1=wd from hz)];calc cu ?_;show q ĳ H5 %[λ_=>%[27,x[n],L,m,hm|hz]|λ_=>rfl]<|(Ni.À sm).À<|(k3.À Y).À s5
    .rw[aw (show ¬(zM (bI aj x) x[n].1 x[n].2.1 m).L PyProof.ô.lo1=wd from hz)];calc bZ %[2,_,rb,Y.À s5|λd hw=>?_];by_cases e:d=m;.rw[e];show hz
     .show ZW d yf
   .intro I H4 z;let(v7,rfl,Y,ZW):=z;calc%[43,_,_,_,_,rb,(sm.À k3).À Y|λu B d hw=>?_];rw[b6,ex]at B;rcases aT.mp B with y|y;.show J u y d hw
    .have:u=x[n]:=by simpa using y
     rw[this];show ZW d (by show d<2;show xl hw)
  .intro I H2 z;let(v4,v5,v6,v7,rfl,sm,J):=z;rw[ab,N,c6]at J;refine q Ķ H2 ⟨(λz=>by cases z),λ⟨u,B,d,hw,e⟩=>ŀ e<|J u B d hw⟩<|Ni.À sm
def Nk (L:İ (İ bF)):Prop:=L.Ã (λa b=>dg a<dg b)
def ad6 {L:İ (İ bF)}(u:Wk L)(nd:L.Ö)(ok:∀x∈L,∀t∈x,jy t):Nk L:=by let h:L.Ã (λa b=>Ļ (dg b<dg a)=Ķ/\a≠b):=List.pairwise_and_iff.Ù %[u|nd];calc lv (λ{a b} ha hb hab=>?_) h;show Wu (sr hab.1) λe=>hab.2 (Li (ok b hb) (ok a ha) e).Ð
def ad7 (K:W.Ì)(H:Hp)(as:İ ĸ)(L:İ (İ bF)):Prop:=as.v=L.v/\∀(i:ı) a x,as[i]?=į a->L[i]?=į x->pH K H a x
def ae6 (K:W.Ì):Sp:=λvs H Q _=>∃(T:Addr) (as:İ ĸ) (L:İ (İ bF)),vs=[.H T]/\H T=į (.Ç<|as.L V.H)/\L.v<=4000/\ad7 K H as L/\Nk L/\Q (.bl ĳ) H
def Jh (G:GG K mg):DF P w K mg base xM 1 (ae6 K):=by
 calc G.br'.cH Ik ?_;intro f bA A outer s H vs Q E hr h;let(T,as,L,rfl,g,Y,(F,d),up,q):=h;calc%[0,_,(aC (cC (fK<|dJ<|aX jd ym G.n' f8<|ak aG<|ak (o8 (v:=.ty "tuple") ym G.g' cz rb) aA) (aD<|aW gG) bN)<|aC (c7 b7 rb (jD ym G.i'<|ak (aR jq (aX bY ym G.b' bP<|ak aG aA) aF) aA) (bL (i:=1) Ik.nd rb<|Or.Â rb)<|aD<|cC (fK<|bW (Y6 hr.ß) (bK dN aG aU λ_ _=>rfl) (bK dN aG (aR cZ aU aF) λ_ _=>rfl)<|bQ _) (aD<|aW gG) bN)<|aD<|aW gG)|?_];calc%[22,_,_,_,ĳ,rb,.Ç g,yn|aZ _ rb<|bZ ?_];calc%[24,T,_,rb,.Ò<|bf.of g,_,_,rb,rb|%[0,_,rb|?_]];rw[ab,F];refine%[yf,yf|jE (lo:=0) (λi I H2=>H2=H/\∃B:ĵ V,I=[į (.H T),B]) %[9,rb,Ĵ|rb] ?_ ?_]
 .intro i I H2 hi z;let(rfl,B,rfl):=z;let h1:i<as.v:=by simp[cE,c9]at *;lia
  let J:i+1<as.v:=by simp[cE,c9]at *;lia
  let M:(as.L V.H)[i]?=į (.H as[i]):=by rw[a_,ae h1];rfl
  let O:(as.L V.H)[i+1]?=į (.H as[i+1]):=by rw[a_,ae J];rfl
  let k1:=d i as[i] L[i] (ae h1)<|ae yf;let N:=d (i+1) as[i+1] L[i+1] (ae J)<|ae yf;let D:dg L[i]<dg L[i+1]:=fS.mp up i (i+1) yf yf<|eW _;calc%[5,T,_,_,_,rb,rb,bf.of g,by rw[vx];show bh M|?_];calc%[1,_,_,rb,rb|%[5,T,_,_,_,rb,rb,bf.of g,by rw[vx];show bh (j:=i+1) O|?_]];calc%[5,as[i],as[i+1],L[i],L[i+1],rb,rb,k1,N|aZ _ rb ?_];rw[aS D];show bZ %[9,rb,_|rb]
 .intro I H2 z;let(rfl,B,rfl):=z;show q
def ae7:Sp:=λvs H Q _=>∃(p:Addr) (ws:AA),vs=[.H p]/\H p=į (.Æ<|Ts ws)/\ws.v<64/\(∀x∈ws,fu x)/\
 ∀(r:ĸ) (s0:dH) (n:ı) (H':Hp),aB H H'->qI (mj ws) s0 n->TabAt H' r (Tb s0 n).2->Q (.H r) H'
def Xr (G:GG K mg):DF P w K mg base Ak 7 ae7:=by
 calc G.bs'.cH Ci ?_;intro f bA A outer s H vs Q E hr h;let(t,us,rfl,g,hl,J,q):=h;calc%[0,_,(aC (aO (i:=1) Ci.nd rb (Or.Â rb)<|dF aA)<|aC (c7 b7 rb (eU aG) (bL (i:=2) Ci.nd rb<|Or.Â rb)<|aD<|cX<|dO cx kg ki qe aU<|ak (aY (TJ G) hr.Ø rb<|ak bw aA) aA)<|aD<|aW<|nG (pB (G.m'.Lq G.G') (QJ G) hr.Ø rb G.F' G.m'.b .ê fB<|ak aU aA) G.h'.cl G.p'.m (Mq G) hr.Ø G.p'.b .ê fB)|?_];calc%[zsz 0|λL D=>?_];let s1:aB H (upd H L<|.Æ []):=aB.ì D;let eL:upd H L (.Æ []) L=į (.Æ<|Ts []):=au;let ntL:t≠L:=aQ g D;generalize upd H L (.Æ [])=H1 at s1 eL ⊢;refine%[2,t,rb,%[_|aP.of<|s1 _ _ g]|jH (K:=K) (a:=t) (xs:=Ts us) (λi I d=>∃(N:ĵ V),I=[į (.H t),į (.H L),N]/\aB H d/\d L=į (.Æ<|Ts<|mj<|us.È i))
  %[2,Ĵ,rb,s1|eL] (λi I d _ ⟨_,_,h,_⟩=>aP.of<|h _ _ g) ?_ ?_]
 .intro i y I d hi z;let(N,rfl,sm,B):=z;let(wd,Mr,rfl):=k_ hi;let W:=J wd<|ax Mr;let wh:=W.hi;let hil:i<us.v:=(al.mp Mr).1;let O:=(qw λx hx=>J x<|dm (i:=i) hx).1;rw[ba]at O;calc%[25,.Â %[9,rb,_|aP.of B],wd,rb,yf|λtp H4 s4 ntp M=>?_];refine%[16,L,tp,_,_,rb,rb,s4 _ _ B,M,?_|?_]
  .rw[ab,ab,ab,cS];show ay<|aH yf
  .calc%[2,_,rb,(sm.À s4).bB D|?_];rw[au,b6,Mr];show _=į (HO.Æ<|Ts<|mj<|us.È i++[wd]);rw[Mp];unfold Ts;rw[b4 (f:=λl=>V.X (S l)) (l₁:=mj (us.È i))]
 .intro I d z;let(N,rfl,sm,B):=z;rw[ab,c6]at B;let O:=qw J;calc(λm dx hm F hne=>?_);let k6:aB d (upd (upd d dx<|.own m) m<|.Ē G.e' dx []):=(aB.ì F).bB hm;calc%[16,m,dx,L,mj us,rb,au,k6 _ _ B,yf,λt g=>ap (O.2 t g).1 yk|λs0 n e H7 Z tb he ME=>%[rb|?_]];let k37:aB d H7:=λb o e=>Z b o (k6 _ _ e)<|aQ e hm;let(dxm,_,_,Y,_):=id ME;show%[21,m,dxm,_,rb,Y|%[14,rb,m,_,rb,ME.ą|λr t=>q r s0 n H7 (sm.À k37) tb t]]
def dW.ad8 (h:dW H as L)(hp:H p=į (.Æ<|as.L V.H))(ok:∀ts∈L,ts≠[]/\∀t∈ts,qR t):fG K H 3 (.Æ<|L.L tE) (.H p):=by
 calc .Æ (aP.of hp) ?_;let g:∀bs:İ ĸ,(∀b∈bs,pH K H b (lO H b))->j7 K H 2 ((bs.L<|lO H).L tE) (bs.L V.H):=by
  intro bs
  induction bs with| nil=>show λ_=>.ê| cons b bs ih=>show λd=>.á (d b a4).1<|ih λx hx=>d x<|av _ hx
 have:=g as λb d=>by
  let hm:lO H b∈L:=by rw[<-h.eq];show bX d
  show(h.ą b d).lay (ok _ hm).1 (ok _ hm).2
 rw[h.eq]at this;show this
def Nm {T M:ĸ}{as:İ ĸ}{L:İ (İ bF)}{f:St->St}{tt:TT}{te:TE}{I:St}{H:Hp}{R:Hp->Prop}{g:İ bF->ō}(hT:H T=į (.Ç<|as.L V.H))(O:dW H as L)(hl:L.v<=4000)(hM:H M=Ĵ)(hs:∀a x d (Q:ō->Hp->Prop),x∈L->tW d a x->aB H d->(∀F,aB d F->Q (!g x) F)->tt ([į (.H a)]++f I) d Q)(he:∀v d (Q:V->Hp->Prop),Q v d->te ([į v]++f I) d Q)(hd:∀bs d,d M=į (.Æ<|bs.L V.H)->aB H d->dW d bs (L.û λx=>!g x)->R d):∃W:ı->ı->İ V->Hp->Prop,(∃m,W 0 m [] (upd H M<|.Æ []))/\
   ∀i m ys H,W i m ys H->((Ox K T).stop i H/\R H)\/((Ox K T).go i H/\∀x H',(Ox K T).Aw i H x H'->tt ([į x]++f I) H' λb H2=>
    if b=ĳ then te ([į x]++f I) H2 λy H3=>H3 M=į (.Æ ys)/\ys.v<Ľ/\∃m',m'<m/\W (i+1) m' (ys++[y]) (upd H3 M<|.Æ<|ys++[y])
    else ∃m',m'<m/\W (i+1) m' ys H2):=by
 let hal:=O.ď;let aav:4000<=Ľ:=by decide
 refine Dj (K:=K) (a:=T) (xs:=as.L V.H) (λi ys d=>∃bs:İ ĸ,ys=bs.L V.H/\bs.v<=i/\d M=į (.Æ ys)/\aB H d/\dW d bs ((L.È i).û λx=>!g x))
  %[13,[],rb,ai _,au,aB.ì hM|dW.ê] (λi ys d _ h=>by let(_,_,_,_,sm,_):=h;show bf.of<|sm _ _ hT) ?_ ?_
 .intro i y ys d D z;let(bs,rfl,Z,J,sm,Y):=z;let(hi,D):=rfg D;subst D;let(x,ex,hx):=O.get hi;let N:bs.v<Ľ:=yf;let et:L.È (i+1)=L.È i++[x]:=by rw[b6,ex];rfl
  calc hs as[i] x d _ (ax ex) (hx.jh λa xs e=>sm _ _ e) sm λF q=>?_;let G:=q _ _ J;by_cases B:(!g x)=ĳ
  .rw[B,Ĺ rfl];calc he _ _ _ %[G,by rw[ab];show N|d8.mk (by rw[ab];show hi) %[13,bs++[as[i]],yi,by simp;show Z,by rw[au],(sm.À q).bB hM|?_]];rw[et,ip,tJ,Ĺ B];show((Y.mv q).app<|dW.one<|hx.jh λa xs e=>q _ _<|sm _ _ e).jh<|d7 G
  .rw[show (!g x)=Ķ by simpa using B,ķ yk];calc d8.mk (by rw[ab];show hi) %[13,bs,rb,du Z,G,sm.À q|?_];rw[et,ip,tJ,ķ B];simpa using Y.mv q
 .intro ys d z;let(bs,rfl,Z,J,sm,Y):=z;rw[ab,de (by simp_all)]at Y;show hd bs d J sm Y
structure Found (H:Hp)(T:ĸ)(as:İ ĸ)(L:İ (İ bF))(aj:AA)(r w:ı)(hk:İ (ı×ı)):Prop where
 tp:H T=į (.Ç<|as.L V.H)
 ly:dW H as L
 ok:∀x∈L,jP aj r w hk x
 up:Nk L
 le:L.v<=4000
def Found.mv {aj:AA}{r w:ı}{hk:İ (ı×ı)}(h:Found H T as L aj r w hk)(s:aB H H'):Found H' T as L aj r w hk:=%[s _ _ h.tp,h.ly.mv s,h.ok,h.up|h.le]
def Found.lys {aj:AA}{r w:ı}{hk:İ (ı×ı)}(h:Found H T as L aj r w hk)(r9:r<=9)(w9:w<=9):ad7 K H as L:=
 %[h.ly.ď|λi a x g d=>by let(hi,q):=al.mp g;let(x',ex,hx):=h.ly.get hi;rw[ex]at d;obtain rfl:=bo d;rw[q]at hx;let hm:=ax ex;show hx.lay (h.ok _ hm).ne<|(h.ok _ hm).qR r9 w9]
def agj:Sp:=λvs H Q _=>∃(p d q:Addr) (B D:İ ĸ) (L L2:İ (İ bF)) (r w:Nat) (aj:AA) (hk:İ (ı×ı)) (wd:İ ı) (c:Bool),vs=[.H p,.H d,.H q,.X (S wd),.bl c]/\H p=į (.Æ<|Ts aj)/\Blk r w aj/\r<=9/\w<=9/\1<=r/\(∀l∈aj,∀c∈l,uL c)/\Found H d B L aj r w hk/\Found H q D L2 aj r w hk/\wd.v<=100/\
 (∀g:İ bF->ō,(∀x,g x=ĳ↔oZ aj x wd)->if c=ĳ then (L.û λx=>!g x)=L2 else (L2.û λx=>!g x)=L)/\∀H',aB H H'->Q (.bl ĳ) H'
def ZX (O:GG K mg):DF P w K mg base Al 4 agj:=by
 calc O.bt'.cH Zd ?_;intro f bA A outer s H vs Q E hr h;let(p,T1,T2,a1,a2,L1,L2,r,w',aj,hk,wd,c,rfl,hp,hb,r9,w9,r1,qx,F,J,hwl,heq,q):=h;obtain⟨g,hg⟩:∃g:İ bF->ō,∀x,g x=ĳ↔oZ aj x wd:=by classical show%[λx=>Ļ<|oZ aj x wd|λx=>decide_eq_true_iff]
 let N:=heq g hg;let ok:∀{L:İ (İ bF)},(∀x∈L,jP aj r w' hk x)->∀x∈L,x≠[]/\∀t∈x,qR t:=λh x hx=>%[(h x hx).ne|(h x hx).qR r9 w9]
 let step:∀(L:İ (İ bF)),(∀x∈L,jP aj r w' hk x)->∀a x D (Z:ō->Hp->Prop),x∈L->tW D a x->aB H D->(∀H7,aB D H7->Z (!g x) H7)->Rk (tB<|qX Ug [] E0<|dM (cT 1)<|dM (cT 0)<|dM (cT 4) kJ) [į (.H a),į (.H p),į (.H T1),į (.H T2),į (.X<|S wd),some (.bl c)] D Z:=λL hL a x D Z hx hA G q6=>by let hok:=hL x hx;let(bs,hbs,hLb):=hA;calc%[10,p,a|%[52,bs,r,w',aj,x,wd,rb,G _ _ hp,hbs|%[hLb,hok.ď,hb,r9,w9,r1,qx,λt ht=>let %[a,b,_|d]:=hok.ù t ht;%[a,b|d],vZ hok.rk,hwl|λb H7 hb7 s7=>(aZ b rb ?_)]]];have:b=g x:=mM.Ù<|hb7.À (hg x).Ð;rw[this];show q6 H7 s7
 let fin:∀(L L':İ (İ bF)) (M l:ĸ) (bs as:İ ĸ) (D:Hp),(∀x∈L',jP aj r w' hk x)->L=L'->aB H D->D M=į (.Æ<|bs.L V.H)->dW D bs L->dW D as L'->D l=Ĵ->Yk K Ķ (.H M) (.H l) (upd D l<|.Æ<|as.L V.H) Q:=λL L' M l bs as D hL e G hM hY hA Y=>by let k7:aB D (upd D l<|.Æ<|as.L V.H):=aB.ì Y;calc%[8,3,_,_,yk,(hY.mv k7).ad8 (k7 _ _ hM)<|ok (by rw[e];show hL),(hA.mv k7).ad8 au<|ok hL|?_];rw[e];have:=q _<|G.À k7;simpa using this
 calc%[0,_,(aC (cC (fK<|dJ<|aY (Jh O) hr.Ø rb<|ak aU aA) (aD<|aW gG) bN)<|aC (cC (dJ cD) (aD<|aW<|fZ (Ku hr.ß) (je (ns:=["_law_one"]) rb (gJ.of ["_law_rows_here","_law_layings","_law_ahead","_law_word_here","_law_came"] [] yn) (gD aU) (λ_ _ _ _ _=>(pF (show (["_law_one","_law_rows_here","_law_layings","_law_ahead","_law_word_here","_law_came"]:İ ņ).Ö by decide +kernel) rb ym)) (λ_ _ _ _ _=>(vH<|fK<|dJ<|aY (Nj O) hr.Ø rb<|ak aU<|ak aG<|ak cD aA)) λ_ _ _ _ _=>aG) (cR yJ ym O.E' tz<|ak bw aA)<|bQ _) bN)<|aD<|aW<|fZ (Ku hr.ß) (je (ns:=["_law_one"]) rb (gJ.of ["_law_rows_here","_law_layings","_law_ahead","_law_word_here","_law_came"] [] yn) (gD bw) (λ_ _ _ _ _=>(pF (show (["_law_one","_law_rows_here","_law_layings","_law_ahead","_law_word_here","_law_came"]:İ ņ).Ö by decide +kernel) rb ym)) (λ_ _ _ _ _=>(vH<|fK<|dJ<|aY (Nj O) hr.Ø rb<|ak aU<|ak aG<|ak cD aA)) λ_ _ _ _ _=>aG) (cR yJ ym O.E' tz<|ak aU aA)<|bQ _)|?_];calc%[35,T1,a1,L1,rb,F.tp,F.le,F.lys r9 w9,F.up|aZ ĳ rb<|bZ ?_];cases c with
 | true=>
  let N:(L1.û λx=>!g x)=L2:=N;show cu (B:=True) %[2,T1,rb,%[_|bf.of F.tp]|λM hM=>Nm (K:=K) (f:=fV [] 0) (tt:=Rk (tB<|qX Ug [] E0<|dM (cT 1)<|dM (cT 0)<|dM (cT 4) kJ)) (te:=cT 0) (g:=g) F.tp F.ly F.le hM (step L1 F.ok) (λv D Z q6=>q6) λbs D mV G hY=>%[1,T2,_,rb,.Ò<|bf.of<|G _ _ J.tp|λl Y=>fin _ L2 M l bs a2 D J.ok N G mV hY (J.ly.mv G) Y]]
 | false=>
  let N:(L2.û λx=>!g x)=L1:=N;show bZ (A:=True) %[2,T2,rb,%[_|bf.of J.tp]|λM hM=>Nm (K:=K) (f:=fV [] 0) (tt:=Rk (tB<|qX Ug [] E0<|dM (cT 1)<|dM (cT 0)<|dM (cT 4) kJ)) (te:=cT 0) (g:=g) J.tp J.ly J.le hM (step L2 J.ok) (λv D Z q6=>q6) λbs D mV G hY=>%[1,T1,_,rb,.Ò<|bf.of<|G _ _ F.tp|λl Y=>fin _ L1 M l bs a1 D F.ok N G mV hY (F.ly.mv G) Y]]
def uc {c:Ŀ}{m:ı}(hm:0<m):∃n:Nat,c%(m:Ŀ)=(n:Ŀ)/\n<m:=by let h1:=i8 c (show (m:Ŀ)≠0 by lia);let d:=f6 c<|show (0:Ŀ)<(m:Ŀ) from ii fv hm;show%[0,(c%(m:Ŀ)).Õ,yf|by simp_all]
def ae8 (K:W.Ì):Sp:=λvs H Q _=>∃(a:Addr) (ns:İ Ŀ) (b m:Nat) (ls:İ ı),vs=[.H a,.M b,.M m,.X (S ls)]/\aP K H a (ns.L V.M)/\b<=100/\m<=100/\Cj ls/\
 ∀(p:ĸ) (ws:AA) (H':Hp),aB H H'->H p=Ĵ->H' p=į (.Æ<|Ts ws)->ws.Ö->(∀l∈ws,fu l)->ws.v<=m->Q (.H p) H'
def Z0 (G:GG K mg):DF P w K mg base Ec 5 (ae8 K):=by
 calc G.bj'.cH Ai ?_;intro f bA A outer s H vs Q E hr h;let(a,ns,b,m,ls,rfl,O,hb,hm,Z,q):=h;calc%[0,_,(aC (aO (i:=4) Ai.nd rb (Or.Â rb)<|dF aA)<|aC (c7 b7 rb (yC ym G.i'<|ak aU<|ak (aX (Uw rb) ym G.S' PyProof.ô.boot_min<|ak (aX bY ym G.b' bP<|ak aG aA)<|ak (aR cZ aU bw) aA) aA) (bL (i:=5) Ai.nd rb<|Or.Â rb)<|aC (aO (i:=6) Ai.nd rb (Or.Â rb)<|aY (abv G) hr.Ø rb<|ak bO<|ak aG<|ak cV aA)<|aD<|cC (bW yI fj cD rb) (aD<|cX<|dO cx eD eI fU cD<|ak fj aA) bN)<|aD<|aW cD)|?_];calc%[zsz 0|λR J=>?_];let s0:aB H (upd H R<|HO.Æ []):=aB.ì J;let M:upd H R (HO.Æ []) R=į (.Æ<|Ts []):=au;generalize upd H R (HO.Æ [])=H0 at s0 M ⊢;calc%[24,a,_,rb,.Â<|s0.î O,_,_,rb,rb|%[10,_,_|%[19,rb,_,_,rb|?_]]];let hn:∀n:Ŀ,n<=(b:Ŀ)+m->(n-(b:Ŀ)).Õ<=m:=λn h=>by simp_all;lia
 let hx:(if ((b:Ŀ)+(m:Ŀ))<(((ns.L V.M).v:ı):Ŀ) then ((b:Ŀ)+(m:Ŀ)) else (((ns.L V.M).v:ı):Ŀ))<=(b:Ŀ)+m:=by split <;> lia
 let L:0<=(if ((b:Ŀ)+(m:Ŀ))<(((ns.L V.M).v:ı):Ŀ) then ((b:Ŀ)+(m:Ŀ)) else (((ns.L V.M).v:ı):Ŀ)):=by split <;> show eJ _
 generalize (if ((b:Ŀ)+(m:Ŀ))<(((ns.L V.M).v:ı):Ŀ) then ((b:Ŀ)+(m:Ŀ)) else (((ns.L V.M).v:ı):Ŀ))=n at hx L ⊢;refine%[%[eJ _,yf,yf|yf]|jE (lo:=(b:Int)) (λi I H2=>∃(v5 v6:ĵ V) (ws:AA),I=[į (.H a),į (.M b),į (.M m),į (.X<|S ls),į (.H R),v5,v6]/\aB H H2/\H2 R=į (.Æ<|Ts ws)/\ws.Ö/\(∀l∈ws,fu l)/\ws.v<=i)
  ⟨35,Ĵ,Ĵ,[],rb,s0,M,qk,(λl h=>nomatch h),ai _⟩ ?_ ?_]
 .intro i I H2 hi z;let(v5,v6,ws,rfl,sm,N,nd,g,d):=z;let Y:(b:Ŀ)+(i:Ŀ)=((b+i:ı):Ŀ):=rfl;calc%[5,a,ns,b+i,ls,by rw[<-Y];rfl,sm.î O,by have:=hn n hx;lia,Z|λwd H3 B W=>?_];let F:=B _ _ N;calc%[6,R,Ts ws,rb,.Â<|aP.of F,rb,Gj ws|aZ _ rb ?_];rw[LC];by_cases D:wd∈ws
  .rw[aS D];show bZ %[35,_,_,ws,rb,sm.À B,F,nd,g|du d]
  .rw[aw D];calc cu %[29,.Â %[9,rb,_|aP.of F],R,_,_,rb,rb,F,by rw[ab];show aH (by have:=hn n hx;lia)|?_];calc%[35,_,_,ws++[wd],rb,(sm.À B).bB J,by rw[au,jX],z9 nd D,λl h=>?_|by simp;show d];rcases aT.mp h with z|z;.show g l z
   .rw[am.mp z];show W
 .intro I H2 z;let(v5,v6,ws,rfl,sm,N,nd,g,d):=z;show(q R ws H2 sm J N nd g<|ap d<|hn n hx)
def ad9 (K:W.Ì):Sp:=λvs H Q _=>∃(p r:Addr) (us:AA) (ds:İ Ŀ) (ls:İ ı),vs=[.H p,.H r,.X (S ls)]/\H p=į (.Æ<|Ts us)/\us.v<64/\(∀x∈us,fu x)/\aP K H r (ds.L V.M)/\ds.v=11/\(∀d∈ds,0<=d/\d<520)/\Cj ls/\
 ∀(wd:İ ı) (H':Hp),aB H H'->fu wd->(10<us.v->wd∈us)->Q (.X<|S wd) H'
def ab_ (G:GG K mg):DF P w K mg base Eh 2 (ad9 K):=by
 calc G.bn'.cH Gg ?_;intro f bA A outer s H vs Q E hr h;let(p,r,us,ds,ls,rfl,hp,hl,hW,M,h11,N,hA,q):=h;calc%[0,_,(aC (aO (i:=3) Gg.nd rb (Or.Â rb)<|aY (Ej G) hr.Ø rb<|ak aU<|ak bw aA)<|aC (kW<|cC (QW.qt<|wu (QW.qt<|CT (bW jk (aR cU (bK d9 aU aF λ_ _=>rfl) aF) aF<|bQ _)<|zP<|bW (acV hr.ß) aG (dF aA)<|bQ _)<|rT<|bW aad (aX bY ym G.b' bP<|ak aG aA) aF<|bQ _) (aD<|aO (i:=3) Gg.nd rb (Or.Â rb)<|bK d9 aG (aR cU (aR gH (bK d9 aU aF λ_ _=>rfl) aF)<|aX bY ym G.b' bP<|ak aG aA) λ_ _=>rfl) bN)<|aD<|aW bO)|?_];calc%[15,r,ds,ls,rb,M,%[by simp_all,by simp_all|λd hd=>by have:=N d hd;lia],hA|λwd H1 s1 W=>?_];let D:=s1 _ _ hp;let hS1:=s1.î M;let F:lV (ds.L V.M) 10=į (.M ds[10]):=bh (j:=10) (by simp[h11]);refine%[λI H2=>∃wd,I=[į (.H p),į (.H r),į (.X<|S ls),į (.X<|S wd)]/\aB H H2/\fu wd/\(10<us.v->wd∈us),?_|?_]
 .let g:∀H2,aB H H2->0<us.v->J4 (qN (X3 K) (cT 0)<|qN (rI (λx j=>0<j) λi j=>V.M<|i%j) (qN (rI acB λi j=>V.M<|i/j) (qN (X3 K) (cT 1)<|tC<|V.M 10)<|tC<|V.M 4)<|tCB (λxs B Q=>∃p ys,xs=[V.H p]/\(aP K B p ys\/bf K B p ys)/\Q (V.M ys.v) B)<|dM (cT 0) kJ) (nW 3) {nx:=λI H2=>∃wd,I=[į (.H p),į (.H r),į (.X<|S ls),į (.X<|S wd)]/\aB H H2/\fu wd/\(10<us.v->wd∈us),rt:=Q} [į (.H p),į (.H r),į (.X<|S ls),į (.X<|S wd)] H2:=by
   intro H2 sm h0;let(j,O,hj2):=uc (c:=ds[10]/4) (m:=us.length) h0;calc%[28,r,_,10,_,rb,rb,sm.î M,F,_,_,rb,rb,%[yk|yk]|%[42,p,_,rb,.Â<|aP.of<|sm _ _ hp,_,_,rb,rb,by rw[ab];show ii fv h0|%[5,p,_,_,.X<|S us[j],rb,rb,aP.of<|sm _ _ hp,?_|%[7,us[j],rb,sm,hW _<|be _|λ_=>be _]]]];rw[ab,O];show bh (by simp[Ts,hj2])
  calc%[5,r,_,10,_,rb,rb,hS1,F|%[6,_,_,rb,rb,(by show (0:Ŀ)<4;decide),rb|aZ _ rb ?_]];let gt:∀H2,aB H H2->∀(Z J:Prop),(0<us.v->Z)->(us.v<=10->J)->if Ļ ((10:Ŀ)<((Ts us).v:Ŀ))=ĳ then Z else J:=λH2 sm Z J h1 h2=>by
   rw[ab];refine jr (λz=>h1 ?_) λz=>h2 ?_
   .have:=dC z;lia
   .have:¬(10:Ŀ)<(us.v:Ŀ):=λy=>z<|aS y
    lia
  refine jr (λ_=>?_) λ_=>?_
  .calc%[zsz 0|λel L=>?_];let Y:aB H1 (upd H1 el<|.Æ []):=aB.ì L;let uK:=s1.À Y;calc%[8,1,.Æ<|us.L Dt.X,.Æ [],yk,.Æ (aP.of<|Y _ _ D)<|j7.ofT λl hl=>TF<|hW l hl,.Æ (xs:=[]) (aP.of au) .ê|aZ _ rb ?_];cases us with| nil=>calc jr (λz=>by simp at z) λ_=>?_;calc%[24,p,_,rb,.Â<|aP.of<|Y _ _ D,_,_,rb,rb|aZ _ rb ?_];show gt _ uK _ _ (λz=>by simp at z) λ_=>%[7,wd,rb,uK,W|λz=>by simp at z]| cons u us=>calc jr (λ_=>?_) λz=>ŀ yi z;show cu<|g _ uK yi
  .calc%[24,p,_,rb,.Â<|aP.of D,_,_,rb,rb|aZ _ rb ?_];show gt _ s1 _ _ (λz=>g _ s1 z) λz=>%[7,wd,rb,s1,W|λy=>by lia]
 .intro I H2 z;let(wd,rfl,sm,W,Z1):=z;show(q wd H2 sm W Z1)
def ae9 (K:W.Ì):Sp:=λvs H Q _=>∃(a:Addr) (ns:İ Ŀ) (k:Nat) (ls:İ ı),vs=[.H a,.M k,.X (S ls)]/\aP K H a (ns.L V.M)/\k<=1000/\Cj ls/\
 ∀(rk:İ ı) (H':Hp),aB H H'->rk.v<=3->rk.count 63<=1->Q (.X<|S rk) H'
def Z2 (Z:GG K mg):DF P w K mg base Ef 4 (ae9 K):=by
 calc Z.bm'.cH pP ?_;intro f bA A outer s H vs Q E hr h;let(a,ns,k,ls,rfl,hS,hk,G,q):=h;let M:=G.lo;let hl2:=G.hi;let hz:ls.v<=Ľ:=ay<|aH yf;calc%[0,_,(aC (aO (i:=3) pP.nd rb (Or.Â rb)<|aY (qm Z) hr.Ø rb<|ak aG<|ak aU<|ak aF<|ak aF aA)<|aC (aO (i:=4) pP.nd rb (Or.Â rb)<|bU [] yo)<|aC (c7 b7 rb (eU<|f9 zV bO (fQ aF)<|fQ<|aR cZ aF<|aR cU (bK d9 bO aF λ_ _=>rfl) aF) (bL (i:=5) pP.nd rb<|Or.Â rb)<|aC (aO (i:=6) pP.nd rb (Or.Â rb)<|bK uV bw (aR cU (aR gH cV aF)<|aX cI ym Z.b' bP<|ak bw aA) λ_ _=>rfl)<|aC (kW<|cC (QW.qt<|CT (bW jk (aR cU cV aF) aF<|bQ _)<|zP<|bW sH cD (bU [] yo)<|bQ _) (aD<|aO (i:=6) pP.nd rb (Or.Â rb)<|bU [63] yo) bN)<|aD<|aO (i:=4) pP.nd rb (Or.Â rb)<|aR h_ cD fj)<|aD<|aW cD)|?_];calc%[38,a,ns,k,208,4,rb,hS,hk,yk,yk,yk|λp ds H1 s1 np hp D hds=>?_];let Y:lV (ds.L V.M) 0=į (.M ds[0]):=bh (j:=0) (by simp[D]);let(g,hn0,hn3):=uc (c:=ds[0]) (m:=3) yk;let e2:(2:Ŀ)+ds[0]%3=((2+g:ı):Ŀ):=by have:ds[0]%((3:ı):Ŀ)=ds[0]%3:=rfl;(simp[xN];lia)
 let Bb:=Gi (ds:=ds) (a:=1) (b:=2+g) yf yf;calc%[0,_,rb|%[28,p,_,0,_,rb,rb,aP.of hp,Y,_,_,rb,rb,(by show (0:Ŀ)<3;decide)|%[1,_,_,rb,rb|%[40,_,rb,p,_,rb,aP.of hp|λt ht=>?_]]]];rw[e2];let s2:=s1.bB (o:=.Æ (gR (ds.L V.M) (į ((1:ı):Ŀ))<|į ((2+g:ı):Ŀ)))<|s1.Ó ht;let J:upd H1 t (.Æ<|gR (ds.L V.M) (į ((1:ı):Ŀ))<|į ((2+g:ı):Ŀ)) t=į _:=au;let Qo:∀v∈gR (ds.L V.M) (į ((1:ı):Ŀ)) (į ((2+g:ı):Ŀ)),∃d:Int,v=.M d:=λv hv=>let %[d,_|e]:=Ck hv;%[d|e]
 show ∃x,_;generalize upd H1 t (.Æ<|gR (ds.L V.M) (į ((1:ı):Ŀ))<|į ((2+g:ı):Ŀ))=H2 at s2 J ⊢;generalize gR (ds.L V.M) (į ((1:ı):Ŀ)) (į ((2+g:ı):Ŀ))=xs at Bb Qo J;refine%[2,t,rb,%[_|aP.of J]|jH (K:=K) (a:=t) (xs:=xs) (λi I H'=>∃(v5 v6:ĵ V) (l:İ ı),I=[į (.H a),į (.M k),į (.X<|S ls),į (.H p),į (.X<|S l),v5,v6]/\aB H2 H'/\l.v=i/\l.count 63<=1)
  %[8,Ĵ,Ĵ,[],rb,aB.Č _,rb|bE _] (λi I H' _ h=>by let(_,_,_,_,sm,_):=h;show aP.of<|sm _ _ J) ?_ ?_]
 .intro i x I O hx z;let(v5,v6,l,rfl,sm,hl,L):=z;let hi:i<xs.v:=(al.mp hx).1;let(d,rfl):=Qo x (ax hx);let(y,hy,B):=Pk (xs:=ls) (n:=ls.length) rb (ay M) (d/8);let F:=G.az y B;calc%[4,_,_,rb,rb,%[yk|yk]|%[33,ls,rb,hz,_,_,rb,rb|%[29,(by show (0:Ŀ)<(ls.v:Ŀ);(simp_all;lia)),ls,_,y,rb,rb,hz,hy|?_]]];let hl4:l.v<=100:=yf;refine%[λI H4=>∃z,I=[į (.H a),į (.M k),į (.X<|S ls),į (.H p),į (.X<|S l),į (.M d),į (.X<|S [z])]/\H4=O/\(l++[z]).count 63<=1,?_|?_]
  .let c0:(l++[y]).count 63<=1:=by
    unfold isLet at F;rw[List.count_append,List.count_singleton,ķ (by simp;lia)];show L
   calc%[6,_,_,rb,rb,(by show (0:Ŀ)<3;decide),rb|jr (λ_=>?_) λ_=>bZ %[2,y,rb,rb|c0]];calc%[1,_,_,rb,rb|jr (λe=>?_) λ_=>%[2,y,rb,rb|c0]];let e:l=[]:=dC e;show%[2,63,rb,rb|by rw[e];decide]
  .intro I H4 z;let(z,rfl,rfl,N):=z;show%[4,_,_,rb,rb,ay<|aH (by show l.v+1<=1000;lia)|%[8,_,_,l++[z],rb,sm,by simp[hl]|N]]
 .intro I O z;let(v5,v6,l,rfl,sm,hl,L):=z;show(q l O (s2.À sm) yf L)
def ae_ (K:W.Ì):Sp:=λvs H Q _=>∃(a:Addr) (ns:İ Ŀ) (k:Nat) (ls:İ ı),vs=[.H a,.M k,.X (S ls)]/\aP K H a (ns.L V.M)/\k<=500/\Cj ls/\
 ∀(p:ĸ) (aj:AA) (r w:ı) (H':Hp),aB H H'->H p=Ĵ->H' p=į (.Æ<|Ts aj)->Blk r w aj->1<=r->1<=w->r<=4->w<=6->(w<=4\/r=3)->(∀l∈aj,∀c∈l,uL c)->Q (.H p) H'
def Z4 (N:GG K mg):DF P w K mg base Ed 4 (ae_ K):=by
 calc N.bl'.cH ig ?_;intro f bA A outer s H vs Q E hr h;let(a,ns,k,ls,rfl,hS,hk,hA,q):=h;let hl1:=hA.lo;let hl2:=hA.hi;let hz:ls.v<=Ľ:=ay<|aH yf;calc%[0,_,(aC (aO (i:=3) ig.nd rb (Or.Â rb)<|aY (Il N) hr.Ø rb<|ak aG<|ak aU aA)<|aC (aO (i:=4) ig.nd rb (Or.Â rb)<|aR cZ aF<|aR cU bO aF)<|aC (aO (i:=5) ig.nd rb (Or.Â rb)<|aR cZ aF<|aR cU (aR gH bO aF) aF)<|aC (kW<|cC (bW jk (aR cU (aR gH bO aF) aF) aF<|bQ _) (aC (aO (i:=5) ig.nd rb (Or.Â rb)<|aR cZ aF<|aR cU (aR gH bO aF) aF)<|aD<|aO (i:=4) ig.nd rb (Or.Â rb) aF) bN)<|aC (aO (i:=6) ig.nd rb (Or.Â rb)<|dF aA)<|aC (c7 b7 rb (jD ym N.i'<|ak cD aA) (bL (i:=7) ig.nd rb<|Or.Â rb)<|aC (aO (i:=8) ig.nd rb (Or.Â rb)<|bU [] yo)<|aC (c7 b7 rb (eU<|aY (qm N) hr.Ø rb<|ak aG<|ak (aR cZ (aR cZ aU aF) iJ)<|ak aF<|ak cV aA) (bL (i:=9) ig.nd rb<|Or.Â rb)<|aC (aO (i:=10) ig.nd rb (Or.Â rb)<|bK uV bw (aR cU (aR gH rA aF)<|aX cI ym N.b' bP<|ak bw aA) λ_ _=>rfl)<|aC (kW<|cC (bW jk (aR cU (aR gH rA aF) aF) aF<|bQ _) (aD<|aO (i:=10) ig.nd rb (Or.Â rb)<|vB cw PySem.F.slot_str_upper PySem.F.type_str_upper acT<|qv 10) bN)<|aD<|aO (i:=8) ig.nd rb (Or.Â rb)<|aR h_ jl<|bK d9 (dF<|ak (qv 10)<|ak (bU [46] yo) aA) (cR Ux ym N.J' PyProof.ô.boot_int<|ak (Rm (fZ aad (aR cU rA aF) aF<|bQ _)<|mG<|fZ jk (aR cU (aR gH bO aF) aF) aF<|bQ _) aA) λ_ _=>rfl)<|aD<|cX<|dO cx eD eI fU fj<|ak jl aA)<|aD<|aW fj)|?_];calc%[8,a,ns,k,rb,hS,yf|λX=>?_];let(n0,hn0,hn4):=uc (c:=X) (m:=4) yk;let(n1,hn1,hw4):=uc (c:=X/4) (m:=4) yk;let(n2,hn2,hw2):=uc (c:=X/128) (m:=2) yk;calc%[1,_,_,rb,rb|%[14,(by show (0:Ŀ)<4;decide),_,_,rb,rb|?_]];calc%[1,_,_,rb,rb|%[14,%[yk|yk],_,_,rb,rb|%[14,(by show (0:Ŀ)<4;decide),_,_,rb,rb|?_]]];refine%[λI H'=>H'=H/\∃r w:Nat,I=[į (.H a),į (.M k),į (.X<|S ls),į (.M X),į (.M r),į (.M w),Ĵ,Ĵ,Ĵ,Ĵ,Ĵ]/\1<=r/\1<=w/\r<=4/\w<=6/\(w<=4\/r=3),?_|?_]
 .refine%[64,_,_,rb,rb,%[yk|yk],_,_,rb,rb,(by show (0:Ŀ)<8;decide),rb|jr (λ_=>?_) λ_=>?_]
  .calc%[1,_,_,rb,rb|%[14,%[yk|yk],_,_,rb,rb|%[14,(by show (0:Ŀ)<2;decide),_,_,rb,rb|?_]]];calc%[54,rb,3,5+n2,?_,yk,yf,yk,by simp_all +arith|.Ò rb];rw[show ((5+n2:ı):Ŀ)=5+X/128%2 by have:X/128%((2:ı):Ŀ)=X/128%2:=rfl;simp_all];rfl
  .calc%[54,rb,1+n0,1+n1,?_,di _ _,yf,by simp_all +arith,by grind|.Â (by simp_all +arith)];rw[show ((1+n0:ı):Ŀ)=1+X%4 by have:X%((4:ı):Ŀ)=X%4:=rfl;simp_all,show ((1+n1:ı):Ŀ)=1+X/4%4 by have:X/4%((4:ı):Ŀ)=X/4%4:=rfl;simp_all];rfl
 intro I H' z;let(rfl,r,w',rfl,r1,w1,r4,w6,hrw):=z;calc%[zsz 0|λR hR=>?_];let s0:aB H' (upd H' R<|HO.Æ []):=aB.ì hR;let Rc:upd H' R (HO.Æ []) R=į (.Æ<|Ts []):=au;generalize upd H' R (HO.Æ [])=H0 at s0 Rc ⊢;calc%[7,_,rb,eJ _,yf|?_];rw[cq];refine jE (lo:=0) (n:=r) (λi I H2=>∃(v7 v8 G g:ĵ V) (aj:AA),I=[į (.H a),į (.M k),į (.X<|S ls),į (.M X),į (.M r),į (.M w'),į (.H R),v7,v8,G,g]/\aB H' H2/\H2 R=į (.Æ<|Ts aj)/\aj.v=i/\∀l∈aj,l.v=w'/\∀c∈l,uL c)
  %[37,Ĵ,Ĵ,Ĵ,Ĵ,[],rb,s0,Rc,rb|λl h=>nomatch h] ?_ ?_
 .intro i I H2 hi z;let(v7,v8,G,g,aj,rfl,sm,Np,L,qx):=z;let e0:(k:Ŀ)+1+(0+(i:Ŀ))=((k+1+i:ı):Ŀ):=yi;calc%[24,_,_,rb,rb,_,_,rb,rb|%[38,a,ns,k+1+i,624,w',by rw[<-e0];rfl,sm.î hS,yf,yk,yk,yf|λp ds H3 s3 np hp hdl hds=>?_]];let Fg:=s3 _ _ Np;refine%[2,p,rb,%[_|aP.of hp]|jH (K:=K) (a:=p) (xs:=ds.L V.M) (λj I Z=>∃(G g:ĵ V) (l:İ ı),I=[į (.H a),į (.M k),į (.X<|S ls),į (.M X),į (.M r),į (.M w'),į (.H R),į (.M<|0+(i:Ŀ)),į (.X<|S l),G,g]/\aB H3 Z/\l.v=j/\∀c∈l,uL c)
   %[8,G,g,[],rb,aB.Č _,rb|λc h=>nomatch h] (λj I Z _ h=>by let(_,_,_,_,s,_):=h;show aP.of<|s _ _ hp) ?_ ?_]
  .intro j x I Z hx z;let(G,g,l,rfl,O,D,F):=z;let hj:j<ds.v:=by have:=(al.mp hx).1;simpa using this
   obtain⟨d,rfl⟩:∃d:Int,x=.M d:=by let(d,_,e):=a5.mp (ax hx);show%[d|e.Ð]
   let(y,hy,hmem):=Pk (xs:=ls) (n:=ls.length) rb (ay hl1) (d/24);let B:=hA.az y hmem;calc%[4,_,_,rb,rb,%[yk|yk]|%[33,ls,rb,hz,_,_,rb,rb|%[29,(by show (0:Ŀ)<(ls.v:Ŀ);(simp_all;lia)),ls,_,y,rb,rb,hz,hy|?_]]];refine%[λI H5=>∃z,I=[į (.H a),į (.M k),į (.X<|S ls),į (.M X),į (.M r),į (.M w'),į (.H R),į (.M<|0+(i:Ŀ)),į (.X<|S l),į (.M d),į (.X<|S [z])]/\H5=Z/\tV z,?_|?_]
   .calc%[64,_,_,rb,rb,%[yk|yk],_,_,rb,rb,(by show (0:Ŀ)<8;decide),rb|jr (λ_=>?_) λ_=>%[2,y,rb,rb|Ms B]];calc%[63,rb,[y],rb,rb,by show 1<=1000;decide,λc Y=>by rw[am.mp Y];show(Ms B).lt|?_];show%[2,PyProof.ô.up1 y,rb,rb|by rw[(Ao B).1];show W6 B]
   .intro I H5 z;let(z,rfl,rfl,hzs):=z;calc%[zsz 2|λt ht=>?_];let s5:=O.bB (o:=.Æ [.X (S [z]),.X (S [46])])<|O.Ó ht;let J:upd H5 t (.Æ [.X (S [z]),.X (S [46])]) t=į (.Æ [.X (S [z]),.X (S [46])]):=au;generalize upd H5 t (.Æ [.X (S [z]),.X (S [46])])=H6 at s5 J ⊢;let pk:∀b:ō,∃c,uL c/\lV [V.X (S [z]),V.X (S [46])] (if b=ĳ then 1 else 0)=į (.X<|S [c]):=λb=>by
     cases b with| true=>show%[0,46,.Â rb|bh (j:=1) rb]| false=>show%[0,z,.Ò hzs|bh (j:=0) rb]
    let hl9:l.v<=100:=yf;refine%[1,_,_,rb,rb|%[14,(by show (0:Ŀ)<3;decide),_,_,rb,rb|jr (λ_=>?_) λ_=>?_]]
    .let(c,Y,M):=pk ĳ;calc .Ò %[0,_,rb|%[28,t,_,_,_,rb,rb,aP.of J,M,_,_,rb,rb,ay<|aH (by show l.v+1<=1000;lia)|%[8,_,_,l++[c],rb,s5,by simp[D]|λe he=>?_]]];rcases aT.mp he with y|y;.show F e y
     .rw[am.mp y];show Y
    .calc%[64,_,_,rb,rb,%[yk|yk],_,_,rb,rb,(by show (0:Ŀ)<4;decide),rb|?_];let(c,Y,M):=pk (Ļ<|V.M (X/1024%4)=V.M 1);calc .Ò %[0,_,rb|%[28,t,_,_,_,rb,rb,aP.of J,M,_,_,rb,rb,ay<|aH (by show l.v+1<=1000;lia)|%[8,_,_,l++[c],rb,s5,by simp[D]|λe he=>?_]]];rcases aT.mp he with y|y;.show F e y
     .rw[am.mp y];show Y
  .intro I Z z;let(G,g,l,rfl,O,D,F):=z;rw[ab,hdl]at D;let Xu:=O _ _ Fg;calc%[29,.Â %[9,rb,_|aP.of Xu],R,_,_,rb,rb,Xu,by rw[ab];show aH yf|?_];calc%[37,_,_,_,_,aj++[l],rb,((sm.À s3).À O).bB hR,by rw[au,jX],by simp[L]|λl' hl'=>?_];rcases aT.mp hl' with z|z;.show qx l' z
   .rw[am.mp z];show%[D|F]
 .intro I H2 z;let(v7,v8,G,g,aj,rfl,sm,Np,L,qx):=z;show(q R aj r w' H2 sm hR Np %[L|λl D=>(qx l D).1] r1 w1 r4 w6 hrw λl D=>(qx l D).2)
def dW.has (h:dW H as L)(hp:H p=į (.Ç<|as.L V.H))(ok:∀ts∈L,ts≠[]/\∀t∈ts,qR t):fG K H 3 (.Ç<|L.L tE) (.H p):=by
 calc .Ç (bf.of hp) ?_;let g:∀bs:İ ĸ,(∀b∈bs,pH K H b (lO H b))->j7 K H 2 ((bs.L<|lO H).L tE) (bs.L V.H):=by
  intro bs
  induction bs with| nil=>show λ_=>.ê| cons b bs ih=>show λd=>.á (d b a4).1<|ih λx hx=>d x<|av _ hx
 have:=g as λb d=>by
  let hm:lO H b∈L:=by rw[<-h.eq];show bX d
  show(h.ą b d).lay (ok _ hm).1 (ok _ hm).2
 rw[h.eq]at this;show this
def Xv (ha:Nk a)(g:Nk b)(q:∀x∈a,∀t∈x,jy t)(ob:∀x∈b,∀t∈x,jy t)(h:∀x,x∈a↔x∈b):a=b:=by
 let e:a.L dg=b.L dg:=up_eq (e_.Ù ha) (e_.Ù g) λx=>by simp only[a5];show%[λ⟨y,d,e⟩=>%[0,y,(h y).mp d|e]|λ⟨y,d,e⟩=>%[0,y,(h y).Ù d|e]]
 clear ha g h
 induction a generalizing b with
 | nil=>show(vS.mp e.Ð).Ð
 | cons x a ih=>
  cases b with
  | nil=>cases e
  | cons y b=>injection e with e1 e2;rw[Li (q x a4) (ob y a4) e1,ih (λz hz=>q z<|av _ hz) (λz hz=>ob z<|av _ hz) e2]
def Xw {ws vs aj:AA}{r w bi bj:ı}{rk:İ ı}(h:∀x,x∈ws↔x∈vs)(x:İ bF):x∈mC ws aj r w bi bj rk↔x∈mC vs aj r w bi bj rk:=by
 let go:∀{ws vs:AA} {hk:İ (ı×ı)} {aj:AA} {r w:ı} (x:İ bF),(∀x,x∈ws↔x∈vs)->x∈eX ws hk aj r w rk ws->x∈eX vs hk aj r w rk vs:=λx h hx=>by let(l,B,i,j,ss,hi,D,g,q,e):=lU.mp hx;show lU.Ù %[57,l,(h l).mp B,i,j,ss,hi,D,zN (λt _ F=>Nf (l:=[]) (λy d=>(h y).mp d) F) g,q|e]
 let h':=λx=>(h x).Ð;unfold mC;rw[aT,aT,a5,a5];show%[λz=>z.imp (go x h) λ⟨y,d,e⟩=>%[0,y,go y h d|e]|λz=>z.imp (go x h') λ⟨y,d,e⟩=>%[0,y,go y h' d|e]]
theorem aay:∀(ls rk:İ ı),63∉rk->(eN ls rk).v<=1
 | [],_,_=>ai _
 | c::ls,rk,h=>by
  unfold eN;rw[ķ h,gy];split;.rw[ab];show aay ls _ λz=>h<|List.mem_of_mem_erase z
  .show bE _
theorem aaz:∀(ls rk:İ ı),rk.count 63<=1->(eN ls rk).v<=ls.v+1
 | [],_,_=>ai _
 | c::ls,rk,h=>by
  unfold eN;rw[aE,bv];let g:(if c∈rk then (eN ls<|rk.Đ c).L (c :: ·) else []).v<=ls.v+1:=by
   split
   .rw[ab];show aaz ls _<|ap ((List.erase_sublist).count_le _) h
   .show bE _
  by_cases d:63∈rk
  .have:(eN ls<|rk.Đ 63).v<=1:=aay ls _ λz=>by
    have:=List.count_pos_iff.Ù z;rw[List.count_erase_self]at this;simp_all
   rw[Ĺ d,ab (as:=eN ls (rk.Đ 63))];lia
  .rw[ķ d,kr];lia
def KX (H H':Hp):Prop:=∀x o,H x=į o->(∀ks,o≠.dK ks)->(∀xs,o≠.Æ xs)->H' x=į o
def KX.tup (k:KX H H'):∀a xs,H a=į (.Ç xs)->H' a=į (.Ç xs):=λa xs e=>k a _ e (λ_=>nofun) (λ_=>nofun)
def cY.mvX {r w:ı}{aj aN:AA}{i j:ı}(B:cY C H p r w aj aN i j)(k:KX H H'):cY C H' p r w aj aN i j:=by let((dx,pr,pm,pb,a,b,c,d),o):=B;show%[%[22,dx,pr,pm,pb,k _ _ a (λ_=>nofun) λ_=>nofun,k.Ç _ _ b,k.Ç _ _ c|k.Ç _ _ d]|o]
def Found.mvX {aj:AA}{r w:ı}{hk:İ (ı×ı)}(h:Found H T as L aj r w hk)(k:KX H H'):Found H' T as L aj r w hk:=%[k.Ç _ _ h.tp,h.ly.jh k.Ç,h.ok,h.up|h.le]
structure wg (C:ĸ)(H:Hp)(B R:ĸ)(r w:ı)(aj aN:AA)(bi bj:ı)(rk:İ ı):Prop where
 bd:cY C H B r w aj aN bi bj
 rs:H R=į (.Æ<|Ts aj)
 r4:r<=4
 w6:w<=6
 rw:w<=4\/r=3
 k3:rk.v<=3
 k1:rk.count 63<=1
def wg.mv {r w:ı}{aj aN:AA}{bi bj:ı}{rk:İ ı}(h:wg C H B R r w aj aN bi bj rk)(s:aB H H'):wg C H' B R r w aj aN bi bj rk:=%[h.bd.mv s,s _ _ h.rs,h.r4,h.w6,h.rw,h.k3|h.k1]
def wg.bnd {r w:ı}{aj aN:AA}{bi bj:ı}{rk:İ ı}(h:wg C H B R r w aj aN bi bj rk){ws:AA}(d:ws.v<=11):ws.v*(r*(w-1)*10)<=1999/\ws.v*(w*(r-1)*10)<=1999:=by
 let r4:=h.r4;let w6:=h.w6;let g:∀n,n<=15->ws.v*(n*10)<=1999:=λn hn=>ap (i4 d<|lI 10 hn) yk;rcases h.rw with z|z
 .show%[g _<|ap (i4 r4<|show w-1<=3 from kU z _) yk|g _<|ap (i4 z (show r-1<=3 by lia)) yk]
 .show%[g _<|ap (i4 (show r<=3 from fq z)<|show w-1<=5 from kU w6 _) yk|g _<|ap (i4 w6 (show r-1<=2 by simp_all)) yk]
def wg.ask {r w:ı}{aj aN:AA}{bi bj:ı}{rk:İ ı}(h:wg C H B R r w aj aN bi bj rk){ws:AA}(q:ws.v<=11)(D:dZ CB H bk d ws):ws.v<64/\rk.v<=100/\(∀l∈ws,∀ls,ls.v<=l.v->(eN ls rk).v<=10)/\10<=900/\ws.v*(r*(w-1)*10)<=1999/\ws.v*(w*(r-1)*10)<=1999:=by let k3:=h.k3;show%[yf,yf,λl g ls F=>ap (aaz ls rk h.k1) (by have:=(D.az l g).hi;lia),yk|h.bnd q]
def wg.found {as:İ ĸ}{r w:ı}{aj aN:AA}{bi bj:ı}{rk:İ ı}(h:wg C H B R r w aj aN bi bj rk){ws:AA}(g:dZ CB H bk d ws)(D:H' T=į (.Ç<|as.L V.H))(Y:dW H' as L)(up:Wk L)(nd:L.Ö)(F:L.v<=3998)(hm:∀x,x∈L↔x∈mC ws aj r w bi bj rk):Found H' T as L aj r w (cB aj r w bi bj):=by
 let O:=h.bd.ok;let ok:∀x∈L,jP aj r w (cB aj r w bi bj) x:=λx hx=>Q7 O.br g.az<|(hm x).mp hx;show%[D,Y,ok,ad6 up nd λx hx t q=>by have:=(ok x hx).qR O.r9 O.w9 t q;show%[by have:=this.2.1;show a7 this<|gT _ _|this.2.2]|yf]
def Rg {ws vs aj:AA}{r w bi bj:ı}{rk wd:İ ı}{L L':İ (İ bF)}{hk:İ (ı×ı)}{g:İ bF->ō}(G:Blk r w aj)(r9:r<=9)(w9:w<=9)(F:∀l∈vs,fu l)(h:∀x,x∈vs↔x∈ws\/x=wd)(hn:wd∉ws)(J:2<=wd.v)(B:∀x,g x=ĳ↔oZ aj x wd)(q:∀x,x∈L↔x∈mC ws aj r w bi bj rk)(d:∀x,x∈L'↔x∈mC vs aj r w bi bj rk)(u:Nk L)(u':Nk L')(o:∀x∈L,jP aj r w hk x)(o':∀x∈L',jP aj r w hk x):(L'.û λx=>!g x)=L:=by
 let ok:∀{M:İ (İ bF)},(∀x∈M,jP aj r w hk x)->∀x∈M,∀t∈x,jy t:=λh x hx t D=>by have:=(h x hx).qR r9 w9 t D;show%[by have:=this.2.1;lia|this.2.2]
 calc Xv (u'.û _) u (λx hx=>ok o' x (fc.mp hx).1) (ok o) λx=>?_;rw[fc,d,q,Xp G F h hn J,Bool.not_eq_true',<-Bool.not_eq_true,B]
structure LI (CB:ĸ)(H0:Hp)(bk d wl:ĸ)(ws us:AA)(H:Hp):Prop where
 b:Er CB H bk d wl ws us
 le:us.v<=11
 kp:∀b o,H0 b=į o->b≠d->b≠wl->H b=į o
def LI.mv (h:LI CB H0 bk d wl ws us H)(s:aB H H'):LI CB H0 bk d wl ws us H':=%[h.b.mv s,h.le|λb o e h1 g=>s _ _<|h.kp b o e h1 g]
def Uh (hd:H0 d=į (.dK kv))(hw:H0 wl=į (.Æ xs))(kp:∀b o,H0 b=į o->b≠d->b≠wl->H b=į o):KX H0 H:=λx o e h1 g=>kp x o e (λz=>by rw[z,hd]at e;show h1 _ (bo e).Ð) λz=>by rw[z,hw]at e;show g _ (bo e).Ð
def wg.mvK {r w:ı}{aj aN:AA}{bi bj:ı}{rk:İ ı}{xs:İ V}(h:wg C H0 B R r w aj aN bi bj rk)(hd:H0 d=į (.dK kv))(hw:H0 wl=į (.Æ xs))(ne:R≠wl)(kp:∀b o,H0 b=į o->b≠d->b≠wl->H b=į o):wg C H B R r w aj aN bi bj rk:=%[h.bd.mvX<|Uh hd hw kp,kp _ _ h.rs (λz=>by rw[<-z,h.rs]at hd;cases hd) ne,h.r4,h.w6,h.rw,h.k3|h.k1]
def Xx (r w):(List.É r [V.X (S (List.É w [46]).Ë)]).Ë=Ts (List.É r<|List.É w 46):=by
 let d:∀n:ı,(List.É n ([46]:İ ı)).Ë=List.É n 46:=λn=>by
  induction n with| zero=>rfl| succ n ih=>rw[ic,eC,ih];rfl
 rw[d]
 induction r with| zero=>rfl| succ n ih=>rw[ic,eC,ih];rfl
def aea (G:GG K mg)(F:vG K "law" "law" Tt f fd):jY P w K mg base ug 15 f fd ["_law_script"] (RQ K):=by
 calc F.cH iC ?_;intro bA A outer s H vs Q E hr h;let(a,ns,rfl,hS,hn,q):=h;let hu:=mX hr;calc%[0,_,(aC (aO (i:=1) iC.nd rb (Or.Â rb)<|aY (Tw G) hr.Ø rb<|ak aG<|ak aF aA)<|aC (aO (i:=2) iC.nd rb (Or.Â rb)<|aY (Z4 G) hr.Ø rb<|ak aG<|ak aF<|ak aU aA)<|aC (aO (i:=3) iC.nd rb (Or.Â rb)<|aY (Gh G) hr.Ø rb<|ak aG<|ak aF aA)<|aC (aO (i:=4) iC.nd rb (Or.Â rb)<|dz<|ak (aR cU bO<|aX bY ym G.b' bP<|ak bw aA)<|ak (aR cU (aR gH bO aF)<|aX cI ym G.b' bP<|ak (bK d9 bw aF λ_ _=>rfl) aA) aA)<|aC (aO (i:=5) iC.nd rb (Or.Â rb)<|pB (G.l'.Lq G.D') (qJ G) hr.Ø rb G.C' G.l'.b .ê fB<|ak (cR cJ ym G.g' cz<|ak bw aA)<|ak (cR cJ ym G.g' cz<|ak (aR acM (dF<|ak (aR aaO (bU [46] yo)<|aX cI ym G.b' bP<|ak (bK d9 bw aF λ_ _=>rfl) aA) aA)<|aX bY ym G.b' bP<|ak bw aA) aA)<|ak cD aA)<|aC (aO (i:=6) iC.nd rb (Or.Â rb)<|aY (Z2 G) hr.Ø rb<|ak aG<|ak aF<|ak aU aA)<|aC (aO (i:=7) iC.nd rb (Or.Â rb)<|aY (Z0 G) hr.Ø rb<|ak aG<|ak aF<|ak aF<|ak aU aA)<|aC (aO (i:=8) iC.nd rb (Or.Â rb)<|pB (G.q'.Lq G.I') (Qs G) hr.Ø rb G.H' G.q'.b .ê fB<|ak iJ aA)<|aC (aO (i:=9) iC.nd rb (Or.Â rb)<|aY (lR G) hr.Ø rb<|ak cV<|ak jl<|ak fj aA)<|aC (cC (fK<|dJ<|aY (Jh G) hr.Ø rb<|ak rA aA) (aD<|aW gG) bN)<|aC (c7 b7 rb (yC ym G.i'<|ak aF<|ak (aX bY ym G.b' bP<|ak (f9 zV aG jU<|fQ aF) aA) aA) (bL (i:=10) iC.nd rb<|Or.Â rb)<|aC (aO (i:=11) iC.nd rb (Or.Â rb)<|aY (ab_ G) hr.Ø rb<|ak iJ<|ak (aY (qm G) hr.Ø rb<|ak aG<|ak (qv 10)<|ak aF<|ak aF aA)<|ak aU aA)<|aC (aO (i:=12) iC.nd rb (Or.Â rb)<|fZ yI (qv 11) iJ rb)<|aC (kW<|cC (dJ<|qv 12) (aC (cX<|lD jl G.f'.cl G.y'.m (Wv G) hr.Ø G.y'.b .ê fB<|ak (qv 11) aA)<|aD<|cX<|dO cx eD eI fU iJ<|ak (qv 11) aA)<|aC (cX<|lD jl G.f'.cl G.z'.m (Ol G) hr.Ø G.z'.b .ê fB<|ak (qv 11) aA)<|aD<|cX<|dO cx PySem.F.slot_list_remove PySem.F.type_list_remove Vo iJ<|ak (qv 11) aA)<|aC (kW<|cC (bW wB (qv 10) aF<|bQ _) (aC (aO (i:=13) iC.nd rb (Or.Â rb) rA)<|aC (aO (i:=9) iC.nd rb (Or.Â rb)<|aY (lR G) hr.Ø rb<|ak cV<|ak jl<|ak fj aA)<|aD<|cC (fK<|dJ<|aY (ZX G) hr.Ø rb<|ak bw<|ak rA<|ak (qv 13)<|ak (qv 11)<|ak (qv 12) aA) (aD<|aW gG) bN) bN)<|aD<|cC (QW.qt<|CT (bW jk (aR cU (qv 10) aF) aF<|bQ _)<|zP<|bW (SX K hr.ß) (nG (nG jl G.f'.cl G.A'.m (TV G) hr.Ø G.A'.b .ê fB) G.h'.cl G.p'.m (Mq G) hr.Ø G.p'.b .ê fB) (aY (Xr G) hr.Ø rb<|ak iJ aA)<|bQ _) (aD<|aW gG) bN)<|aD<|aW<|fZ (Ku hr.ß) (aY (lR G) hr.Ø rb<|ak cV<|ak (pB (G.q'.Lq G.I') (Qs G) hr.Ø rb G.H' G.q'.b .ê fB<|ak iJ aA)<|ak fj aA) (aY (lR G) hr.Ø rb<|ak cV<|ak jl<|ak fj aA)<|bQ _)|?_];calc%[8,a,ns,0,rb,hS,yk|λls H1 s1 hA=>?_];calc%[5,a,ns,1,ls,rb,s1.î hS,yk,hA|λR aj r w' H2 s2 Rc hR hb r1 w1 r4 w6 hrw qx=>?_];let s02:=s1.À s2;calc%[21,a,ns,20,rb,s02.î hS|λcl=>?_];let lZ:(Ts aj).v=r:=by rw[ab,hb.len]
 let hg0:aj[0]?=į (aj.Î 0 []):=by rw[ah,ae (by rw[hb.len];show r1)];rfl
 let hw0:(aj.Î 0 []).v=w':=hb.iG _<|ax hg0;let at0:lV (Ts aj) 0=į (.X<|S<|aj.Î 0 []):=bh (j:=0)<|oR hg0;let hz:(aj.Î 0 []).v<=Ľ:=ay<|aH yf;let(bi,hbi,hbr):=uc (c:=cl) (m:=r) r1;let(bj,hbj,hbw):=uc (c:=cl/7) (m:=w') w1;calc%[42,R,_,rb,.Â<|aP.of hR,_,_,rb,rb,by rw[lZ];show ii fv r1|%[4,_,_,rb,rb,%[yk|yk]|%[17,R,_,_,_|%[34,rb,rb,aP.of hR,at0,_,rb,hz|%[6,_,_,rb,rb,by rw[hw0];lia,zsz 2|λbg hbg=>?_]]]]];rw[show upd H2 bg (HO.Ç [V.M (cl%((Ts aj).v:Ŀ)),V.M (cl/7%((aj.Î 0 []).v:Ŀ))])=upd H2 bg (HO.Ç [.M (bi:Ŀ),.M (bj:Ŀ)]) by rw[lZ,hw0,hbi,hbj]];let k3:aB H2 (upd H2 bg<|HO.Ç [.M (bi:Ŀ),.M (bj:Ŀ)]):=aB.ì hbg;let Z5:upd H2 bg (HO.Ç [.M (bi:Ŀ),.M (bj:Ŀ)]) bg=į (.Ç [.M (bi:Ŀ),.M (bj:Ŀ)]):=au;generalize upd H2 bg (HO.Ç [.M (bi:Ŀ),.M (bj:Ŀ)])=H3 at k3 Z5 ⊢;let Fg:=k3 _ _ hR;calc%[3,R,_,rb|.Â %[aP.of Fg|λpr hpr=>?_]];let k4:aB H3 (upd H3 pr<|HO.Ç<|Ts aj):=aB.ì hpr;let Z6:upd H3 pr (HO.Ç<|Ts aj) pr=į (.Ç<|Ts aj):=au;generalize upd H3 pr (HO.Ç<|Ts aj)=H4 at k4 Z6 ⊢;let Xu:=k4 _ _ Fg;calc%[17,R,_,_,_|%[34,rb,rb,aP.of Xu,at0,_,rb,hz|%[26,[46],w',rb,by rw[hw0],w1,yf,yk,zsz 1|λl1 hl1=>?_]]];let k5:aB H4 (upd H4 l1<|HO.Æ [.X (S (List.É w' [46]).Ë)]):=aB.ì hl1;let hl5:upd H4 l1 (HO.Æ [.X (S (List.É w' [46]).Ë)]) l1=į (.Æ [.X (S (List.É w' [46]).Ë)]):=au;generalize upd H4 l1 (HO.Æ [.X (S (List.É w' [46]).Ë)])=H5 at k5 hl5 ⊢;let hR5:=k5 _ _ Xu;let em:=Xx r w';calc%[1,R,_,rb,.Â<|aP.of hR5|%[46,l1,_,_,rb,rb,hl5,by rw[lZ];show eJ _,by rw[lZ];lia,by rw[lZ,cq];show ay<|aH (by show 1*r<=1000;lia)|λl2 N=>?_]];rw[lZ,cq,em];let k6:aB H5 (upd (upd H5 l2<|HO.Æ<|Ts<|List.É r<|List.É w' 46) l2<|HO.Æ<|Ts<|List.É r<|List.É w' 46):=(aB.ì N).bB N;calc%[3,l2,_,rb|.Â %[aP.of au|λpm hpm=>?_]];let k7:aB H5 (upd (upd H5 l2<|HO.Æ<|Ts<|List.É r<|List.É w' 46) pm<|HO.Ç<|Ts<|List.É r<|List.É w' 46):=(aB.ì N).bB<|(aB.ì N).Ó hpm;let Z7:upd (upd H5 l2<|HO.Æ<|Ts<|List.É r<|List.É w' 46) pm (HO.Ç<|Ts<|List.É r<|List.É w' 46) pm=į (.Ç<|Ts<|List.É r<|List.É w' 46):=au;generalize upd (upd H5 l2<|HO.Æ<|Ts<|List.É r<|List.É w' 46) pm (HO.Ç<|Ts<|List.É r<|List.É w' 46)=H7 at k7 Z7 ⊢;let s57:=k5.À k7;let s37:=k4.À s57;let bd:Et r w' aj (List.É r<|List.É w' 46) bi bj:=%[r1,yf,w1,yf,hb,%[ee|λl hl=>by rw[(wx.mp hl).2,ee]],qx,λl hl c hc=>by rw[(wx.mp hl).2]at hc;rw[(wx.mp hc).2];show a4,hbr|hbw]
 calc(λB dx nB ndx neB=>?_);let s8:aB H7 (upd (upd H7 dx<|HO.own B) B<|HO.Ē G.c' dx []):=λc o e=>by rw[aM (aQ e nB),aM (aQ e ndx)];show e
 calc%[17,B,dx,pr,pm|%[62,bg,r,w',aj,_,bi,bj,rb,au,s8 _ _<|s57 _ _ Z6,s8 _ _ Z7,s8 _ _<|s37 _ _ Z5,bd|λH8 kp8 hB8=>%[rb|?_]]];let s78:aB H7 H8:=λc o e=>kp8 c o (s8 c o e)<|aQ e nB;let s38:=s37.À s78;let Q5:=k3.À s38;let s08:=s02.À Q5;let BD:cY G.c' H8 B r w' aj (List.É r<|List.É w' 46) bi bj:=%[%[22,dx,pr,pm,bg,hB8,s78 _ _<|s57 _ _ Z6,s78 _ _ Z7|s38 _ _ Z5]|bd]
 generalize List.É r (List.É w' 46)=aN at bd BD;calc%[5,a,ns,21,ls,rb,s08.î hS,yk,hA|λrk H9 s9 k3' k1'=>?_];let S9:wg G.c' H9 B R r w' aj aN bi bj rk:=%[BD.mv s9,s9 _ _<|Q5 _ _ hR,r4,w6,hrw,k3'|k1']
 let s09:=s08.À s9;calc%[12,a,ns,28,8,ls,rb,s09.î hS,yk,yk,hA|λwl us HA sA nwl hwl nd hW hl8=>?_];let sA0:=s09.À sA;let nRw:R≠wl:=aQ (s9 _ _<|Q5 _ _ hR) nwl;let S10:=S9.mv sA;calc(λbk dk nk ndk nek=>?_);let sB':aB HA (upd (upd HA dk<|HO.own bk) bk<|HO.Ē G.d' dk []):=λc o e=>by rw[aM (aQ e nk),aM (aQ e ndk)];show e
 calc%[16,bk,dk,wl,us,rb,au,.Â<|aP.of<|sB' _ _ hwl,hW,yf|λd ws HB hd BK hmem bV kpB=>%[rb|?_]];let sB:aB HA HB:=λc o e=>kpB c o (sB' c o e)<|aQ e nk;let S11:=S10.mv sB;let s0B:=sA0.À sB;let agk:HA d=Ĵ:=aB.Ó sB' hd;let BL:Er G.d' HB bk d wl ws us:=%[BK,sB _ _ hwl,nd|λx=>(hmem x).Ð]
 let hus:us.v<=11:=yf;let hws:=BL.ď;let(x1,x2,x3,x4,x5,x6):=S11.ask (ap bV hus) BK;calc%[18,B,bk,d|%[17,ws,r,w',aj|%[49,aN,bi,bj,10,rk,rb,S11.bd,BK,x1,x2,x3,x4,x5,x6|λT as L HC sC hT hY upL ndL hlL hL=>?_]]];let FT:=S11.found BK hT hY upL ndL hlL hL;let S12:=S11.mv sC;let O:=S12.bd.ok;let r9:=O.r9;let w9:=O.w9;calc%[35,T,as,L,rb,FT.tp,FT.le,FT.lys r9 w9,FT.up|aZ ĳ rb<|bZ ?_];let s0C:=s0B.À sC;calc%[40,_,rb,a,_,rb,s0C.î hS|λu hu'=>?_];let sD:aB HC (upd HC u<|.Æ<|gR (ns.L V.M) Ĵ<|į 63):=aB.ì hu';let hu2:upd HC u (.Æ<|gR (ns.L V.M) Ĵ<|į 63) u=į (.Æ<|gR (ns.L V.M) Ĵ<|į 63):=au;let hcl:(gR (ns.L V.M) Ĵ<|į 63).v<=63:=by unfold gR;rw[ba,cp,ab];lia
 generalize upd HC u (.Æ<|gR (ns.L V.M) Ĵ<|į 63)=HD at sD hu2 ⊢;generalize gR (ns.L V.M) Ĵ (į 63)=zs at hu2 hcl ⊢;let S13:=S12.mv sD;let BLD:=(BL.mv sC).mv sD;let hdD:=BLD.bk.dc;let hwD:=BLD.ls;let FD:=FT.mv sD;let s0D:=s0C.À sD;let VB:∀{H'},(∀b o,HD b=į o->b≠d->b≠wl->H' b=į o)->aP K H' a (ns.L V.M):=λ{H'} kp=>by
  let go:∀o,H a=į o->H' a=į o:=λo e=>kp a o (s0D _ _ e) (aQ (sA0 _ _ e) agk)<|aQ (s09 _ _ e) nwl;rcases hS with(h|⟨o,h⟩)|h
  .show .Â<|.Â<|go _ h
  .show .Â<|.Ò %[o|go _ h]
  .show .Ò h
 calc%[24,u,_,rb,.Â<|aP.of hu2,_,_,rb,%[yf,eJ _,eJ _|yf]|?_];let hnn:((zs.v:Ŀ)-36).Õ<=27:=by simp[xN];lia
 generalize ((zs.v:Ŀ)-36).Õ=nn at hnn ⊢;refine jE (lo:=36) (n:=nn) (λi I H'=>∃(T:Addr) (as:İ ĸ) (L:İ (İ bF)) (ws us:AA) (v10 v11 v12 Ji:ĵ V),I=[į (.H a),į (.X<|S ls),į (.H R),į (.M cl),į (.H bg),į (.H B),į (.X<|S rk),į (.H wl),į (.H bk),į (.H T),v10,v11,v12,Ji]/\LI G.d' HD bk d wl ws us H'/\Found H' T as L aj r w' (cB aj r w' bi bj)/\(i<=10->∀x,x∈L↔x∈mC ws aj r w' bi bj rk))
  %[58,T,as,L,ws,us,Ĵ,Ĵ,Ĵ,Ĵ,rb,%[BLD,hus|λb o e _ _=>e],FD|λ_=>hL] ?_ ?_
 .clear hus hws bV hl8 hmem BL BK hL FT FD hY hT;intro i I H1 hi z;let(T,as,L,ws,us,v10,v11,v12,Ji,rfl,Rh,F1,hL):=z;let e36:(36:Ŀ)+(i:Ŀ)=((36+i:ı):Ŀ):=rfl;calc%[38,a,ns,36+i,520,11,by rw[<-e36];rfl,VB Rh.kp,yf,yk,yk,yk|λrp ds H2 s2 np hp hdl hds=>?_];let LI2:=Rh.mv s2;let F2:=F1.mv s2;let Ui:=LI2.le;let B2:=LI2.b;calc%[56,wl,rp,us,ds,ls,rb,B2.ls,yf,B2.wd,aP.of hp,hdl,hds,hA|λwd H3 s3 W Z1=>?_];let LI3:=LI2.mv s3;let F3:=F2.mv s3;let D:=LI3.b;let h2w:=W.lo;let h9w:=W.hi;let lw:=D.ď;calc%[6,wl,Ts us,rb,.Â<|aP.of D.ls,rb,Gj us|?_];rw[LC];refine%[λI H'=>∃(c:Bool) (J us':AA),I=[į (.H a),į (.X<|S ls),į (.H R),į (.M cl),į (.H bg),į (.H B),į (.X<|S rk),į (.H wl),į (.H bk),į (.H T),į (.M<|36+(i:Ŀ)),į (.X<|S wd),į (.bl c),Ji]/\LI G.d' HD bk d wl J us' H'/\Found H' T as L aj r w' (cB aj r w' bi bj)/\
   (if c=ĳ then (∀x,x∈J↔x∈ws\/x=wd)/\wd∉ws else (∀x,x∈ws↔x∈J\/x=wd)/\wd∉J),?_|?_]
  .let(dx3,hb3):=D.bk.ob;let nwd:wl≠d:=iH D.ls D.bk.dc λz=>(nomatch z)
   by_cases cg:wd∈us
   .let aeb:=(D.mm wd).mp cg;rw[aS cg];calc bZ (A:=True) %[8,bk,dx3,_,rb,hb3,rb|%[22,bk,d,ws,wd,rb,D.bk,aeb|λH4 B4 Iu=>?_]];let Nq:=Iu _ _ D.ls nwd;calc%[9,.Â %[9,rb,_|aP.of Nq],wl|%[23,us,wd,rb,rb,Nq,cg,yf|?_]];let Xy:∀(o':HO) b o,H3 b=į o->b≠d->b≠wl->upd H4 wl o' b=į o:=λo' b o e h1 Y=>by rw[aM Y];show Iu b o e h1
    refine%[8,Ķ,ws.û λx=>Ļ<|x≠wd,us.Đ wd,rb,%[%[dZ.other B4 Nq,au,D.nd.Đ wd|λx=>?_],by have:=qE (l:=us) (a:=wd);show ap this Ui|λb o e h1 Y=>Xy _ b o (LI3.kp b o e h1 Y) h1 Y],F3.mvX<|Uh D.bk.dc D.ls<|Xy _|?_]
    .rw[D.nd.mem_erase_iff,fc,D.mm];show%[λ⟨h1,Y⟩=>%[Y|aS h1]|λ⟨h1,Y⟩=>%[dC Y|h1]]
    .calc bZ %[λx=>?_|λz=>(dC (fc.mp z).2) rb];rw[fc];by_cases e:x=wd;.rw[e];show%[λ_=>.Ò rb|λ_=>aeb]
     .show%[λh=>.Â %[h|aS e]|λh=>(h.resolve_right e).1]
   .let hnw:wd∉ws:=λz=>cg<|(D.mm wd).Ù z
    rw[aw cg];calc cu (B:=True) %[8,bk,dx3,_,rb,hb3,rb|%[16,bk,d,ws,wd,rb,D.bk,W,hnw,yf|λH4 B4 Iu=>?_]];let Nq:=Iu _ _ D.ls nwd;calc%[29,.Â %[9,rb,_|aP.of Nq],wl,_,_,rb,rb,Nq,by rw[ab];show aH<|ap Ui<|gT _ _|?_];let Xy:∀(o':HO) b o,H3 b=į o->b≠d->b≠wl->upd H4 wl o' b=į o:=λo' b o e h1 Y=>by rw[aM Y];show Iu b o e h1
    calc%[8,ĳ,ws++[wd],us++[wd],rb,%[%[dZ.other B4 Nq,by rw[au,jX],z9 D.nd cg|λx=>?_],?_|λb o e h1 Y=>Xy _ b o (LI3.kp b o e h1 Y) h1 Y],F3.mvX<|Uh D.bk.dc D.ls<|Xy _|?_];.rw[aT,aT,D.mm]
    .rcases dE 10 us.v with z|z;.show ŀ (Z1 z) cg
     .rw[aE];show us.v+1<=11;show e6 z
    .show cu %[λx=>by rw[aT,am]|hnw]
  intro I H4 z;let(c,J,us',rfl,LI4,Z,hcw):=z;let agu:=LI4.le;let B4:=LI4.b;let lw':=B4.ď;let S4:=S13.mvK hdD hwD nRw LI4.kp;refine%[λI H'=>∃(T:Addr) (as:İ ĸ) (L:İ (İ bF)) (Ji:ĵ V),I=[į (.H a),į (.X<|S ls),į (.H R),į (.M cl),į (.H bg),į (.H B),į (.X<|S rk),į (.H wl),į (.H bk),į (.H T),į (.M<|36+(i:Ŀ)),į (.X<|S wd),į (.bl c),Ji]/\aB H4 H'/\Found H' T as L aj r w' (cB aj r w' bi bj)/\(i+1<=10->∀x,x∈L↔x∈mC J aj r w' bi bj rk),?_|?_]
  .refine%[1,_,_,rb,rb|jr (λhlt=>?_) λhlt=>?_]
   .let aec:i<=10:=by have:=dC hlt;lia
    let(x1,x2,x3,x4,x5,x6):=S4.ask yf B4.bk;calc ?_;calc%[18,B,bk,d|%[17,J,r,w',aj|%[49,aN,bi,bj,10,rk,rb,S4.bd,B4.bk,x1,x2,x3,x4,x5,x6|λT' as' L' H5 s5 hT hY upL ndL hlL hL'=>?_]]];let F5:=S4.found B4.bk hT hY upL ndL hlL hL';let S5:=S4.mv s5;calc%[17,R,T',T,as'|%[58,as,L',L,r,w',aj,cB aj r w' bi bj,wd,c,rb,S5.rs,hb|%[r9,w9,r1,qx,F5,Z.mv s5,yf,λg hg=>?_|λH6 s6=>%[22,T',as',L',_,rb,s5.À s6,F5.mv s6|λ_=>hL']]]];cases c with| true=>show cu<|Rg hb r9 w9 B4.bk.az hcw.1 hcw.2 h2w hg (hL aec) hL' Z.up F5.up Z.ok F5.ok| false=>show bZ<|Rg hb r9 w9 D.bk.az hcw.1 hcw.2 h2w hg hL' (hL aec) F5.up Z.up F5.ok Z.ok
   .show%[22,T,as,L,Ji,rb,aB.Č _,Z|λh=>ŀ (aS (show (36:Ŀ)+(i:Ŀ)<46 by lia)) hlt]
  .intro I H5 z;let(T,as,L,Ji,rfl,s5,F5,yr):=z;let LI5:=LI4.mv s5;let B5:=LI5.b;let(dx5,hb5):=B5.bk.ob;calc%[6,_,_,rb,rb,(by show (0:Ŀ)<8;decide),rb|jr (λ_=>?_) λ_=>bZ %[58,T,as,L,J,us',_,_,_,_,rb,LI5,F5|yr]];calc%[61,bk,dx5,_,rb,hb5,rb,bk,d,J,rb,B5.bk,yf|λm e s0 n H6 s6 tb1 he M1=>?_];let(dxm,_,_,hm6,_):=id M1;calc%[21,m,dxm,_,rb,hm6|%[14,rb,m,_,rb,M1.ą|λt1 T1=>?_]];let aed:=tb1.asc<|abI B5.bk.az;let B6:=B5.mv s6;calc%[6,wl,us',rb,B6.ls,yf,B6.wd|λt2 s02 n2 H7 s7 tb2 T2=>?_];let(rfl,rfl):=tb1.uniq tb2 (Ml λy=>(B5.mm y).Ð);show%[4,4,_,yk,(T1.mv<|Kt.of s7).has aed,T2.has aed|bZ %[58,T,as,L,J,us',_,_,_,_,rb,(LI5.mv s6).mv s7,(F5.mv s6).mv s7|yr]]
 .clear hus hws bV hl8 hmem BL BK hL FT FD hY hT;intro I H1 z;let(T,as,L,ws,us,v10,v11,v12,Ji,rfl,Rh,F1,_):=z;let Ui:=Rh.le;let B1:=Rh.b;let lw:=B1.ď;let S1:=S13.mvK hdD hwD nRw Rh.kp;calc(λk2 dk2 nk2 agl agy=>?_);let sE':aB H1 (upd (upd H1 dk2<|HO.own k2) k2<|HO.Ē G.d' dk2 []):=λc o e=>by rw[aM (aQ e nk2),aM (aQ e agl)];show e
  calc%[16,k2,dk2,wl,us,rb,au,.Â<|aP.of<|sE' _ _ B1.ls,B1.wd,yf|λd2 vs H2 hd2 BK2 hm2 N QK=>%[rb|?_]];let sE:aB H1 H2:=λc o e=>QK c o (sE' c o e)<|aQ e nk2;let S2:=S1.mv sE;let(x1,x2,x3,x4,x5,x6):=S2.ask (ap N Ui) BK2;calc%[18,B,k2,d2|%[17,vs,r,w',aj|%[49,aN,bi,bj,10,rk,rb,S2.bd,BK2,x1,x2,x3,x4,x5,x6|λT1 as1 L1 H3 s3 hT1 hY1 agm agn ago hL1=>?_]]];let F3:=S2.found BK2 hT1 hY1 agm agn ago hL1;let S3:=S2.mv s3;let D:=(B1.mv sE).mv s3;let(y1,y2,y3,y4,y5,y6):=S3.ask yf D.bk;calc%[18,B,bk,d|%[17,ws,r,w',aj|%[49,aN,bi,bj,10,rk,rb,S3.bd,D.bk,y1,y2,y3,y4,y5,y6|λT2 as2 L2 H4 s4 hT2 Xk agp agq agr hL2=>?_]]];let Z:=S3.found D.bk hT2 Xk agp agq agr hL2;let F34:=F3.mv s4;let ok:∀{M:İ (İ bF)},(∀x∈M,jP aj r w' (cB aj r w' bi bj) x)->∀x∈M,x≠[]/\∀t∈x,qR t:=λh x hx=>%[(h x hx).ne|(h x hx).qR r9 w9]
  let ok3:∀{M:İ (İ bF)},(∀x∈M,jP aj r w' (cB aj r w' bi bj) x)->∀x∈M,∀t∈x,jy t:=λh x hx t ht=>by have:=(ok h x hx).2 t ht;show%[by have:=this.2.1;show a7 this<|gT _ _|this.2.2]
  let eL:L1=L2:=Xv F34.up Z.up (ok3 F34.ok) (ok3 Z.ok) λx=>by rw[hL1,hL2];show Xw (λy=>by rw[hm2,B1.mm]) x
  calc%[8,3,_,_,yk,F34.ly.has F34.tp<|ok F34.ok,Z.ly.has Z.tp<|ok Z.ok|?_];rw[eL];simpa using q H4
end
end My
end
namespace My
open PySem L2
end My
namespace PySem.W.Fast
abbrev U:=True
local macro_rules|`(universe $x*)=>do return Lean.mkNullNode (<-x.mapM λi=>`(def $(Lean.mkIdent (.mkSimple s!"tw{i.getId.toString.ć (λn c=>n*52+(c.Õ-if c.Õ<91 then 65 else 71)) 0}")):ident := U))
universe CKgOVOSpYYMP CWIflKypkbbu CSdOqCGNHUov BkYqTDNTRrVr CNiUSIULLFTT IHymZevzviJ BDKaypGaNkWB BVQpPeQMFdMG zNHSIAXXkJV ZiYHUbzWfxm COJuyQdYOSKx BbcmdcejoXrq BwCiOYgvVpNx CIFyiqIRXnkv CIrsohoSdQHb DpLQWxvXOHM BwsQaNDIgIxp CHvsxsaRModw BfaDsUvKHmDG cDNyPEssbbh VWKxMPsRCHj LNmugwRvLai BcDztOWfNVft BXLBHjVXjKVK CRbQiSaHEiLG THxwHdyLJfa BDNTJOKCoQJS BMPGkuyorOgs BIyguhabCDVC xSVLcvjKtrr CWVdVOWikiaF neZWwvMDjGN vPTcvDzLamY BSlXepDPSWJl BeRUskDZhztF BQwKDwPffhre KzZQpCWIJnd sgUPuSDirhW SelMutJjAYj FBxCtIriecn BJnOdBPameuW LLOhkLmaGGO CDxPlGFNSJHj qjiBhewwGjH pkxqcMzznYl QlXJbubbeEq BprpvyrkVHdw BauznOiSihBr CIePxwYVMaMQ BLLRtkdXSLyX BVbDtUmMAIyQ HIzlFYRzSyf BRvuVIhNRDNl BLfmfFNrDSMF BgEzSYBXlkji nKxKBeAjFXq BGFUBGBQuJsQ xVEhoEQktXC CSpYdODzzsTe BVuvyjOdArqz CRaJBMKrebnS BFbUNEcxsxjC BtNChtjSJfSS CAYQjHSVsvlP ChxliqMeeWg BDgrZqkFnZvX BlSndnYyPXGB GoJnWPsgFHP RtnOXYvryvY BJmEKfghkgsv LkMuLFLjmhC BbgdEcaPcpWE CKgQhZRDqilA CMLXbCwdMJun CCeXTmrZdAYA BsINIJvgwGhg DHPIMXrJKKT gSarzllPeYe CRPGwcGiXNKS rPiVPYlAzZH BJhsRvwrfiHl BBxWRTiyEVNk uSXIRdbpApO JfxJVZQbNkj BDzHsNjIdhcl CIXuHDAMxvyr CMYgXfkXQCGK CQgcSgNpWivo XGcUZfMQfLc BGVlkfunBtjS CWmCtWmpErgx CWqCSpFckOBX RYBDpmYoRsB wbWEbtNoumQ BDzRFhcUaKIM afEhBfmuRkj BmfmjxRwPhKU jxWKagPtYTM vxMuFJpTEqE BeATInqFlNwm ByNyQKpPZCYo CKpXFgjVldhg BxpHsHdPLGSk BDSerZGfQgjb CCpIuAAWFlqn COurbqumkWsh CHttUmOOvPeL BNfEokFfyMFq SZMtyURIVDT OheEiCyjXnR CPubPoEJEymO BgCESMHQMBDy gBMvBFzcvOW BBZIlFjVSsxk FEtwjoEmDYL BkCCIckpKwvC BxZExaUefPaf BmrABJHytZmC VImPdcRrNkP BuaviiypgoZw BwDtDVltSwrl CROkzshxKMsK CSuCOGYqyBYA HwNhkXTcSHN BOrbYoJQVMrL pKRifHhtlBk pqueyHZCpXq wBTgaPDZnHT CIWzObBkJYgr DTQnfkpgXfk HuLIPzuoUyK EoCapxVXIeG GFBBUZCUUdp OeRKRViUwPQ SyJqkYMDVPO uidjFzAdHWV BMibdBqCHTAE oGioldZAhaO BzyqPYmRnHTo uYGtHHrcTTw ZEBxpVvFTMP BJHVFIqZhYll BJRPwuwTFtjH IgvYfxNHBaP BfVsNEBrWzpK JYYsFNoEpRg BubLUfGqZzoS MPpGtwAEDnG BQYcfIXEpKac CKaSegOCZxhy BJzPDOaswoTz BakxkiydxxKz XlYgceTlICS BqoLCbuxkZBc CMEmNWrKkInq GBbMSkGPydL rTwyqhqXWjE BhJoqAPUDnIC UdoBpEJcGTY BcKRCCtfTFaP tZERWYIklYN BEEakNbgGsuD vkocYMZfesM NrwKesUTnlY xHozgCSmmGZ cyxQpSgyFDR BSGFbfoxGnkA wAxueAkMAAr BNBHLVrKoIsV ecdqTrqPaoN iJzKXaOzjNz dkIfInuucZu JGDRfKOQVPE CDMqUazfcrnL CHdlRvERcAzO BIWPBmPZASZC CEXEsWBTEaWE zPojMZSFxCQ FrFPSJKKpMK EmiTsbPtzAQ pPwSvZTvttz BhVKaJJwfhFT BZybvTiyCOIU BIDjMRKDpUKB CXFCYltzTejm CRnzbNALjpts BsWELrGAsIzY BpZunHHVLcoc FBsXKveQEur BiTFgXFxUDzV BIjjXQgqOzho CCFrxdkTAHkv BebnapnkeGUv ZLoiOFyrMEJ BdTExXCsuNlf BZVANuiboXRC CIvhspmlmGHr GGMYpDHvyHs BecRHtCekhMW BdadbJLRpuEh JbMPcoigHVJ CKSPwOZkmDQg BtIDXSVVNZFz BeDOrJMVCrbI BhmNRTFNNxWr DfSTNWTsJIT bjekMJilPjt BoxJmJzXcOWv COWIOdETZEFT cAjnVtHWZwv CPoVHEDdofvW BcdmhAjqsQEh zVqornzSecf BOCVxGpUgsGg BRZpzACSEFEu BILKNidGqsNG BtApLxtjFcU CMOHRhTVNvUO BCrCCiDCGgqO aytgXSIxeAu BDpxjKPfBpXO UMqWLNRhikr CXHGAaTKBphj ltvqMWMlNfr BobBlbfFjFOn vVBTkIWNquF deLOoQxQuXj BNAjOlLaLbLJ jtuSCjibusJ BZcrOpaRpGEh QwlzfMnVWvM wOamOzfnCQr yQKGaaGzdlb OFKRqFryorK BscaIyUTGeHs BuJfiMHoCTXn CIsLHhJnhuTl CUrZQQkniZhC CTACBjOqNkNc BkKeFCCxkOsT CDxqChbRZQjj BxIWpeforIZI EAyYNepfhRk BaIDdmAUQjHF DDgWVOtZeew BorIJGQxtiXU IxpHsuBqORa CRIAsVITxzKi LkNlNoFuvVv BAQzmUWywLwM tfOWfaPybSx wDzzpZqJPRr tlqaFFSasoT vvGQIHbxOsB BeLXVQBdoooX BdbqvLwmwiPQ CAvshALkDzJr HhicMKxzMVl uueZqgfzxxW BFsePOdtYAul lNBVHQWxILi CIFoBYJKHxrt BCPBDlINCWpN itKFWoqfgCh BpGZqWlZIqEl wvhCueldgLL GhxmainDmxJ BAfSFgrEgXue MvmDBtLpoFP LuMJIWxQMIG BPWYyFDopUiR BGcjoOUAPaXC LccRpWwOLXP HlcirVuGSNw NkVOBOpZOKq BRBsRKemzGKG BWhVrnkqiNdw CCEBWadQqqXh BlxEnnuCnpjV BfmGbvPVIPxJ gsyobOsjmVE CSpZTMekKbkG BHGicyFXHIul acMmaQNQpRX kEtUJDiDjsM BgugDLOjCHfa BBVbtaGmubOj ZfWQoNUrNun LpvwskDucqG BjGPJzaPXtkt BnQFfBlPBGls BYxBCahzHucS BVnpioYzBKFM CPpRGXGBNdbn ByWssuihFzfp CBOlTKRypzZF CeAKqvwHizu kaMtmHuciCW RZOvdicawOY BTKGTxInNGOF hKcRfpKhuzh RLfngwWctjX BpHEEhgUBFCo BGdHyDaAqGbh BLnppAmQXSAt CFtamqAjMgbh MPwJwDMzvrd rkRHTeasOFh qWZCQOritIT trnyubAfLrw BPHOopuoetXb BKUtCriMNvrS tiuyRaOmomC BfkLuHCXUoZu wvNaOurNGtc xYkTWfxXglk qrXvrQXNGbu BNqrCnvLNRfm CjbXzqAdoyS CUpSVavVewN COXhVlhUOuFI BVtbeaAfdrTn CBJYALGeqWnD YGzoDAvLaTJ vGprXuTqBke BmcrJYzHqhBb BouRgLWGDMR BKAIBWJettzv BsBrfuXcLsda BHPtXlQLLFVq BOKyCtYvCGay BzatRErTAuSv BTUIQNYwxwQx BmfGcBNMPWqe CTmUuUDOSCBb ZyYmhcpCOwV CMuGKFoSzfgu zysNMgGNStF BBkFzwKBNCJV BsfowRhzRciu BKSddjfltMom vqUHuJggaAS qdzMTqSdjga VSSyaVoVxUJ fruoIWTvFMu ShiIcRbvllD FjwWteuiQdG BbNkexwvFruv BCSEYaPpoUHb fRPyxkXItcs BwclkXluLdxK BQdHyPWkcnne HqdPZeWOXMD BWytcaHdzpgo BCtRsEsSdqmM BQhtsqQYERLO BnZJbVJqixtc BLpRHWVxiNcQ BxSgWUsHOfPF nbTNooUneZD BhjJldwwsvbm qsLEQVfNoWT BBfdTySqECsG BIqRuEZRbrKA BaVbKXZNLUbC BwTquKAyUZAy cXdYCFmehAI koOcKdwbsUG CGSxDZEtutGQ CEgQUcpcSvXS BBKzZeBOdhGB BpgGmGGjjsxG jgONLNSphWP eiaGydwOPhz CGVcsLzVsfBT iItNWcrxGly BriUURNgGcbN BBSGsLkGkDMd fdeceVIXGGH UqpnOsGlKRc BviTLcqHBJsn CLKmaoFszdGd BRFumqXnjtQj tCXrMtMyvSs BUqVwfWfXUJy tZnynrOhXPn CNxiorQhpUSy BxMnDsVxqppl BWqdycUVxGoJ iKrDdhABAvb CJPCxvberncI JvzGMxEEeES BcNcLjMmBQpW CXGhlNiYMFtC BGEZSfhFjfRW WfktKRRMEKv BapYUJaGpFSX BDydhxykulhY WKNYPMgPILT KNTQQVyVqRe CFjRMmMZjlSz CCTeADZALSoZ BoZXEJVAFcBM BZruedmaPwlN CBIJOllFbiiw ghKOfmpqqsI XwWVXCFwgoc BwPscobwqLny BxfQSplCmtPT zjkBnawFrmz BCSsUSTsWYRw BertGNFYHnxb BAyqmSEzzSHO CKilIbbCVGtE BhnEcktwHlLB BrkwBEGtiWGM BxZPvdIowcQZ mGqDmGHoVmN COUmyUIRYFFx yOQsRNbgEZn BdaVbsCvBWod BzrXabsDTSEl vNUulbllcWH CItmSymTMBpR BVQlagwoGNtl CFBgtCwAZlpO CDezJElmxvCj BSmtWEmkceFN BYYKWdgrZfdU PkKbQFhdkgb HsDOXXTwKJQ BdsVwSwPLLAK uVMEurEYCwR CIpAKUVlBXnH BIxktTAzQhlQ BhuGiiYQLRHh CRympLOUJVRo BTgpkkwNjSdX CDPOIhpHzjGm BkmAKTEcXULH BiScrhhwCgVg rVsOmdhbVmO BhLhGFrJHsqu KWQYQEFMZwB GxFqXWZiRqh BDcYeHHtcTgs CHELxDqmWbtg IugaILGVHXP CWboTPeGKjMF KAaESUxDElO BrTxMPwfzvla cTLFlHyeDKG SkFdUObtwS BfRbzpRsrkrs BhZRdaoseRXA BdyJOhvBvvUJ BXJPjgDERyQn fXoUsECfYaW WDqLcjcaISt BvDtwSemXQiA BbXAdZooVGKp CCvNgjBNJyvu BjmjOGnoFEHa BlwRiUnjMXWc CWZWRdtCotJr VEaBcqHZGdo BYVpYWZyDCRW BYERknkTmeyp BxUlRWurGydF gBMCZhPvvvi zRdbvYbjPmr tvyXyQkcnnk NrJTKHZrHeL BCHyHqSVmKtb BuOBixZgEhjy CICvQcthkPAW MhqDWxnlhdV BdhpAisfsQTe CJRCgvRnhbif oXAEZonZiPo TjquzTuFQRu BMYXDXLhkTcD CCxFOsBCxHew BQwAvPMlHrRC oFpyyQsrULL BNeFZOQvGLyg kQJHEiuiuxD BbQbJsVSTlvl BHFCMMZYYMeC BgnrkyPFntzd BTtQZHXBkHyf YXpsbNXQCZq CHBjVVOElFtz BiCiRKumwGfY BufKQFmcPzEf BZNFokiFhCBi dmTnmnGmmDp BvaViuMGbBLE BjsrgjPJbxUv BArcSrPPEcxt CClxKpSdfoPh ncSTmYBheiC CXCFLDTyfDtx lngjsaupWVc CSCsEHkhEmOI JNunKnJiRmi OPToxYYYkrg CMeMHtbBfkrb BEZWnIrfPaiV BmzUdHFvaLNV BUverGdjZdxQ NbqATsQDguX KJaZBDjuuMW BfgLHCzDUEEp lnvCRNovFXI yslQyQQjoyM BzxyaONSvmib BFPArjzhifv LSwvOkjcEgC NjhztgQZems BmPIZycrJxBV BqJvjOLIRqbB BnhDtyrqWrTm UqtWqUlUupu ByuZxRRYDVBY CHgmNewRYjEg BMkYNSNeUdVG BnnlWYzrXjCh BtMFsmHUoeuN elYOpzwOdgE BTcJlmRWUnnh CKSuKrXjHCEy QfclqSWgrVP CKmVQcRHwCrM CSPZOtqMYInM ZfRDsTALyNu ZoBQwzWMgLN
end PySem.W.Fast
open PySem PySem.W PyProof.Rows
def L2.cK {K:W.Ì}{h:Ň}{mg:ņ->ĵ Ĳ}{x:ņ}{C:ĸ}(X:K.In h)(G:h.Ns mainGlobals mg)(z:Ŷ (W.nsIn K mainGlobals x=į (į<|.H C)) Ź):mg x=į (.H C):=W.mg_of X G z
def L2.tK {K:W.Ì}{h:Ň}{C:ĸ}(X:K.In h)(pg:Ŷ (W.plainGet K C Str.empty=ĳ) Ź)(hd:Ŷ (W.hasDictIn K C=ĳ) Ź)(po:Ŷ (W.plainOver K C=ĳ) Ź)(sa:Ŷ (W.findIn K (.H C) "__setattr__"=į (į<|.Ô "object.__setattr__")) Ź):L2.Cls (L2.KOf X) C:=%[pg,hd,po|sa]
def L2.aK {K:W.Ì}{h:Ň}{C:ĸ}{x:ņ}(X:K.In h)(z:Ŷ (W.findIn K (.H C) x=į Ĵ) Ź):L2.iQ (L2.KOf X) C x:=z
def L2.mA {K:W.Ì}{h:Ň}{C f:ĸ}{x q:ņ}{st:Ŋ}{oc:Ĳ}{od an:ĵ ĸ}{osl:ł (ĵ Ĳ)}{kV doc pm bA ct:Ĳ}(X:K.In h)(a:Ŷ (W.findIn K (.H C) x=į (į<|.H f)) Ź)(i:Ŷ (W.isFn K (.H f)=ĳ) Ź)
  (l:Ŷ (K.Å f=į %[oc,od,.func<|W.fnOf x q (L2.gZ st) (L2.eV st) (L2.aJ st) .Û kV doc pm an bA ct|osl]) Ź) (c:Ŷ (W.codeIn K bA q=ĳ) Ź) (k:Ŷ (W.ĩ K (.H f)=ĳ) Ź)
  (g:Ŷ (∀(kV doc pm:Ĳ) (an:ĵ ĸ) (bA ct:Ĳ) (us:İ Ĳ),us.v=(My.bJ st).v->bindArgs (W.fnOf x q (L2.gZ st) (L2.eV st) (L2.aJ st) .Û kV doc pm an bA ct) %[us|[]]=pure ((My.bJ st).zip us)) Α):My.MA (L2.KOf X) C x q st:=%[f,_,L2.yL l c k,(L2.yL l c k).binds g|%[a,i|k]]
def L2.MK {K:W.Ì}{h:Ň}{C:ĸ}(X:K.In h)(a:Ŷ (W.makesIn K C=ĳ) Ź)(b:Ŷ (W.ĩ K (.H C)=ĳ) Ź):W.makesIn (L2.KOf X) C=ĳ/\W.ĩ (L2.KOf X) (.H C)=ĳ:=%[a|b]
def L2.dK {K:W.Ì}{h:Ň}{mg:ņ->ĵ Ĳ}{name:ņ}{st:Ŋ}{f:ĸ}{oc:Ĳ}{od an:ĵ ĸ}{osl:ł (ĵ Ĳ)}{kV doc pm bA ct:Ĳ}(X:K.In h)(G:h.Ns mainGlobals mg)(a:Ŷ (W.nsIn K mainGlobals name=į (į<|.H f)) Ź)(l:Ŷ (K.Å f=į %[oc,od,.func<|W.fnOf name name (L2.gZ st) (L2.eV st) (L2.aJ st) .Û kV doc pm an bA ct|osl]) Ź)(c:Ŷ (W.codeIn K bA name=ĳ) Ź)(k:Ŷ (W.ĩ K (.H f)=ĳ) Ź)(g:Ŷ (∀(kV doc pm:Ĳ) (an:ĵ ĸ) (bA ct:Ĳ) (us:İ Ĳ),us.v=(My.bJ st).v->bindArgs (W.fnOf name name (L2.gZ st) (L2.eV st) (L2.aJ st) .Û kV doc pm an bA ct) %[us|[]]=pure ((My.bJ st).zip us)) Α):L2.q_ (L2.KOf X) mg name st (My.bJ st):=L2.Yc X G a l c k g
def L2.nK {K:W.Ì}{h:Ň}{mg:ņ->ĵ Ĳ}{x:ņ}(X:K.In h)(G:h.Ns mainGlobals mg)(z:Ŷ (W.nsIn K mainGlobals x=į Ĵ) Ź):mg x=Ĵ:=W.mg_none_of X G z
def L2.gS {K:W.Ì}{h:Ň}{mg:ņ->ĵ Ĳ}{x:ņ}{l:İ ı}{t:Tok}(X:K.In h)(G:h.Ns mainGlobals mg)(z:Ŷ (W.nsIn K mainGlobals x=į (į<|.X (L2.S l) t)) Ź):∃t,mg x=į (.X (L2.S l) t):=L2.Yl X G z
def L2.gI {K:W.Ì}{h:Ň}{mg:ņ->ĵ Ĳ}{x:ņ}{i:Ŀ}{t:Tok}(X:K.In h)(G:h.Ns mainGlobals mg)(z:Ŷ (W.nsIn K mainGlobals x=į (į<|.M i t)) Ź):∃t,mg x=į (.M i t):=L2.Ym X G z
set_option maxRecDepth 100000 in
set_option maxHeartbeats 0 in
theorem PySem.Challenge.cw_letterrack_k90_whole_books_changed_holds : PySem.Challenge.rw_letterrack_k90_whole_books_changed.Holds := by
 w_on;o_law;k_head;(case hw=>w_witness2)
 k_fill
 refine L2.aaQ (x:="_law_script") (l:=PySem.Challenge.rw_letterrack_k90_whole_books_changed) rfl rfl (λw h Y=>W.kIn_of Y) ?F
 case F=>
  intro w mg fa h KX G hmg;have lw:∃fd:FuncData,L2.vG (L2.KOf KX) "law" "law" My.Tt fa fd/\∀(s:Shared) (v:Value),BindsTo s fd ⟨[v],[]⟩ [("_law_script",v)]:=by
   dsimp only[L2.KOf];refine' L2.acR KX G hmg ?a ?l ?c ?k ?b
   case a|l|c|k=>k_is
   (case b=>exact λ_ _ _ _ _ _ _=>rfl)
  obtain⟨fd,F,hb⟩:=lw;exact⟨fd,hb,λbase _ _=>(My.aea ⟨_,(L2.cK KX G),⟨L2.tK KX,L2.aK KX,L2.aK KX,L2.aK KX⟩,(L2.mA KX),(L2.MK KX),(L2.mA KX),(L2.mA KX),(L2.mA KX),(L2.mA KX),(L2.mA KX),_,(L2.cK KX G),⟨L2.tK KX,L2.aK KX,L2.aK KX,L2.aK KX⟩,(L2.mA KX),(L2.MK KX),(L2.mA KX),_,(L2.cK KX G),⟨L2.tK KX,L2.aK KX⟩,(L2.mA KX),(L2.MK KX),(L2.mA KX),(L2.mA KX),(L2.mA KX),(L2.mA KX),(L2.mA KX),(L2.nK KX G),(L2.nK KX G),(L2.nK KX G),(L2.nK KX G),(L2.nK KX G),(L2.nK KX G),(L2.nK KX G),(L2.nK KX G),(L2.nK KX G),(L2.nK KX G),(L2.nK KX G),(L2.nK KX G),(L2.nK KX G),(L2.nK KX G),(L2.nK KX G),(L2.nK KX G),(L2.gS KX G),(L2.gS KX G),(L2.gI KX G),(L2.gS KX G),(L2.gI KX G),(L2.dK KX G),(L2.dK KX G),(L2.dK KX G),(L2.dK KX G),(L2.dK KX G),(L2.dK KX G),(L2.dK KX G),(L2.dK KX G),(L2.dK KX G),(L2.dK KX G),(L2.dK KX G),(L2.dK KX G),(L2.dK KX G),(L2.dK KX G),(L2.dK KX G),(L2.dK KX G),(L2.dK KX G),(L2.dK KX G),(L2.dK KX G),(L2.dK KX G),(L2.dK KX G),(L2.dK KX G),(L2.dK KX G),(L2.dK KX G),(L2.dK KX G),(L2.dK KX G),(L2.dK KX G),(L2.dK KX G),(L2.dK KX G),(L2.dK KX G),(L2.dK KX G),(L2.dK KX G),(L2.dK KX G),(L2.dK KX G),(L2.dK KX G),(L2.dK KX G),(L2.dK KX G),(L2.dK KX G),(L2.dK KX G),(L2.dK KX G),(L2.dK KX G),(L2.dK KX G),(L2.dK KX G),(L2.dK KX G),(L2.dK KX G),(L2.dK KX G),(L2.dK KX G),(L2.dK KX G),(L2.dK KX G),(L2.dK KX G),(L2.dK KX G)⟩ F).mono yk⟩
