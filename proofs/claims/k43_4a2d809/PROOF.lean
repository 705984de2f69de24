import PyProof.Rows.All
import Wide.All
import OpenK.AllK
import PySem.Challenge.RW_letterrack_k43_none_lacks
set_option compiler.extract_closed false
set_option hygiene false in
local macro_rules|`(tactic|walk_at "a")=>`(tactic|(try conv=>arg 5;dsimp -zeta only))
set_option hygiene false in
local macro_rules|`(tactic|walk_at "b")=>`(tactic|(intro f bh A outer s H vs Q E hr h))
set_option hygiene false in
local macro_rules|`(tactic|walk_at "c")=>`(tactic|(unfold pyNext;calc aa (kg (dL (name:=Str.ofString "__next__") T F.bZ (c9 F.bZ T F.gD ?_ (F.f9 _))));unfold Builtin.«set_iterator.__next__»;calc aa (ae ?_)))
set_option hygiene false in
local macro_rules|`(tactic|walk_at "d")=>`(tactic|(calc aa (dA ?_ xB);calc aa (m:=firstArgMember _ _) (mS (a:=Value.none) (by first|rfl|(simp only[firstArgMember];rfl)) (dA ?_ xB));simp only[raiseNew];calc aa (vT ?_)))
set_option hygiene false in
local macro_rules|`(tactic|walk_at "e")=>`(tactic|(calc aa (dL (name:=Str.ofString "__next__") t.typeIs my (c9 my t.typeIs F.entry_tuple_iterator_next ?_ (F.args_tuple_iterator_next_1 _)));show wpAny _ _ (field (.ref u) 0 >>= _) _ _ s;calc aa (f8 j hd (x:=.ref a) rb ?_);show wpAny _ _ (if (Value.ref a==Value.none)=true then _ else _) _ _ s))
set_option hygiene false in
local macro_rules|`(tactic|walk_at "f")=>`(tactic|(calc aa (ae (wpAny_throw ?_));calc aa (m:=isInstance _ _) (ib (T:="StopIteration") (b:=true) %[0,_,aw _ rb|rb] isSubtype_stop ?_)))
set_option hygiene false in
local macro_rules|`(tactic|walk_at "g")=>`(tactic|(intro ao s T H xs us Q I r h))
set_option hygiene false in
local macro_rules|`(tactic|walk_at "h")=>`(tactic|(dsimp only;simp only[a9,if_false,if_true];calc aa ?_;refine mS (a:=(Value.str x t,some (Value.int (k:Int) tk))) ?e ?_))
set_option hygiene false in
local macro_rules|`(tactic|walk_at "i")=>`(tactic|(calc aa (f8 hz rb (x:=.bool false) rb ?_);show wpAny _ _ (field (.ref z) 3 >>= _) _ _ _;calc aa (f8 hz rb (x:=.ref ti) rb (aa (ge hi rb ?_)));show wpAny _ _ (Builtin.SmallTypes.ownedTupleIsFree (.ref z) >>= _) _ _ _))
set_option hygiene false in
local macro_rules|`(tactic|walk_at "j")=>`(tactic|(let hil:i<ls.length:=(al.mp G).1;calc%[13,_,rb,l,rb,hW l (aE G)|λH3 L=>?_];let O:=L _ _ D;calc%[0,_,rb|%[12,p,C,dx,_,_,rb,L _ _ j,T.cl,T.nh,rb|%[17,_,rb,d,_,rb,uE.k (k:=gQ l) O (by rw[lR,ab];show aF xo)|?_]]]))
set_option hygiene false in
local macro_rules|`(tactic|walk_at "k")=>`(tactic|(let(f0,f1,f2,f3,f4,f5):=hf it xp))
set_option hygiene false in
local macro_rules|`(tactic|walk_at "l")=>`(tactic|(let(y,p1,p2,p3):=m;unfold pyNext;calc aa (kg (dL (name:=Str.ofString "__next__") T im (c9 im T F.entry_dict_keyiterator_next ?_ (F.args_dict_keyiterator_next_1 _))));refine aa (ae (aa (aa ?_)))))
set_option Elab.async false
set_option linter.all false
set_option maxRecDepth 100000
set_option maxHeartbeats 4000000

set_option bootstrap.genMatcherCode false
open Lean in
local macro_rules|`(universe $x*)=>return mkNullNode (<-x.mapIdxM λj i=>do
 let f s (n:Nat):=mkIdent (.mkSimple s!"{s}{n}")
 let mut (b,c,e,w,g,h):=(#[],#[],#[],#[],(pure:Term→MacroM Term),`(True))
 for k in (i.getId.toString++"A").toList do
  let m:=e.size
  let v:=f "v" m
  let T:=f "T" m
  let d:=g
  e:=e.push v
  if k='E' then
   b:=b.push (<-`(bracketedBinder|{$T:ident:Sort _}))
   c:=c.push (<-`(bracketedBinder|($v:ident:$T)))
   w:=w.push (v,T)
   g:=λt=>do d (<-`(∃$v:ident,$t))
  else
   let q:Term<-if w.isEmpty then pure ⟨T⟩ else `($T $(w.map (·.1))*)
   b:=b.push (<-`(bracketedBinder|{$T:ident:$(<-w.foldrM (λa b=>`($(a.2)→$b)) (<-`(Prop)))}))
   c:=c.push (<-`(bracketedBinder|($v:ident:$q)))
   h:=d q
   g:=λt=>do d (<-`($q∧$t))
 let r<-h
 let y:=b++c
 `(theorem $(f "zz" j):ident $y:bracketedBinder* : $r := ⟨$e,*⟩))
universe EA EEAA EAA EEA EEAAA EAAAA EE EAEEEEAAAA AEA EAEA EEE EAAA EEEEEAAAAA EAEAA AAEA EEEAAAA AE EAEEAA EEAAAA EEAAEA EAEEA AAEEAA EAEEAAEA EAEAEA AEEA EEEEAAAA EAEAEEAAA EAEAEEAA EEAAAAA EEEAAA AEEAA EAEEAAA EEAAAAAA EEEEEEAAAAAA EAEEEAAA AEAA EEEEAAAAA EEEEAA EEEEEAAAA EAAEA EAAE EEEA EAAAAA EEEEEEAAAAA EAEAAA EEEEAAAAAAA EEEAA EEEAAAAA EAEEEAAAA EEEEEAAAAAA EAEAEAA EAEEAAEEAAEA EEEEEEEAA EEAAAEEAEEAA EAEEAAAAEA EEEEAAA EEEEEEAAAAAAAA AAAAEA EAEEEEAAAEA EEEEAAAAAA EEEAAAAAA EEEEEEEAAAA AAAEAEEEAAA EEAAAAAAA EEEEEEEAAAAA EAEEEEEEEAA EAEAEEEEAAAAA EAEEEAAAAAA EEEEEEAAAAAAA EEEEEAA EEEEEEAAA EAEAAEEAAEA EEEEAAAAAAAA EEEEA EEEEEEEAAAAAA EEEEEEEAAA EAAAAAAA
local macro_rules|`(⟨$n:num,$x,*⟩)=>`($(Lean.mkIdent (.mkSimple s!"zz{n.getNat}")) $(x.getElems)*)
theorem ZzN {G:Prop}(h:¬¬G):G:=Classical.byContradiction h
theorem rb {α:Sort _}{a:α}:a=a:=rfl
theorem Zzx2{q:A->B->Prop}{G:Prop}(h:∃a b,q a b)(f:∀a b,q a b->G):G:=Exists.elim h λa h=>Exists.elim h (f a)
theorem Zzx3{q:A->B->C->Prop}{G:Prop}(h:∃a b c,q a b c)(f:∀a b c,q a b c->G):G:=Exists.elim h λa h=>Zzx2 h (f a)
theorem Zzx4{q:A->B->C->D->Prop}{G:Prop}(h:∃a b c d,q a b c d)(f:∀a b c d,q a b c d->G):G:=Exists.elim h λa h=>Zzx3 h (f a)
theorem Zzx5{q:A->B->C->D->E->Prop}{G:Prop}(h:∃a b c d e,q a b c d e)(f:∀a b c d e,q a b c d e->G):G:=Exists.elim h λa h=>Zzx4 h (f a)
theorem Zzx7{q:A->B->C->D->E->I->J->Prop}{G:Prop}(h:∃a b c d e i j,q a b c d e i j)(f:∀a b c d e i j,q a b c d e i j->G):G:=Exists.elim h λa h=>Exists.elim h λb h=>Zzx5 h (f a b)
theorem Zzx10{q:A->B->C->D->E->I->J->K->L->M->Prop}{G:Prop}(h:∃a b c d e i j k l m,q a b c d e i j k l m)(f:∀a b c d e i j k l m,q a b c d e i j k l m->G):G:=Exists.elim h λa h=>Exists.elim h λb h=>Exists.elim h λc h=>Zzx7 h (f a b c)
theorem Zzx14{q:A->B->C->D->E->I->J->K->L->M->N->O->P->R->Prop}{G:Prop}(h:∃a b c d e i j k l m n o p r,q a b c d e i j k l m n o p r)(f:∀a b c d e i j k l m n o p r,q a b c d e i j k l m n o p r->G):G:=Exists.elim h λa h=>Exists.elim h λb h=>Exists.elim h λc h=>Exists.elim h λd h=>Zzx10 h (f a b c d)
local macro_rules|`(tactic|show $e)=>`(tactic|first|exact $e|change $e)
local macro_rules|`(tactic|calc $e:term)=>`(tactic|refine $e)
local macro_rules|`(tactic|let $x:ident := $e)=>`(tactic|have $x:ident := $e)|`(tactic|let $x:ident : $t := $e)=>`(tactic|have $x:ident : $t := $e)
local macro_rules|`(%[$as,*|$a])=>`(⟨$as,*,$a⟩)
open Lean in
local macro_rules|`(tactic|let ($t0,$ts,*) := $h)=>do
 let a:=#[t0]++ts.getElems
 if let some i:=a.findIdx? (·.raw.isOfKind `Lean.Parser.Term.tuple) then
  let b:=a.set! i (<-`(z))
  return<-`(tactic|(let ($(b[0]!),$(b[1:].toArray),*) := $h;let $(a[i]!):term := z))
 let ps<-a.mapM λt=>if t.raw.isIdent then `(Parser.Tactic.rcasesPatLo|$(⟨t⟩):ident) else `(Parser.Tactic.rcasesPatLo|_)
 let n:=(a.pop.toList.takeWhile λt=>t.raw.getId != `rfl).length
 let mut t<-`(tactic|rcases $h:term with ⟨$ps,*⟩)
 for k in [2, 3, 4, 5, 7, 10, 14] do
  if k<=n then
   let m<-if k+1==a.size&&a.back!.raw.getId != `rfl then `(tactic|intro $a*) else `(tactic|(intro $(a[:k].toArray)* z;rcases z with ⟨$(ps[k:].toArray),*⟩))
   t<-`(tactic|first|(refine $(mkIdent (.mkSimple s!"Zzx{k}")) $h ?_;(try clear $(⟨h⟩));$m:tactic)|$t:tactic)
 `(tactic|(refine ZzN λn=>?_;$t:tactic<;>refine n ?_<;>clear n))
section
variable{p:Prop}
def xo(h:p:=by lia):p:=h
def xp(h:p:=by simp):p:=h
def xt(h:p:=by decide):p:=h
def xw(h:p:=by rfl):p:=h
def xy(h:p:=by kernel_rfl):p:=h
def xz(h:p:=by decide +kernel):p:=h
def xA(h:p:=by first | lia | ((try dsimp only);lia)):p:=h
def xB(h:p:=by size_fits):p:=h
end
def zsz (n:Nat)(h:n<=1000:=by decide):n<=PySem.sizeLine:=Nat.le_trans h xt
local macro_rules|`(universe $x*)=>return Lean.mkNullNode (<-(Array.range (x.size/2)).mapM λi=>`(abbrev $(x[2*i]!):ident:=@$(x[2*i+1]!)))
open PySem PyProof PyProof.Rows List in
universe aa wpAny_bind ab length_map ae wpAny_pure af Heap.get?_push_of_some ag getElem?_eq_getElem ah Nat.le_refl ai decide_eq_false al List.getElem?_eq_some_iff am mem_singleton ap decide_eq_true ar getD_eq_getElem?_getD av Nat.le_of_lt aw Heap.get?_push_size ax length_append ay Nat.le_trans aE mem_of_getElem? aI mem_map aS mem_cons_of_mem aT mem_cons_self a6 mem_append a7 Heap.lt_size a8 wpS_bind a9 Bool.false_eq_true a_ Nat.ne_of_lt ba getElem_mem bb getElem?_map bd mem_cons be append_assoc bg Option.some.inj bn length_take bo wpS_pure bq Array.length_toList bt Nat.lt_of_lt_of_le bu F.plainAttrs_str bv size_toArray bz mem_range bE map_append bP length_cons bS boot_len bX take_add_one b6 Array.getElem?_eq_getElem b7 Bool.false_ne_true b8 Nat.zero_le b9 map_cons ci Int.toNat_natCast ck Array.getElem?_toList cn map_map cp Nat.sub_lt_left_of_lt_add cq PassesOwn.never cw mem_flatMap cx take_of_length_le cy take_length cz length_drop cE mem_map_of_mem cK mem_iff_getElem cS mem_append_right c9 wpAny_call_entry c_ take_append_drop de map_congr_left df F.plainAttrs_list di boot_tuple dm Bool.and_eq_true dq KeyOrd.kle_trans du Nat.le_succ dA wpAny_newObj_type dC Int.emod_lt_of_pos dE Heap.size_push dL wpAny_callSpecial?_slot dP length_range dQ Nat.le_of_lt_succ dS KeyOrd.kle_of_klt d6 getElem?_append_right ee wpAny_passesOwn ej append_nil eA pairwise_map eB Obj.data_mapFields eC getElem?_eq_none eD wpAny_holding eI Nat.le_sub_one_of_lt eJ wpAny_truthy_bool eK decide_eq_true_eq eL length_replicate eP F.slot_str_join eQ F.type_str_join eR Nat.lt_or_ge eT Int.emod_nonneg eW Classical.byContradiction e_ Nat.lt_succ_self fb Nat.lt_succ_of_lt fc Nat.mul_comm fe F.slot_list_append ff F.type_list_append fg Heap.get?_update_self fh range_succ fk Heap.SameBut.update fm wpAny_mono fq getElem?_append_left fv Nat.le_sub_of_add_le fw Nat.mul_le_mul_right fz Option.map_eq_some_iff fA boot_isinstance fE Bool.not_true fF wpS_forRange fI Array.toList_append fN Array.getD_eq_getD_getElem? fR cons_lt_cons_iff fS wpAny_setState_of fT Calls.spliced_cons f6 mem_of_mem_take f7 pairwise_append f8 wpAny_field f_ filterMap_cons ga Bool.false_and gd Nat.sub_le_iff_le_add ge wpAny_seqItems gf boot_sorted gg W.kia_one gm nodup_cons gp filter_append gr all_eq_true gt Nat.sub_eq_of_eq_add gu Int.ofNat_lt gv Nat.zero_add gx Bool.and_false gy wpAny_setField gz Nat.le_succ_of_le gE StrLaws.subAt_one gL Bool.eq_false_iff gN Bool.eq_iff_iff gT wpAny_rule gV KeyOrd.kle_refl g6 Calls.Constant_str g9 Nat.ne_of_gt hG Nat.succ_le_succ hV Nat.sub_sub_self ib wpAny_isInstance ic not_mem_nil ie Nat.pow_succ ii Pairwise.imp_of_mem ij Nat.mul_assoc ik mem_of_mem_drop im F.slot_dict_keyiterator_next io getElem?_of_mem ip Nat.mul_le_mul iq Nat.add_sub_cancel_left iA ext_getElem? iE wpS_mono iF drop_sublist iL of_decide_eq_true iN wpAny_execs_nil iO PyProof.Rows.callWith_type1 iP forIn_cons iS codeAny_builtin iX getElem?_range i9 flatMap_append ja Heap.get?_update_other jn map_id jI F.slot_str_lower jS F.type_str_lower ke Paired.length kg wpAny_attempt ki Nat.mod_lt ko lookup_cons kq Nat.sub_lt_of_lt kr Ne.symm ku Nat.lt_of_le_of_lt kz Nat.lt_sub_iff_add_lt kC mem_iff_getElem? kD Obj.isFreed_of_fields kF Perm.append_left kG pairwise_cons kH getElem?_drop kK pairwise_iff_getElem kM mem_filter kN Nat.le_of_eq kP codeAny_mono kQ find?_cons kR Nat.succ_pos kS Nat.not_lt_zero kU F.slot_list_extend kX F.type_list_extend lh length_erase_of_mem lj flatten_cons lv Nat.lt_irrefl lx wpAny_typeNameOfWhole_keyiter ly length_eq_zero_iff lI Nat.add_sub_cancel' lL any_eq_true lS Nat.ge_of_not_lt lT Bool.not_false l_ Array.getElem?_eq_none md mem_filterMap me wpAny_Call_Name_kw mf map_nil mh Nat.lt_trans ml getElem?_take mr length_nil mw length_filter_le mx any_cons my F.slot_tuple_iterator_next mB Int.ofNat.inj mE Array.toList_push mI mem_append_left mM Around.under_plainId mN Nat.sub_le_of_le_add mP length_erase_le mS wpAny_of_eq ng nodup_nil np wpAny_execs_cons nt Array.toList_inj nw wpAny_typeNameOf_keyiter ny wpAny_askSetting nB Nat.sub_self nE wpAny_forIn_list nI F.called_set nL decide_eq_decide nN Int.ofNat_nonneg nS PySem.mem_of_lookup nV Nat.add_le_add_left n0 wpAny_setEntries_of n5 slot_tuple_getitem n9 F.plain_set_update_loop og Nat.add_assoc oj wpAny_pyIter_tuple om SeqAt.EqAt.int_int on wpAny_specialOf oo Nat.min_eq_left oq wpAny_tupleItemsOf ox wpAny_setField_rec oy map_singleton oz Calls.callWith_builtin oB drop_of_length_le oC boot_list oI wpAny_pyIter_list oP Calls.spliced_nil oQ wpAny_pyIter_strU oS Obj.cls_mapFields oT wpAny_pyIter_enum o0 Heap.get?_push_ne o6 F.slot_tuple_hash ph Iff.mpr pi wpAny_fieldsOf pE boot_int pM takeWhile_prefix pT Array.toArray_toList pV Array.toList_reverse p_ Nat.div_lt_of_lt_mul qf Heap.size_update qh Nat.pow_le_pow_right qi Bool.or_false qk W.mg_of qo wpAny_newList qq Array.perm_iff_toList_perm qr length_set qA Option.map_some qB Calls.call_function_entry qE drop_eq_getElem_cons qS extract_eq_take_drop qV mem_or_eq_of_mem_set q0 wpAny_Constant_int rc W.callWith_K re getElem?_take_of_lt rg F.args_tuple_add_2 rh F.called_enumerate rj KeyOrd.klt_of_klt_of_kle rl Array.forIn_toList rn of_decide_eq_false rq F.slot_str_replace rL F.type_str_replace rS Nat.succ_mul rV Nat.add_sub_cancel rX wpAny_Name r8 drop_zero r_ wpS_get sd F.entry_tuple_add se getElem?_cons_succ sf wpAny_assign_Name sh take_sublist si Function.comp_def sk Nat.lt_trichotomy sn getElem?_set sq getElem?_set_self sr F.slot_tuple_add sv F.slot_str_upper sC F.type_str_upper sD length_pos_of_mem sF wpAny_standAt sK Prod.ext sL Nat.succ_lt_succ sN Nat.lt_of_not_le sP nodup_range sQ Array.toList_map sT ext_getElem s_ mem_flatten tf codeAny_call_function tj perm_append_comm tm KeyOrd.not_klt_of_kle tq getElem?_set_ne tw wpAny_loadName_local tz Array.mem_toList_iff tI of_mem_zip tJ wpAny_typeOf tN Bool.or_eq_true tP Nat.le_antisymm tS wpAny_loadPart' tT wpS_modify t7 Nat.min_le_left t9 Nat.add_zero ue Array.toList_extract ui Nat.sub_le_sub_right uj codeAny_call_builtin uk F.slot_zip_next ul count_le_length uu eq_nil_of_length_eq_zero uv Nat.sub_lt_sub_left uA codeAny_forLoop_any uB W.plainGet_of uC wpAny_Tuple_spliced uS take_succ_cons u7 reverse_append u8 length_pos_iff ve flatten_append vi Heap.get?_update_ne vj map_eq_nil_iff vn Nat.mul_le_mul_left vv wpAny_newTuple vw take_succ vx W.codeRec_of vy Nat.eq_zero_or_pos vz isSubtype_tuple_tuple vE Code.quiet_builtin vF all_cons vS takeWhile_cons_of_pos vT wpAny_handled v0 Array.toList_setIfInBounds v_ wpAny_Assign_Name wa Option.isSome_map wb wpAny_pyIter_slot wc wpAny_dictEntries wd count_append we Nat.le_pred_of_lt wf List.getElem?_eq_none_iff wl wpAny_call wm F.plain_extend_loop wn Nat.sub_le wo Nat.sub_lt wq Nat.min_le_right wt Nat.succ_ne_self wv filter_cons ww mem_reverse wx zipIdx_cons wy Nat.pow_zero wE Option.getD_some wP Array.toList_zip wS getElem_map wT Int.lt_trans w8 Int.zero_add w_ foldl_cons xh cons.injEq xi Perm.of_eq xj Nat.mul_add xk Nat.mul_one xl forIn_nil xm P.le_str
abbrev AA:=List (List Nat)
abbrev AB:=PySem.Value->PySem.Shared->Prop
abbrev AC:=List (PySem.Addr×PySem.Obj)
noncomputable section
namespace L2
open PySem
def xV (h:Runs M Γ p t fs s e s'):s.toks<=s'.toks:=by
 induction h with| done|raise|yield=>show ah _| fresh _ ih=>show ay (du _) ih| again _ _ ih|rule _ ih|«at» _ ih|load _ _ ih|update _ _ ih|loadIfAlive _ ih|point _ ih|alloc _ ih|ask _ ih|choose _ _ ih|os _ ih|handled _ ih|genState _ _ ih|stack _ ih|thread _ ih|newGen _ ih=>show ih| call _ _ ih1 ih2=>show ay ih1 ih2| callSusp _ ih=>show ih| resumeFresh _ _ _ _ ih1 ih2=>show ay ih1 ih2| resumeSuspended _ _ _ _ ih1 ih2=>show ay ih1 ih2| resumeJustStarted _ _ _ ih=>show ih| resumeThrowFresh _ _ ih=>show ih| resumeRunning _ _ ih=>show ih| resumeFinished _ _ ih=>show ih| segRet _ _ ih1 ih2=>show ay ih1 ih2| segGen _ _ ih1 ih2=>show ay ih1 ih2| segSuspOut _ _ ih=>show ih| segSuspGen _ _ _ _ ih1 ih2=>show ay ih1 ih2
def Sx (h:Wakes M Γ p g r s res s'):s.toks<=s'.toks:=by
 unfold Wakes at h;split at h;.show h.elim
 .split at h
  .let(e,s1,j,_,_,rfl):=h;let z:=xV j;show z
  .let(_,rfl):=h;show ah _
  .let(_,rfl):=h;show ah _
 .let(e,s1,j,_,_,rfl):=h;let z:=xV j;show z
 .let(_,rfl):=h;show ah _
 .let(_,rfl):=h;show ah _
def agu {I:Type}{M:Model}{Γ:Ctx}(t:Sem I)(n:Nat){Q:I->Pos->Shared->Prop}{E:Value->Pos->Shared->Prop}(p:Pos)(s:Shared)(hn:n<=s.toks)(h:Sem.wp M Γ t (λa p s=>n<=s.toks->Q a p s) (λe p s=>n<=s.toks->E e p s) p s):Sem.wp M Γ t Q E p s:=by
 revert h
 induction t generalizing p s with| pure x=>show λh=>h hn| raise v=>show λh=>h hn| unsupported|finish|yield|fork|await|register=>show id| fresh k ih=>show ih _ _ _ (ay hn (du _))| rule _ k ih|«at» _ k ih|alloc _ k ih|loadIfAlive _ k ih|point _ k ih|ask k ih|os _ _ k ih|handled _ k ih|newGen _ k ih|stack k ih|thread k ih=>show ih _ _ _ hn| load a _ k ih|genState a k ih=>show λ⟨o,B,h⟩=>%[0,o,B|ih _ _ _ hn h]| update a _ f k ih|choose _ _ k ih=>show λ⟨ha,h⟩=>%[ha|ih _ _ _ hn h]| call c h g l k ih=>show λ⟨r,s',j,q⟩=>%[3,r,s',j|ih _ _ _ (ay hn (xV j)) q]| resume g r l k ih=>show λ⟨res,s',hw,h⟩=>%[3,res,s',hw|ih _ _ _ (ay hn (Sx hw)) h]
def cj {I:Type}{t:Sem I}{Q:I->Shared->Prop}{s:Shared}(h:wpAny M A t (λa s'=>s.toks<=s'.toks->Q a s') (λe s'=>s.toks<=s'.toks->E e s') s):wpAny M A t Q E s:=λΓ p hΓ=>agu t s.toks p s (ah _) (h Γ p hΓ)
end L2
namespace L2
open PySem PySem.Spec PyProof.Rows
abbrev Key:=Sum Int Str
def jz:Key->Value->Bool
 | .inl k,v=>Value.isInt k v
 | .inr x,v=>Value.isStrOf x v
def ad0 (w:World):Key->Int
 | .inl k=>hashInt k
 | .inr x=>hashStr w x
theorem dD:∀{k:Key} {v:Value},jz k v=true->(∃i t,k=Sum.inl i/\v=Value.int i t)\/(∃x t,k=Sum.inr x/\v=Value.str x t)
 | .inl i,v,h=>by let(t,e):=Value.isInt_shape (k:=i) (v:=v) h;show .inl %[3,i,t,rb|e]
 | .inr x,v,h=>by let(t,e):=Value.isStrOf_shape (x:=x) (v:=v) h;show .inr %[3,x,t,rb|e]
def Hr (i)(t:Tok):jz (.inl i) (.int i t)=true:=by simp[jz,Value.isInt]
def Hs (x)(t:Tok):jz (.inr x) (.str x t)=true:=by simp[jz,Value.isStrOf]
def ad1 (a b):decide ((Sum.inl a:Key)=Sum.inl b)=(a==b):=by
 by_cases e:a=b;.subst e;simp
 .let h:¬(Sum.inl a:Key)=Sum.inl b:=λq=>e (Sum.inl.inj q)
  rw[ai h];show(beq_eq_false_iff_ne.mpr e).symm
def ad2 (a b):decide ((Sum.inr a:Key)=Sum.inr b)=decide (a=b):=by
 by_cases e:a=b;.subst e;simp
 .let h:¬(Sum.inr a:Key)=Sum.inr b:=λq=>e (Sum.inr.inj q)
  rw[ai h,ai e]
def ad3 (a)(b):decide ((Sum.inl a:Key)=Sum.inr b)=false:=ai (λq=>nomatch q)
def ad4 (a)(b):decide ((Sum.inr a:Key)=Sum.inl b)=false:=ai (λq=>nomatch q)
noncomputable def cX (prog:Program)(w:World):PySem.KeyKind prog w Key where
 is:=jz
 hash:=ad0 w
 inj:=λv a b ha q=>by
  rcases dD ha with⟨i,t,rfl,rfl⟩|⟨x,t,rfl,rfl⟩
  .rcases dD q with⟨j,u,rfl,e⟩|⟨y,u,rfl,e⟩
   .injection e with e1 _;rw[e1]
   .show nomatch e
  .rcases dD q with⟨j,u,rfl,e⟩|⟨y,u,rfl,e⟩;.show nomatch e
   .injection e with e1 _;rw[e1]
 byValue:=λk v h=>by rcases dD h with⟨i,t,rfl,rfl⟩|⟨x,t,rfl,rfl⟩ <;> rfl
 pyHash:=λhv h=>by
  rcases dD hv with⟨i,t,rfl,rfl⟩|⟨x,t,rfl,rfl⟩;.show wpAny_pyHash_int h
  .show wpAny_pyHash_str h
 eqBool:=λB hv h=>by
  rcases dD B with⟨i,t,rfl,rfl⟩|⟨x,t,rfl,rfl⟩
  .rcases dD hv with⟨j,u,rfl,rfl⟩|⟨y,u,rfl,rfl⟩;.rw[ad1]at h;show wpAny_eqBool_int h
   .rw[ad3]at h;show SeqAt.EqAt.int_str i t y u _ _ _ _ h
  .rcases dD hv with⟨j,u,rfl,rfl⟩|⟨y,u,rfl,rfl⟩;.rw[ad4]at h;show SeqAt.EqAt.str_int x t j u _ _ _ _ h
   .rw[ad2]at h;show wpAny_eqBool_str h
 «strs»:=λk x t v h=>by
  rcases dD h with⟨i,u,rfl,e⟩|⟨y,u,rfl,e⟩;.show nomatch e
  .injection e with e1 _;subst e1;cases v <;> rfl
def Oz (prog)(w)(i)(t:Tok):(cX prog w).is (.inl i) (.int i t)=true:=Hr i t
def OD (prog)(w)(x)(t:Tok):(cX prog w).is (.inr x) (.str x t)=true:=Hs x t
inductive V where
 | non|bl (b:Bool)|int (i:Int)|str (x:Str)|xr (b:Array UInt8)|flt (b:UInt64)|ref (a:Addr)|ty (n:String)|sx (x:Str) (t:Nat)
 deriving DecidableEq
def bG:V->Value->Prop
 | .non,u=>u=Value.none
 | .bl b,u=>u=Value.bool b
 | .int i,u=>∃t,u=Value.int i t
 | .str x,u=>∃t,u=Value.str x t
 | .xr b,u=>∃t,u=Value.bytes b t
 | .flt b,u=>∃t,u=Value.float b t
 | .ref a,u=>u=Value.ref a
 | .ty n,u=>u=Value.type n
 | .sx x t,u=>u=Value.str x t
def uR:V->V
 | .sx x _=>.str x
 | v=>v
def bG.weak (r:bG v u):bG (uR v) u:=by cases v <;> first|show r|show%[_|r]
abbrev Vals:List V->List Value->Prop:=Paired bG
def Vals.length (r:Vals xs us):xs.length=us.length:=ke r
theorem Vals.get:∀{xs:List V} {us:List Value} {i:Nat} {x:V},Vals xs us->xs[i]?=some x->∃u,us[i]?=some u/\bG x u
 | _,_,_,_,.nil,e=>by simp at e
 | _,_,0,_,.cons r _,e=>by simp at e;subst e;show%[0,_,rb|r]
 | _,_,i+1,x,.cons _ t,e=>by let(u,h1,j):=Vals.get (i:=i) (x:=x) t (by simpa using e);show%[0,u,by simpa using h1|j]
theorem Vals.set (r:bG x u):∀{xs:List V} {us:List Value} (i:Nat),Vals xs us->Vals (xs.set i x) (us.set i u)
 | _,_,_,.nil=>.nil
 | _,_,0,.cons _ t=>.cons r t
 | _,_,i+1,.cons q t=>.cons q (Vals.set r i t)
theorem Vals.append:∀{xs ys:List V} {us ws:List Value},Vals xs us->Vals ys ws->Vals (xs++ys) (us++ws)
 | _,_,_,_,.nil,s=>s
 | _,_,_,_,.cons r t,s=>.cons r (Vals.append t s)
theorem Vals.take:∀{xs:List V} {us:List Value} (n:Nat),Vals xs us->Vals (xs.take n) (us.take n)
 | _,_,0,_=>.nil
 | _,_,_+1,.nil=>.nil
 | _,_,n+1,.cons r t=>.cons r (Vals.take n t)
theorem Vals.drop:∀{xs:List V} {us:List Value} (n:Nat),Vals xs us->Vals (xs.drop n) (us.drop n)
 | _,_,0,r=>r
 | _,_,_+1,.nil=>.nil
 | _,_,n+1,.cons _ t=>Vals.drop n t
def Vals.none_of:∀{xs:List V} {us:List Value} {i:Nat},Vals xs us->xs[i]?=none->us[i]?=none:=λ{xs us i} r e=>by let h1:=r.length;let j:xs.length<=i:=wf.mp e;show wf.mpr xo
def kY:Option V->Option Value->Prop
 | some v,some u=>bG v u
 | none,none=>True
 | _,_=>False
def KV {I:Type}:List (I×V)->List (I×Value)->Prop:=Paired λ(p:I×V) (q:I×Value)=>p.1=q.1/\bG p.2 q.2
def kV:Key->V
 | .inl i=>.int i
 | .inr x=>.str x
inductive HO where
 | lst (xs:List V)
 | tup (xs:List V)
 | dK (kvs:List (Key×V))|dT (kvs:List (List Key×V))
 | set (S:Int->Bool) (n:Nat)
 | ins (C dx:Addr) (fs:List (Str×V))
 | own (x:Addr)
 | xd (fs:List (Str×V))
 | met (f x:Addr)
 | rng (lo hi:Int)
 | iY (o:Obj) (u:HO)
 | Ks (ps:Array Value)
 | ext (φ:Heap->Prop)
abbrev Hp:=Addr->Option HO
def upd (H:Hp)(a:Addr)(o:HO):Hp:=λb=>if b=a then some o else H b
def aq:upd H a o a=some o:=by unfold upd;rw[if_pos rfl]
def aZ (h:b≠a):upd H a o b=H b:=by unfold upd;rw[if_neg h]
def agv {H:Hp}{a b:Addr}{o u:HO}(h:H a=some o)(h':H b=some u)(d:o≠u):a≠b:=by intro e;subst e;rw[h]at h';show d (bg h')
def bN {H:Hp}{a b:Addr}{o:HO}(h:H a=some o)(h':H b=none):a≠b:=by intro e;subst e;rw[h]at h';cases h'
section
variable (P:Program)(w:World)
def cZ (H:Hp)(h:Heap)(a:Addr):HO->Prop
 | .lst xs=>xs.length<=sizeLine/\∃(its:List Value) (n:Nat),Vals xs its/\h.get? a=some {cls:=.type "list",data:=.seq its.toArray n}
 | .tup xs=>xs.length<=sizeLine/\∃its:List Value,Vals xs its/\IsTup h a its.toArray
 | .dK kvs=>kvs.length<=sizeLine/\(a==sysModules)=false/\∃vs,KV kvs vs/\h.DictOf (cX P w) a vs
 | .dT kvs=>kvs.length<=sizeLine/\(a==sysModules)=false/\∃xs:List (List Key×Addr×Value),
   Paired (λ(p:List Key×V) (q:List Key×Addr×Value)=>p.1=q.1/\H q.2.1=some (.tup (p.1.map kV))/\bG p.2 q.2.2) kvs xs/\
   ∃o es ep,h.get? a=some o/\o.ExactDict/\o.data=.dict es ep/\es.toList=xs.map (entryOfKey (tupleKind (cX P w)))/\(xs.map (·.1)).Nodup
 | .set S n=>h.SetOf (intKind P w) a S n
 | .ins C dx fs=>H dx=some (.own a)/\fs.length<=1000/\dx≠a/\h.get? a=some (W.instObj C dx)/\
   ∃mA,h.Ns1 dx mA/\(∀f,kY (fs.lookup f) (mA f))/\PySem.Within mA (fs.map (·.1))
 | .own _=>∃o,h.get? a=some o
 | .xd fs=>∃mA,h.Ns1 a mA/\∀f,kY (fs.lookup f) (mA f)
 | .rng lo hi=>∃t u v,h.get? a=some {cls:=.type "range",data:=.fields #[.int lo t,.int hi u,.int 1 v]}
 | .iY o u=>h.get? a=some o/\cZ H h a u
 | .Ks ps=>h.get? a=some {cls:=.none,data:=.fields ps}
 | .met f x=>h.get? a=some (W.methodObj (.ref f) (.ref x))
 | .ext φ=>φ h/\(∃o,h.get? a=some o)/\∀h1 j:Heap,φ h1->(∀o,h1.get? a=some o->j.get? a=some o)->φ j
def gK (H:Hp)(h:Heap):Prop:=∀a o,H a=some o->cZ P w H h a o
end
section
variable {P:Program}{w:World}{H H':Hp}{h h':Heap}{a:Addr}{o:HO}
def cZ.lt (x:cZ P w H h a o):a<h.objs.size:=by
 cases o with
 | lst xs=>let(_,_,_,_,e):=x;show a7 e
 | tup xs=>let(_,_,_,p):=x;show p.lt
 | dK kvs=>let(_,_,_,_,o,_,_,e,_):=x;show a7 e
 | dT kvs=>let(_,_,_,_,o,_,_,e,_):=x;show a7 e
 | set S n=>let(o,_,_,_,e,_):=x;show a7 e
 | ins C dx fs=>let(_,_,_,e,_):=x;show a7 e
 | own y=>let(_,e):=x;show a7 e
 | xd fs=>let(_,(_,_,_,e,_),_):=x;show a7 e
 | rng lo hi=>let(_,_,_,e):=x;show a7 e
 | iY ob u=>let(e,_):=x;show a7 e
 | Ks ps=>show a7 (show h.get? a=some _ from x)
 | met f y=>show a7 (show h.get? a=some _ from x)
 | ext φ=>let(_,(_,e),_):=x;show a7 e
theorem Paired.Fd {I T:Type}{F G:I->T->Prop}:∀{j:List I} {l₂:List T},Paired F j l₂->(∀a b,F a b->G a b)->Paired G j l₂
 | _,_,.nil,_=>.nil
 | _,_,.cons r t,f=>.cons (f _ _ r) (Paired.Fd t f)
def cZ.stay (x:cZ P w H h a o)(k:∀b u,(b=a\/H b=some (.own a))->h.get? b=some u->h'.get? b=some u)(B:∀b,H b=some (.own a)->H' b=some (.own a))(j:∀b xs,H b=some (.tup xs)->H' b=some (.tup xs)):cZ P w H' h' a o:=by
 induction o with
 | lst xs=>let(z,its,n,r,e):=x;show%[24,z,its,n,r|k _ _ (.inl rb) e]
 | tup xs=>let(z,its,r,ob,e,c):=x;show%[16,z,its|%[8,r,ob,k _ _ (.inl rb) e|c]]
 | dK kvs=>let(z,y,vs,r,ob,es,ep,e,c):=x;show%[14,z,y,vs,r|%[41,ob,es,ep,k _ _ (.inl rb) e|c]]
 | dT kvs=>let(z,y,xs,r,ob,es,ep,e,c):=x;show%[14,z,y,xs,Paired.Fd r λp q z=>%[z.1,j _ _ z.2.1|z.2.2]|%[41,ob,es,ep,k _ _ (.inl rb) e|c]]
 | set S n=>let(ob,es,ep,t,e,c):=x;show%[73,ob,es,ep,t,k _ _ (.inl rb) e|c]
 | ins C dx fs=>let(d,z,ne,e,mA,(od,es,ep,e2,c),r):=x;show%[57,B _ d,z,ne,k _ _ (.inl rb) e,mA,%[41,od,es,ep,k _ _ (.inr d) e2|c]|r]
 | own y=>let(ob,e):=x;show%[ob|k _ _ (.inl rb) e]
 | xd fs=>let(mA,(od,es,ep,e,c),r):=x;show%[0,mA,%[41,od,es,ep,k _ _ (.inl rb) e|c]|r]
 | rng lo hi=>let(t,u,v,e):=x;show%[10,t,u,v|k _ _ (.inl rb) e]
 | iY ob u ih=>let(e,q):=x;show%[k _ _ (.inl rb) e|ih q]
 | Ks ps=>have e:h.get? a=some {cls:=.none,data:=.fields ps}:=x;show h'.get? a=some {cls:=.none,data:=.fields ps};show k a _ (.inl rb) e
 | met f y=>have e:h.get? a=some (W.methodObj (.ref f) (.ref y)):=x;show h'.get? a=some (W.methodObj (.ref f) (.ref y));show k a _ (.inl rb) e
 | ext φ=>let(p,(o,e),st):=x;show%[st _ _ p λo q=>k _ _ (.inl rb) q,%[o|k _ _ (.inl rb) e]|st]
def gK.lt (x:gK P w H h)(e:H a=some o):a<h.objs.size:=(x a o e).lt
def gK.fresh (x:gK P w H h)(e:h.objs.size<=a):H a=none:=by
 cases q:H a with| none=>rfl| some u=>show absurd (bt (x.lt q) e) (lv _)
def gK.kept (x:gK P w H h)(k:∀b u,h.get? b=some u->h'.get? b=some u):gK P w H h':=λa o e=>(x a o e).stay (λb u _ q=>k b u q) (λ_ q=>q) λ_ _ q=>q
def gK.laid (x:gK P w H h)(k:∀b u,h.get? b=some u->h'.get? b=some u)(hp:h.objs.size<=a)(j:cZ P w (upd H a o) h' a o):gK P w (upd H a o) h':=λb u e=>by
 let hn:=x.fresh hp;by_cases B:b=a;.subst B;rw[aq]at e;cases e;show j
 .rw[aZ B]at e;show(x b u e).stay (λc v _ q=>k c v q) (λc q=>by rw[aZ (bN q hn)];show q) λc xs q=>by rw[aZ (bN q hn)];show q
end
def Rd (H:Hp)(a:Addr)(u:HO):Prop:=H a=some u\/∃o,H a=some (.iY o u)
def Rd.ok (r:Rd H a u)(x:gK P w H h):cZ P w H h a u:=by
 rcases r with r|⟨o,r⟩;.show x a u r
 .let(_,q):=x a _ r;show q
def Vm:Option HO->Prop
 | some (.lst _)=>True
 | some (.dK _)=>True
 | some (.dT _)=>True
 | some (.set _ _)=>True
 | some (.ins _ _ _)=>True
 | some (.ext _)=>True
 | _=>False
section
variable {P:Program}{w:World}{H:Hp}{h h':Heap}{x e:Addr}{o':HO}
def gK.write (ok:gK P w H h)(D:Vm (H x))(N:e=x\/H e=some (.own x))(k:∀b u,b≠e->h.get? b=some u->h'.get? b=some u)(M:∃u,h'.get? e=some u)(J:cZ P w (upd H x o') h' x o'):gK P w (upd H x o') h':=λb u q=>by
 let B:∀c y,H c=some (.own y)->c≠x:=λc y r z=>by subst z;rw[r]at D;show D
 let L:∀c xs,H c=some (.tup xs)->c≠x:=λc xs r z=>by subst z;rw[r]at D;show D
 by_cases F:b=x;.subst F;rw[aq]at q;cases q;show J
 .rw[aZ F]at q;by_cases j:b=e
  .let O:H b=some (.own x):=by
    rcases N with z|z;.show absurd (j.trans z) F
    .rw[j];show z
   rw[q]at O;cases O;let(v,hv):=M;show%[v|by rw[j];show hv]
  .refine(ok b u q).stay (λc v G r=>k c v ?_ r) (λc r=>by rw[aZ (B c b r)];show r) λc xs r=>by rw[aZ (L c xs r)];show r
   rcases G with rfl|G;.show j
   .rintro rfl;rcases N with z|z;.show B c b G z
    .rw[G]at z;cases z;show F rfl
end
structure Un (fs ex:List Addr)(H H':Hp)(h h':Heap):Prop where
 keep:∀b o,h.get? b=some o->H b=none->b∉fs->b∉ex->h'.get? b=some o
 slot:∀b o,h.get? b=some o->H b=none->b∈fs->b∉ex->∃sl,h'.get? b=some {o with slots:=sl}
 free:∀b o,h.get? b=some o->H b=none->b∉ex->H' b=none
 there:∀b o,h.get? b=some o->b∉ex->∃o',h'.get? b=some o'
 tups:∀b xs,H b=some (.tup xs)->H' b=some (.tup xs)
 uD:∀b o u,H b=some (.iY o u)->H' b=some (.iY o u)
 vM:∀b ps,H b=some (.Ks ps)->∃more,H' b=some (.Ks (ps++more))
section
variable {fs ex:List Addr}{H H1:Hp}{h h1 h':Heap}{a x e:Addr}{o:HO}
def Un.any (u:Un fs ex H H1 h h1)(q:h.get? b=some ob)(n:H b=none)(hx:b∉ex):∃sl,h1.get? b=some {ob with slots:=sl}:=by
 by_cases j:b∈fs;.show u.slot b ob q n j hx
 .show%[ob.slots|u.keep b ob q n j hx]
def Un.kept (k:∀b u,h.get? b=some u->h'.get? b=some u):Un fs ex H H h h':=%[λb ob q _ _ _=>k b ob q,λb ob q _ _ _=>%[ob.slots|k b ob q],λ_ _ _ n _=>n,λb ob q _=>%[ob|k b ob q],λ_ _ q=>q,λ_ _ _ q=>q|λ_ ps q=>%[#[]|by rw[q];simp]]
def Un.refl:Un fs ex H H h h:=Un.kept λ_ _ q=>q
def Un.laid (k:∀b u,h.get? b=some u->h'.get? b=some u)(hp:h.objs.size<=a)(hn:H a=none):Un fs ex H (upd H a o) h h' where
 keep:=λb u q _ _ _=>k b u q
 slot:=λb u q _ _ _=>%[u.slots|k b u q]
 free:=λb u q n _=>by rw[aZ (a_ (bt (a7 q) hp))];show n
 there:=λb u q _=>%[u|k b u q]
 tups:=λb xs q=>by rw[aZ (bN q hn)];show q
 uD:=λb u xs q=>by rw[aZ (bN q hn)];show q
 vM:=λb ps q=>%[#[]|by rw[aZ (bN q hn),q];simp]
def Un.write (B:Vm (H x))(G:e=x\/H e=some (.own x))(k:∀b u,b≠e->h.get? b=some u->h'.get? b=some u)(D:∃u,h'.get? e=some u):Un fs ex H (upd H x o) h h':=by
 let hx:∀b,H b=none->b≠x:=λb n z=>by subst z;rw[n]at B;show B
 let F:∀b,H b=none->b≠e:=λb n z=>by
  subst z;rcases G with r|r;.show hx b n r
  .rw[n]at r;cases r
 let hm:∀b u,H b=some u->¬Vm (some u)->b≠x:=λb u q nm z=>by subst z;rw[q]at B;show nm B
 refine%[λb u q n _ _=>k b u (F b n) q,λb u q n _ _=>%[u.slots|k b u (F b n) q],λb u q n _=>by rw[aZ (hx b n)];show n,λb u q _=>?_,
  λb xs q=>by rw[aZ (hm b _ q λz=>z)];show q,λb u xs q=>by rw[aZ (hm b _ q λz=>z)];show q|λb ps q=>%[#[]|by rw[aZ (hm b _ q λz=>z),q];simp]]
 by_cases j:b=e;.subst j;show D
 .show%[u|k b u j q]
end
def trk (h:Heap)(H:Hp):List Addr:=(List.range h.objs.size).filter λa=>(H a).isSome
def vN (h:Heap)(H:Hp):Heap:=W.hideAll h (trk h H)
def Vn (h)(H):(vN h H).objs.size=h.objs.size:=W.hideAll_size _ _
def Y4 {h:Heap}(e:h.get? b=some o)(n:H b=none):(vN h H).get? b=some o:=
 W.hideAll_get _ e λhm=>by let q:(H b).isSome=true:=(kM.mp hm).2;rw[n]at q;simp at q
def abS (e:(vN h H).get? b=some o):h.get? b=some o/\H b=none:=by
 let j:h.get? b=some o:=W.of_hideAll (trk h H) e;calc%[j|?_];cases q:H b with| none=>rfl| some x=>have hm:b∈trk h H:=kM.mpr %[bz.mpr (a7 j)|by simp[q]];let z:(vN h H).get? b=none:=W.hideAll_none (trk h H) hm;rw[z]at e;cases e
structure Mod (K:W.Frag)(mg:Str->Option Value)(base:Heap):Prop where
 xu:K.In base
 glob:base.Ns mainGlobals mg
 blt:∃mb,base.Ns builtinsNs mb/\∀x:Str,x≠"__name__"->mb x=bootBuiltins x
 nolimit:base.NoLimit
structure Cx where
 prog:Program
 w:World
 K:W.Frag
 mg:Str->Option Value
 base:Heap
 A:Around
 N:List Str
 s₀:Shared
 H₀:Hp
 env:Env
 outer:List Env
 stack:List Env
 ex:List Addr
 fn:Str->Bool
 calm:Bool
 pn:List (Addr×Obj)
 xe:Value->Shared->Prop
def frs (l:List Env):List Addr:=l.filterMap (·.frame)
abbrev Cx.fs (X:Cx):List Addr:=frs X.outer
def Vo (sc:Scope)(x:Str):Prop:=sc.names.lookup x=some .local\/sc.names.lookup x=some .cell\/sc.names.lookup x=some .free
def Loc (sc:Scope)(x:Str):Prop:=sc.names.lookup x=some .local\/sc.names.lookup x=some .cell
def Look (env:Env)(h:Heap)(m:Str->Option Value)(x:Str)(u:Value):Prop:=(env.kindOf x=some .local/\m x=some u)\/((env.kindOf x=some .cell\/env.kindOf x=some .free)/\∃c,env.cells.lookup x=some c/\h.IsCell c (some u))
structure Cx.Ok (X:Cx):Prop where
 mod:Mod X.K X.mg X.base
 kind:X.env.scope.kind=.function
 glob:X.env.globals=mainGlobals
 blt:X.env.builtins=builtinsNs
 above:X.s₀.heap.objs.size<=X.env.locals
 inj:∀x y c,X.env.cells.lookup x=some c->X.env.cells.lookup y=some c->x=y
 has:∀x,(X.env.kindOf x=some .cell\/X.env.kindOf x=some .free)->∃c,X.env.cells.lookup x=some c
 cab:∀x c,X.fn x=true->X.env.cells.lookup x=some c->X.s₀.heap.objs.size<=c
 hd:X.calm=true->X.A.handled=none
 frames:X.A.frames=some X.stack
 stk:X.stack=X.outer\/(X.stack=X.env::X.outer/\X.env.frame=some X.env.locals)
 exf:∀b∈X.ex,b≠X.env.locals/\∀x c,X.env.cells.lookup x=some c->c≠b
 bs:∀b o,X.base.get? b=some o->X.s₀.heap.get? b=some o/\X.H₀ b=none
 xW:X.base.objs.size<=X.s₀.heap.objs.size
 Bj:∀b o,X.base.get? b=some o->b∉X.ex
 Fe:∀b∈X.ex,b∉X.fs
 nW:X.s₀.heap.FunFrames X.base X.outer
 Cy:∀b∈X.fs,X.H₀ b=none
def qY (o:Obj)(n:Nat):Prop:=match o.data with| .seq xs _=>∀x t,Value.str x t∈xs->0<t/\t<n| _=>True
def Hu:HO->Nat->Prop
 | .iY o _,n=>qY o n
 | _,_=>True
def Gh (H:Hp)(n:Nat):Prop:=0<n/\∀a o,H a=some o->Hu o n
def Hu.up (h:Hu o n)(k:n<=m):Hu o m:=by
 cases o with
 | iY o u=>
  show qY o m;let h:qY o n:=h;unfold qY at h ⊢;split at h
  .show λx t e=>%[(h x t e).1|bt (h x t e).2 k]
  .trivial
 | _=>trivial
def Gh.up (h:Gh H n)(k:n<=m):Gh H m:=%[bt h.1 k|λa o e=>(h.2 a o e).up k]
def Gh.put (h:Gh H n)(k:n<=m)(g:Hu o m):Gh (upd H a o) m:=%[bt h.1 k|λb u e=>by
 by_cases z:b=a;.rw[z,aq]at e;cases e;show g
 .rw[aZ z]at e;show(h.2 b u e).up k]
structure aL (X:Cx)(ao:AC)(σ:List (Option V))(H:Hp)(s:Shared):Prop where
 ok:X.Ok
 os:s.os=X.s₀.os
 bare:AllBare s.gens
 base:Un X.fs X.ex X.H₀ H X.s₀.heap s.heap
 loc:∃m,s.heap.Ns X.env.locals m/\∀(i:Nat) (x:Str) (v:V),X.N[i]?=some x->σ[i]?=some (some v)->Vo X.env.scope x->∃u,bG v u/\Look X.env s.heap m x u
 cell:∀x c,X.env.cells.lookup x=some c->∃v,s.heap.IsCell c v
 free:H X.env.locals=none
 lV:∀x c,X.env.cells.lookup x=some c->H c=none
 pin:∀p∈X.pn++ao,s.heap.get? p.1=some p.2/\H p.1=none/\p.1≠X.env.locals/\p.1∉X.fs/\∀v,p.2.data≠.cell v
 hok:gK X.prog X.w H s.heap
 len:σ.length=X.N.length
 gh:Gh H s.toks
 tk:X.s₀.toks<=s.toks
section
variable {X:Cx}{ao:AC}{T:List (Option V)}{H H':Hp}{s:Shared}{h':Heap}
def Cx.Ok.ahj (ok:X.Ok)(e:X.base.get? b=some o):b∉X.fs:=λj=>by have:=(ok.nW.mem j).1;rw[e]at this;cases this
def aL.bs (I:aL X ao T H s):∀b o,X.base.get? b=some o->s.heap.get? b=some o/\H b=none:=λb o e=>%[I.base.keep b o (I.ok.bs b o e).1 (I.ok.bs b o e).2 (I.ok.ahj e) (I.ok.Bj b o e)|I.base.free b o (I.ok.bs b o e).1 (I.ok.bs b o e).2 (I.ok.Bj b o e)]
def aL.bk (I:aL X ao T H s):∀b o,X.base.get? b=some o->s.heap.get? b=some o:=λb o e=>(I.bs b o e).1
def aL.mod (I:aL X ao T H s):Mod X.K X.mg X.base:=I.ok.mod
def aL.jD (I:aL X ao T H s):X.K.In s.heap:=I.ok.mod.xu.keeps I.bk
def aL.lt (I:aL X ao T H s):X.env.locals<s.heap.objs.size:=let %[_,hn|_]:=I.loc;hn.lt
def aL.sz (I:aL X ao T H s):X.s₀.heap.objs.size<=s.heap.objs.size:=ay I.ok.above (av I.lt)
def aL.ahk (I:aL X ao T H s){a:Addr}(h:s.heap.objs.size<=a):a∉X.fs:=λj=>by let(_,o,q,_):=I.ok.nW.mem j;show absurd (bt (a7 q) (ay I.sz h)) (lv _)
def aL.Hv (I:aL X ao T H s):∀x c,X.env.cells.lookup x=some c->c≠X.env.locals:=λx c e z=>by let(v,o,B,hd):=I.cell x c e;let(m,(o',es,ep,q,j,_),_):=I.loc;rw[z,q]at B;cases B;rw[j]at hd;cases hd
def aL.nW (I:aL X ao T H s):s.heap.FunFrames X.base X.outer:=by
 let all:∀(l:List Env),(∀b∈frs l,b∈X.fs)->X.s₀.heap.FunFrames X.base l->s.heap.FunFrames X.base l:=by
  intro l
  induction l with| nil=>intro _ _;trivial| cons env r ih=>intro hs B;let(hk,(L,o,hf,hn,F,hd),D):=B;let j:L∈X.fs:=hs L (by unfold frs;rw[f_,hf];show aT);let(sl,e):=I.base.slot L o F (I.ok.Cy L j) j λz=>I.ok.Fe L z j;show%[hk,%[4,L,_,hf,hn,e|hd]|ih (λb q=>hs b (by unfold frs;rw[f_,hf];show aS _ q)) D]
 show all X.outer (λ_ q=>q) I.ok.nW
def aL.stack (I:aL X ao T H s):s.heap.FunFrames X.base X.stack:=by
 rcases I.ok.stk with e|⟨e,hf⟩;.rw[e];show I.nW
 .rw[e];let(m,hn,_):=I.loc;calc .cons (by rw[I.ok.kind];decide) hf hn ?_ I.nW;show Heap.get?_none_of_le (ay I.ok.xW I.ok.above)
def aL.Ku (I:aL X ao T H s):∀b∈frs X.stack,b∈X.env.locals::X.fs:=λb j=>by
 rcases I.ok.stk with e|⟨e,hf⟩;.rw[e]at j;show aS _ j
 .rw[e]at j;unfold frs at j;rw[f_,hf]at j;show j
def aL.Qk (I:aL X ao T H s):∀b∈frs X.stack,H b=none:=λb j=>by
 rcases bd.mp (I.Ku b j) with e|j;.rw[e];show I.free
 .let(_,o,q,_):=I.ok.nW.mem j;show I.base.free b o q (I.ok.Cy b j) λz=>I.ok.Fe b z j
def aL.step {g':Array GenState}{t':Nat}{d':Drawn}{ch:List Addr}(I:aL X ao T H s)(j:∀b∈ch,(b∈X.ex\/X.s₀.heap.objs.size<=b)/\b≠X.env.locals/\(∀x c,X.env.cells.lookup x=some c->c≠b)/\∀p∈X.pn++ao,p.1≠b)(keep:∀b o,b≠X.env.locals->b∉X.fs->b∉ch->s.heap.get? b=some o->H b=none->h'.get? b=some o)(slot:∀b o,b≠X.env.locals->b∈X.fs->b∉ch->s.heap.get? b=some o->H b=none->∃sl,h'.get? b=some {o with slots:=sl})(free:∀b o,b∉ch->s.heap.get? b=some o->H b=none->H' b=none)(there:∀b o,b∉ch->s.heap.get? b=some o->∃o',h'.get? b=some o')(tups:∀b xs,H b=some (.tup xs)->H' b=some (.tup xs))(uD:∀b o u,H b=some (.iY o u)->H' b=some (.iY o u))(vM:∀b ps,H b=some (.Ks ps)->∃more,H' b=some (.Ks (ps++more)))(ns:∀m,s.heap.Ns X.env.locals m->h'.Ns X.env.locals m)(hok:gK X.prog X.w H' h')(hg:AllBare g')(gh:Gh H' t')(Y:s.toks<=t'):aL X ao T H' {s with heap:=h',gens:=g',drawn:=d',toks:=t' }:=by
 let L:∀b o,X.s₀.heap.get? b=some o->b≠X.env.locals:=λb o e=>a_ (bt (a7 e) I.ok.above);let J:∀b o,X.s₀.heap.get? b=some o->b∉X.ex->b∉ch:=λb o e hx D=>by
  rcases(j b D).1 with z|z;.show hx z
  .show absurd (bt (a7 e) z) (lv _)
 let B:∀x c,X.env.cells.lookup x=some c->∀v,s.heap.IsCell c v->h'.IsCell c v:=λx c e v ⟨o,F,hd⟩=>by
  let G:c∉ch:=λz=>(j c z).2.2.1 x c e rfl;by_cases O:c∈X.fs
  .let(sl,q):=slot c o (I.Hv x c e) O G F (I.lV x c e);show%[0,_,q|hd]
  .show%[0,o,keep c o (I.Hv x c e) O G F (I.lV x c e)|hd]
 calc%[I.ok,I.os,hg,%[λb o e n D hx=>?_,λb o e n D hx=>?_,λb o e n hx=>?_,λb o e hx=>?_,λb xs e=>tups b xs (I.base.tups b xs e),λb o xs e=>uD b o xs (I.base.uD b o xs e)|λb ps e=>?_],?_,λx c e=>?_,?_,λx c e=>?_,λp hp=>?_,hok,I.len,gh|ay I.tk Y];.show keep b o (L b o e) D (J b o e hx) (I.base.keep b o e n D hx) (I.base.free b o e n hx)
 .let(sl,e1):=I.base.slot b o e n D hx;let(M,e2):=slot b _ (L b o e) D (J b o e hx) e1 (I.base.free b o e n hx);show%[M|e2]
 .let(o',e1):=I.base.there b o e hx;show free b o' (J b o e hx) e1 (I.base.free b o e n hx)
 .let(o',e1):=I.base.there b o e hx;show there b o' (J b o e hx) e1
 .let(m1,e1):=I.base.vM b ps e;let(m2,e2):=vM b _ e1;show%[m1++m2|by rw[e2,Array.append_assoc]]
 .let(m,hn,Z):=I.loc;calc%[0,m,ns m hn|λi x v e1 e2 e3=>?_];let(u,r,l):=Z i x v e1 e2 e3;calc%[0,u,r|?_];rcases l with l|⟨k,c,e,z⟩;.show .inl l
  .show .inr %[8,k,c,e|B x c e _ z]
 .let(v,z):=I.cell x c e;show%[v|B x c e v z]
 .let(m,(o,_,_,F,_),_):=I.loc;show free _ o (λz=>(j _ z).2.1 rb) F I.free
 .let(v,o,F,hd):=I.cell x c e;show free c o (λz=>(j c z).2.2.1 x c e rb) F (I.lV x c e)
 .let(e,n,ne,N,d):=I.pin p hp;let G:p.1∉ch:=λz=>(j p.1 z).2.2.2 p hp rfl;show%[keep p.1 p.2 ne N G e n,free p.1 p.2 G e n,ne,N|d]
def aL.un (I:aL X ao T H s)(u:Un X.fs [] H H' s.heap h')(hok:gK X.prog X.w H' h')(gh:Gh H' t')(G:s.toks<=t'):aL X ao T H' {s with heap:=h',toks:=t' }:=by
 let(m,(o,es,ep,F,r),_):=id I.loc;let(sl,L):=u.any F I.free xp;show I.step (g':=s.gens) (d':=s.drawn) (ch:=[]) (λ_ z=>nomatch z) (λb o _ D _ e n=>u.keep b o e n D xp) (λb o _ D _ e n=>u.slot b o e n D xp) (λb o _ e n=>u.free b o e n xp) (λb o _ e=>u.there b o e xp) u.tups u.uD u.vM (λM hm=>by let(o',B,q,j,J):=hm;rw[F]at j;cases j;show%[41,_,B,q,L|J]) hok I.bare gh G
def aL.call (I:aL X ao T H s)(u:Un (frs X.stack) ch H H' s.heap h')(hok:gK X.prog X.w H' h')(O:AllBare g')(gh:Gh H' t')(J:s.toks<=t')(q:∀b∈ch,(b∈X.ex\/X.s₀.heap.objs.size<=b)/\b≠X.env.locals/\(∀x c,X.env.cells.lookup x=some c->c≠b)/\∀p∈X.pn++ao,p.1≠b):aL X ao T H' {s with heap:=h',gens:=g',drawn:=d',toks:=t' }:=by
 let(m,(o,es,ep,G,r),_):=id I.loc;let(sl,L):=u.any G I.free λz=>(q _ z).2.1 rfl;show I.step (ch:=ch) q (λb o L N j e n=>u.keep b o e n (λz=>(bd.mp (I.Ku b z)).elim L N) j) (λb o _ _ j e n=>u.any e n j) (λb o j e n=>u.free b o e n j) (λb o j e=>u.there b o e j) u.tups u.uD u.vM (λY hm=>by let(o',F,D,B,M):=hm;rw[G]at B;cases B;show%[41,_,F,D,L|M]) hok O gh J
def aL.turned (I:aL X ao T H s)(k:∀b o,b≠it->s.heap.get? b=some o->h'.get? b=some o)(hn:H it=none)(L:it≠X.env.locals)(h1:it∈X.ex\/X.s₀.heap.objs.size<=it)(F:∀x c,X.env.cells.lookup x=some c->c≠it)(J:∀p∈X.pn++ao,p.1≠it)(B:s.toks<=t':=by first|show ah _|assumption|show du _|lia):aL X ao T H {s with heap:=h',toks:=t' }:=by
 let D:∀b u,H b=some u->b≠it:=λb u e z=>by rw[z,hn]at e;cases e
 refine I.step (g':=s.gens) (d':=s.drawn) (ch:=[it]) (λb G=>?_) (λb o _ _ j e _=>k b o (λz=>j (by simp[z])) e) (λb o _ _ j e _=>%[o.slots|k b o (λz=>j (by simp[z])) e]) (λ_ _ _ _ n=>n)
  (λb o j e=>%[o|k b o (λz=>j (by simp[z])) e]) (λ_ _ e=>e) (λ_ _ _ e=>e) (λb ps e=>%[#[]|by rw[e];simp]) (λm hm=>?_) (λb u e=>?_) I.bare (I.gh.up B) B
 .let e:b=it:=by simpa using G
  subst e;show%[h1,L,F|J]
 .let(o,es,ep,M,r):=hm;show%[41,o,es,ep,k _ o (kr L) M|r]
 .refine(I.hok b u e).stay (λc v j q=>k c v ?_ q) (λ_ q=>q) λ_ _ q=>q
  rcases j with z|z;.rw[z];show D b u e
  .show D c _ z
def aL.tok (I:aL X ao T H s)(t)(j:s.toks<=t:=by first|show ah _|assumption|show du _|lia):aL X ao T H {s with toks:=t}:=I.un (h':=s.heap) (t':=t) Un.refl I.hok (I.gh.up j) j
def aL.kept (I:aL X ao T H s)(k:∀b u,s.heap.get? b=some u->h'.get? b=some u)(j:s.toks<=t':=by first|show ah _|assumption|show du _|lia):aL X ao T H {s with heap:=h',toks:=t' }:=I.un (Un.kept k) (I.hok.kept k) (I.gh.up j) j
def aL.laid {a:Addr}{o:HO}{t':Nat}(I:aL X ao T H s)(k:∀b u,s.heap.get? b=some u->h'.get? b=some u)(hp:s.heap.objs.size<=a)(j:cZ X.prog X.w (upd H a o) h' a o)(q:s.toks<=t':=by first|show ah _|assumption|show du _|lia)(B:Hu o t':=by trivial):aL X ao T (upd H a o) {s with heap:=h',toks:=t' }:=I.un (Un.laid k hp (I.hok.fresh hp)) (I.hok.laid k hp j) (I.gh.put q B) q
def aL.write (I:aL X ao T H s)(F:Vm (H x))(D:e=x\/H e=some (.own x))(k:∀b u,b≠e->s.heap.get? b=some u->h'.get? b=some u)(j:∃u,h'.get? e=some u)(q:cZ X.prog X.w (upd H x o) h' x o)(B:s.toks<=t':=by first|show ah _|assumption|show du _|lia)(G:Hu o t':=by trivial):aL X ao T (upd H x o) {s with heap:=h',toks:=t' }:=I.un (Un.write F D k j) (I.hok.write F D k j q) (I.gh.put B G) B
def aL.Ql (I:aL X ao T H s)(h:∀p∈agw,s.heap.get? p.1=some p.2/\H p.1=none/\p.1≠X.env.locals/\p.1∉X.fs/\∀v,p.2.data≠.cell v):aL X agw T H s:=%[I.ok,I.os,I.bare,I.base,I.loc,I.cell,I.free,I.lV,λp hp=>(a6.mp hp).elim (λz=>I.pin p (mI _ z)) (h p),I.hok,I.len,I.gh|I.tk]
def Kv {N:List Str}(q:N.Nodup){i j:Nat}{x:Str}(a:N[i]?=some x)(b:N[j]?=some x):i=j:=by let(h1,e1):=al.mp a;let(B,e2):=al.mp b;show(List.getElem_inj q).mp (e1.trans e2.symm)
def tZ (I:aL X ao T H s)(hN:X.N.Nodup)(hi:X.N[i]?=some x)(hx:Loc X.env.scope x)(r:bG v u)(h:∀s',aL X ao (T.set i (some v)) H s'->(∃a,Heap.SameBut a s.heap s'.heap/\(a=X.env.locals\/X.env.cells.lookup x=some a))->(∃m,s'.heap.Ns X.env.locals m/\Look X.env s'.heap m x u)->Q () s')(hf:X.fn x=true\/X.env.scope.names.lookup x=some .local:=by first|show .inl rfl|show .inr rfl|assumption):wpAny M A (storeName X.env x u) Q E s:=by
 let(m,hn,hl):=id I.loc;let Z:(X.env.scope.kind == .class||(X.env.scope.kind == .module&&X.env.locals != X.env.globals))=false:=by rw[I.ok.kind];rfl
 let hiσ:i<T.length:=by rw[I.len];show(al.mp hi).1
 let Hv:=I.Hv;let B:∀{a:Addr} {h':Heap},(∃o,s.heap.get? a=some o/\H a=none)->Heap.SameBut a s.heap h'->gK X.prog X.w H h':=λ{a h'} ha hs b ob e=>by
  let(_,_,F):=ha;calc(I.hok b ob e).stay (λc w' D q=>(hs.2 c ?_).trans q) (λ_ q=>q) λ_ _ q=>q;rintro rfl;rcases D with rfl|D
  .rw[F]at e;cases e
  .rw[F]at D;cases D
 rcases hx with hk|hk
 .calc wpAny_storeName_local hk hn (λh' O hs=>?_) Z;let(oL,_,_,hoL,_):=id hn;calc h _ ⟨I.ok,I.os,I.bare,%[λb o e n L hx=>?_,λb o e n L hx=>?_,I.base.free,λb o e hx=>?_,I.base.tups,I.base.uD|I.base.vM],%[0,_,O|λj y v' e1 e2 e3=>?_],λy c e=>?_,I.free,I.lV,λp hp=>?_,B %[0,oL,hoL|I.free] hs,by simpa using I.len,I.gh.up (by first|show ah _|show du _),ay I.tk (by first|show ah _|show du _)⟩ %[0,_,hs|.inl rb] %[0,_,O|.inl %[hk|xp]];.show(hs.2 b (a_ (bt (a7 e) I.ok.above))).trans (I.base.keep b o e n L hx)
  .let(sl,e1):=I.base.slot b o e n L hx;show%[sl|(hs.2 b (a_ (bt (a7 e) I.ok.above))).trans e1]
  .let(o',e1):=I.base.there b o e hx;show%[o'|(hs.2 b (a_ (bt (a7 e) I.ok.above))).trans e1]
  .by_cases N:j=i
   .subst N;rw[hi]at e1;cases e1;rw[sq hiσ]at e2;cases e2;show%[0,u,r|.inl %[hk|xp]]
   .rw[tq (kr N)]at e2;let(u',r',q):=hl j y v' e1 e2 e3;calc%[0,u',r'|?_];rcases q with⟨k,e⟩|⟨k,c,e,z⟩
    .calc .inl %[k|?_];have:y≠x:=λe=>N (Kv hN e1 (e ▸ hi));simp[this,e]
    .show .inr %[8,k,c,e|z.sameBut hs (Hv y c e)]
  .let(w',z):=I.cell y c e;show%[w'|z.sameBut hs (Hv y c e)]
  .let(e,n,ne,nf,d):=I.pin p hp;show%[(hs.2 p.1 ne).trans e,n,ne,nf|d]
 .let G:X.fn x=true:=by
   rcases hf with z|z;.show z
   .rw[z]at hk;cases hk
  let(c,D):=I.ok.has x (.inl hk);let(w',z):=I.cell x c D;calc wpAny_storeName_cell I.ok.kind hk D z (λh' J hs=>?_);let(oc,hoc,ahl):=id z;calc h {s with heap:=h' } %[I.ok,I.os,I.bare,%[λb o e n L hx=>?_,λb o e n L hx=>?_,I.base.free,λb o e hx=>?_,I.base.tups,I.base.uD|I.base.vM],%[0,m,hn.sameBut hs (kr (Hv x c D))|λj y v' e1 e2 e3=>?_],λy c' e=>?_,I.free,I.lV,λp hp=>?_,B %[0,oc,hoc|I.lV x c D] hs,by simpa using I.len,I.gh|I.tk] %[0,c,hs|.inr D] %[0,m,hn.sameBut hs (kr (Hv x c D))|.inr %[8,.inl hk,c,D|J]];.show(hs.2 b (a_ (bt (a7 e) (I.ok.cab x c G D)))).trans (I.base.keep b o e n L hx)
  .let(sl,e1):=I.base.slot b o e n L hx;show%[sl|(hs.2 b (a_ (bt (a7 e) (I.ok.cab x c G D)))).trans e1]
  .let(o',e1):=I.base.there b o e hx;show%[o'|(hs.2 b (a_ (bt (a7 e) (I.ok.cab x c G D)))).trans e1]
  .by_cases N:j=i
   .subst N;rw[hi]at e1;cases e1;rw[sq hiσ]at e2;cases e2;show%[0,u,r|.inr %[8,.inl hk,c,D|J]]
   .rw[tq (kr N)]at e2;let(u',r',q):=hl j y v' e1 e2 e3;calc%[0,u',r'|?_];rcases q with q|⟨k,c',e,z'⟩;.show .inl q
    .calc .inr %[8,k,c',e|z'.sameBut hs ?_];rintro rfl;show N (Kv hN e1 (I.ok.inj _ _ _ e D ▸ hi))
  .by_cases Y:c'=c;.subst Y;show%[_|J]
   .let(w2,z2):=I.cell y c' e;show%[w2|z2.sameBut hs Y]
  .let(e,n,ne,nf,d):=I.pin p hp;calc%[(hs.2 p.1 ?_).trans e,n,ne,nf|d];intro q;rw[q,hoc]at e;let q':oc=p.2:=bg e;show d w' (by rw[<-q'];show ahl)
def vO (I:aL X ao T H s)(N:X.N.Nodup)(hi:X.N[i]?=some x)(hx:Loc X.env.scope x)(r:bG v u)(h:∀s',aL X ao (T.set i (some v)) H s'->Q () s')(hf:X.fn x=true\/X.env.scope.names.lookup x=some .local:=by first|show .inl rfl|show .inr rfl|assumption):wpAny M A (storeName X.env x u) Q E s:=tZ I N hi hx r (λs' j _ _=>h s' j) hf
def aL.call' {s':Shared}(I:aL X ao T H s)(B:s'.os=s.os)(u:Un (frs X.stack) ch H H' s.heap s'.heap)(hok:gK X.prog X.w H' s'.heap)(D:AllBare s'.gens)(gh:Gh H' s'.toks)(q:s.toks<=s'.toks)(j:∀b∈ch,(b∈X.ex\/X.s₀.heap.objs.size<=b)/\b≠X.env.locals/\(∀x c,X.env.cells.lookup x=some c->c≠b)/\∀p∈X.pn++ao,p.1≠b):aL X ao T H' s':=by let(h',g',d',t',o'):=s';let e:o'=s.os:=B;subst e;show I.call (g':=g') (t':=t') (d':=d') u hok D gh q j
end
abbrev XK:=Value->Option Addr->Hp->Prop
abbrev St:=List (Option V)
abbrev VK:=V->Hp->Prop
abbrev TE:=St->Hp->VK->Prop
abbrev TT:=St->Hp->(Bool->Hp->Prop)->Prop
abbrev TA:=St->Hp->(List V->Hp->Prop)->Prop
structure Ends where
 nx:St->Hp->Prop
 rt:VK
 bk:St->Hp->Prop:=λ_ _=>False
 ct:St->Hp->Prop:=λ_ _=>False
abbrev TS:=Ends->St->Hp->Prop
def EP (X:Cx)(ao:AC)(I:St)(Q:VK)(u:Value)(s':Shared):Prop:=∃v H',aL X ao I H' s'/\bG v u/\Q v H'
def TP (X:Cx)(ao:AC)(I:St)(Q:Bool->Hp->Prop)(b:Bool)(s':Shared):Prop:=∃H',aL X ao I H' s'/\Q b H'
def AP (X:Cx)(ao:AC)(I:St)(Q:List V->Hp->Prop)(us:List Value)(s':Shared):Prop:=∃vs H',aL X ao I H' s'/\Vals vs us/\Q vs H'
def SP (X:Cx)(ao:AC)(D:Ends)(f:Flow)(s':Shared):Prop:=match f with| .next=>∃j H',aL X ao j H' s'/\D.nx j H'| .brk=>∃j H',aL X ao j H' s'/\D.bk j H'| .cont=>∃j H',aL X ao j H' s'/\D.ct j H'| .ret u=>∃v j H',aL X ao j H' s'/\bG v u/\D.rt v H'
def PE (X:Cx)(e:Expr)(t:TE):Prop:=∀(ao:AC) (s:Shared) (I:St) (H:Hp) (Q:VK),aL X ao I H s->t I H Q->wpAny (model X.prog X.w) X.A (eval e X.env) (EP X ao I Q) X.xe s
def PT (X:Cx)(e:Expr)(t:TT):Prop:=∀(ao:AC) (s:Shared) (I:St) (H:Hp) (Q:Bool->Hp->Prop),aL X ao I H s->t I H Q->wpAny (model X.prog X.w) X.A (isTrue e X.env (eval e X.env)) (TP X ao I Q) X.xe s
def PW (X:Cx)(e:Expr)(t:TT):Prop:=∀(j:Sem Value) (ao:AC) (s:Shared) (I:St) (H:Hp) (Q:Bool->Hp->Prop),aL X ao I H s->t I H Q->wpAny (model X.prog X.w) X.A (isTrue e X.env j) (TP X ao I Q) X.xe s
def PW.pt (h:PW X e t):PT X e t:=h _
def PA (X:Cx)(es:List Expr)(t:TA):Prop:=∀(pos:Pos) (ao:AC) (s:Shared) (I:St) (H:Hp) (Q:List V->Hp->Prop),aL X ao I H s->t I H Q->wpAny (model X.prog X.w) X.A (spliced (backTo pos (starEach es X.env))) (AP X ao I Q) X.xe s
def PS (X:Cx)(st:Stmt)(t:TS):Prop:=∀(ao:AC) (s:Shared) (I:St) (H:Hp) (D:Ends),aL X ao I H s->t D I H->wpAny (model X.prog X.w) X.A (exec st X.env) (SP X ao D) X.xe s
def oY (X:Cx)(st:List Stmt)(t:TS):Prop:=∀(ao:AC) (s:Shared) (I:St) (H:Hp) (D:Ends),aL X ao I H s->t D I H->wpAny (model X.prog X.w) X.A (execs st X.env) (SP X ao D) X.xe s
def bD {I:Type}{t:Sem I}{Q j:I->Shared->Prop}(h:wpAny M A t Q E s)(q:∀a s,Q a s->j a s):wpAny M A t j E s:=fm h q λ_ _ x=>x
section
variable {X:Cx}
def fH (i:Nat):TE:=λT H Q=>∃v,T[i]?=some (some v)/\Q v H
def tC (v:V):TE:=λ_ H Q=>Q v H
def ad6 {i:Nat}{x:Str}{pos:Pos}(N:X.N[i]?=some x)(hv:Vo X.env.scope x)(hd:(x==("__debug__":Str))=false:=by decide)(B:(x==("__classdict__":Str))=false:=by decide):PE X (.Name x pos) (fH i):=by
 intro ao s T H Q I h;let(v,e,h):=h;let(m,hn,F):=I.loc;let(u,r,l):=F i x v N e hv;let q:EP X ao T Q u s:=%[1,v,H,I,r|h]
 rcases l with⟨hk,hm⟩|⟨hk,c,D,j⟩;.show rX (tw I.ok.kind hk hn hm q) hd
 .rcases hk with hk|hk;.show rX (wpAny_loadName_cell I.ok.kind hk D j q) hd
  .show rX (wpAny_loadName_free I.ok.kind hk D j q B) hd
def ad7 {i j pos}:PE X (.Constant (.int i) j pos) (tC (.int i)):=λ_ _ _ H _ I h=>q0 %[1,.int i,H,I.tok _,%[_|rb]|h]
def agx {b j pos}:PE X (.Constant (.bool b) j pos) (tC (.bl b)):=λ_ _ _ H _ I h=>Constant_bool %[1,.bl b,H,I,rb|h]
def ad8 {x j pos}:PE X (.Constant (.str x) j pos) (tC (.str x)):=λ_ _ _ H _ I h=>g6 %[1,.str x,H,I.tok _,%[_|rb]|h]
def Gl (X:Cx)(x:Str):Prop:=X.env.kindOf x=some .globalImplicit
def zK {E:AB}{ao:AC}{s:Shared}{T:St}{H:Hp}{x:Str}{u:Value}{pos:Pos}{Q:AB}(I:aL X ao T H s)(j:Gl X x)(hm:X.mg x=some u)(h:Q u s)(hd:(x==("__debug__":Str))=false:=by decide):wpAny (model X.prog X.w) X.A (eval (.Name x pos) X.env) Q E s:=Calls.Name_function_global I.ok.kind j (Calls.loadGlobal_global (by rw[I.ok.glob];show I.mod.glob.keeps I.bk) hm h) hd
def qg {E:AB}{ao:AC}{s:Shared}{T:St}{H:Hp}{x:Str}{u:Value}{pos:Pos}{Q:AB}(I:aL X ao T H s)(q:Gl X x)(hm:X.mg x=none)(hv:bootBuiltins x=some u)(h:Q u s)(hn:x≠"__name__":=by decide)(hd:(x==("__debug__":Str))=false:=by decide):wpAny (model X.prog X.w) X.A (eval (.Name x pos) X.env) Q E s:=by let(mb,h1,j):=I.mod.blt;show Calls.Name_function_global I.ok.kind q (Calls.loadGlobal_builtin (by rw[I.ok.glob];show I.mod.glob.keeps I.bk) hm (by rw[I.ok.blt];show h1.keeps I.bk) ((j x hn).trans hv) h) hd
def abT (j:Gl X x)(hm:X.mg x=some u)(r:bG v u)(hd:(x==("__debug__":Str))=false:=by decide):PE X (.Name x pos) (tC v):=λ_ _ _ H _ I h=>zK I j hm %[1,v,H,I,r|h] hd
def abU {x:Str}{v:V}{u:Value}{pos:Pos}(j:Gl X x)(hm:X.mg x=none)(hv:bootBuiltins x=some u)(r:bG v u)(hn:x≠"__name__":=by decide)(hd:(x==("__debug__":Str))=false:=by decide):PE X (.Name x pos) (tC v):=λ_ _ _ H _ I h=>qg I j hm hv %[1,v,H,I,r|h] hn hd
variable {a b:Expr}{ta tb:TE}{pos:Pos}
def PC (X:Cx)(op:CmpOp)(a b:Expr)(t:TE):Prop:=∀(ao:AC) (s:Shared) (T:St) (H:Hp) (Q:VK),aL X ao T H s->t T H Q->
  wpAny (model X.prog X.w) X.A (eval a X.env) (λv q=>wpAny (model X.prog X.w) X.A (eval b X.env) (λu j=>wpAny (model X.prog X.w) X.A (compareOp op v u) (EP X ao T Q) X.xe j) X.xe q) X.xe s
def tB (t:TE):TT:=λT H Q=>t T H λx H1=>∃c,x=.bl c/\Q c H1
def ad9 (h:PC X op a b t)(h1:behindInMarks op b=false:=by first|show Y5 _ xt xt|rfl):PE X (.Compare a [op] [b] pos) t:=λao s T H Q I hw=>wpAny_Compare1 (h ao s T H Q I hw) h1
def ad_ (h:PE X e t)(B:∀j,isTrue e X.env j=(do let v <- j;standAt e.pos;holding [v] (truthy v)):=by intro _;rfl):PT X e (tB t):=by intro ao s T H Q I hw;calc isTrue_plain (bD (h ao s T H _ I hw) λv s1 D=>?_) (B _);let(x,H1,I1,r1,q1):=D;let(d,rfl,q):=q1;cases r1;show eJ %[0,H1,I1|q]
variable {tA mL:TT}{rest:List Expr}
def aea (t u:TT):TT:=λT H Q=>t T H λc H1=>if c=true then u T H1 Q else Q false H1
def tOr (t u:TT):TT:=λT H Q=>t T H λc H1=>if c=true then Q true H1 else u T H1 Q
def aeb (t:TT):TT:=λT H Q=>t T H λc H1=>Q (!c) H1
def abV (ha:PT X a tA):PW X (.BoolOp .And [a] pos) tA:=by
 intro j ao s T H Q I h;calc isTrue_and (bD (ha ao s T H Q I h) λc s1 e=>?_);cases c with| true=>show isTrue_and_nil e| false=>show e
def aec (ha:PT X a tA):PW X (.BoolOp .Or [a] pos) tA:=by
 intro j ao s T H Q I h;calc isTrue_or (bD (ha ao s T H Q I h) λc s1 e=>?_);cases c with| false=>show isTrue_or_nil e| true=>show e
def aed (ha:PT X a tA)(q:PW X (.BoolOp .And (b::rest) pos) mL):PW X (.BoolOp .And (a::b::rest) pos) (aea tA mL):=by
 intro j ao s T H Q I h;calc isTrue_and (bD (ha ao s T H _ I h) λc s1 B=>?_);let(H1,I1,q1):=B;cases c with| true=>show q j ao s1 T H1 Q I1 q1| false=>show%[0,H1,I1|q1]
def agy (ha:PT X a tA)(q:PW X (.BoolOp .Or (b::rest) pos) mL):PW X (.BoolOp .Or (a::b::rest) pos) (tOr tA mL):=by
 intro j ao s T H Q I h;calc isTrue_or (bD (ha ao s T H _ I h) λc s1 B=>?_);let(H1,I1,q1):=B;cases c with| true=>show%[0,H1,I1|q1]| false=>show q j ao s1 T H1 Q I1 q1
def aee (ha:PT X a tA):PT X (.UnaryOp .Not a pos) (aeb tA):=by intro ao s T H Q I h;show isTrue_not (ha ao s T H (λc H1=>Q (!c) H1) I h)
def abn (ta tb:TE):TE:=λT H Q=>ta T H λx H1=>∃c,x=.bl c/\if c=true then tb T H1 Q else Q (.bl false) H1
def aef (ta tb:TE):TE:=λT H Q=>ta T H λx H1=>∃c,x=.bl c/\if c=true then Q (.bl true) H1 else tb T H1 Q
def abo (ta:TE):TE:=λT H Q=>ta T H λx H1=>∃c,x=.bl c/\Q (.bl (!c)) H1
def aeg {op}(h:PE X a t):PE X (.BoolOp op [a] pos) t:=λao s T H Q I hw=>BoolOp_one (h ao s T H Q I hw)
def aeh (ha:PE X a ta)(q:PE X (.BoolOp .And (b::rest) pos) tb):PE X (.BoolOp .And (a::b::rest) pos) (abn ta tb):=by
 intro ao s T H Q I h;calc BoolOp_and (bD (ha ao s T H _ I h) λv s1 j=>?_);let(x,H1,I1,r1,q1):=j;let(c,rfl,q1):=q1;cases r1;calc eJ ?_;cases c with| true=>show q ao s1 T H1 Q I1 q1| false=>show%[1,.bl false,H1,I1,rb|q1]
def agz (ha:PE X a ta)(q:PE X (.BoolOp .Or (b::rest) pos) tb):PE X (.BoolOp .Or (a::b::rest) pos) (aef ta tb):=by
 intro ao s T H Q I h;calc BoolOp_or (bD (ha ao s T H _ I h) λv s1 j=>?_);let(x,H1,I1,r1,q1):=j;let(c,rfl,q1):=q1;cases r1;calc eJ ?_;cases c with| false=>show q ao s1 T H1 Q I1 q1| true=>show%[1,.bl true,H1,I1,rb|q1]
def aei (ha:PE X a ta):PE X (.UnaryOp .Not a pos) (abo ta):=by intro ao s T H Q I h;calc UnaryOp_ (bD (ha ao s T H _ I h) λv s1 j=>?_);let(x,H1,I1,r1,q1):=j;let(c,rfl,q1):=q1;cases r1;show not_of (eJ %[1,.bl (!c),H1,I1,rb|q1])
def tIf (t:TT)(ta tb:TE):TE:=λT H Q=>t T H λc H1=>if c=true then ta T H1 Q else tb T H1 Q
def Y6 (q:PT X c tA)(ha:PE X a ta)(j:PE X b tb):PE X (.IfExp c a b pos) (tIf tA ta tb):=by
 intro ao s T H Q I h;calc wpAny_IfExp (bD (q ao s T H _ I h) λd s1 B=>?_);let(H1,I1,q1):=B;cases d with| true=>show ha ao s1 T H1 Q I1 q1| false=>show j ao s1 T H1 Q I1 q1
end
def aN (K:W.Frag)(H:Hp)(a:Addr)(xs:List V):Prop:=Rd H a (.lst xs)\/
  ∃(o:Obj) (its:Array Value) (n:Nat),K.lookup a=some o/\o.cls=.type "list"/\o.dict=none/\o.data=.seq its n/\its.size<=sizeLine/\Vals xs its.toList/\∀v∈xs,uR v=v
def aV (K:W.Frag)(H:Hp)(a:Addr)(xs:List V):Prop:=Rd H a (.tup xs)\/
  ∃(o:Obj) (its:Array Value) (n:Nat),K.lookup a=some o/\o.cls=.type "tuple"/\o.data=.seq its n/\its.size<=sizeLine/\Vals xs its.toList/\∀v∈xs,uR v=v
noncomputable def ahm:Value->Option V
 | .none=>some .non
 | .bool b=>some (.bl b)
 | .int i _=>some (.int i)
 | .str x _=>some (.str x)
 | .bytes b _=>some (.xr b)
 | .float b _=>some (.flt b)
 | .ref a=>some (.ref a)
 | .type n=>some (.ty n)
 | _=>none
def bG.abs (r:bG x u):ahm u=some (uR x):=by
 cases x with
 | non=>cases r;rfl
 | bl _=>cases r;rfl
 | int _=>let(t,rfl):=r;rfl
 | str _=>let(t,rfl):=r;rfl
 | xr _=>let(t,rfl):=r;rfl
 | flt _=>let(t,rfl):=r;rfl
 | ref _=>cases r;rfl
 | ty _=>cases r;rfl
 | sx _ _=>cases r;rfl
def bG.inj (r:bG x u)(q:bG y u)(h:uR x=x)(h':uR y=y):x=y:=by rw[<-h,<-h'];show bg (r.abs.symm.trans q.abs)
theorem Vals.inj:∀{xs ys:List V} {us:List Value},Vals xs us->Vals ys us->(∀v∈xs,uR v=v)->(∀v∈ys,uR v=v)->xs=ys
 | _,_,_,.nil,.nil,_,_=>rfl
 | _,_,_,.cons r t,.cons r' t',h,h'=>by rw[r.inj r' (h _ (.head _)) (h' _ (.head _)),Vals.inj t t' (λv z=>h v (.tail _ z)) λv z=>h' v (.tail _ z)]
def Rd.one (h:Rd H a u)(h':Rd H a v)(j:∀o x,u≠.iY o x)(q:∀o x,v≠.iY o x):u=v:=by
 rcases h with h|⟨o,h⟩ <;> rcases h' with h'|⟨o',h'⟩ <;> rw[h]at h' <;> injection h' with h'
 .show absurd h' (j _ _)
 .show absurd h'.symm (q _ _)
 .injection h'
def Rd.ne (h:Rd H a u):H a≠none:=by rcases h with h|⟨o,h⟩ <;> rw[h] <;> simp
section
variable {X:Cx}{ao:AC}{T:St}{H:Hp}{s:Shared}{a:Addr}{xs ys:List V}
def aN.of {K:W.Frag}(h:H a=some (.lst xs)):aN K H a xs:=.inl (.inl h)
def aV.of {K:W.Frag}(h:H a=some (.tup xs)):aV K H a xs:=.inl (.inl h)
def aL.list (I:aL X ao T H s)(h:aN X.K H a xs):∃its:List Value,Vals xs its/\PlainL s.heap a its.toArray/\xs.length<=sizeLine:=by
 rcases h with h|⟨o,its,n,hk,j,hd,hs,hz,r,_⟩
 .let(z,its,n,r,e):=h.ok I.hok;show%[2,its,r,%[4,_,n,e,rb,rb|rb]|z]
 .calc%[2,its.toList,r,%[4,o,n,I.jD a o hk,j,hd|by simpa using hs]|?_];let e:=r.length;simp only[bq]at e;lia
def aL.tuple (I:aL X ao T H s)(h:aV X.K H a xs):∃its:List Value,Vals xs its/\IsTup s.heap a its.toArray/\xs.length<=sizeLine:=by
 rcases h with h|⟨o,its,n,hk,j,hs,hz,r,_⟩
 .let(z,its,r,p):=h.ok I.hok;show%[2,its,r,p|z]
 .calc%[2,its.toList,r,%[40,o,I.jD a o hk,j,n|by simpa using hs]|?_];let e:=r.length;simp only[bq]at e;lia
def aL.Kw (I:aL X ao T H s)(h:aN X.K H a xs)(h':aN X.K H a ys):xs=ys:=by
 rcases h with h|⟨o,its,n,hk,_,_,hd,_,r,p⟩ <;> rcases h' with h'|⟨o',its',F,j,_,_,q,_,B,D⟩
 .show HO.lst.inj (h.one h' (λ_ _=>nofun) λ_ _=>nofun)
 .show absurd (I.bs a _ (I.mod.xu a _ j)).2 h.ne
 .show absurd (I.bs a _ (I.mod.xu a _ hk)).2 h'.ne
 .rw[hk]at j;cases j;rw[hd]at q;cases q;show r.inj B p D
def aL.Hx (I:aL X ao T H s)(h:aV X.K H a xs)(h':aV X.K H a ys):xs=ys:=by
 rcases h with h|⟨o,its,n,hk,_,hd,_,r,p⟩ <;> rcases h' with h'|⟨o',its',F,j,_,q,_,B,D⟩
 .show HO.tup.inj (h.one h' (λ_ _=>nofun) λ_ _=>nofun)
 .show absurd (I.bs a _ (I.mod.xu a _ j)).2 h.ne
 .show absurd (I.bs a _ (I.mod.xu a _ hk)).2 h'.ne
 .rw[hk]at j;cases j;rw[hd]at q;cases q;show r.inj B p D
end
abbrev Cx.wish (X:Cx)(E:AB):Cx:={X with xe:=E}
abbrev Cx.xX (X:Cx):Cx:=X.wish λ_ _=>False
def Cx.Ok.wish {X:Cx}(ok:X.Ok)(E:AB):(X.wish E).Ok:=%[ok.mod,ok.kind,ok.glob,ok.blt,ok.above,ok.inj,ok.has,ok.cab,ok.hd,ok.frames,ok.stk,ok.exf,ok.bs,ok.xW,ok.Bj,ok.Fe,ok.nW|ok.Cy]
def Cx.Ok.qj {X:Cx}(ok:(X.wish E).Ok):X.Ok:=%[ok.mod,ok.kind,ok.glob,ok.blt,ok.above,ok.inj,ok.has,ok.cab,ok.hd,ok.frames,ok.stk,ok.exf,ok.bs,ok.xW,ok.Bj,ok.Fe,ok.nW|ok.Cy]
section
variable {X:Cx}{ao:AC}{T:St}{H:Hp}{s:Shared}{E:AB}
def aL.wish (I:aL X ao T H s)(E:AB):aL (X.wish E) ao T H s:=%[I.ok.wish E,I.os,I.bare,I.base,I.loc,I.cell,I.free,I.lV,I.pin,I.hok,I.len,I.gh|I.tk]
def aL.qj (I:aL (X.wish E) ao T H s):aL X ao T H s:=%[I.ok.qj,I.os,I.bare,I.base,I.loc,I.cell,I.free,I.lV,I.pin,I.hok,I.len,I.gh|I.tk]
def SP.qj (h:SP (X.wish E) ao D f s'):SP X ao D f s':=by
 cases f with
 | next=>let(j,H',I,q):=h;show%[3,j,H',I.qj|q]
 | brk=>let(j,H',I,q):=h;show%[3,j,H',I.qj|q]
 | cont=>let(j,H',I,q):=h;show%[3,j,H',I.qj|q]
 | ret u=>let(v,j,H',I,r,q):=h;show%[46,v,j,H',I.qj,r|q]
def oY.xX {st:List Stmt}(h:oY X.xX st t):oY X st t:=λao s T H D I hw=>fm (h ao s T H D (I.wish _) hw) (λ_ _ q=>q.qj) λ_ _ z=>False.elim z
end
section
variable {X:Cx}{st:Stmt}{rest:List Stmt}{t u:TS}{e:Expr}{te:TE}{pos:Pos}
def abp:TS:=λD T H=>D.nx T H
def aej (t u:TS):TS:=λD T H=>t {D with nx:=u D} T H
def abW:oY X [] abp:=λ_ _ T H _ I h=>iN %[3,T,H,I|h]
def Y7 (h1:PS X st t)(j:oY X rest u):oY X (st::rest) (aej t u):=by
 intro ao s T H D I h;calc np (bD (h1 ao s T H {D with nx:=u D} I h) λf s1 q=>?_);cases f with
 | next=>let(B,H',F,q):=q;show j ao s1 B H' D F q
 | ret v=>show q
 | brk=>show q
 | cont=>show q
def abX (h1:PS X st t):oY X [st] t:=by
 intro ao s T H D I h;calc np (bD (h1 ao s T H D I h) λf s1 q=>?_);cases f with| next=>show iN q| ret v=>show q| brk=>show q| cont=>show q
def aL.quiet {ao:AC}{T:St}{H:Hp}{s:Shared}(I:aL X ao T H s):interactive X.env=false:=by simp[interactive,I.ok.kind]
def Cz (te:TE):TS:=λD T H=>te T H λ_ H1=>D.nx T H1
def abY (j:PE X e te)(hs:swapsWith e none pos.line X.env=pure false:=by rfl):PS X (.Expr e pos) (Cz te):=by intro ao s T H D I h;show wpAny_Expr_any (bD (j ao s T H _ I h) λv s1 ⟨x,H1,I1,r1,q1⟩=>%[3,T,H1,I1|q1]) I.quiet hs
def Sy (te:TE):TS:=λD T H=>te T H D.rt
def aek (j:PE X e te):PS X (.Return (some e) pos) (Sy te):=by intro ao s T H D I h;show wpAny_Return_some (bD (j ao s T H _ I h) λv s1 ⟨x,H1,I1,r1,q1⟩=>%[46,x,T,H1,I1,r1|q1])
def ael (c:TT)(t u:TS):TS:=λD T H=>c T H λb H1=>if b=true then t D T H1 else u D T H1
def agA (q:PT X c tc)(ha:oY X a t)(j:oY X b u):PS X (.If c a b pos) (ael tc t u):=by
 intro ao s T H D I h;calc wpAny_If (bD (q ao s T H _ I h) λd s1 B=>?_);let(H1,I1,q1):=B;cases d with| true=>show ha ao s1 T H1 D I1 q1| false=>show j ao s1 T H1 D I1 q1
def Vs:TS:=λ_ _ _=>False
def Vt:oY X sts Vs:=λ_ _ _ _ _ _ h=>h.elim
end
abbrev TG:=V->St->Hp->(St->Hp->Prop)->Prop
abbrev xY:=List V->St->Hp->(St->Hp->Prop)->Prop
def PG (X:Cx)(j:Expr)(t:TG):Prop:=∀(ao:AC) (s:Shared) (I:St) (H:Hp) (v:V) (u:Value) (Q:St->Hp->Prop),aL X ao I H s->bG v u->t v I H Q->
  wpAny (model X.prog X.w) X.A (assign j X.env u) (λ_ s'=>∃q H',aL X ao q H' s'/\Q q H') X.xe s
def Qm (X:Cx)(ts:List Expr)(t:xY):Prop:=∀(ao:AC) (s:Shared) (I:St) (H:Hp) (vs:List V) (us:List Value) (Q:St->Hp->Prop),aL X ao I H s->Vals vs us->t vs I H Q->
  wpAny (model X.prog X.w) X.A (assignInOrder ((assignEach ts X.env).map (·.2)) us) (λ_ s'=>∃j H',aL X ao j H' s'/\Q j H') X.xe s
abbrev aem:=V->V->V->Hp->(Hp->Prop)->Prop
def Y8 (X:Cx)(t:aem):Prop:=∀(ao:AC) (s:Shared) (I:St) (H:Hp) (o i v:V) (j q u:Value) (Q:Hp->Prop),aL X ao I H s->bG o j->bG i q->bG v u->t o i v H Q->
  wpAny (model X.prog X.w) X.A (setItem j q u) (λ_ s'=>∃H',aL X ao I H' s'/\Q H') X.xe s
section
variable {X:Cx}{pos:Pos}
def nZ (i:Nat):TG:=λv T H Q=>Q (T.set i (some v)) H
def o9 (N:X.N.Nodup)(hi:X.N[i]?=some x)(hx:Loc X.env.scope x)(hf:X.fn x=true\/X.env.scope.names.lookup x=some .local:=by first|show .inl rfl|show .inr rfl|assumption):PG X (.Name x pos) (nZ i):=by intro ao s T H v u Q I r h;show sf (vO I N hi hx r (λs' j=>%[3,_,H,j|h]) hf)
def SJ:xY:=λvs T H Q=>vs=[]/\Q T H
def vP (t:TG)(u:xY):xY:=λvs T H Q=>∃v r,vs=v::r/\t v T H λj H'=>u r j H' Q
def Fg:Qm X [] SJ:=by intro ao s T H vs us Q I r h;let(e,h):=h;subst e;cases r;show assignInOrder_nil %[3,T,H,I|h]
def o_ (h1:PG X e t)(q:Qm X es u)(hs:(assignEach (e::es) X.env).map (·.2)=assign e X.env::(assignEach es X.env).map (·.2):=by rfl):Qm X (e::es) (vP t u):=by
 intro ao s T H vs us Q I r h;let(v,vr,e1,h):=h;subst e1;cases r with| cons r rr=>rw[hs];calc assignInOrder_cons (bD (h1 ao s T H _ _ _ I r h) λ_ s1 B=>?_);let(j,H1,I1,q1):=B;show q ao s1 j H1 _ _ Q I1 rr q1
def SM (K:W.Frag)(n:Nat)(t:xY):TG:=λv T H Q=>∃a xs,v=.ref a/\aV K H a xs/\xs.length=n/\t xs T H Q
def Ky {es:List Expr}{k:Nat}{t:xY}{n:Nat}(G:X.calm=true)(h:Qm X es t)(hn:(assignEach es X.env).length=n:=by rfl)(j:(assignEach es X.env).findIdx? (·.1)=none:=by rfl):PG X (.Tuple es k pos) (SM X.K n t):=by intro ao s T H v u Q I r hw;let(a,xs,e1,F,D,hw):=hw;subst e1;cases r;let(its,q,B,hz):=I.tuple F;calc assign_Tuple_tuple (I.ok.hd G) B (by simp[hn,<-D,q.length]) j λh' hx=>?_;let I1:aL X ao T H {s with heap:=h' }:=I.kept (t':=s.toks) λb o e=>hx b o (a_ (a7 e)) e;show h ao _ T H xs _ Q I1 (by simpa using q) hw
def aen (to ti:TE)(t:aem):TG:=λv T H Q=>to T H λo H1=>ti T H1 λi q=>t o i v q λj=>Q T j
def aeo (J:PE X o to)(hi:PE X i ti)(hs:Y8 X t)(ha:∀v,assign (.Subscript o i pos) X.env v=(do
   let j <- holding [v] (eval o X.env)
   let B <- holding [v,j] (eval i X.env)
   standAt pos
   holding [v,j,B] (setItem j B v)
   release [v,j,B] []):=by intro _;rfl):PG X (.Subscript o i pos) (aen to ti t):=by
 intro ao s T H v u Q I r h;rw[ha];calc aa (eD (bD (J ao s T H _ I h) λj s1 q=>?_));let(x,H1,I1,r1,q1):=q;calc aa (eD (bD (hi ao s1 T H1 _ I1 q1) λB s2 q=>?_));let(y,G,I2,D,q2):=q;calc aa (sF (aa (eD (bD (hs ao s2 T G x y v j B u _ I2 r1 D r q2) λ_ M q=>?_))));let(F,L,q3):=q;show wpAny_release %[3,T,F,L|q3]
def Fi (te:TE)(g:TG):TS:=λD T H=>te T H λx H1=>g x T H1 D.nx
def aep (j:PE X e te)(F:PG X tg g)(hs:swapsWithSole [tg] e pos.line X.env=pure false:=by rfl)(hw:swappedStores [tg] e X.env=pure none:=by rfl)(h1:(assignEach [tg] X.env).map (·.2)=[assign tg X.env]:=by rfl):PS X (.Assign [tg] e pos) (Fi te g):=by intro ao s T H D I h;calc wpAny_Assign_stores (bD (j ao s T H _ I h) λv s1 B=>?_) hs hw;let(x,H1,I1,r1,q1):=B;rw[h1];show bD (F ao s1 T H1 x v _ I1 r1 q1) λ_ s2 q=>q
def aer (N:X.N.Nodup)(hi:X.N[i]?=some x)(hx:Loc X.env.scope x)(j:PE X e te)(hs:swapsWith e (some (.Name x pos')) pos.line X.env=pure false:=by rfl)(hf:X.fn x=true\/X.env.scope.names.lookup x=some .local:=by first|show .inl rfl|show .inr rfl|assumption):PS X (.Assign [.Name x pos'] e pos) (Fi te (nZ i)):=by intro ao s T H D I h;calc v_ (bD (j ao s T H _ I h) λv s1 q=>?_) hs;let(y,H1,I1,r1,q1):=q;show vO I1 N hi hx r1 (λs2 I2=>%[3,_,H1,I2|q1]) hf
def Vu (c:TT)(tb:TS):TS:=λD T H=>∃W:Nat->St->Hp->Prop,(∃m,W m T H)/\∀m T H,W m T H->
 c T H λb H1=>if b=true then ∃N:St->Hp->Prop,(∀j H',N j H'->∃q,q<m/\W q j H')/\tb {D with nx:=N,ct:=N,bk:=D.nx} T H1 else D.nx T H1
def Y9 (hp:PassesOwn (model X.prog X.w) X.A X.env X.xe)(hc:PT X c tc)(hb:oY X body tb):PS X (.While c body [] pos) (Vu tc tb):=by
 intro ao s T H D I h;let(W,(m0,Z),q):=h;calc wpAny_While (codeAny_whileLoop (λn s'=>∃Y H',aL X ao Y H' s'/\W n Y H') ?_ m0 %[3,T,H,I|Z]);intro n s1 z;let(B,H1,I1,w1):=z;calc ee hp (bD (hc ao s1 B H1 _ I1 (q n B H1 w1)) λb s2 zz=>?_);let(O,I2,q2):=zz;cases b with
 | true=>
  let(N,M,q2):=q2;rw[if_pos rfl];calc ee hp (bD (hb ao s2 B O _ I2 q2) λf s3 q3=>?_);cases f with
  | next=>let(T3,j,L,G):=q3;let(F,hm,J):=M T3 j G;show%[20,F,hm,T3,j,L|J]
  | cont=>let(T3,j,L,G):=q3;let(F,hm,J):=M T3 j G;show%[20,F,hm,T3,j,L|J]
  | brk=>show q3
  | ret v=>show q3
 | false=>rw[if_neg b7];show iN %[3,B,O,I2|q2]
end
structure It where
 go:Nat->Hp->Prop
 Hy:Nat->Hp->V->Hp->Prop
 stop:Nat->Hp->Prop
def lE (X:Cx)(ao:AC)(H:Hp)(b:Addr):Prop:=H b=none/\b≠X.env.locals/\b∉X.fs/\(b∈X.ex\/X.s₀.heap.objs.size<=b)/\(∀x c,X.env.cells.lookup x=some c->c≠b)/\∀p∈X.pn++ao,p.1≠b
def aL.nu {X:Cx}{ao:AC}{T:St}{H H':Hp}{s:Shared}{b:Addr}(I:aL X ao T H s)(j:s.heap.objs.size<=b)(hn:H' b=none):lE X ao H' b:=by
 refine%[hn,g9 (bt I.lt j),I.ahk j,.inr (ay I.sz j),λx c e z=>?_|λp hp z=>?_]
 .let(v,q):=I.cell x c e;show absurd (bt q.lt (by rw[z];show j)) (lv _)
 .show absurd (bt (a7 (I.pin p hp).1) (by rw[z];show j)) (lv _)
structure Turn (P:Program)(w:World)(K:W.Frag)(tg:Expr)(J:It)(fp:List Addr)(it:Addr)(tn:Nat->Heap->Prop):Prop where
 mem:it∈fp
 obj:∀i h,tn i h->∀b∈fp,∃o,h.get? b=some o/\∀v,o.data≠.cell v
 keep:∀i h h',tn i h->(∀b∈fp,∀o,h.get? b=some o->h'.get? b=some o)->tn i h'
 item:∀(X:Cx),X.prog=P->X.w=w->X.K=K->X.calm=true->∀(i:Nat) (ao:AC) (s:Shared) (σ:St) (H:Hp) (E:AB),aL X ao σ H s->(∀b∈fp,lE X ao H b)->tn i s.heap->J.go i H->
  wpAny (model P w) X.A (pyNext (.ref it)) (λr s1=>∃u,r=some u/\
   wpAny (model P w) X.A (letOwnedTupleGo tg (.ref it) u) (λ_ s2=>∃x H',aL X ao σ H' s2/\bG x u/\J.Hy i H x H'/\tn (i+1) s2.heap/\∀b∈fp,H' b=none) E s1) E s
 done:∀(X:Cx),X.prog=P->X.w=w->X.K=K->X.calm=true->∀(i:Nat) (ao:AC) (s:Shared) (σ:St) (H:Hp) (E:AB),aL X ao σ H s->(∀b∈fp,lE X ao H b)->tn i s.heap->J.stop i H->
  wpAny (model P w) X.A (pyNext (.ref it)) (λr s1=>r=none/\aL X ao σ H s1) E s
 self:∀(A:Around) (i:Nat) (s:Shared) (Q:AB) (E:AB),tn i s.heap->Q (.ref it) s->wpAny (model P w) A (pyIter (.ref it)) Q E s
abbrev TI:=St->Hp->(It->Hp->Prop)->Prop
def PIE (X:Cx)(ao:AC)(I:St)(tg:Expr)(R:It->Hp->Prop)(j:Value)(s2:Shared):Prop:=∃(it:Addr) (fp:List Addr) (tn:Nat->Heap->Prop) (J:It) (H':Hp),j=.ref it/\aL X ao I H' s2/\Turn X.prog X.w X.K tg J fp it tn/\tn 0 s2.heap/\(∀b∈fp,lE X ao H' b)/\R J H'
def PI (X:Cx)(tg iter:Expr)(wi:TI):Prop:=∀(ao:AC) (s:Shared) (I:St) (H:Hp) (R:It->Hp->Prop),aL X ao I H s->wi I H R->
  wpAny (model X.prog X.w) X.A (eval iter X.env) (λv s1=>wpAny (model X.prog X.w) X.A (pyIter v) (PIE X ao I tg R) X.xe s1) X.xe s
def zL {s : Shared}(q : s.heap.get? it = some o)(B : o.cls = .type n)(hd : o.data = .fields vs)(hn : ["enumerate", "zip", "dict_itemiterator", "dict_reverseitemiterator", "odict_iterator", "itertools.zip_longest", "itertools.pairwise"].contains n = false)(j : Q () s) : wpAny M A (letOwnedTupleGo tg (.ref it) u) Q E s := by
  unfold letOwnedTupleGo;cases tg <;> first
    | show ae j
    | (cases u <;> first
        | show ae j
        | (refine aa (wpAny_load q ?_)
           rw[B, hd];show wpAny M A (if (["enumerate", "zip", "dict_itemiterator", "dict_reverseitemiterator", "odict_iterator", "itertools.zip_longest", "itertools.pairwise"].contains n&&vs[0]? == some (rawInt _)) = true then _ else _) Q E s;rw[if_neg (by intro h; rw[hn, ga]at h; cases h)];show ae j))
abbrev ItS (Sq:Hp->List V->Prop):It:=%[λi H=>∃xs x,Sq H xs/\xs[i]?=some x,λi H x H'=>H'=H/\∀xs,Sq H xs->xs[i]?=some x|λi H=>∃xs,Sq H xs/\xs.length<=i]
def Itl (K:W.Frag)(a:Addr):It:=ItS λH=>aN K H a
def Itt (K:W.Frag)(a:Addr):It:=ItS λH=>aV K H a
def Qn (lo:Int)(n:Nat):It:=%[λi _=>i<n,λi H x H'=>H'=H/\x=.int (lo+i)|λi _=>n<=i]
def Vv {P:Program}{w:World}{K:W.Frag}{tg:Expr}(a it:Addr):Turn P w K tg (Itl K a) [it] it (λi h=>h.IsListIter it a i) where
 mem:=by simp
 obj:=λi h st b j=>by
  let e:b=it:=by simpa using j
  subst e;let(o,e,c,d):=st;show%[0,o,e|λv z=>by rw[d]at z;cases z]
 keep:=λi h h' st k=>st.at λo e=>k it xp o e
 item:=by intro X B hw F J i ao s T H E I hf st G;subst B hw F;let(xs,x,q,hx):=G;let(its,D,p,hz):=I.list q;let(u,N,L):=D.get hx;walk_at"k";calc wpAny_pyNext_list_item st p.isList (x:=u) (by simpa using N) λh' st' O=>?_;let I1:aL X ao T H {s with heap:=h' }:=I.turned (t':=s.toks) (λb o j e=>(O.2 b j).trans e) f0 f1 f3 f4 f5;let(o,e,c,d):=id st';show%[0,u,rb|zL (s:={s with heap:=h' }) e c d xt %[18,x,H,I1,L,%[rb|λys M=>by rw[I.Kw M q];show hx],st'|λb j=>(hf b j).1]]
 done:=by intro X B hw F J i ao s T H E I hf st G;subst B hw F;let(xs,q,hx):=G;let(its,D,p,hz):=I.list q;walk_at"k";let Z:=D.length;show wpAny_pyNext_list_end (I.ok.hd J) st p.isList (by simp;simp_all) λh' Y=>%[rb|I.turned (t':=s.toks) (λb o j e=>Y b o j e) f0 f1 f3 f4 f5]
 self:=λ_ _ _ _ _ st h=>wpAny_pyIter_listiter st h
def SN {P:Program}{w:World}{K:W.Frag}{tg:Expr}(a it:Addr):Turn P w K tg (Itt K a) [it] it (λi h=>h.IsTupleIter it a i) where
 mem:=by simp
 obj:=λi h st b j=>by
  let e:b=it:=by simpa using j
  subst e;let(o,e,c,d):=st;show%[0,o,e|λv z=>by rw[d]at z;cases z]
 keep:=λi h h' st k=>st.at λo e=>k it xp o e
 item:=by intro X B hw F J i ao s T H E I hf st G;subst B hw F;let(xs,x,q,hx):=G;let(its,D,p,hz):=I.tuple q;let(u,N,L):=D.get hx;walk_at"k";calc wpAny_pyNext_tuple_item st (show s.heap.IsTuple a its.toArray from p) (x:=u) (by simpa using N) λh' st' O=>?_;let I1:aL X ao T H {s with heap:=h' }:=I.turned (t':=s.toks) (λb o j e=>(O.2 b j).trans e) f0 f1 f3 f4 f5;let(o,e,c,d):=id st';show%[0,u,rb|zL (s:={s with heap:=h' }) e c d xt %[18,x,H,I1,L,%[rb|λys M=>by rw[I.Hx M q];show hx],st'|λb j=>(hf b j).1]]
 done:=by intro X B hw F J i ao s T H E I hf st G;subst B hw F;let(xs,q,hx):=G;let(its,D,p,hz):=I.tuple q;walk_at"k";let Z:=D.length;show wpAny_pyNext_tuple_end (I.ok.hd J) st (show s.heap.IsTuple a its.toArray from p) (by simp;lia) λh' Y=>%[rb|I.turned (t':=s.toks) (λb o j e=>Y b o j e) f0 f1 f3 f4 f5]
 self:=λ_ _ _ _ _ st h=>wpAny_pyIter_tupleiter st h
def SQ {P:Program}{w:World}{K:W.Frag}{tg:Expr}(it:Addr)(lo:Int)(n:Nat):Turn P w K tg (Qn lo n) [it] it (λi h=>IsRangeIter h it (lo+(i:Nat)*1) ((n:Int)-(i:Nat)) 1) where
 mem:=by simp
 obj:=λi h st b j=>by
  let e:b=it:=by simpa using j
  subst e;show%[0,_,st|λv z=>by let G:Data.fields _=Data.cell v:=z;cases G]
 keep:=λi h h' st k=>k it xp _ st
 item:=by intro X q hw B D i ao s T H E I hf st F;subst q hw B;walk_at"k";let W:=Walks.range (prog:=X.prog) (w:=X.w) (I.ok.hd D) it lo 1 n;calc cj (W.item i s _ _ F st λv h' tk hv st' J M=>?_);let(t,rfl):=hv;let I1:aL X ao T H {s with heap:=h',toks:=tk}:=I.turned (λb o j e=>J b o (by simpa using j) e) f0 f1 f3 f4 f5;calc%[0,_,rb|zL (s:={s with heap:=h',toks:=tk}) (n:="range_iterator") st' rb rb xt %[18,.int (lo+i),H,I1,%[t|?_],%[rb|rb],st'|λb j=>(hf b j).1]];rw[Int.mul_one]
 done:=by intro X q hw B D i ao s T H E I hf st F;subst q hw B;walk_at"k";show wpAny_pyNext_range_end (I.ok.hd D) st (by have:n<=i:=F;lia) λh' L=>%[rb|I.turned (t':=s.toks) (λb o j e=>L b o j e) f0 f1 f3 f4 f5]
 self:=λ_ _ _ _ _ st h=>wpAny_pyIter_rangeiter st h
section
variable {X:Cx}{tg:Expr}
def CG (K:W.Frag)(tl:TE):TI:=λC H R=>tl C H λx H1=>∃a,x=.ref a/\(∃xs,aN K H1 a xs)/\R (Itl K a) H1
def aes (K:W.Frag)(tl:TE):TI:=λC H R=>tl C H λx H1=>∃a,x=.ref a/\(∃xs,aV K H1 a xs)/\R (Itt K a) H1
def abZ (j:PE X l tl):PI X tg l (CG X.K tl):=by
 intro ao s C H R I h;calc bD (j ao s C H _ I h) λv s1 B=>?_;let(x,H1,I1,r1,q1):=B;let(a,e,(xs,F),q):=q1;subst e;cases r1;let(its,G,p,hz):=I1.list F;calc oI p.isList ?_;calc%[12,s1.heap.objs.size,[s1.heap.objs.size],_,_,H1,rb,I1.kept (t':=s1.toks) λb o e=>af _ e,Vv a _,%[2,_,aw _ rb,rb|rb],λb D=>?_|q];let e:b=s1.heap.objs.size:=by simpa using D
 subst e;show I1.nu (ah _) (I1.hok.fresh (ah _))
def aeu (j:PE X l tl):PI X tg l (aes X.K tl):=by
 intro ao s C H R I h;calc bD (j ao s C H _ I h) λv s1 B=>?_;let(x,H1,I1,r1,q1):=B;let(a,e,(xs,F),q):=q1;subst e;cases r1;let(its,G,p,hz):=I1.tuple F;calc oj (show s1.heap.IsTuple a its.toArray from p) ?_;calc%[12,s1.heap.objs.size,[s1.heap.objs.size],_,_,H1,rb,I1.kept (t':=s1.toks) λb o e=>af _ e,SN a _,%[2,_,aw _ rb,rb|rb],λb D=>?_|q];let e:b=s1.heap.objs.size:=by simpa using D
 subst e;show I1.nu (ah _) (I1.hok.fresh (ah _))
def Y_ {ao:AC}{C:St}{H:Hp}{s:Shared}{R:It->Hp->Prop}{E:AB}{lo hi:Int}{t u v:Tok}{tk:Nat}(I:aL X ao C H s)(h1:-(2^62)<=lo)(j:lo<2^62)(B:-(2^62)<=hi)(F:hi<2^62)(q:R (Qn lo (hi-lo).toNat) H)(G:s.toks<=tk:=by first|show ah _|assumption|show du _|lia):wpAny (model X.prog X.w) X.A (pyIter (.ref s.heap.objs.size)) (PIE X ao C tg R) E {s with heap:=s.heap.push {cls:=.type "range",data:=.fields #[.int lo t,.int hi u,.int 1 v]},toks:=tk}:=by
 calc wpAny_pyIter_range (IsRange.new ..) (small_one h1 j B F) ?_;let I1:aL X ao C H {s with heap:=s.heap.push {cls:=.type "range",data:=.fields #[.int lo t,.int hi u,.int 1 v]},toks:=tk}:=I.kept λb o e=>af _ e;refine%[12,(s.heap.push {cls:=.type "range",data:=.fields #[.int lo t,.int hi u,.int 1 v]}).objs.size,[(s.heap.push {cls:=.type "range",data:=.fields #[.int lo t,.int hi u,.int 1 v]}).objs.size],_,_,H,rb,
  I1.kept (t':=tk) λb o e=>af _ e,SQ _ lo (hi-lo).toNat,?_,λb D=>?_|q]
 .let e1:lo+((0:Nat):Int)*1=lo:=xp;let e2:(((hi-lo).toNat:Nat):Int)-((0:Nat):Int)=Builtin.Range.rangeSize lo hi 1:=by rw[rangeSize_one];split <;> lia
  show IsRangeIter _ _ (lo+((0:Nat):Int)*1) ((((hi-lo).toNat:Nat):Int)-((0:Nat):Int)) 1;rw[e1,e2];show aw _ rfl
 .let e:b=(s.heap.push {cls:=.type "range",data:=.fields #[.int lo t,.int hi u,.int 1 v]}).objs.size:=by simpa using D
  subst e;show I1.nu (ah _) (I1.hok.fresh (ah _))
def abq (ta:TA):TI:=λC H R=>ta C H λvs H1=>∃j:Int,vs=[.int j]/\-(2^62)<=j/\j<2^62/\R (Qn 0 j.toNat) H1
def Vw (D:Gl X "range")(hm:X.mg "range"=none)(ha:PA X [a] ta)(hs:starEach [a] X.env=[(false,eval a X.env)]:=by rfl):PI X tg (.Call (.Name "range" p) [a] [] pos) (abq ta):=by
 intro ao s C H R I h;calc Call_ (qg I D hm boot_range (iO (bD (ha pos ao s C H _ I h) λus s1 B=>?_) hs rb));let(vs,H1,I1,r1,q1):=B;let(j,e,q1,q2,q):=q1;subst e;cases r1 with| cons r rr=>cases rr;let(t,rfl):=r;show call_range_1 (Y_ I1 xo xo q1 q2 (by simpa using q))
abbrev Fj (J:It)(g:TG)(tb:TS)(D:Ends)(C:St)(H:Hp):Prop:=∃W:Nat->Nat->St->Hp->Prop,(∃m,W 0 m C H)/\∀i m C H,W i m C H->
 (J.stop i H/\D.nx C H)\/(J.go i H/\∃N:St->Hp->Prop,(∀C' H',N C' H'->∃m',m'<m/\W (i+1) m' C' H')/\∀x H',J.Hy i H x H'->g x C H' λC2 H2=>tb {D with nx:=N,ct:=N,bk:=D.nx} C2 H2)
def aev (wi:TI)(g:TG)(tb:TS):TS:=λD C H=>wi C H λJ H1=>Fj J g tb D C H1
def SX {J:It}{g:TG}{tb:TS}{D:Ends}{C:St}{H:Hp}(n:Nat)(q:Nat->St->Hp->Prop)(N:q 0 C H)(B:∀i C H,i<n->q i C H->J.go i H/\∀x H',J.Hy i H x H'->g x C H' λG M=>tb {D with nx:=q (i+1),ct:=q (i+1),bk:=D.nx} G M)(F:∀C H,q n C H->J.stop n H/\D.nx C H):Fj J g tb D C H:=by
 calc%[0,λi m C H=>m=n-i/\i<=n/\q i C H,%[2,n,xp,b8 _|N]|?_];intro i m C H z;let(rfl,hi,p):=z;by_cases j:i<n;.show .inr %[8,(B i C H j p).1,q (i+1),λO H' L=>%[11,n-(i+1),uv j (e_ _),rb,j|L]|(B i C H j p).2]
 .let e:i=n:=xo;subst e;show .inl (F C H p)
def abr {B:Hp->List V->Prop}{xs:List V}{g:TG}{tb:TS}{D:Ends}{C:St}{H:Hp}(j:Nat->St->Hp->Prop)(J:j 0 C H)(q:∀i C H,i<=xs.length->j i C H->B H xs)(hs:∀i x C H,xs[i]?=some x->j i C H->g x C H λF G=>tb {D with nx:=j (i+1),ct:=j (i+1),bk:=D.nx} F G)(hd:∀C H,j xs.length C H->D.nx C H):Fj (ItS B) g tb D C H:=SX xs.length j J (λi C H h p=>%[%[3,xs,xs[i],q i C H (av h) p|by simp[h]]|λx H' ⟨e,y⟩=>by subst e;show hs i x C _ (y xs (q i C _ (av h) p)) p]) λC H p=>%[%[0,xs,q _ C H (ah _) p|ah _]|hd C H p]
def uT (fp:List Addr)(h:Heap):List (Addr×Obj):=fp.filterMap λb=>(h.get? b).map λo=>(b,o)
def lW {h:Heap}(j:b∈fp)(e:h.get? b=some o):(b,o)∈uT fp h:=md.mpr %[0,b,j|by rw[e];rfl]
def Vx (hp:p∈uT fp h):p.1∈fp/\h.get? p.1=some p.2:=by
 let(b,j,e):=md.mp hp;cases q:h.get? b with
 | none=>rw[q]at e;cases e
 | some o=>rw[q]at e;let B:(b,o)=p:=bg e;subst B;show%[j|q]
def aL.pinned {ao:AC}{C:St}{H:Hp}{s:Shared}{fp:List Addr}(I:aL X ao C H s)(hf:∀b∈fp,lE X ao H b)(B:∀b∈fp,∃o,s.heap.get? b=some o/\∀v,o.data≠.cell v):aL X (ao++uT fp s.heap) C H s:=
 I.Ql λp hp=>(a6.mp hp).elim (λz=>I.pin p (cS _ z)) λz=>by let(j,e):=Vx z;let(f0,f1,f2,_):=hf p.1 j;let(o,q,d):=B p.1 j;rw[e]at q;cases q;show%[e,f0,f1,f2|d]
def aL.jm {ao pl:AC}{C:St}{H:Hp}{s:Shared}(I:aL X (ao++pl) C H s):aL X ao C H s:=I.Ql λp hp=>I.pin p (cS _ (mI _ hp))
def aew (hp:PassesOwn (model X.prog X.w) X.A X.env X.xe)(hc:X.calm=true)(hi:PI X tg iter wi)(hg:PG X tg g)(B:oY X body tb)(hs:∀x,foldedSetIterable iter X.env x=pure x:=by intro _;rfl):PS X (.For tg iter body [] pos) (aev wi g tb):=by
 intro ao s C H D I h;calc wpAny_For (bD (hi ao s C H _ I h) λv s1 h1=>bD h1 λitv s2 h2=>?_) hs;let(it,fp,tn,J,H2,e,I2,T,st2,f2,W,(m0,w0),M):=h2;subst e;let G:∀{H':Hp},(∀b∈fp,H' b=none)->∀b∈fp,lE X ao H' b:=λhn b B=>%[hn b B|(f2 b B).2]
 calc uA (λn s'=>∃i Z H',aL X ao Z H' s'/\tn i s'.heap/\(∀b∈fp,H' b=none)/\W i n Z H') ?_ m0 %[29,0,C,H2,I2,st2,λb B=>(f2 b B).1|w0];intro n s3 z;let(i,C3,H3,I3,st3,Qo,w3):=z;rcases M i n C3 H3 w3 with⟨stop,qn⟩|⟨go,N,hN,step⟩
 .calc ee hp (bD (T.done X rb rb rb hc i ao s3 C3 H3 X.xe I3 (G Qo) st3 stop) λr s4 ⟨hr,I4⟩=>?_);subst hr;show iN %[3,C3,H3,I4|qn]
 .calc ee hp (bD (T.item X rb rb rb hc i ao s3 C3 H3 X.xe I3 (G Qo) st3 go) λr s4 O=>?_);let(u,hr,h4):=O;subst hr;calc ee hp (bD h4 λ_ s5 O=>?_);let(x,H5,I5,r5,y5,Kz,fr5):=O;let I5':=I5.pinned (G fr5) (T.obj _ _ Kz);calc ee hp (bD (hg _ s5 C3 H5 x u _ I5' r5 (step x H5 y5)) λ_ s6 O=>?_);let(C6,H6,I6,q6):=O;calc ee hp (bD (B _ s6 C6 H6 _ I6 q6) λf s7 q7=>?_);let j:∀{L:St} {q:Hp},aL X (ao++uT fp s5.heap) L q s7->N L q->∃m,m<n/\∃i Z H',aL X ao Z H' s7/\tn i s7.heap/\(∀b∈fp,H' b=none)/\W i m Z H':=λ{L q} F Y=>by
   let(m',hm,w7):=hN L q Y;calc%[34,m',hm,i+1,L,q,F.jm,T.keep _ _ _ Kz λb B o e=>(F.pin (b,o) (cS _ (cS _ (lW B e)))).1,λb B=>?_|w7];let(o,e,d):=T.obj _ _ Kz b B;show(F.pin (b,o) (cS _ (cS _ (lW B e)))).2.1
  cases f with
  | next=>let(L,q,F,Y):=q7;show j F Y
  | cont=>let(L,q,F,Y):=q7;show j F Y
  | brk=>let(L,q,F,q7):=q7;show%[3,L,q,F.jm|q7]
  | ret v=>let(x7,L,q,F,r7,q7):=q7;show%[46,x7,L,q,F.jm,r7|q7]
end
def fX {K:W.Frag}{a:Addr}:=@abr λH=>aN K H a
def Fl {K:W.Frag}{a:Addr}:=@abr λH=>aV K H a
def ql {lo:Int}{n:Nat}{g:TG}{tb:TS}{D:Ends}{I:St}{H:Hp}(j:Nat->St->Hp->Prop)(B:j 0 I H)(hs:∀i I H,i<n->j i I H->g (.int (lo+i)) I H λI2 q=>tb {D with nx:=j (i+1),ct:=j (i+1),bk:=D.nx} I2 q)(hd:∀I H,j n I H->D.nx I H):Fj (Qn lo n) g tb D I H:=SX n j B (λi I H h p=>%[h|λx H' y=>by let(rfl,rfl):=y;show hs i I _ h p]) λI H p=>%[ah _|hd I H p]
abbrev R2:=V->V->Hp->VK->Prop
def fJ (X:Cx)(f:Value->Value->Sem Value)(r:R2):Prop:=∀(ao:AC) (s:Shared) (I:St) (H:Hp) (x y:V) (v u:Value) (Q:VK),aL X ao I H s->bG x v->bG y u->r x y H Q->
  wpAny (model X.prog X.w) X.A (f v u) (EP X ao I Q) X.xe s
def d8 (X:Cx)(f:Value)(r:List V->Hp->VK->Prop):Prop:=∀(ao:AC) (s:Shared) (I:St) (H:Hp) (xs:List V) (us:List Value) (Q:VK),aL X ao I H s->Vals xs us->r xs H Q->
  wpAny (model X.prog X.w) X.A (call f us) (EP X ao I Q) X.xe s
def qO (r:R2)(ta tb:TE):TE:=λI H Q=>ta I H λx H1=>tb I H1 λy j=>r x y j Q
def rI (C:Int->Int->Prop)(g:Int->Int->V):R2:=λx y H Q=>∃i j,x=.int i/\y=.int j/\C i j/\Q (g i j) H
def Hz (g:Int->Int->V):R2:=λx y H Q=>∃i j,x=.int i/\y=.int j/\Q (g i j) H
section
variable {X:Cx}{a b:Expr}{ta tb:TE}{pos:Pos}
def Za (ha:PE X a ta)(F:PE X b tb){ao:AC}{s:Shared}{T:St}{H:Hp}{R:V->V->Hp->Prop}(I:aL X ao T H s)(h:ta T H λx H1=>tb T H1 λy j=>R x y j){Q:AB}{f:Value->Value->Sem Value}(hf:∀v u s2 x y j,aL X ao T j s2->bG x v->bG y u->R x y j->wpAny (model X.prog X.w) X.A (f v u) Q X.xe s2):wpAny (model X.prog X.w) X.A (eval a X.env) (λv G=>wpAny (model X.prog X.w) X.A (eval b X.env) (λu B=>wpAny (model X.prog X.w) X.A (f v u) Q X.xe B) X.xe G) X.xe s:=by calc bD (ha ao s T H _ I h) λv s1 q=>?_;let(x,H1,I1,r1,q1):=q;calc bD (F ao s1 T H1 _ I1 q1) λu s2 q=>?_;let(y,j,I2,D,q2):=q;show hf v u s2 x y j I2 r1 D q2
def agB (D:fJ X (binaryOp op) r)(ha:PE X a ta)(j:PE X b tb):PE X (.BinOp a op b pos) (qO r ta tb):=by intro ao s T H Q I h;show wpAny_BinOp (Za ha j I h λv u s2 x y B I2 F G q=>D ao s2 T B x y v u Q I2 F G q)
def opI {f:Value->Value->Sem Value}{C:Int->Int->Prop}{g:Int->Int->Int}(B:∀(i j:Int) (t u:Tok) (s:Shared) (Q:AB) (E:AB),C i j->Q (.int (g i j) s.toks) {s with toks:=s.toks+1}->wpAny (model X.prog X.w) X.A (f (.int i t) (.int j u)) Q E s):fJ X f (rI C λi j=>.int (g i j)):=by intro ao s T H x y v u Q I F G h;let(i,j,rfl,rfl,D,q):=h;let(t,rfl):=F;let(t',rfl):=G;show B i j t t' s _ _ D %[1,.int (g i j),H,I.tok _,%[_|rb]|q]
def aex {f:Value->Value->Sem Value}{g:Int->Int->Int}(B:∀(i j:Int) (t u:Tok) (s:Shared) (Q:AB) (E:AB),Q (.int (g i j) s.toks) {s with toks:=s.toks+1}->wpAny (model X.prog X.w) X.A (f (.int i t) (.int j u)) Q E s):fJ X f (Hz λi j=>.int (g i j)):=by intro ao s T H x y v u Q I D F h;let(i,j,rfl,rfl,q):=h;let(t,rfl):=D;let(t',rfl):=F;show B i j t t' s _ _ %[1,.int (g i j),H,I.tok _,%[_|rb]|q]
def S7 {f:Value->Value->Sem Value}{g:Int->Int->Bool}(B:∀(i j:Int) (t u:Tok) (s:Shared) (Q:AB) (E:AB),Q (.bool (g i j)) s->wpAny (model X.prog X.w) X.A (f (.int i t) (.int j u)) Q E s):fJ X f (Hz λi j=>.bl (g i j)):=by intro ao s T H x y v u Q I D F h;let(i,j,rfl,rfl,q):=h;let(t,rfl):=D;let(t',rfl):=F;show B i j t t' s _ _ %[1,.bl (g i j),H,I,rb|q]
def aey (i j:Int):Prop:=0<j/\j<1073741824
def Zb (i j:Int):Prop:=(-(2^64)<i/\i<2^64)\/(-(2^64)<j/\j<2^64)
def Zb.ok (h:Zb i j):IntMulOk i j:=by
 rcases h with⟨h1,q⟩|⟨h1,q⟩;.show .of_left (intBits_le_64 h1 q)
 .show .of_right (intBits_le_64 h1 q)
def cu:fJ X (binaryOp .Add) (Hz λi j=>.int (i+j)):=aex λ_ _ _ _ _ _ _ q=>add_int q
def fK:fJ X (binaryOp .Sub) (Hz λi j=>.int (i-j)):=aex λ_ _ _ _ _ _ _ q=>sub_int q
def fY:fJ X (binaryOp .Mult) (rI Zb λi j=>.int (i*j)):=opI λ_ _ _ _ _ _ _ B q=>mul_int q B.ok
def dj:fJ X (binaryOp .FloorDiv) (rI aey λi j=>.int (i/j)):=opI λi j _ _ _ _ _ B q=>by let h1:(0:Int)<j:=B.1;let D:j<1073741824:=B.2;show floordiv_int xo (by rw[Int.fdiv_eq_ediv_of_nonneg i (Int.le_of_lt h1)];show q) (.inl (PyProof.noPylong_small (by grind)))
def cA:fJ X (binaryOp .Mod) (rI (λ_ j=>0<j) λi j=>.int (i%j)):=opI λi j _ _ _ _ _ B q=>by let h1:(0:Int)<j:=B;show mod_int' xo (by rw[Int.fmod_eq_emod_of_nonneg i xo];show q)
end
noncomputable def aez:V->V->Bool
 | .non,.non=>true|.non,.int _=>true|.int _,.non=>true|.non,.bl _=>true|.bl _,.non=>true|.non,.str _=>true|.str _,.non=>true
 | .int _,.int _=>true|.bl _,.bl _=>true|.str _,.str _=>true|.xr _,.xr _=>true
 | .int _,.str _=>true|.str _,.int _=>true|.bl _,.str _=>true|.str _,.bl _=>true
 | _,_=>false
def rEq:R2:=λx y H Q=>aez x y=true/\Q (.bl (decide (x=y))) H
def rNe:R2:=λx y H Q=>aez x y=true/\Q (.bl (!decide (x=y))) H
def Qp:decide (V.int i=V.int j)=(i==j):=by rw[gN];simp
def Vy:decide (V.bl i=V.bl j)=(i==j):=by rw[gN];simp
def Qq:decide (V.str i=V.str j)=(i==j):=by rw[gN];simp
def Qs:decide (V.xr i=V.xr j)=(i.toList==j.toList):=by rw[gN];cases i;cases j;simp
section
variable {X:Cx}{a b c:Expr}{ta tb tc:TE}{pos:Pos}
def cP {ao:AC}{T:St}{H:Hp}{s:Shared}{Q:VK}{k j:Bool}(I:aL X ao T H s)(q:Q (.bl k) H)(e:k=j):EP X ao T Q (.bool j) s:=by subst e;show%[1,.bl k,H,I,rb|q]
def jA:fJ X (compareOp .Eq) rEq:=by
 intro ao s T H x y v u Q I D B h;let(hs,q):=h;cases x with
 | non=>
  cases D;cases y with
  | non=>cases B;show PySem.EqNone.eq_none_none (cP I q xp)
  | bl j=>cases B;show PySem.EqNone.eq_none_bool (cP I q xp)
  | int j=>let(t',rfl):=B;show PySem.EqNone.eq_none_int (cP I q xp)
  | str j=>let(t',rfl):=B;show PySem.EqNone.eq_none_str (cP I q xp)
  | _=>show absurd (show false=true from hs) b7
 | bl i=>
  cases D;cases y with
  | non=>cases B;show PySem.EqNone.eq_bool_none (cP I q xp)
  | bl j=>cases B;show eq_bool (cP I q Vy)
  | str j=>let(t',rfl):=B;show PySem.EqMixed.eq_bool_str (cP I q xp)
  | _=>show absurd (show false=true from hs) b7
 | int i=>
  let(t,rfl):=D;cases y with
  | non=>cases B;show PySem.EqNone.eq_int_none (cP I q xp)
  | int j=>let(t',rfl):=B;show eq_int (cP I q Qp)
  | str j=>let(t',rfl):=B;show PySem.EqMixed.eq_int_str (cP I q xp)
  | _=>show absurd (show false=true from hs) b7
 | str i=>
  let(t,rfl):=D;cases y with
  | non=>cases B;show PySem.EqNone.eq_str_none (cP I q xp)
  | bl j=>cases B;show PySem.EqMixed.eq_str_bool (cP I q xp)
  | int j=>let(t',rfl):=B;show PySem.EqMixed.eq_str_int (cP I q xp)
  | str j=>let(t',rfl):=B;show eq_str (cP I q Qq)
  | _=>show absurd (show false=true from hs) b7
 | xr i=>
  let(t,rfl):=D;cases y with
  | xr j=>let(t',rfl):=B;show W.eq_bytes (cP I q Qs)
  | _=>show absurd (show false=true from hs) b7
 | _=>cases y <;> show absurd (show false=true from hs) b7
def J6:fJ X (compareOp .NotEq) rNe:=by
 intro ao s T H x y v u Q I D B h;let(hs,q):=h;cases x with
 | non=>
  cases D;cases y with
  | non=>cases B;show PySem.EqNone.ne_none_none (cP I q xp)
  | bl j=>cases B;show PySem.EqNone.ne_none_bool (cP I q xp)
  | int j=>let(t',rfl):=B;show PySem.EqNone.ne_none_int (cP I q xp)
  | str j=>let(t',rfl):=B;show PySem.EqNone.ne_none_str (cP I q xp)
  | _=>show absurd (show false=true from hs) b7
 | bl i=>
  cases D;cases y with
  | non=>cases B;show PySem.EqNone.ne_bool_none (cP I q xp)
  | bl j=>cases B;show ne_bool (cP I q (congrArg not Vy))
  | str j=>let(t',rfl):=B;show PySem.EqMixed.ne_bool_str (cP I q xp)
  | _=>show absurd (show false=true from hs) b7
 | int i=>
  let(t,rfl):=D;cases y with
  | non=>cases B;show PySem.EqNone.ne_int_none (cP I q xp)
  | int j=>let(t',rfl):=B;show ne_int (cP I q (congrArg not Qp))
  | str j=>let(t',rfl):=B;show PySem.EqMixed.ne_int_str (cP I q xp)
  | _=>show absurd (show false=true from hs) b7
 | str i=>
  let(t,rfl):=D;cases y with
  | non=>cases B;show PySem.EqNone.ne_str_none (cP I q xp)
  | bl j=>cases B;show PySem.EqMixed.ne_str_bool (cP I q xp)
  | int j=>let(t',rfl):=B;show PySem.EqMixed.ne_str_int (cP I q xp)
  | str j=>let(t',rfl):=B;show ne_str (cP I q (congrArg not Qq))
  | _=>show absurd (show false=true from hs) b7
 | xr i=>
  let(t,rfl):=D;cases y with
  | xr j=>let(t',rfl):=B;show W.ne_bytes (cP I q (congrArg not Qs))
  | _=>show absurd (show false=true from hs) b7
 | _=>cases y <;> show absurd (show false=true from hs) b7
def t_:fJ X (compareOp .Lt) (Hz λi j=>.bl (decide (i<j))):=S7 λ_ _ _ _ _ _ _ q=>lt_int q
def lZ:fJ X (compareOp .LtE) (Hz λi j=>.bl (decide (i<=j))):=S7 λ_ _ _ _ _ _ _ q=>le_int q
def S8:fJ X (compareOp .Gt) (Hz λi j=>.bl (decide (j<i))):=S7 λ_ _ _ _ _ _ _ q=>gt_int q
def abt:fJ X (compareOp .GtE) (Hz λi j=>.bl (decide (j<=i))):=S7 λ_ _ _ _ _ _ _ q=>ge_int q
def Vz:fJ X (compareOp .In) (λx y H Q=>∃i j,x=.str i/\y=.str j/\Q (.bl (!(Builtin.Str.occurrences j i 0 j.length 1).isEmpty)) H):=by intro ao s T H x y v u Q I B D h;let(i,j,rfl,rfl,q):=h;let(t,rfl):=B;let(t',rfl):=D;show in_str (cP I q rb)
def bY (b)(h:op≠.In:=by decide)(j:op≠.NotIn:=by decide):behindInMarks op b=false:=by
 let e1:(op==CmpOp.In)=false:=by cases op <;> first|rfl|show absurd rb h
 let e2:(op==CmpOp.NotIn)=false:=by cases op <;> first|rfl|show absurd rb j
 cases b <;> simp[behindInMarks,e1,e2]
def ab0 (D:fJ X (compareOp op) r)(ha:PE X a ta)(j:PE X b tb)(hm:behindInMarks op b=false):PE X (.Compare a [op] [b] pos) (qO r ta tb):=by intro ao s T H Q I h;show wpAny_Compare1 (Za ha j I h λv u s2 x y B I2 F G q=>D ao s2 T B x y v u Q I2 F G q) hm
def J7 (t:TE):TT:=λT H Q=>t T H λx H'=>∃k,x=.bl k/\Q k H'
def ab1 (F:fJ X (compareOp op) r)(ha:PE X a ta)(B:PE X b tb)(hm:behindInMarks op b=false):PT X (.Compare a [op] [b] pos) (J7 (qO r ta tb)):=by
 intro ao s T H Q I h;refine wpAny_isTrue_Compare1 (bD (ha ao s T H _ I h) λv s1 ⟨x,H1,I1,r1,q1⟩=>bD (B ao s1 T H1 _ I1 q1) λu s2 ⟨y,D,I2,j,q2⟩=>bD (F ao s2 T D x y v u _ I2 r1 j q2) λc L ⟨z,q,J,G,k,e,q3⟩=>?_) hm
 subst e;cases G;show eJ %[0,q,J|q3]
def xZ (r D:R2)(ta tb tc:TE):TE:=λT H Q=>ta T H λx H1=>tb T H1 λy F=>r x y F λz j=>∃k,z=.bl k/\
 (if k=true then tc T j λB q=>D y B q Q else Q (.bl false) j)
def Zc (Z:fJ X (compareOp op) r)(j:fJ X (compareOp op') r')(ha:PE X a ta)(N:PE X b tb)(hc:PE X c tc)(hm:lastMarks [op,op'] [b,c]=false:=by with_unfolding_all rfl):PE X (.Compare a [op,op'] [b,c] pos) (xZ r r' ta tb tc):=by
 intro ao s T H Q I h;refine Compare_chain (bD (ha ao s T H _ I h) λv s1 ⟨x,H1,I1,r1,q1⟩=>chain_link (bD (N ao s1 T H1 _ I1 q1) λu s2 ⟨y,Y,I2,q,q2⟩=>bD (Z ao s2 T Y x y v u _ I2 r1 q q2) λd L ⟨z,B,D,r3,k,e,q3⟩=>?_)) hm
 subst e;cases r3;calc eJ ?_;cases k with| false=>show ite_ff %[1,.bl false,B,D,rb|q3]| true=>show ite_tt (chain_last (bD (hc ao L T B _ D q3) λM O ⟨F,G,I4,J,q4⟩=>j ao O T G y F u M Q I4 q J q4))
def Zd (ho:fJ X (compareOp op) r)(j:fJ X (compareOp op') r')(ha:PE X a ta)(Z:PE X b tb)(hc:PE X c tc)(hm:lastMarks [op,op'] [b,c]=false:=by with_unfolding_all rfl):PT X (.Compare a [op,op'] [b,c] pos) (J7 (xZ r r' ta tb tc)):=by
 intro ao s T H Q I h;refine isTrue_chain (bD (ha ao s T H _ I h) λv s1 ⟨x,H1,I1,r1,q1⟩=>test_link (bD (Z ao s1 T H1 _ I1 q1) λu s2 ⟨y,H2,I2,B,q2⟩=>bD (ho ao s2 T H2 x y v u _ I2 r1 B q2) λd N ⟨z,D,F,r3,k,e,q3⟩=>?_)) hm
 subst e;cases r3;calc eJ ?_;cases k with
 | false=>let(k',e',M):=q3;cases e';show ite_ff %[0,D,F|M]
 | true=>calc ite_tt (test_last (bD (hc ao N T D _ F q3) λO Y q=>?_));let(G,J,I4,L,q4):=q;calc bD (j ao Y T J y G u O _ I4 B L q4) λd' s5 q=>?_;let(z2,H5,I5,r5,k2,e2,q5):=q;subst e2;cases r5;show eJ %[0,H5,I5|q5]
def rK:(sizeLine:Nat)<2^63:=by rw[sizeLine_eq];decide
def S9:fJ X (binaryOp .Add) (λx y H Q=>∃i j,x=.str i/\y=.str j/\i.length+j.length<=sizeLine/\Q (.str (i++j)) H):=by intro ao s T H x y v u Q I B D h;let(i,j,rfl,rfl,hz,q):=h;let(t,rfl):=B;let(t',rfl):=D;show cj (add_str (λt' tk F=>%[1,.str (i++j),H,I.tok _,%[_|rb]|q]) hz)
def vals1 (r:Vals [x] us):∃u,us=[u]/\bG x u:=by
 cases r with| cons r1 r2=>cases r2;show%[0,_,rb|r1]
def vals2 (r:Vals [x,y] us):∃u j,us=[u,j]/\bG x u/\bG y j:=by
 cases r with
 | cons r1 r2=>
  cases r2 with| cons r3 r4=>cases r4;show%[1,_,_,rb,r1|r3]
def VB (D:X.calm=true):d8 X (.builtin "min") (λxs H Q=>∃i j,xs=[.int i,.int j]/\Q (.int (if j<i then j else i)) H):=by
 walk_at"g";let(i,j,rfl,q):=h;let(u,G,rfl,(t,rfl),(t',rfl)):=vals2 r;calc cj (min_two_ints (I.ok.hd D) λh' tk k F=>%[1,_,H,I.kept k,?_|q]);by_cases B:j<i;.rw[if_pos B,if_pos B];show%[_|rb]
 .rw[if_neg B,if_neg B];show%[_|rb]
def yc:d8 X (.type "int") (λxs H Q=>(∃i,xs=[.int i]/\Q (.int i) H)\/∃k,xs=[.bl k]/\Q (.int (if k then 1 else 0)) H):=by
 walk_at"g";rcases h with⟨i,rfl,q⟩|⟨k,rfl,q⟩
 .let(u,rfl,t,rfl):=vals1 r;show call_int_int %[1,.int i,H,I,%[_|rb]|q]
 .let(u,rfl,r1):=vals1 r;cases r1;show call_int_bool %[1,.int (if k then 1 else 0),H,I.tok _,%[_|rb]|q]
end
structure Bk (h:Heap)(x dx C:Addr)(mA:Str->Option Value):Prop where
 obj:h.get? x=some (W.instObj C dx)
 ns:h.Ns1 dx mA
 ne:dx≠x
def VD {h:Heap}(n:h.Ns1 dx mA):∃od,h.get? dx=some od/\∀name,W.lookIn name od=some (mA name):=by
 let(o,es,ep,D,hd,hk,_,hm):=n;calc%[0,o,D|λname=>?_];let e:=hm name;unfold nsFind findBy at e;rw[<-Array.find?_toList]at e;unfold W.lookIn;rw[hd];dsimp only;split
 .rename_i y q;rw[q]at e;show congrArg some e
 .rename_i q;rw[q]at e;let a:es.toList.any (·.refKey)=false:=by
   rw[List.any_eq_false];intro y B;let(z,t,j):=hk y (tz.mp B);simp[DictEntry.refKey,j]
  let F:¬es.toList.any (·.refKey)=true:=by rw[a];show b7
  rw[if_neg F];show congrArg some e
def Bk.look (I:Bk h x dx C mA):∃od,W.InstAt h x (W.instObj C dx) C (some od)/\∀name,W.lookIn name od=some (mA name):=let %[od,ho|hl]:=VD I.ns
 %[0,od,%[I.obj,rb,rb|ho]|hl]
section
variable {prog:Program}{w:World}{A:Around}{E:AB}{s:Shared}{K:W.Frag}{x dx C f:Addr}{mA:Str->Option Value}{name:Str}{v:Value}
def get_map (X:K.In s.heap)(I:Bk s.heap x dx C mA)(D:W.plainGet K C name=true)(q:W.hasDictIn K C=true)(ha:W.findIn K (.ref C) name=some none)(hv:mA name=some v)(j:W.handedIn v=true)(h:Q v {s with toks:=s.toks+1}):wpAny (model prog w) A (getAttr (.ref x) name expr) Q E s:=by let(od,J,B):=I.look;show W.get_value X J (uB D).1 (W.findObj_own q ha rb (by rw[B,hv])) j h
def Ze (X:K.In s.heap)(I:Bk s.heap x dx C mA)(j:W.plainGet K C name=true)(hf:W.findIn K (.ref C) name=some (some (.ref f)))(q:W.isFn K (.ref f)=true)(hv:mA name=none)(h:Q (.ref f,[.ref x]) s):wpAny (model prog w) A (getMethod (.ref x) name pl) Q E s:=by let(od,J,B):=I.look;show W.method_fn X J (uB j).1 (uB j).2 hf (beq_iff_eq.mp q) (by show (W.lookIn name od).map (·.isSome)=some false;rw[B,hv];rfl) h
def ab2 (X:K.In s.heap)(I:Bk s.heap x dx C mA)(hs:W.findIn K (.ref C) "__setattr__"=some (some (.builtin "object.__setattr__")))(hp:W.plainOver K C=true)(M:W.takerIn K C name=some none)(N:W.hasDictIn K C=true)(hw:PySem.Within mA ns)(hsz:ns.length<=sizeLine)(h:∀h',Bk h' x dx C (λy=>if y=name then some v else mA y)->Heap.SameBut dx s.heap h'->Q () {s with heap:=h',toks:=s.toks+2}):wpAny (model prog w) A (setAttr (.ref x) name v) Q E s:=by let(od,J,Z):=I.look;calc W.set_plain X J hs (W.osa_open (s:={s with toks:=s.toks+1}) (r:=none) X J hp M λb=>?_);let(cd,Y,B):=W.any_some N;let hx:s.heap.get? x=some %[.ref C,some dx,.plain|#[]]:=I.obj;calc aa (ae (aa (aa (wpAny_loadPart hx (aa (W.Looks.here (s:={s with toks:=s.toks+1}) (W.looks_clsIn X Y) ?_))))));rw[B];calc ae (a:=some dx) (aa (ae (aa ?_)));calc wpAny_nsSet1 (s:={s with toks:=s.toks+1}) I.ns λh' j q=>?_;let(oD,O,L,G,F,D):=j.count (PySem.Within.cons name v hw);calc aa (wpAny_lookBehind G (by rw[F];show pastItsLine_dict (ay D (by rw[bP];show hG hsz))) ?_);show ae (h _ %[(q.2 _ (kr I.ne)).trans I.obj,j|I.ne] q)
def Zf (X:K.In s.heap)(hm:W.makesIn K C=true)(hi:W.findIn K (.ref C) "__init__"=some (some (.ref f)))(hf:W.typeIn K (.ref f)=some (.type "function"))(h:codeAny (model prog w) (A.under (.builtin "type.__call__" %[.ref C::vs|kw])) (.call (.ref f) %[.ref (s.heap.objs.size+1)::vs|kw]) (W.InitBack (s.heap.objs.size+1) R) {s with heap:=(s.heap.push W.emptyDict).push (W.instObj C s.heap.objs.size)}):codeAny (model prog w) A (.call (.ref C) %[vs|kw]) R s:=by let(j,g,d,t,os):=s;show W.make_core (W.makes_of X hm) (W.looks_findIn X hi) (λself=>W.bind_fn X self hf) (.inl rb) h
end
def jE (f:Str)(v:V):List (Str×V)->List (Str×V)
 | []=>[(f,v)]
 | (g,x)::r=>if g=f then (g,v)::r else (g,x)::jE f v r
theorem Am (f g)(v):∀fs:List (Str×V),(jE f v fs).lookup g=if g=f then some v else fs.lookup g
 | []=>by
  show List.lookup g [(f,v)]=_;by_cases h:g=f
  .let j:(g==f)=true:=beq_iff_eq.mpr h;simp only[List.lookup,j,if_pos h]
  .let j:(g==f)=false:=beq_eq_false_iff_ne.mpr h;simp only[List.lookup,j,if_neg h]
 | (k,x)::r=>by
  let q:=Am f g v r;rw[show jE f v ((k,x)::r)=(if k=f then (k,v)::r else (k,x)::jE f v r) from rfl];by_cases hk:k=f
  .rw[if_pos hk];by_cases h:g=k
   .let j:(g==k)=true:=beq_iff_eq.mpr h;simp only[List.lookup,j,if_pos (h.trans hk)]
   .let j:(g==k)=false:=beq_eq_false_iff_ne.mpr h;simp only[List.lookup,j,if_neg (λe:g=f=>h (e.trans hk.symm))]
  .rw[if_neg hk];by_cases h:g=k
   .let j:(g==k)=true:=beq_iff_eq.mpr h;simp only[List.lookup,j,if_neg (λe:g=f=>hk (h.symm.trans e))]
   .let j:(g==k)=false:=beq_eq_false_iff_ne.mpr h;simp only[List.lookup,j];show q
theorem yd (f)(v):∀fs:List (Str×V),f∈(jE f v fs).map (·.1)/\∀g,g∈fs.map (·.1)->g∈(jE f v fs).map (·.1)
 | []=>%[by simp[jE]|λg h=>by simp at h]
 | (k,x)::r=>by
  let(q,j):=yd f v r;rw[show jE f v ((k,x)::r)=(if k=f then (k,v)::r else (k,x)::jE f v r) from rfl];by_cases hk:k=f
  .rw[if_pos hk];subst hk;show%[xp|λg h=>by simpa using h]
  .rw[if_neg hk];refine%[?_|λg h=>?_]
   .rw[b9];show aS _ q
   .rw[b9]at h ⊢;rcases bd.mp h with e|e;.show bd.mpr (.inl e)
    .show aS _ (j g e)
theorem Ao (f)(v):∀fs:List (Str×V),(jE f v fs).length<=fs.length+1
 | []=>by simp[jE]
 | (k,x)::r=>by
  let j:=Ao f v r;rw[show jE f v ((k,x)::r)=(if k=f then (k,v)::r else (k,x)::jE f v r) from rfl];by_cases hk:k=f;.rw[if_pos hk,bP,bP];lia
  .rw[if_neg hk,bP,bP];show hG j
def kY.some_of (r:kY (some v) o):∃u,o=some u/\bG v u:=by
 cases o with| none=>show(show False from r).elim| some u=>show%[0,u,rb|r]
def kY.none_of (r:kY none o):o=none:=by
 cases o with| none=>rfl| some u=>show(show False from r).elim
def VF (r:bG v u):W.handedIn u=true:=by
 cases v with
 | non=>cases(show u=Value.none from r);rfl
 | bl b=>cases(show u=Value.bool b from r);rfl
 | int i=>let(t,e):=(show ∃t,u=Value.int i t from r);cases e;rfl
 | str x=>let(t,e):=(show ∃t,u=Value.str x t from r);cases e;rfl
 | xr b=>let(t,e):=(show ∃t,u=Value.bytes b t from r);cases e;rfl
 | flt b=>let(t,e):=(show ∃t,u=Value.float b t from r);cases e;rfl
 | ref a=>cases(show u=Value.ref a from r);rfl
 | ty n=>cases(show u=Value.type n from r);rfl
 | sx x t=>cases(show u=Value.str x t from r);rfl
section
variable {P:Program}{w:World}{H:Hp}{h:Heap}{a C dx:Addr}{fs:List (Str×V)}
def zM (hok:gK P w H h)(e:H a=some (.ins C dx fs)):∃mA,Bk h a dx C mA/\(∀f,kY (fs.lookup f) (mA f))/\PySem.Within mA (fs.map (·.1))/\fs.length<=1000/\H dx=some (.own a):=by
 let(d,z,ne,ob,mA,n,r,q):=(show cZ P w H h a (.ins C dx fs) from hok a _ e)
 show%[5,mA,%[ob,n|ne],r,q,z|d]
end
structure Cls (K:W.Frag)(C:Addr):Prop where
 pg:W.plainGet K C Str.empty=true
 hd:W.hasDictIn K C=true
 po:W.plainOver K C=true
 sa:W.findIn K (.ref C) "__setattr__"=some (some (.builtin "object.__setattr__"))
def Cls.get {K:W.Frag}(c:Cls K C)(f:Str):W.plainGet K C f=true:=c.pg
def mO (K:W.Frag)(C:Addr)(f:Str):Prop:=W.findIn K (.ref C) f=some none
def mO.taker {K:W.Frag}{f:Str}(n:mO K C f):W.takerIn K C f=some none:=by unfold W.takerIn;rw[show W.findIn K (.ref C) f=some none from n];rfl
structure Meth (K:W.Frag)(C:Addr)(m:Str)(f:Addr):Prop where
 at_:W.findIn K (.ref C) m=some (some (.ref f))
 fn:W.isFn K (.ref f)=true
 kp:W.keepIn K (.ref f)=true
section
variable {X:Cx}{ao:AC}{T:St}{H:Hp}{s:Shared}{a C dx:Addr}{fs:List (Str×V)}{f:Str}{v:V}{A:Around}{E:AB}
def S_ (I:aL X ao T H s)(e:H a=some (.ins C dx fs))(c:Cls X.K C)(n:mO X.K C f)(l:fs.lookup f=some v)(h:∀u s',aL X ao T H s'->bG v u->Q u s'):wpAny (model X.prog X.w) A (getAttr (.ref a) f b) Q E s:=by let(mA,O,r,_,_,_):=zM I.hok e;let(u,q,j):=kY.some_of (v:=v) (o:=mA f) (by rw[<-l];show r f);show get_map I.jD O (c.get f) c.hd n q (VF j) (h u _ (I.tok _) j)
def CJ (I:aL X ao T H s)(e:H a=some (.ins C dx fs))(c:Cls X.K C)(k:Meth X.K C m g)(l:fs.lookup m=none)(h:Q (.ref g,[.ref a]) s):wpAny (model X.prog X.w) A (getMethod (.ref a) m pl) Q E s:=by let(mA,O,r,_,_,_):=zM I.hok e;let hn:mA m=none:=kY.none_of (by rw[<-l];show r m);show Ze I.jD O (c.get m) k.at_ k.fn hn h
def Tc (I:aL X ao T H s)(e:H a=some (.ins C dx fs))(c:Cls X.K C)(n:mO X.K C f)(L:fs.length<1000)(G:bG y u)(h:∀s',aL X ao T (upd H a (.ins C dx (jE f y fs))) s'->Q () s'):wpAny (model X.prog X.w) A (setAttr (.ref a) f u) Q E s:=by
 let(mA,O,r,wi,_,B):=zM I.hok e;let hz:(fs.map (·.1)).length<=sizeLine:=by rw[ab,sizeLine_eq];lia
 calc ab2 I.jD O c.sa c.po n.taker c.hd wi hz λh' j F=>h _ ?_;let hd:∃o,h'.get? dx=some o:=let %[o,_,_,e'|_]:=j.ns;%[o|e']
 calc I.write (x:=a) (e:=dx) (by rw[e];show True.intro) (.inr B) (λb q D z=>(F.2 b D).trans z) hd ?_;calc%[by rw[aZ O.ne];show B,?_,O.ne|%[35,j.obj,_,j.ns,λg=>?_|λg J=>?_]];.have:=Ao f y fs;lia
 .show kY ((jE f y fs).lookup g) (if g=f then some u else mA g);rw[Am];by_cases q:g=f;.rw[if_pos q,if_pos q];show G
  .rw[if_neg q,if_neg q];show r g
 .by_cases q:g=f;.rw[q];show(yd f y fs).1
  .calc(yd f y fs).2 g (wi g λz=>J ?_);show (if g=f then some u else mA g)=none;rw[if_neg q];show z
def aL.made (I:aL X ao T H s):aL X ao T (upd (upd H s.heap.objs.size (.own (s.heap.objs.size+1))) (s.heap.objs.size+1) (.ins C s.heap.objs.size [])) {s with heap:=(s.heap.push W.emptyDict).push (W.instObj C s.heap.objs.size)}:=by
 let e1:(s.heap.push W.emptyDict).get? s.heap.objs.size=some W.emptyDict:=aw s.heap rfl;let e2:((s.heap.push W.emptyDict).push (W.instObj C s.heap.objs.size)).get? (s.heap.objs.size+1)=some (W.instObj C s.heap.objs.size):=by
  have:=aw (s.heap.push W.emptyDict) (o:=W.instObj C s.heap.objs.size) rfl
  rwa [dE]at this
 let e3:(s.heap.push W.emptyDict).Ns s.heap.objs.size (λ_=>none):=%[29,W.emptyDict,#[],_,e1,rb,(λe j=>absurd j xp)|λ_=>rfl]
 let I1:=I.laid (a:=s.heap.objs.size) (o:=.own (s.heap.objs.size+1)) (h':=s.heap.push W.emptyDict) (t':=s.toks) (λb u q=>af _ q) (ah _) %[_|e1];calc I1.laid (a:=s.heap.objs.size+1) (o:=.ins C s.heap.objs.size []) (t':=s.toks) (λb u q=>af _ q) (kN (dE _ _)) ?_;let ne:s.heap.objs.size≠s.heap.objs.size+1:=a_ (e_ _);refine%[by rw[aZ ne,aq],b8 _,ne|%[35,e2,λ_=>none,(Heap.Ns1.of_empty e3).at λo q=>af _ q,λ_=>True.intro|λy B=>absurd rb B]]
def ab3 (q:attributeBase e f env (eval e env)=eval e env)(h:wpAny (model prog w) A (eval e env) (λo j=>wpAny (model prog w) A (getAttr o f true) Q E j) E s):wpAny (model prog w) A (eval (.Attribute e f pos) env) Q E s:=Attribute_any_ h (by rw[arm_eval_Attribute,q])
end
def aeA (K:W.Frag)(ta:TE)(f:Str):TE:=λI H Q=>ta I H λx H1=>∃a C dx fs v,x=.ref a/\H1 a=some (.ins C dx fs)/\Cls K C/\mO K C f/\fs.lookup f=some v/\Q v H1
def aeB (K:W.Frag)(ta tv:TE)(f:Str):TS:=λD I H=>tv I H λy H1=>ta I H1 λx j=>∃a C dx fs,x=.ref a/\j a=some (.ins C dx fs)/\Cls K C/\mO K C f/\fs.length<1000/\
 D.nx I (upd j a (.ins C dx (jE f y fs)))
section
variable {X:Cx}{o e value:Expr}{f:Str}{pos pos':Pos}{ta tv:TE}
variable {ao:AC}{T:St}{H:Hp}{s:Shared}{A:Around}{E Q:AB}{c:Value}{b:Bool}
def aeC (B:PE X e ta)(F:attributeBase e f X.env (eval e X.env)=eval e X.env):PE X (.Attribute e f pos) (aeA X.K ta f):=by intro ao s T H Q I h;calc ab3 F (bD (B ao s T H _ I h) λu s1 D=>?_);let(x,H1,I1,G,a,C,dx,fs,v,ex,J,c,n,l,q):=D;subst ex;obtain rfl:u=Value.ref a:=G;show S_ I1 J c n l λL s2 I2 j=>%[1,v,H1,I2,j|q]
def aeD (ha:PE X o ta)(hv:PE X value tv)(hs:swapsWith value (some (.Attribute o f pos')) pos.line X.env=pure false):PS X (.Assign [.Attribute o f pos'] value pos) (aeB X.K ta tv f):=by intro ao s T H D I h;calc plainObj_wpAny_Assign_Attribute (bD (hv ao s T H _ I h) λu s1 j=>?_) hs;let(y,H1,I1,L,q):=j;calc bD (ha ao s1 T H1 _ I1 q) λB s2 j=>?_;let(x,N,I2,F,a,C,dx,fs,ex,G,c,n,l,q2):=j;subst ex;obtain rfl:B=Value.ref a:=F;show Tc I2 G c n l L λM J=>%[3,T,_,J|q2]
inductive n6 (K:W.Frag) (H:Hp):V->Value->Prop where
 | non:n6 K H .non (.type "NoneType")
 | bl (x:Bool):n6 K H (.bl x) (.type "bool")
 | int (i:Int):n6 K H (.int i) (.type "int")
 | str (x:Str):n6 K H (.str x) (.type "str")
 | flt (x:UInt64):n6 K H (.flt x) (.type "float")
 | lst {a:Addr} {xs:List V} (e:H a=some (.lst xs)):n6 K H (.ref a) (.type "list")
 | iY {a:Addr} {o:Obj} {xs:List V} (e:H a=some (.iY o (.lst xs))):n6 K H (.ref a) (.type "list")
 | tup {a:Addr} {xs:List V} (e:H a=some (.tup xs)):n6 K H (.ref a) (.type "tuple")
 | dK {a:Addr} {kvs:List (Key×V)} (e:H a=some (.dK kvs)):n6 K H (.ref a) (.type "dict")
 | dT {a:Addr} {kvs:List (List Key×V)} (e:H a=some (.dT kvs)):n6 K H (.ref a) (.type "dict")
 | ins {a C dx:Addr} {fs:List (Str×V)} (e:H a=some (.ins C dx fs)) (cl:Cls K C) (ha:W.findIn K (.ref C) "__class__"=some (some (.builtin "object.__class__")))
   (hn:W.specialIn K (.builtin "object.__class__") "__get__"=some (some (.builtin "getset_descriptor.__get__"))) (htk:W.takesIn K (.builtin "object.__class__")=some true)
   (hm:W.mroIn K C (.type "object")=some true):n6 K H (.ref a) (.ref C)
def VG (I:aL X ao T H s)(j:bG x u)(ty:n6 X.K H x t)(e:W.kitOne X.K t c=some b)(h:∀tk,Q (.bool b) {s with toks:=tk}):wpAny (model X.prog X.w) A (call (.builtin "isinstance") [u,c]) Q E s:=by
 cases ty with
 | non=>cases(show u=Value.none from j);show gg W.kitx_none I.jD True.intro e (λz=>nomatch z) h
 | bl y=>cases(show u=Value.bool y from j);show gg W.kitx_bool I.jD True.intro e (λz=>nomatch z) h
 | int i=>let(t,q):=(show ∃t,u=Value.int i t from j);cases q;show gg W.kitx_int I.jD True.intro e (λz=>nomatch z) h
 | str y=>let(t,q):=(show ∃t,u=Value.str y t from j);cases q;show gg W.kitx_str I.jD True.intro e (λz=>nomatch z) h
 | flt y=>let(t,q):=(show ∃t,u=Value.float y t from j);cases q;show gg W.kitx_float I.jD True.intro e (λz=>nomatch z) h
 | @lst a xs ea=>
  cases(show u=Value.ref a from j);let(_,_,n,_,h1):=(show cZ X.prog X.w H s.heap a (.lst xs) from I.hok a _ ea)
  show gg W.kitx_list I.jD %[0,_,h1|rb] e (λz=>nomatch z) h
 | @iY a ob xs ea=>
  cases(show u=Value.ref a from j);let(_,_,_,n,_,h1):=(show cZ X.prog X.w H s.heap a (.iY ob (.lst xs)) from I.hok a _ ea)
  show gg W.kitx_list I.jD %[0,_,h1|rb] e (λz=>nomatch z) h
 | @tup a xs ea=>
  cases(show u=Value.ref a from j);let(_,_,_,p):=(show cZ X.prog X.w H s.heap a (.tup xs) from I.hok a _ ea)
  let(o,h1,B,_):=p;show gg W.kitx_tuple I.jD %[0,o,h1|B] e (λz=>nomatch z) h
 | @dK a kvs ea=>
  cases(show u=Value.ref a from j);let(_,_,vs,_,p):=(show cZ X.prog X.w H s.heap a (.dK kvs) from I.hok a _ ea)
  let(o,es,ep,h1,B,_):=p;show gg W.kitx_dict I.jD %[0,o,h1|B.1] e (λz=>nomatch z) h
 | @dT a kvs ea=>
  cases(show u=Value.ref a from j);let(_,_,xs,_,o,es,ep,h1,B,_):=(show cZ X.prog X.w H s.heap a (.dT kvs) from I.hok a _ ea)
  show gg W.kitx_dict I.jD %[0,o,h1|B.1] e (λz=>nomatch z) h
 | @ins a C dx fs ea cl ha hn htk hm=>cases(show u=Value.ref a from j);let(mA,O,_):=zM I.hok ea;let(od,J,_):=O.look;show gg (W.kitx_own (cl.get _) cl.hd ha hn htk hm) I.jD J e (λz=>nomatch z) h
end
structure dG (k:Nat)(A:Around):Prop where
 hd:A.handled=none
 dp:A.depth+3*k+5<recursionLimit
 un:A.units+16*k+200<cLine
def dG.mono (r:dG k A)(h:j<=k:=by decide):dG j A:=%[r.hd,by have:=r.dp;lia|by have:=r.un;lia]
def dG.deeper (r:dG (k+1) A)(env):dG k (A.deeper env):=%[r.hd,by have:=r.dp;show A.depth+1+3*k+5<_;lia|by have:=r.un;show A.units+3+16*k+200<_;lia]
def Td {A:Around}:(A.under (.builtin "type.__call__" %[.ref C::us|kw])).depth=A.depth+1:=by first|rfl|simp[Around.under,Code.weight,Code.isCreation,Code.isGuard,Code.isCaller,Code.frames,Code.isFrame,guardIds]
def Te {A:Around}:(A.under (.builtin "type.__call__" %[.ref C::us|kw])).units=A.units+1:=by first|rfl|simp[Around.under,Code.cUnits,Code.frames,Code.isFrame]
def dG.make (r:dG (k+1) A)(C)(us)(kw):dG k (A.under (.builtin "type.__call__" %[.ref C::us|kw])):=%[r.hd,by have:=r.dp;rw[Td];(simp_all;lia)|by have:=r.un;rw[Te];(simp_all;lia)]
def dG.depth (r:dG k A):A.depth<recursionLimit:=by have:=r.dp;lia
def dG.units (r:dG k A):A.units+64<cLine:=by have:=r.un;lia
def n8:TA:=λ_ H Q=>Q [] H
def iW (ta:TE)(j:TA):TA:=λI H Q=>ta I H λx H1=>j I H1 λxs q=>Q (x::xs) q
section
variable {X:Cx}{e:Expr}{es:List Expr}{te:TE}{t:TA}{pos:Pos}
def aeE:PA X [] n8:=λ_ _ _ _ H Q I h=>oP %[1,[],H,I,.nil|h]
def ab4 (ha:PE X e te)(B:PA X es t)(hs:starEach (e::es) X.env=(false,eval e X.env)::starEach es X.env:=by rfl):PA X (e::es) (iW te t):=by intro pos ao s T H Q I h;rw[hs];show wpAny _ _ (spliced ((false,eval e X.env)::backTo pos (starEach es X.env))) _ _ s;calc fT (bD (ha ao s T H _ I h) λu s1 q=>?_);let(x,H1,I1,r1,q1):=q;show bD (B pos ao s1 T H1 _ I1 q1) λus s2 ⟨xs,D,I2,j,q2⟩=>%[1,x::xs,D,I2,.cons r1 j|q2]
def Zg (t:TA):TE:=λT H Q=>t T H λxs H1=>xs.length<=sizeLine/\∀p,H1 p=none->Q (.ref p) (upd H1 p (.tup xs))
def aeF (t:TA):TE:=λT H Q=>t T H λxs H1=>xs.length<=sizeLine/\∀p,H1 p=none->Q (.ref p) (upd H1 p (.lst xs))
def aeG {x1}(h:PA X es t):PE X (.Tuple es x1 pos) (Zg t):=by intro ao s T H Q I j;calc uC (bD (h pos ao s T H _ I j) λus s1 ⟨xs,H1,I1,r,z,q⟩=>%[by rw[<-r.length];show z|?_]);let hf:H1 s1.heap.objs.size=none:=I1.hok.fresh (ah _);calc%[1,.ref s1.heap.objs.size,upd H1 s1.heap.objs.size (.tup xs),I1.laid (t':=s1.toks) (λb u e=>af _ e) (ah _) ?_,rb|q _ hf];show%[8,z,us,r|%[40,_,aw _ rb,rb,_|rb]]
def aeH (h:PA X es t):PE X (.List es pos) (aeF t):=by intro ao s T H Q I j;calc wpAny_List_spliced (bD (h pos ao s T H _ I j) λus s1 ⟨xs,H1,I1,r,z,q⟩=>%[by rw[<-r.length];show z|?_]);let hf:H1 s1.heap.objs.size=none:=I1.hok.fresh (ah _);calc%[1,.ref s1.heap.objs.size,upd H1 s1.heap.objs.size (.lst xs),I1.laid (t':=s1.toks) (λb u e=>af _ e) (ah _) ?_,rb|q _ hf];show%[24,z,us,0,r|aw _ rb]
end
abbrev Sp:=List V->Hp->VK->XK->Prop
abbrev qP:=List Env->Hp->Shared->XK->Value->Shared->Prop
structure vQ (P:Program)(w:World)(K:W.Frag)(mg:Str->Option Value)(base:Heap)(A:Around)(outer:List Env)(s:Shared)(H:Hp):Prop where
 frames:A.frames=some outer
 mod:Mod K mg base
 bs:∀b o,base.get? b=some o->s.heap.get? b=some o/\H b=none
 xW:base.objs.size<=s.heap.objs.size
 nW:s.heap.FunFrames base outer
 Cy:∀b∈frs outer,H b=none
 hok:gK P w H s.heap
 bare:AllBare s.gens
 gh:Gh H s.toks
def CE (outer:List Env)(P:Program)(w:World)(H:Hp)(s:Shared)(Q:VK)(u:Value)(s':Shared):Prop:=∃v H',s'.os=s.os/\AllBare s'.gens/\Un (frs outer) [] H H' s.heap s'.heap/\gK P w H' s'.heap/\bG v u/\Q v H'/\Gh H' s'.toks/\s.toks<=s'.toks
def CR (CX:qP)(outer:List Env)(P:Program)(w:World)(H:Hp)(s:Shared)(Q:VK)(E:XK)(r:Result)(s':Shared):Prop:=match r with| .ok (.ret u)=>CE outer P w H s Q u s'| .ok _=>False| .error e=>CX outer H s E e s'
structure eZ (P:Program)(w:World)(K:W.Frag)(mg:Str->Option Value)(base:Heap)(CX:qP)(k:Nat)(f:Addr)(fd:FuncData)(ps:List Str)(sp:Sp):Prop where
 len:∀vs H Q E,sp vs H Q E->vs.length=ps.length
 run:∀(A:Around) (outer:List Env) (s:Shared) (H:Hp) (args:Args) (us:List Value) (vs:List V) (Q:VK) (E:XK),dG k A->vQ P w K mg base A outer s H->BindsTo s fd args (ps.zip us)->Vals vs us->sp vs H Q E->
  codeAny (model P w) A (.call (.ref f) args) (CR CX outer P w H s Q E) s
structure n_ (P:Program)(w:World)(K:W.Frag)(mg:Str->Option Value)(base:Heap)(CX:qP)(k:Nat)(f:Addr)(fd:FuncData)(ps:List Str)(sp:Sp):Prop where
 run:∀(A:Around) (outer:List Env) (s:Shared) (H:Hp) (args:Args) (us:List Value) (vs:List V) (Q:VK) (E:XK),dG k A->(∀n:Nat,vQ P w K mg base A outer {s with toks:=n+1} H)->BindsTo s fd args (ps.zip us)->Vals vs us->sp vs H Q E->
  codeAny (model P w) A (.call (.ref f) args) (CR CX outer P w H s Q E) s
def n_.mono {K:W.Frag}{mg:Str->Option Value}{CX:qP}{j k:Nat}{ps:List Str}{sp:Sp}(F:n_ P w K mg base CX j f fd ps sp)(h:j<=k):n_ P w K mg base CX k f fd ps sp:=⟨λA outer s H args us vs Q E q=>F.run A outer s H args us vs Q E (q.mono h)⟩
def vQ.make {K:W.Frag}{mg:Str->Option Value}{outer:List Env}(e:vQ P w K mg base A outer s H)(C:Addr)(us:List Value)(j:List (Str×Value)):vQ P w K mg base (A.under (.builtin "type.__call__" %[.ref C::us|j])) outer s H:=%[by first|show e.frames|(simpa [Around.under,Code.envs,Code.isFrame,pushEnvs] using e.frames),e.mod,e.bs,e.xW,e.nW,e.Cy,e.hok,e.bare|e.gh]
section
variable {X:Cx}{ao:AC}{T:St}{H:Hp}{s s':Shared}
def aL.env0 (I:aL X ao T H s):vQ X.prog X.w X.K X.mg X.base X.A X.stack s H:=%[I.ok.frames,I.ok.mod,I.bs,ay I.ok.xW I.sz,I.stack,I.Qk,I.hok,I.bare|I.gh]
def aL.after (I:aL X ao T H s)(h:CE X.stack X.prog X.w H s Q u s'):EP X ao T Q u s':=by let(v,H',os,bare,un,hok,r,q,gh,tk):=h;let(B,g,d,t,j):=s';obtain rfl:j=s.os:=os;show%[1,v,H',I.call (h':=B) (g':=g) (d':=d) (t':=t) (ch:=[]) un hok bare gh tk (λb z=>absurd z xp),r|q]
end
def vR (sp:Sp)(iJ:List V)(E:XK)(t:TA):TE:=λI H Q=>t I H λvs H1=>sp (vs++iJ) H1 Q E
def CK (C:Addr)(m:Str)(sp:Sp)(iJ:List V)(E:XK)(ta:TE)(t:TA):TE:=λI H Q=>ta I H λx H1=>∃a dx fs,x=.ref a/\H1 a=some (.ins C dx fs)/\fs.lookup m=none/\
 t I H1 λvs j=>sp (x::(vs++iJ)) j Q E
def abu (C:Addr)(sp:Sp)(iJ:List V)(E:XK)(t:TA):TE:=λI H Q=>t I H λvs H1=>∀x dx,H1 x=none->H1 dx=none->dx≠x->
 sp (.ref x::(vs++iJ)) (upd (upd H1 dx (.own x)) x (.ins C dx [])) (λv j=>v=.non/\Q (.ref x) j) E
def cT (K:W.Frag)(fd:FuncData)(ps:List Str)(ds:List Value):Prop:=∀(s:Shared) (us:List Value),K.In s.heap->(us++ds).length=ps.length->BindsTo s fd %[us|[]] (ps.zip (us++ds))
def cT.all {K:W.Frag}{ps:List Str}(h:∀us:List Value,us.length=ps.length->bindArgs fd %[us|[]]=pure (ps.zip us)):cT K fd ps []:=λs us _ j=>by rw[ej]at j ⊢;show .of_eq (h us j)
def Passes (CX:qP)(X:Cx)(E:XK):Prop:=∀(ao:AC) (I:St) (H:Hp) (s:Shared) (e:Value) (s':Shared),aL X ao I H s->CX X.stack H s E e s'->X.xe e s'
section
variable {X:Cx}{CX:qP}{k:Nat}{f C:Addr}{fd:FuncData}{ps:List Str}{sp:Sp}{iJ:List V}{ds:List Value}{E:XK}{x m:Str}{p pos apos:Pos}{e o:Expr}{es:List Expr}{ta:TE}{t:TA}
def KC {ao:AC}{T:St}{H:Hp}{s:Shared}{Q:VK}{us:List Value}{vs:List V}(F:eZ X.prog X.w X.K X.mg X.base CX k f fd ps sp)(D:dG k X.A)(G:cT X.K fd ps ds)(hd:Vals iJ ds)(hx:Passes CX X E)(I:aL X ao T H s)(r:Vals vs us)(h:sp (vs++iJ) H Q E):wpAny (model X.prog X.w) X.A (call (.ref f) us) (EP X ao T Q) X.xe s:=by
 let j:Vals (vs++iJ) (us++ds):=r.append hd;let B:(us++ds).length=ps.length:=by rw[<-j.length];show F.len _ _ _ _ h
 calc wl (kP (F.run X.A X.stack s H %[us|[]] (us++ds) (vs++iJ) Q E D I.env0 (G s us I.jD B) j h) λr s' q=>?_);cases r with
 | error e=>show hx ao T H s e s' I q
 | ok fl=>
  cases fl with| ret u=>show I.after q| next=>show False.elim q| brk=>show False.elim q| cont=>show False.elim q
def ab5 (F:eZ X.prog X.w X.K X.mg X.base CX k f fd ps sp)(G:dG k X.A)(L:Gl X x)(hm:X.mg x=some (.ref f))(hk:W.keepIn X.K (.ref f)=true)(J:cT X.K fd ps ds)(hd:Vals iJ ds)(hx:Passes CX X E)(ha:PA X (e::es) t)(B:(x==("__debug__":Str))=false:=by decide)(D:starEach (e::es) X.env=(false,eval e X.env)::starEach es X.env:=by rfl)(j:(backTo pos (starEach es X.env)).any (·.1)=false:=by rfl):PE X (.Call (.Name x p) (e::es) [] pos) (vR sp iJ E t):=by intro ao s T H Q I h;calc me (zK I L hm ?_ B);calc rc (h₀:=X.base) I.ok.mod.xu hk (bD (ha pos ao s T H _ I h) λus s1 ⟨vs,H1,I1,r,q⟩=>%[I1.jD|?_]) D j;show KC F G J hd hx I1 r q
def ab6 {pl:Sem Bool}(D:PE X o ta)(c:Cls X.K C)(hm:Meth X.K C m f)(F:eZ X.prog X.w X.K X.mg X.base CX k f fd ps sp)(L:dG k X.A)(M:cT X.K fd ps ds)(hd:Vals iJ ds)(hx:Passes CX X E)(ha:PA X (e::es) t)(B:starEach (e::es) X.env=(false,eval e X.env)::starEach es X.env:=by rfl)(j:(backTo pos (starEach es X.env)).any (·.1)=false:=by rfl)(G:eval (.Call (.Attribute o m apos) (e::es) [] pos) X.env=(do
   let ov <- eval o X.env
   standAt apos.atName
   let (f,first) <- holding [ov] (getMethod ov m pl)
   callWith pos f first (backTo pos (starEach (e::es) X.env)) (backToKw pos (keywordEach [] X.env))):=by rfl) :
  PE X (.Call (.Attribute o m apos) (e::es) [] pos) (CK C m sp iJ E ta t):=by
 intro ao s T H Q I h;calc W.methodCall_KW (pl:=pl) (bD (D ao s T H _ I h) λu s1 J=>?_) G;let(x,H1,I1,N,a,dx,fs,ex,O,l,q):=J;subst ex;obtain rfl:u=Value.ref a:=N;calc CJ I1 O c hm l ?_;calc rc (first:=[.ref a]) (h₀:=X.base) I.ok.mod.xu hm.kp (bD (ha pos ao s1 T H1 _ I1 q) λus s2 ⟨vs,Y,I2,r,q2⟩=>%[I2.jD|?_]) B j;show KC (us:=.ref a::us) (vs:=.ref a::vs) F L M hd hx I2 (.cons rb r) q2
def Zh (j:PE X o ta)(c:Cls X.K C)(hm:Meth X.K C m f)(F:eZ X.prog X.w X.K X.mg X.base CX k f fd ps sp)(G:dG k X.A)(J:cT X.K fd ps ds)(hd:Vals iJ ds)(hx:Passes CX X E)(B:eval (.Call (.Attribute o m apos) [] [] pos) X.env=(do
   let ov <- eval o X.env
   standAt apos.atName
   let (f,first) <- holding [ov] (getMethod ov m pl)
   callWith pos f first (backTo pos (starEach [] X.env)) (backToKw pos (keywordEach [] X.env))):=by rfl) :
  PE X (.Call (.Attribute o m apos) [] [] pos) (CK C m sp iJ E ta n8):=by
 intro ao s T H Q I h;calc W.methodCall_KW (pl:=pl) (bD (j ao s T H _ I h) λu s1 D=>?_) B;let(x,H1,I1,L,a,dx,fs,ex,M,l,q):=D;subst ex;obtain rfl:u=Value.ref a:=L;calc CJ I1 M c hm l ?_;show W.callWith_K0 (first:=[.ref a]) I1.jD hm.kp (KC (us:=[.ref a]) (vs:=[.ref a]) F G J hd hx I1 (.cons rb .nil) q)
structure Mk (K:W.Frag)(C f:Addr):Prop where
 makes:W.makesIn K C=true
 init:W.findIn K (.ref C) "__init__"=some (some (.ref f))
 fn:W.isFn K (.ref f)=true
 kp:W.keepIn K (.ref C)=true
def Zi {ao:AC}{T:St}{H:Hp}{s:Shared}{Q:VK}{us:List Value}{vs:List V}(M:Mk X.K C f)(F:eZ X.prog X.w X.K X.mg X.base CX k f fd ps sp)(J:dG (k+1) X.A)(L:cT X.K fd ps ds)(hd:Vals iJ ds)(hx:Passes CX X E)(I:aL X ao T H s)(r:Vals vs us)(h:∀x dx,H x=none->H dx=none->dx≠x->sp (.ref x::(vs++iJ)) (upd (upd H dx (.own x)) x (.ins C dx [])) (λv N=>v=.non/\Q (.ref x) N) E):wpAny (model X.prog X.w) X.A (call (.ref C) us) (EP X ao T Q) X.xe s:=by
 let B:=h (s.heap.objs.size+1) s.heap.objs.size (I.hok.fresh (du _)) (I.hok.fresh (ah _)) (a_ (e_ _));let I2:=aL.made (C:=C) I;let q:Vals (V.ref (s.heap.objs.size+1)::(vs++iJ)) (Value.ref (s.heap.objs.size+1)::(us++ds)):=.cons rb (r.append hd);let G:(Value.ref (s.heap.objs.size+1)::us++ds).length=ps.length:=by let e:=q.length;rw[F.len _ _ _ _ B]at e;show e.symm
 refine wl (Zf (f:=f) I.jD M.makes M.init (beq_iff_eq.mp M.fn) (kP (F.run _ X.stack _ _ %[Value.ref (s.heap.objs.size+1)::us|[]] (Value.ref (s.heap.objs.size+1)::(us++ds)) _ _ E (J.make C us [])
  (I2.env0.make C us []) (L _ (Value.ref (s.heap.objs.size+1)::us) I2.jD G) q B) λr s' j=>?_))
 cases r with
 | error e=>show hx ao T _ _ e s' I2 j
 | ok fl=>
  cases fl with
  | ret u=>let(v,H',O,D,Y,q3):=I2.after j;subst Y;show%[D|%[1,V.ref (s.heap.objs.size+1),H',O,rb|q3]]
  | next=>show False.elim j
  | brk=>show False.elim j
  | cont=>show False.elim j
def ab7 (M:Mk X.K C f)(F:eZ X.prog X.w X.K X.mg X.base CX k f fd ps sp)(G:dG (k+1) X.A)(L:Gl X x)(hm:X.mg x=some (.ref C))(J:cT X.K fd ps ds)(hd:Vals iJ ds)(hx:Passes CX X E)(ha:PA X (e::es) t)(B:(x==("__debug__":Str))=false:=by decide)(D:starEach (e::es) X.env=(false,eval e X.env)::starEach es X.env:=by rfl)(j:(backTo pos (starEach es X.env)).any (·.1)=false:=by rfl):PE X (.Call (.Name x p) (e::es) [] pos) (abu C sp iJ E t):=by intro ao s T H Q I h;calc me (zK I L hm ?_ B);calc rc (h₀:=X.base) I.ok.mod.xu M.kp (bD (ha pos ao s T H _ I h) λus s1 ⟨vs,H1,I1,r,q⟩=>%[I1.jD|?_]) D j;show Zi M F G J hd hx I1 r q
end
def PK (X:Cx)(kws:List Keyword)(t:TA):Prop:=∀(pos:Pos) (ao:AC) (s:Shared) (I:St) (H:Hp) (Q:List V->Hp->Prop),aL X ao I H s->t I H Q->wpAny (model X.prog X.w) X.A (evalAll ((backToKw pos (keywordEach kws X.env)).map (·.2))) (AP X ao I Q) X.xe s
section
variable {X:Cx}{x:Str}{pos kpos:Pos}{e:Expr}{kws:List Keyword}{te:TE}{t:TA}{nm:Option Str}
def aeI:PK X [] n8:=λ_ _ _ _ H Q I h=>wpAny_evalAll_nil %[1,[],H,I,.nil|h]
def ab8 (ha:PE X e te)(q:PK X kws t):PK X (%[nm,e|kpos]::kws) (iW te t):=by intro pos ao s T H Q I h;show wpAny _ _ (evalAll ((do let v <- eval e X.env;standAt pos;pure v)::(backToKw pos (keywordEach kws X.env)).map (·.2))) _ _ s;calc wpAny_evalAll_cons (aa (bD (ha ao s T H _ I h) λu s1 ⟨x,H1,I1,r1,q1⟩=>aa (sF (ae ?_))));show bD (q pos ao s1 T H1 _ I1 q1) λus s2 ⟨xs,B,I2,j,q2⟩=>%[1,x::xs,B,I2,.cons r1 j|q2]
end
structure aU (N P:List Str)(sc:Scope):Prop where
 kind:sc.kind=.function:=by rfl
 co:sc.isCoroutine=false:=by rfl
 gen:sc.isGenerator=false:=by rfl
 nd:N.Nodup:=by decide +kernel
 pre:N.take P.length=P:=by rfl
 par:∀x∈P,sc.names.lookup x=some .local\/sc.names.lookup x=some .cell:=by decide +kernel
 aeJ:∀y∈sc.names,y.2≠.free:=by decide +kernel
theorem HB {kindOf:Str->Option NameKind}{x:Str}:∀{binds:List (Str×Value)} {m:Str->Option Value},(∀v,(x,v)∉binds)->bindL kindOf binds m x=m x
 | [],_,_=>rfl
 | (n,v)::r,m,h=>by
  unfold bindL;rw[HB λw hw=>h w (aS _ hw)];split
  .have:x≠n:=by rintro rfl;show h v aT
   simp[this]
  .rfl
theorem HD {kindOf:Str->Option NameKind}{x:Str}:∀{binds:List (Str×Value)} {m:Str->Option Value},(∀v,(x,v)∉binds)->bindC kindOf binds m x=m x
 | [],_,_=>rfl
 | (n,v)::r,m,h=>by
  unfold bindC;rw[HD λw hw=>h w (aS _ hw)];split;.rfl
  .have:x≠n:=by rintro rfl;show h v aT
   simp[this]
theorem yg {kindOf:Str->Option NameKind}{x:Str}:∀{P:List Str} {vs:List Value} {i:Nat} {m:Str->Option Value},P.Nodup->P[i]?=some x->vs[i]?=some v->kindOf x=some .local->
  bindL kindOf (P.zip vs) m x=some v
 | [],_,_,_,_,h,_,_=>by simp at h
 | _::_,[],_,_,_,_,h,_=>by simp at h
 | p::P,w::vs,0,m,nd,h1,h2,hk=>by simp at h1 h2;subst h1;subst h2;show bindL kindOf ((p,w)::P.zip vs) m p=_;unfold bindL;rw[HB λv hv=>(gm.mp nd).1 (tI hv).1,if_pos hk];simp
 | p::P,w::vs,i+1,m,nd,h1,h2,hk=>by show bindL kindOf ((p,w)::P.zip vs) m x=_;unfold bindL;show yg (i:=i) (gm.mp nd).2 (by simpa using h1) (by simpa using h2) hk
theorem HF {kindOf:Str->Option NameKind}{x:Str}:∀{P:List Str} {vs:List Value} {i:Nat} {m:Str->Option Value},P.Nodup->P[i]?=some x->vs[i]?=some v->kindOf x≠some .local->
  bindC kindOf (P.zip vs) m x=some v
 | [],_,_,_,_,h,_,_=>by simp at h
 | _::_,[],_,_,_,_,h,_=>by simp at h
 | p::P,w::vs,0,m,nd,h1,h2,hk=>by simp at h1 h2;subst h1;subst h2;show bindC kindOf ((p,w)::P.zip vs) m p=_;unfold bindC;rw[HD λv hv=>(gm.mp nd).1 (tI hv).1,if_neg hk];simp
 | p::P,w::vs,i+1,m,nd,h1,h2,hk=>by show bindC kindOf ((p,w)::P.zip vs) m x=_;unfold bindC;show HF (i:=i) (gm.mp nd).2 (by simpa using h1) (by simpa using h2) hk
def start (N:List Str)(vs:List V):St:=vs.map some++List.replicate (N.length-vs.length) none
noncomputable def oh (CX:qP)(P:Program)(w:World)(K:W.Frag)(mg:Str->Option Value)(base:Heap)(N:List Str)(qual:Str)(scope:Scope)(f:Addr)(q:Value)(A:Around)(outer:List Env)(s:Shared)(H:Hp)(E:XK):Cx where
 prog:=P
 w:=w
 K:=K
 mg:=mg
 base:=base
 A:=A.deeper (envOfC qual scope s.heap.objs.size f q)
 N:=N
 s₀:=s
 H₀:=H
 env:=envOfC qual scope s.heap.objs.size f q
 outer:=outer
 stack:=envOfC qual scope s.heap.objs.size f q::outer
 ex:=[]
 calm:=true
 fn:=λ_=>true
 pn:=[]
 xe:=λe s'=>wpAny (model P w) (A.deeper (envOfC qual scope s.heap.objs.size f q)) (leaving (envOfC qual scope s.heap.objs.size f q) e) (λ_ j=>CX outer H s E e j) (λB j=>CX outer H s E B j) s'
def KD {sc:Scope}(h:sc.names.lookup x=some .cell):∃c,(cellsFrom n sc.names []).lookup x=some c:=by let q:=W.cellsFrom_some sc.names n [] (.inl h);show Option.isSome_iff_exists.mp q
def yh {CX:qP}{K:W.Frag}{mg:Str->Option Value}{N ps:List Str}{qual:Str}{scope:Scope}{A:Around}{outer:List Env}{E:XK}{vs:List V}(S:aU N ps scope)(hd:A.handled=none)(B:vQ P w K mg base A outer s H)(O:vs.length=ps.length)(r:Vals vs us)(x:InCallC s s.heap.objs.size (bindL (envOfC qual scope s.heap.objs.size f cd).kindOf (ps.zip us) λ_=>none) (cellsFrom (s.heap.objs.size+1) scope.names []) (bindC (envOfC qual scope s.heap.objs.size f cd).kindOf (ps.zip us) λ_=>none) s1)(htk:s.toks<=s1.toks):aL (oh CX P w K mg base N qual scope f cd A outer s H E) [] (start N vs) H s1:=by
 let L:ps.length<=N.length:=by have:=congrArg List.length S.pre;rw[bn]at this;lia
 let(h1,tk,rfl,hk):=x.done;let G:∀b:Addr,b∉(oh CX P w K mg base N qual scope f cd A outer s H E).ex:=λb z=>absurd (show b∈([]:List Addr) from z) xp;refine%[%[B.mod,S.kind,rb,rb,ah _,λy z c h1 j=>?_,λy D=>?_,λy c _ h=>?_,λ_=>hd,Around.frames_deeper B.frames,.inr %[rb|rb],λb z=>absurd z (G b),B.bs,B.xW,λb _ _=>G b,λb z=>absurd z (G b),B.nW|B.Cy],
  rfl,B.bare,Un.kept hk,%[0,_,x.toInCall.ns|λi y v h1 j Y=>?_],λy c h=>%[_|x.cell y c h],B.hok.fresh (ah _),λy c h=>?_,λp hp=>absurd (show p∈([]:AC) from hp) xp,B.hok.kept hk,?_,B.gh.up htk|htk]
 .show name_of_addr x.apart (nS h1) (nS j)
 .let D:scope.names.lookup y=some .cell\/scope.names.lookup y=some .free:=D;rcases D with D|D;.show KD D
  .show absurd rb (S.aeJ _ (nS D))
 .show av (x.above y c (nS h))
 .let hi:i<vs.length:=by
   unfold start at j;by_cases hi:i<vs.length;.show hi
   .rw[d6 (by simpa using hi)]at j;rw[List.getElem?_replicate]at j;split at j <;> cases j
  let ha:vs[i]?=some v:=by
   unfold start at j;rw[fq (by simpa using hi),bb]at j;cases e:vs[i]? with
   | none=>rw[e]at j;cases j
   | some a=>rw[e]at j;cases j;rfl
  let(u,J,M):=r.get ha;let hp:ps[i]?=some y:=by rw[<-S.pre,re (by simp_all)];show h1
  let F:ps.Nodup:=by rw[<-S.pre];show S.nd.sublist (sh _ _)
  calc%[0,u,M|?_];rcases S.par y (aE hp) with k|k;.show .inl %[k|yg F hp J k]
  .let(c,e):=KD (n:=s.heap.objs.size+1) k;calc .inr %[8,.inl k,c,e|?_];let q:=x.cell y c e;rw[HF F hp J (by show scope.names.lookup y≠_;rw[k];decide)]at q;show q
 .show B.hok.fresh (av (x.above y c (nS h)))
 .unfold start;show _=N.length;rw[ax,ab,eL];simp_all
def agC {CX:qP}{P:Program}{w:World}{K:W.Frag}{mg:Str->Option Value}{base:Heap}{k:Nat}{f:Addr}{name qual:Str}{j:Arguments}{B:List Stmt}{scope:Scope}{dV kV doc pm bh ct oc:Value}{an od:Option Addr}{osl:Array (Option Value)}{N ps:List Str}{sp:Sp}(lk:K.lookup f=some %[oc,od,.func (W.fnOf name qual j B scope dV kV doc pm an bh ct)|osl])(hcd:W.codeIn K bh qual=true)(S:aU N ps scope)(len:∀vs H Q E,sp vs H Q E->vs.length=ps.length)(F:∀(A:Around) (outer:List Env) (s:Shared) (H:Hp) (vs:List V) (Q:VK) (E:XK),dG k (A.deeper (envOfC qual scope s.heap.objs.size f bh))->sp vs H Q E->
   ∃t,oY (oh CX P w K mg base N qual scope f bh A outer s H E) B t/\t {nx:=λ_ H'=>Q .non H',rt:=Q} (start N vs) H) :
  eZ P w K mg base CX (k+1) f (W.fnOf name qual j B scope dV kV doc pm an bh ct) ps sp:=by
 calc%[len|λA outer s H args us vs Q E Z G hb r M=>?_];let hl:=len _ _ _ _ M;let KX:K.In s.heap:=G.mod.xu.keeps λb o e=>(G.bs b o e).1;let lim:s.heap.NoLimit:=G.mod.nolimit.keeps λb o e=>(G.bs b o e).1;let D:∀y∈ps.zip us,scope.names.lookup y.1=some .local\/(scope.names.lookup y.1=some .cell/\((cellsFrom (s.heap.objs.size+1) scope.names []).lookup y.1).isSome=true):=λ⟨n,v⟩ hy=>by
  rcases S.par n (tI hy).1 with q|q;.show .inl q
  .show .inr %[q|W.cellsFrom_some _ _ _ (.inl q)]
 calc tf Z.depth (KX _ _ lk) rb S.co S.gen rb (vx KX hcd) (hb _ _ _ _ ?_);calc cj (wpAny_newFunctionEnv_cells S.kind D λenv he s1 x htk=>?_);subst he;calc%[lim.keeps x.toInCall.keep|codeAny_func ?_];let(t,ht,hq):=F A outer s H vs Q E (Z.deeper _) M;let I:aL (oh CX P w K mg base N qual scope f bh A outer s H E) [] (start N vs) H s1:=yh S Z.hd G hl r x htk;calc fm (ht [] s1 (start N vs) H _ I hq) (λfl s' hs=>?_) λe s' hs=>hs;let L:∀{O:St} {H':Hp} {v:V} {u:Value},aL (oh CX P w K mg base N qual scope f bh A outer s H E) [] O H' s'->bG v u->Q v H'->CE outer P w H s Q u s':=λ{O H' v u} J Y q=>%[63,v,H',J.os,J.bare,J.base,J.hok,Y,q,J.gh|J.tk]
 cases fl with
 | ret u=>let(v,O,H',J,Y,q):=hs;show L J Y q
 | next=>let(O,H',J,q):=hs;show L (v:=V.non) (u:=Value.none) J rb q
 | brk=>let(_,_,_,q):=hs;show False.elim q
 | cont=>let(_,_,_,q):=hs;show False.elim q
def OJ (x:InCallC s L m cs cm s1)(n):InCallC {s with toks:=n} L m cs cm s1:=%[%[let %[h,k|e]:=x.toInCall.same;%[6,h,k|e],x.toInCall.ns,x.toInCall.keep|x.toInCall.fresh],x.cell,x.apart|x.above]
def ab9 {s:Shared}{sc:Scope}(hk:sc.kind=.function)(j:sc.names.lookup n=some .local)(q:∀env,env=newEnv sc s.heap.objs.size gl (cellsFrom (s.heap.objs.size+1) sc.names []) qual fo cd none bl->∀s',InCallC s env.locals (bindL env.kindOf [(n,v)] λ_=>none) env.cells (bindC env.kindOf [(n,v)] λ_=>none) s'->s.toks<s'.toks->Q env s'):wpAny M A (newFunctionEnv sc gl [] [(n,v)] qual fo cd none bl) Q E s:=by
 simp only[newFunctionEnv,Option.isSome_none,a9,if_false];calc aa (wpAny_alloc (aa (wpAny_layCells _ (λa b c=>by cases h:b==NameKind.cell <;> simp[h]) _ _ _ _ ?_)));let ok:=cellsFrom_ok sc.names (s.heap.push {cls:=.type "frame",data:=.dict #[]}) (s.heap.objs.size+1) [] ⟨(λ_ _ z=>nomatch z),.nil⟩ (by rw[dE];show ah _);rw[dE]at ok;rw[show ({s with heap:=s.heap.push {cls:=.type "frame",data:=.dict #[]} }:Shared).heap.objs.size=s.heap.objs.size+1 from dE ..];let x:InCallC s s.heap.objs.size (λ_=>none) (cellsFrom (s.heap.objs.size+1) sc.names []) (λ_=>none) {s with heap:=pushCells (s.heap.push {cls:=.type "frame",data:=.dict #[]}) sc.names}:=%[%[%[6,_,_|rb],(Heap.Ns.new s.heap (.type "frame")).keeps (pushCells_keeps _ _),λb o e=>pushCells_keeps _ _ b o (af _ e)|ah _],λa c h=>(ok.empty a c (mem_of_lookup h)).1,ok.apart|λa c h=>(ok.empty a c h).2]
 calc aa ?_;rw[iP];calc aa (aa (wpAny_storeName_local (env:=newEnv sc s.heap.objs.size gl (cellsFrom (s.heap.objs.size+1) sc.names []) qual fo cd none bl) j x.toInCall.ns (λh' hn hs=>?_) (by rw[show (newEnv sc s.heap.objs.size gl (cellsFrom (s.heap.objs.size+1) sc.names []) qual fo cd none bl).scope.kind=.function from hk];rfl)));calc ae ?_;dsimp only;rw[xl];calc ae (ae (q _ rb _ %[%[%[6,h',_|rb],?_,λb o e=>?_|x.toInCall.fresh],λk c B=>?_,x.apart|x.above] (e_ _)));.unfold bindL;rw[if_pos (show (newEnv sc s.heap.objs.size gl (cellsFrom (s.heap.objs.size+1) sc.names []) qual fo cd none bl).kindOf n=some .local from j)];show hn
 .show hs.extBut b o (a_ (bt (a7 e) x.toInCall.fresh)) (x.toInCall.keep b o e)
 .unfold bindC;rw[if_pos (show (newEnv sc s.heap.objs.size gl (cellsFrom (s.heap.objs.size+1) sc.names []) qual fo cd none bl).kindOf n=some .local from j)];show(x.cell k c B).sameBut hs (g9 (x.above k c (mem_of_lookup B)))
def aeK {P:Program}{w:World}{K:W.Frag}{mg:Str->Option Value}{base:Heap}{k:Nat}{f:Addr}{name qual y:Str}{j:Arguments}{B:List Stmt}{scope:Scope}{Z kV doc pm bh ct oc:Value}{an od:Option Addr}{osl:Array (Option Value)}{N:List Str}{sp:Sp}(lk:K.lookup f=some %[oc,od,.func (W.fnOf name qual j B scope Z kV doc pm an bh ct)|osl])(O:W.codeIn K bh qual=true)(S:aU N [y] scope)(hl:scope.names.lookup y=some .local)(len:∀vs H Q E,sp vs H Q E->vs.length=1)(F:∀(A:Around) (outer:List Env) (s:Shared) (H:Hp) (vs:List V) (Q:VK) (E:XK),dG k (A.deeper (envOfC qual scope s.heap.objs.size f bh))->sp vs H Q E->
   ∃t,oY (oh (λ_ _ _ _ _ _=>False) P w K mg base N qual scope f bh A outer s H E) B t/\t {nx:=λ_ H'=>Q .non H',rt:=Q} (start N vs) H) :
  n_ P w K mg base (λ_ _ _ _ _ _=>False) (k+1) f (W.fnOf name qual j B scope Z kV doc pm an bh ct) [y] sp:=by
 calc⟨λA outer s H args us vs Q E M e1 hb r L=>?_⟩;let G:=e1 s.toks;let D:=len _ _ _ _ L;let KX:K.In s.heap:=G.mod.xu.keeps λb o e=>(G.bs b o e).1;let Y:s.heap.NoLimit:=G.mod.nolimit.keeps λb o e=>(G.bs b o e).1;obtain⟨u,rfl⟩:∃u,us=[u]:=by
  have:=r.length
  match us,this with
  | [u],_=>show%[u|rb]
  | [],h=>rw[D]at h;cases h
  | _::_::_,h=>rw[D]at h;cases h
 calc tf M.depth (KX _ _ lk) rb S.co S.gen rb (vx KX O) (hb _ _ _ _ ?_);calc ab9 S.kind hl λenv he s1 x htk=>?_;subst he;calc%[Y.keeps x.toInCall.keep|codeAny_func ?_];let(t,ht,hq):=F A outer {s with toks:=s.toks+1} H vs Q E (M.deeper _) L;let I:=yh (CX:=λ_ _ _ _ _ _=>False) (s:={s with toks:=s.toks+1}) (E:=E) (us:=[u]) S M.hd G D r (OJ x (s.toks+1)) htk;calc fm (ht [] s1 (start N vs) H _ I hq) (λfl s' hs=>?_) λe s' hs=>hs;cases fl with
 | ret u=>let(v,T',H',J,rv,q):=hs;show%[63,v,H',J.os,J.bare,J.base,J.hok,rv,q,J.gh|Nat.le_of_succ_le J.tk]
 | next=>let(T',H',J,q):=hs;show%[63,.non,H',J.os,J.bare,J.base,J.hok,rb,q,J.gh|Nat.le_of_succ_le J.tk]
 | brk=>let(_,_,_,q):=hs;show False.elim q
 | cont=>let(_,_,_,q):=hs;show False.elim q
section
variable {X:Cx}{x:Str}{p pos:Pos}{e:Expr}{es:List Expr}{t:TA}{id T:String}{r:List V->Hp->VK->Prop}
def tCB (r:List V->Hp->VK->Prop)(t:TA):TE:=λC H Q=>t C H λvs H1=>r vs H1 Q
def Zj (D:d8 X (.builtin id) r)(F:Gl X x)(hm:X.mg x=none)(hv:bootBuiltins x=some (.builtin id))(ha:PA X (e::es) t)(hn:x≠"__name__":=by decide)(q:(x==("__debug__":Str))=false:=by decide)(B:starEach (e::es) X.env=(false,eval e X.env)::starEach es X.env:=by rfl)(j:(backTo pos (starEach es X.env)).any (·.1)=false:=by rfl):PE X (.Call (.Name x p) (e::es) [] pos) (tCB r t):=by intro ao s C H Q I h;calc me (qg I F hm hv ?_ hn q);show PyProof.Rows.callWith_builtin1 (bD (ha pos ao s C H _ I h) λus s1 ⟨vs,H1,I1,r1,q1⟩=>D ao s1 C H1 vs us Q I1 r1 q1) B j
def VJ (D:d8 X (.type T) r)(F:Gl X x)(hm:X.mg x=none)(hv:bootBuiltins x=some (.type T))(ha:PA X (e::es) t)(hn:x≠"__name__":=by decide)(q:(x==("__debug__":Str))=false:=by decide)(B:starEach (e::es) X.env=(false,eval e X.env)::starEach es X.env:=by rfl)(j:(backTo pos (starEach es X.env)).any (·.1)=false:=by rfl):PE X (.Call (.Name x p) (e::es) [] pos) (tCB r t):=by intro ao s C H Q I h;calc me (qg I F hm hv ?_ hn q);show iO (bD (ha pos ao s C H _ I h) λus s1 ⟨vs,H1,I1,r1,q1⟩=>D ao s1 C H1 vs us Q I1 r1 q1) B j
end
end L2
namespace HT
open PySem PyProof.Rows
section
variable {prog:Program}{w:World}{A:Around}{E:AB}{s:Shared}
def ab_ {vs ws:List Value}(Y:IsTup s.heap t vs.toArray)(hb:IsTup s.heap b ws.toArray)(hv:vs≠[])(h1:ws=[]->Q (.ref t) s)(Z:ws≠[]->Q (.ref s.heap.objs.size) {s with heap:=s.heap.push {cls:=.type "tuple",data:=.seq (vs++ws).toArray} })(hsz:vs.length+ws.length<=sizeLine):wpAny (model prog w) A (binaryOp .Add (.ref t) (.ref b)) Q E s:=by
 let((cls,L,data,sl),G,O,n,hd):=id Y;let((N,B,J,F),j,q,M,D):=id hb;simp only at O hd q D;subst O hd q D;let e:vs.toArray++ws.toArray=(vs++ws).toArray:=xp;by_cases hw:ws=[]
 .show concat_meets %[0,_,G|rb] %[0,_,j|rb] noFill_tuple_add seq_tuple_add sr sd (rg _ _)
   (tuple_addW1 t b vs.toArray ws.toArray n M L B sl F (by simpa using hv) (by simp[hw])) %[G,j|h1 hw]
 .refine concat_meets %[0,_,G|rb] %[0,_,j|rb] noFill_tuple_add seq_tuple_add sr sd (rg _ _)
   (tuple_addW2 t b vs.toArray ws.toArray n M L B sl F (by simpa using hv) (by simpa using hw) (by rw[bv,bv];show hsz)) %[G,j|?_]
  rw[e];show Z hw
def cF (n d:Nat):Option Int->Nat
 | none=>d
 | some v=>if v<0 then (v+(n:Int)).toNat else min v.toNat n
def rD (n d k:Nat):cF n d (some (k:Int))=min k n:=by show (if (k:Int)<0 then ((k:Int)+(n:Int)).toNat else min (k:Int).toNat n)=min k n;rw[if_neg xo,ci]
def VL (n d)(hd:d<=n)(o):cF n d o<=n:=by
 cases o with
 | none=>show hd
 | some v=>
  show (if v<0 then (v+(n:Int)).toNat else min v.toNat n)<=n;by_cases hv:v<0;.rw[if_pos hv];lia
  .rw[if_neg hv];show wq _ _
def Fo (v:Int)(n d:Nat):(if v<0 then max (v+(n:Int)) 0 else min v (n:Int))=((cF n d (some v):Nat):Int):=by
 show (if v<0 then max (v+(n:Int)) 0 else min v (n:Int))=(((if v<0 then (v+(n:Int)).toNat else min v.toNat n):Nat):Int)
 by_cases hv:v<0;.simp only[if_pos hv];lia
 .simp only[if_neg hv];grind
def Tf (lo hi:Option Int)(n:Nat):Builtin.Slice.sliceAdjust lo hi 1 (n:Int)=(((cF n 0 lo:Nat):Int),((cF n n hi:Nat):Int)):=by
 let h1:¬((1:Int)<0):=xo;unfold Builtin.Slice.sliceAdjust;simp only[h1,if_false];refine sK ?_ ?_
 .cases lo with| none=>rfl| some v=>show Fo v n 0
 .cases hi with| none=>rfl| some v=>show Fo v n n
def Tg (i j:Nat):Builtin.Slice.slicePlaces (i:Int) (j:Int) 1=j-i:=by unfold Builtin.Slice.slicePlaces;let h1:(1:Int) > 0:=xo;simp only[h1,if_true,Int.ediv_one];split <;> simp_all
def CN (p:IsPart v o)(h:Q o s):wpAny (model prog w) A (Builtin.Slice.slicePartIndex v) Q E s:=by
 cases p with| none=>show slicePart_none h| int i t=>show slicePart_int h
def Bl {sl:Addr}{vl B:Value}{lo hi:Option Int}{n:Nat}{Q:Int×Int×Nat->Shared->Prop}(hs:s.heap.IsSliceOf sl vl B .none)(pl:IsPart vl lo)(F:IsPart B hi)(h:Q (((cF n 0 lo:Nat):Int),1,cF n n hi-cF n 0 lo) s):wpAny (model prog w) A (Builtin.Slice.sliceApplied (.ref sl) (pure (n:Int))) Q E s:=by let(os,j,D,q):=id hs;unfold Builtin.Slice.sliceApplied Builtin.Slice.sliceFields;calc aa (aa (f8 j q (x:=vl) rb (aa (f8 j q (x:=B) rb (aa (f8 j q (x:=.none) rb (ae ?_)))))));calc aa (slicePart_none ?_);show wpAny _ _ (if ((1:Int)==0)=true then _ else _) _ _ s;rw[if_neg xt];calc aa (CN pl (aa (CN F (aa (ae ?_)))));show wpAny _ _ (match Builtin.Slice.sliceAdjust lo hi 1 (n:Int) with|(lo,hi)=>pure (lo,(1:Int),Builtin.Slice.slicePlaces lo hi 1)) _ _ s;rw[Tf lo hi n];show wpAny _ _ (pure (((cF n 0 lo:Nat):Int),(1:Int),Builtin.Slice.slicePlaces ((cF n 0 lo:Nat):Int) ((cF n n hi:Nat):Int) 1)) _ _ s;rw[Tg];show ae h
def Zk (xs:Array Value)(i k:Nat):((List.range k).filterMap λ(m:Nat)=>xs[((i:Int)+(m:Int)*1).toNat]?).toArray=((xs.toList.drop i).take k).toArray:=by
 let e:(λ(m:Nat)=>xs[((i:Int)+(m:Int)*1).toNat]?)=λm=>xs[i+m]?:=by
  funext m;have:((i:Int)+(m:Int)*1).toNat=i+m:=by lia
  rw[this]
 rw[e];have:=pick_run xs i k;rw[List.filterMap_map]at this;let e2:((λx=>xs[x]?) ∘ λx=>i+x)=λm=>xs[i+m]?:=rfl;rw[e2]at this;rw[this]
def Ai {lo hi:Option Int}(j:IsTup s.heap t items)(hs:s.heap.IsSliceOf sl vl vu .none)(pl:IsPart vl lo)(M:IsPart vu hi)(hw:¬(cF items.size 0 lo=0/\cF items.size items.size hi=items.size))(h:Q (.ref s.heap.objs.size) {s with heap:=s.heap.push {cls:=.type "tuple",data:=.seq ((items.toList.drop (cF items.size 0 lo)).take (cF items.size items.size hi-cF items.size 0 lo)).toArray} })(hsz:items.size<=sizeLine):wpAny (model prog w) A (getItem (.ref t) (.ref sl)) Q E s:=by
 let J:sizeOk (.seq ((items.toList.drop (cF items.size 0 lo)).take (cF items.size items.size hi-cF items.size 0 lo)).toArray):=by show ((items.toList.drop (cF items.size 0 lo)).take (cF items.size items.size hi-cF items.size 0 lo)).toArray.size<=sizeLine;rw[bv,bn,cz,bq];lia
 let N:cF items.size items.size hi<=items.size:=VL _ _ (ah _) hi;let(os,B,G,L):=id hs;let D:s.TypeIs (.ref sl) "slice":=%[0,os,B|G]
 unfold getItem
 try with_reducible refine eD ?_
 first|refine aa (ae ?_)|skip
 calc aa (wpAny_sequenceKey j.typeIs xt ?_);refine aa (dL (name:=Str.ofString "__getitem__") j.typeIs n5
  (c9 n5 j.typeIs entry_tuple_getitem ?_ (args_tuple_getitem _ _)))
 show wpAny _ _ (Builtin.Tuple.tupleItemsOf (.ref t) >>= _) _ _ s;calc aa (tupleItemsOf_ j ?_);calc aa (tJ D ?_);rw[if_pos xt];calc aa (Bl hs pl M ?_);let F:¬((((cF items.size 0 lo:Nat):Int)==0&&(1:Int)==1&&(cF items.size items.size hi-cF items.size 0 lo)==items.size)=true):=by intro q;rw[dm,dm]at q;let q1:((cF items.size 0 lo:Nat):Int)=0:=eq_of_beq q.1.1;let q2:cF items.size items.size hi-cF items.size 0 lo=items.size:=eq_of_beq q.2;show hw %[Iff.mp Int.ofNat_inj q1|by simp_all]
 show wpAny _ _ (if (((cF items.size 0 lo:Nat):Int)==0&&(1:Int)==1&&(cF items.size items.size hi-cF items.size 0 lo)==items.size)=true then _ else _) _ _ s;rw[if_neg F,Zk]
 first| show aa (m:=Builtin.Tuple.tupleExact _) (dA (ae %[0,_,rb|ae h]) J)| show aa (m:=Builtin.Tuple.tupleExact _) (dA (aa (ae (ae %[_,rb|ae h]))) J)| show aa (aa (m:=Builtin.Tuple.tupleExact _) (dA (ae (ae %[_,rb|ae h])) J))| show aa (aa (m:=Builtin.Tuple.tupleExact _) (dA (ae %[_,rb|ae h]) J))
end
end HT
namespace L2
open PySem PySem.Spec PyProof.Rows
abbrev TO:=St->Hp->(Option Int->Hp->Prop)->Prop
def PO (X:Cx)(e:Option Expr)(t:TO):Prop:=∀(ao:AC) (s:Shared) (I:St) (H:Hp) (Q:Option Int->Hp->Prop),aL X ao I H s->t I H Q->
  wpAny (model X.prog X.w) X.A (evalPart e X.env) (λu s'=>∃o H',aL X ao I H' s'/\IsPart u o/\Q o H') X.xe s
def uU:TO:=λ_ H Q=>Q none H
def CP (t:TE):TO:=λI H Q=>t I H λx H1=>∃i,x=.int i/\Q (some i) H1
section
variable {X:Cx}{e:Expr}{te:TE}{lo hi:Option Expr}{tl th:TO}{pos p2:Pos}
def acd:PO X none uU:=by intro ao s C H Q I h;rw[evalPart_none];show ae %[1,none,H,I,.none|h]
def ace (h:PE X e te):PO X (some e) (CP te):=by intro ao s C H Q I hw;rw[evalPart_some];calc bD (h ao s C H _ I hw) λu s1 j=>?_;let(x,H1,I1,r1,q1):=j;let(i,rfl,q):=q1;let(t,rfl):=r1;show%[1,some i,H1,I1,.int i t|q]
def Qt (X:Cx)(r:V->Option Int->Option Int->Hp->VK->Prop):Prop:=∀(ao:AC) (s:Shared) (C:St) (H:Hp) (x:V) (v vl j:Value) (lo hi:Option Int) (sl:Addr) (Q:VK),aL X ao C H s->bG x v->s.heap.IsSliceOf sl vl j .none->IsPart vl lo->IsPart j hi->r x lo hi H Q->
  ∃T id,typeLookup (.type T) "__getitem__"=pure (some (.builtin id))/\s.TypeIs v T/\wpAny (model X.prog X.w) X.A (getItem v (.ref sl)) (EP X ao C Q) X.xe s
def VN (r:V->Option Int->Option Int->Hp->VK->Prop)(te:TE)(tl th:TO):TE:=λC H Q=>te C H λx H1=>tl C H1 λl q=>th C q λu j=>r x l u j Q
def Zm (O:Qt X r)(G:PE X e te)(M:PO X lo tl)(N:PO X hi th):PE X (.Subscript e (.Slice lo hi none p2) pos) (VN r te tl th):=by intro ao s C H Q I h;calc Subscript_ (bD (G ao s C H _ I h) λv s1 B=>?_);let(x,H1,I1,r1,q1):=B;calc wpAny_Slice (bD (M ao s1 C H1 _ I1 q1) λvl s2 B=>?_);let(l,Y,I2,pl,q2):=B;calc bD (N ao s2 C Y _ I2 q2) λD j B=>?_;let(u,F,I3,Z,q3):=B;rw[evalPart_none];calc ae ?_;let I4:aL X ao C F {j with heap:=j.heap.push {cls:=.type "slice",data:=.fields #[vl,D,.none]} }:=I3.kept (t':=j.toks) λb ob q=>af _ q;let(T,id,J,L,hg):=O ao {j with heap:=j.heap.push {cls:=.type "slice",data:=.fields #[vl,D,.none]} } C F x v vl D l u j.heap.objs.size Q I4 r1 (Heap.IsSliceOf.new ..) pl Z q3;show wpAny (model X.prog X.w) X.A (subscriptTail e (.Slice lo hi none p2) v (.ref j.heap.objs.size)) (EP X ao C Q) X.xe {j with heap:=j.heap.push {cls:=.type "slice",data:=.fields #[vl,D,.none]} };show tail_any (ops:=[.ref j.heap.objs.size,v]) L J hg (by with_unfolding_all rfl)
def jT (xs:List V)(lo hi:Option Int):List V:=(xs.drop (HT.cF xs.length 0 lo)).take (HT.cF xs.length xs.length hi-HT.cF xs.length 0 lo)
def Aq (xs)(lo hi):(jT xs lo hi).length<=xs.length:=by unfold jT;rw[bn,cz];lia
def aeL (K:W.Frag):V->Option Int->Option Int->Hp->VK->Prop:=λx lo hi H Q=>∃a xs,x=.ref a/\aV K H a xs/\
 ¬(HT.cF xs.length 0 lo=0/\HT.cF xs.length xs.length hi=xs.length)/\∀p,H p=none->Q (.ref p) (upd H p (.tup (jT xs lo hi)))
def aeM:Qt X (aeL X.K):=by
 intro ao s C H x v vl F lo hi sl Q I D hs pl B h;let(a,xs,rfl,hx,hw,q):=h;cases D;let(its,r,j,hz):=I.tuple hx;let M:its.toArray.size=xs.length:=by rw[bv];show r.length.symm
 calc%[1,"tuple",_,n5.lookup,j.typeIs|?_];calc HT.Ai j hs pl B (by rw[M];show hw) ?_ (by rw[M];show hz);rw[M];calc%[1,.ref s.heap.objs.size,_,I.laid (t':=s.toks) (o:=.tup (jT xs lo hi)) (λb ob q=>af _ q) (ah _) ?_,rb|q _ (I.hok.fresh (ah _))];show%[8,ay (Aq xs lo hi) hz,_,(r.drop (HT.cF xs.length 0 lo)).take (HT.cF xs.length xs.length hi-HT.cF xs.length 0 lo)|IsTup.new _ _]
def Vals.Fp (r:Vals xs us):us=[]↔xs=[]:=by
 cases r with| nil=>simp| cons _ _=>simp
end
def HJ (n:Nat)(i:Int):Option Nat:=if 0<=i then (if i<n then some i.toNat else none) else if -(n:Int)<=i then some (i+n).toNat else none
def k_ {I:Type}(xs:List I)(i:Int):Option I:=(HJ xs.length i).bind λj=>xs[j]?
def Qu (h:HJ n i=some j):seqIndex? i n=some j/\j<n/\-(n:Int)<=i/\i<n:=by
 unfold HJ at h;by_cases q:0<=i
 .rw[if_pos q]at h;by_cases h1:i<n
  .rw[if_pos h1]at h;let e:i.toNat=j:=bg h;show%[by rw[seqIndex_of q h1,e],xo,xo|h1]
  .rw[if_neg h1]at h;cases h
 .rw[if_neg q]at h;by_cases h1:-(n:Int)<=i
  .rw[if_pos h1]at h;let e:(i+n).toNat=j:=bg h;show%[by rw[seqIndex_neg xo h1,e],xo,h1|xo]
  .rw[if_neg h1]at h;cases h
def zN {I:Type}{xs:List I}{v:I}(h:k_ xs i=some v):∃j,seqIndex? i xs.length=some j/\xs[j]?=some v/\j<xs.length/\-(xs.length:Int)<=i/\i<xs.length:=by
 unfold k_ at h;cases e:HJ xs.length i with
 | none=>rw[e]at h;cases h
 | some j=>rw[e]at h;let(h1,B,D,q):=Qu e;show%[5,j,h1,h,B,D|q]
def aO {I:Type}{xs:List I}{j:Nat}{v:I}(h:xs[j]?=some v):k_ xs (j:Int)=some v:=by
 let q:j<xs.length:=(al.mp h).1;let e:HJ xs.length (j:Int)=some j:=by unfold HJ;rw[if_pos xo,if_pos (ph gu q)];simp
 unfold k_;rw[e];show h
def Fq (b:Expr):Prop:=∀o i,subscripted b false o i=operate [o,i] (getItem o i)
def HN (X:Cx)(r:R2):Prop:=∀(value j:Expr) (ao:AC) (s:Shared) (I:St) (H:Hp) (x y:V) (v u:Value) (Q:VK),aL X ao I H s->bG x v->bG y u->r x y H Q->
  subscripted j false v u=operate [v,u] (getItem v u)->wpAny (model X.prog X.w) X.A (subscriptTail value j v u) (EP X ao I Q) X.xe s
def rM (X:Cx)(id:String)(r:V->List V->Hp->VK->Prop):Prop:=∀(ao:AC) (s:Shared) (I:St) (H:Hp) (x:V) (xs:List V) (v:Value) (us:List Value) (Q:VK),aL X ao I H s->bG x v->Vals xs us->r x xs H Q->
  wpAny (model X.prog X.w) X.A (call (.builtin id) (v::us)) (EP X ao I Q) X.xe s
section
variable {X:Cx}{a b:Expr}{ta tb:TE}{pos:Pos}
def agD (j:HN X r)(ha:PE X a ta)(B:PE X b tb)(hs:Fq b):PE X (.Subscript a b pos) (qO r ta tb):=by intro ao s C H Q I h;show Subscript_ (Za ha B I h λv u s2 x y D I2 F G q=>j a b ao s2 C D x y v u Q I2 F G q (hs _ _))
def aeN (K:W.Frag):R2:=λx y H Q=>∃p xs i v,x=.ref p/\y=.int i/\aN K H p xs/\k_ xs i=some v/\Q v H
def Ti (K:W.Frag):R2:=λx y H Q=>∃p xs i v,x=.ref p/\y=.int i/\aV K H p xs/\k_ xs i=some v/\Q v H
def aeO:R2:=λx y H Q=>∃z i c,x=.str z/\y=.int i/\z.length<=sizeLine/\k_ z.cps.toList i=some c/\Q (.str ⟨#[c]⟩) H
def gq:HN X (aeN X.K):=by
 intro value D ao s C H x y v u Q I Z ry h hs;let(p,xs,i,z,rfl,rfl,O,L,q):=h;cases Z;let(t,rfl):=ry;let(its,r,pl,hz):=I.list O;let(j,h1,M,h3,Y,h5):=zN L;let(w,G,CQ):=r.get M;let N:=r.length;let hn:=rK;let B:EP X ao C Q w s:=%[1,z,H,I,CQ|q]
 by_cases J:0<=i
 .let F:i.toNat=j:=by
   rw[seqIndex_of J h5]at h1;show bg h1
  show item_listR pl.isList J xo (by rw[F];simpa using G) B hs
 .let F:(i+(its.toArray.size:Int)).toNat=j:=by
   rw[seqIndex_neg xo Y]at h1;rw[bv,<-N];show bg h1
  show subscriptTail_builtinR (x:=w) pl.isList.typeIs slot_list_getitem.lookup
   (wpAny_getItem_list_neg (Q:=λr s'=>r=w/\EP X ao C Q r s') pl.isList xo (by rw[bv] <;> lia) xo (by rw[F];simpa using G) %[rb|B]) hs
def dO:HN X (Ti X.K):=by
 intro value B ao s C H x y v u Q I N Y h hs;let(p,xs,i,z,rfl,rfl,M,F,q):=h;cases N;let(t,rfl):=Y;let(its,r,pl,hz):=I.tuple M;let(j,h1,G,Z,h4,h5):=zN F;let(w,L,O):=r.get G;let J:=r.length;let hn:=rK;let D:EP X ao C Q w s:=%[1,z,H,I,O|q]
 show subscriptTail_builtinR (x:=w) pl.typeIs slot_tuple_getitem.lookup
  (getItem_tuple (j:=j) (Q:=λr s'=>r=w/\EP X ao C Q r s') pl xo xo (by rw[bv,<-J];show h1) (by simpa using L) %[rb|D]) hs
def aeP:HN X aeO:=by
 intro value B ao s C H x y v u Q I L M h hs;let(z,i,c,rfl,rfl,hz,D,q):=h;let(t,rfl):=L;let(t',rfl):=M;let(j,h1,F,O,J,N):=zN D;let G:z.cps.toList.length=z.length:=by simp[Str.length]
 rw[G]at h1 J N;let hn:=rK;show tail_any (typeIs_str s z t) slot_str_getitem.lookup (getItem_str (c:=c) (by
  let e1:decide (i < -(2^63:Int))=false:=ai xo;let e2:decide (i>=2^63)=false:=ai xo;rw[e1,e2,qi]) (by rw[h1];simpa using F) %[1,.str ⟨#[c]⟩,H,I.tok _,%[_|rb]|q]) hs
def Tj (its:List Value)(n j)(u):Obj.mapSeq (·.setIfInBounds j u) {cls:=.type "list",data:=.seq its.toArray n}={cls:=.type "list",data:=.seq (its.set j u).toArray n}:=by simp[Obj.mapSeq]
def aL.lst {ao:AC}{C:St}{H:Hp}{s:Shared}{p:Addr}{xs:List V}(I:aL X ao C H s)(h:H p=some (.lst xs)):∃(its:List Value) (n:Nat),Vals xs its/\s.heap.get? p=some {cls:=.type "list",data:=.seq its.toArray n}/\xs.length<=sizeLine:=by let(z,its,n,r,e):=I.hok p _ h;show%[1,its,n,r,e|z]
def aL.aeQ {ao:AC}{C:St}{H:Hp}{s:Shared}{p:Addr}{xs ys:List V}{its its':List Value}{n j:Nat}{f:Obj->Obj}(I:aL X ao C H s)(h:H p=some (.lst xs))(D:s.heap.get? p=some {cls:=.type "list",data:=.seq its.toArray n})(hf:f {cls:=.type "list",data:=.seq its.toArray n}={cls:=.type "list",data:=.seq its'.toArray j })(r:Vals ys its')(hz:ys.length<=sizeLine)(t:Nat)(F:s.toks<=t:=by first|show ah _|assumption|show du _|lia):aL X ao C (upd H p (.lst ys)) {s with heap:=s.heap.update p f,toks:=t}:=by
 let e:(s.heap.update p f).get? p=some {cls:=.type "list",data:=.seq its'.toArray j }:=by rw[fg f D (by rw[hf] <;> rfl),hf]
 calc I.write (x:=p) (e:=p) (by rw[h];trivial) (.inl rb) (λb u B q=>(ja _ _ (kr B)).trans q) %[_|e] ?_;show%[24,hz,its',j,r|e]
def agE:V->V->V->Hp->(Hp->Prop)->Prop:=λo i v H Q=>∃p xs k j,o=.ref p/\i=.int k/\H p=some (.lst xs)/\HJ xs.length k=some j/\Q (upd H p (.lst (xs.set j v)))
def set_list:Y8 X agE:=by
 intro ao s C H o i v ov iv u Q I O N M h;let(p,xs,k,j,rfl,rfl,hp,Y,q):=h;cases O;let(t,rfl):=N;let(its,n,r,D,hz):=I.lst hp;let(h1,Z,F,J):=Qu Y;let B:=r.length;let hn:=rK;let G:aL X ao C (upd H p (.lst (xs.set j v))) {s with heap:=s.heap.update p (Obj.mapSeq (·.setIfInBounds j u))}:=I.aeQ hp D (Tj its n j u) (r.set M j) (by rw[qr];show hz) s.toks
 by_cases L:0<=k
 .let hk:k.toNat=j:=by
   rw[seqIndex_of L J]at h1;show bg h1
  show W.ki_setAt D L xo (by rw[bv,<-B];show J) (by rw[hk];show%[0,_,G|q])
 .let hk:(k+(its.toArray.size:Int)).toNat=j:=by
   rw[seqIndex_neg xo F]at h1;rw[bv,<-B];show bg h1
  show W.ki_setBack D xo (by rw[bv,<-B];show F) xo (by rw[hk];show%[0,_,G|q])
def KH (lo hi)(n):(sliceBounds lo hi none n).1=((HT.cF n 0 lo:Nat):Int)/\(sliceBounds lo hi none n).2.1=((HT.cF n n hi:Nat):Int)/\(sliceBounds lo hi none n).2.2=1:=by
 refine%[?_,?_|rb]
 .cases lo with
  | none=>simp[sliceBounds,HT.cF]
  | some i=>
   simp only[sliceBounds,HT.cF,Option.getD_none,show (1:Int) > 0 by decide,if_true];by_cases h:i<0
   .simp only[h,if_true] <;> grind
   .simp only[h,if_false] <;> grind
 .cases hi with
  | none=>simp[sliceBounds,HT.cF]
  | some i=>
   simp only[sliceBounds,HT.cF,Option.getD_none,show (1:Int) > 0 by decide,if_true];by_cases h:i<0
   .simp only[h,if_true] <;> lia
   .simp only[h,if_false] <;> lia
def Jy (its:List Value)(lo hi):slicePick its.toArray lo hi none=((its.drop (HT.cF its.length 0 lo)).take (HT.cF its.length its.length hi-HT.cF its.length 0 lo)).toArray:=by let(h1,q,j):=KH lo hi its.toArray.size;unfold slicePick;rw[h1,q,j];simp only[sliceRange_one,pick_run,bv] <;> rfl
def ahn (K:W.Frag):V->Option Int->Option Int->Hp->VK->Prop:=λx lo hi H Q=>∃a xs,x=.ref a/\aN K H a xs/\∀p,H p=none->Q (.ref p) (upd H p (.lst (jT xs lo hi)))
def zO:Qt X (ahn X.K):=by intro ao s C H x v vl F lo hi sl Q I D hs pl B h;let(a,xs,rfl,hx,q):=h;cases D;let(its,r,j,hz):=I.list hx;let M:=r.length;calc%[1,"list",_,slot_list_getitem.lookup,j.isList.typeIs|?_];calc wpAny_getItem_list_slice j.isList hs pl B .none xp ?_ (by rw[bv] <;> simp_all);rw[Jy,<-M];calc%[1,.ref s.heap.objs.size,_,I.laid (t':=s.toks) (o:=.lst (jT xs lo hi)) (λb ob q=>af _ q) (ah _) ?_,rb|q _ (I.hok.fresh (ah _))];show%[24,ay (Aq xs lo hi) hz,_,0,(r.drop (HT.cF xs.length 0 lo)).take (HT.cF xs.length xs.length hi-HT.cF xs.length 0 lo)|aw _ rb]
def qZ:V->Bool
 | .non=>true
 | .bl _=>true
 | .int _=>true
 | .str _=>true
 | _=>false
noncomputable def qQ:V->V->Bool
 | .non,.non=>true
 | .bl a,.bl b=>a==b
 | .bl a,.int b=>(if a then 1 else 0)==b
 | .int a,.bl b=>a==(if b then 1 else 0)
 | .int a,.int b=>a==b
 | .str a,.str b=>a==b
 | _,_=>false
def aeR (q:bG y u)(j:bG x v)(D:qZ y=true)(B:qZ x=true):SeqAt.EqAt A s u v (qQ y x):=by
 cases y with
 | non=>
  cases q;cases x with
  | non=>cases j;show SeqAt.EqAt.same _
  | bl b=>cases j;show SeqAt.EqAt.none_bool b
  | int b=>let(t,rfl):=j;show SeqAt.EqAt.none_int b t
  | str b=>let(t,rfl):=j;show SeqAt.EqAt.none_str b t
  | _=>show absurd (show false=true from B) b7
 | bl a=>
  cases q;cases x with
  | non=>cases j;show SeqAt.EqAt.bool_none a
  | bl b=>cases j;show SeqAt.EqAt.bool_bool a b
  | int b=>let(t,rfl):=j;show SeqAt.EqAt.bool_int a b t
  | str b=>let(t,rfl):=j;show SeqAt.EqAt.bool_str a b t
  | _=>show absurd (show false=true from B) b7
 | int a=>
  let(t',rfl):=q;cases x with
  | non=>cases j;show SeqAt.EqAt.int_none a t'
  | bl b=>cases j;show SeqAt.EqAt.int_bool a t' b
  | int b=>let(t,rfl):=j;show om a t' b t
  | str b=>let(t,rfl):=j;show SeqAt.EqAt.int_str a t' b t
  | _=>show absurd (show false=true from B) b7
 | str a=>
  let(t',rfl):=q;cases x with
  | non=>cases j;show SeqAt.EqAt.str_none a t'
  | bl b=>cases j;show SeqAt.EqAt.str_bool a t' b
  | int b=>let(t,rfl):=j;show SeqAt.EqAt.str_int a t' b t
  | str b=>let(t,rfl):=j;show SeqAt.EqAt.str_str a t' b t
  | _=>show absurd (show false=true from B) b7
 | _=>show absurd (show false=true from D) b7
noncomputable def rN (x:V)(u:Value):Bool:=match u with| .none=>qQ .non x| .bool b=>qQ (.bl b) x| .int i _=>qQ (.int i) x| .str z _=>qQ (.str z) x| _=>false
def VP (r:bG y u)(f:qZ y=true):rN x u=qQ y x:=by
 cases y with
 | non=>cases r;rfl
 | bl b=>cases r;rfl
 | int i=>let(t,rfl):=r;rfl
 | str z=>let(t,rfl):=r;rfl
 | _=>show absurd (show false=true from f) b7
theorem uV:∀{xs:List V} {us:List Value},Vals xs us->xs.all qZ=true->us.any (rN x)=xs.any λy=>qQ y x
 | _,_,.nil,_=>rfl
 | y::xs,u::us,.cons r t,f=>by rw[vF,dm]at f;rw[mx,mx,VP r f.1,uV t f.2]
theorem rO (q:bG x v)(B:qZ x=true):∀{xs:List V} {us:List Value},Vals xs us->xs.all qZ=true->∀u∈us,SeqAt.EqAt A s u v (rN x u)
 | _,_,.nil,_=>λu j=>by cases j
 | y::xs,u::us,.cons r t,f=>λD j=>by
  rw[vF,dm]at f;rcases bd.mp j with rfl|j;.rw[VP r f.1];show aeR r q f.1 B
  .show rO q B t f.2 D j
def inV (x:V)(xs:List V):Bool:=xs.any λy=>qQ y x
def rIn (K:W.Frag)(j:Bool):R2:=λx y H Q=>∃p xs,y=.ref p/\(aN K H p xs\/aV K H p xs)/\qZ x=true/\xs.all qZ=true/\Q (.bl (if j then !inV x xs else inV x xs)) H
def VR:fJ X (compareOp .In) (rIn X.K false):=by
 intro ao s C H x y v u Q I D F h;let(p,xs,rfl,j,B,fs,q):=h;cases F;rcases j with j|j
 .let(its,r,pl,hz):=I.list j;calc SeqAt.in_listAt (rN x) pl.isList (λw hw=>rO D B r fs w (by simpa using hw)) %[1,.bl _,H,I,rb|?_];rw[show its.toArray.any (rN x)=its.any (rN x) by simp,uV r fs];show q
 .let(its,r,pl,hz):=I.tuple j;calc SeqAt.in_tupleAt (rN x) pl (λw hw=>rO D B r fs w (by simpa using hw)) %[1,.bl _,H,I,rb|?_];rw[show its.toArray.any (rN x)=its.any (rN x) by simp,uV r fs];show q
def KJ:fJ X (compareOp .NotIn) (rIn X.K true):=by
 intro ao s C H x y v u Q I D F h;let(p,xs,rfl,j,B,fs,q):=h;cases F;rcases j with j|j
 .let(its,r,pl,hz):=I.list j;calc SeqAt.notIn_listAt (rN x) pl.isList (λw hw=>rO D B r fs w (by simpa using hw)) %[1,.bl _,H,I,rb|?_];rw[show its.toArray.any (rN x)=its.any (rN x) by simp,uV r fs];show q
 .let(its,r,pl,hz):=I.tuple j;calc SeqAt.notIn_tupleAt (rN x) pl (λw hw=>rO D B r fs w (by simpa using hw)) %[1,.bl _,H,I,rb|?_];rw[show its.toArray.any (rN x)=its.any (rN x) by simp,uV r fs];show q
def cB:d8 X (.builtin "len") (λxs H Q=>∃p ys,xs=[.ref p]/\(aN X.K H p ys\/aV X.K H p ys)/\Q (.int ys.length) H):=by
 intro ao s C H xs us Q I r h;let(p,ys,rfl,j,q):=h;let(u,rfl,D):=vals1 r;cases D;let hn:=rK;rcases j with j|j
 .let(its,B,pl,hz):=I.list j;let M:=B.length;show Calls.call_len_list pl.isList (by simp only[bv] <;> lia) %[1,.int ys.length,H,I.tok _,%[s.toks+1|by rw[bv,M]]|q]
 .let(its,B,pl,hz):=I.tuple j;let M:=B.length;show len_tuple pl (by simp only[bv] <;> lia) %[1,.int ys.length,H,I.tok _,%[s.toks+1|by rw[bv,M]]|q]
def KN:d8 X (.builtin "len") (λxs H Q=>∃z,xs=[.str z]/\z.length<=sizeLine/\Q (.int z.length) H):=by intro ao s C H xs us Q I r h;let(z,rfl,hz,q):=h;let(u,rfl,t,rfl):=vals1 r;let hn:=rK;show len_str xo %[1,.int z.length,H,I.tok _,%[_|rb]|q]
def dR:d8 X (.type "tuple") (λxs H Q=>∃p ys,xs=[.ref p]/\((aN X.K H p ys/\∀l,H l=none->Q (.ref l) (upd H l (.tup ys)))\/(aV X.K H p ys/\Q (.ref p) H))):=by
 intro ao s C H xs us Q I r h;let(p,ys,rfl,h):=h;let(u,rfl,D):=vals1 r;cases D;rcases h with⟨B,q⟩|⟨B,q⟩
 .let(its,j,pl,hz):=I.list B;let M:=j.length;calc call_tuple_list pl.isList (λh' kp=>?_) (by simp only[bv] <;> lia);let I1:aL X ao C H {s with heap:=h' }:=I.kept (t':=s.toks) kp;let I2:aL X ao C (upd H h'.objs.size (.tup ys)) {s with heap:=h'.push {cls:=.type "tuple",data:=.seq its.toArray} }:=
   I1.laid (t':=s.toks) (λb o e=>af _ e) (ah _) (show cZ X.prog X.w _ _ _ (.tup ys) from %[8,hz,its,j|IsTup.new _ _])
  show%[1,.ref h'.objs.size,_,I2,rb|q _ (I1.hok.fresh (ah _))]
 .let(its,j,pl,hz):=I.tuple B;show call_tuple_same pl %[1,.ref p,H,I,rb|q]
def tyV (K:W.Frag)(T:String)(x:V)(H:Hp):Prop:=match x with
 | .str _=>T="str"
 | .int _=>T="int"
 | .ref p=>(T="list"/\∃xs,aN K H p xs)\/(T="tuple"/\∃o,K.lookup p=some o/\o.cls=.type "tuple"/\o.dict=none)\/
   (T="dict"/\((∃kvs,H p=some (.dK kvs))\/∃kvs,H p=some (.dT kvs)))\/(T="set"/\∃S n,H p=some (.set S n))
 | _=>False
def V0 {ao:AC}{C:St}{H:Hp}{s:Shared}{T:String}{x:V}{v:Value}(I:aL X ao C H s)(r:bG x v)(ty:tyV X.K T x H):s.TypeIs v T/\∀a,v=.ref a->∃ob,s.heap.get? a=some ob/\ob.dict=none:=by
 cases x with
 | str z=>let(t,rfl):=r;cases(show T="str" from ty);show%[typeIs_str s z t|λ_ e=>nomatch e]
 | int i=>let(t,rfl):=r;cases(show T="int" from ty);show%[typeIs_int s i t|λ_ e=>nomatch e]
 | ref p=>
  cases r;rcases ty with⟨rfl,xs,q⟩|⟨rfl,o,hk,j,hd⟩|⟨rfl,hk⟩|⟨rfl,S,n,hk⟩
  .let(its,_,pl,_):=I.list q;calc%[pl.isList.typeIs|λa e=>?_];cases e;let(o,n,e,c,hd,_):=pl;show%[0,o,e|hd]
  .calc%[%[0,o,I.jD p o hk|j]|λa e=>?_];cases e;show%[0,o,I.jD _ o hk|hd]
  .let z:∃o,s.heap.get? p=some o/\o.ExactDict:=by
    rcases hk with⟨kvs,hk⟩|⟨kvs,hk⟩
    .let(_,_,_,_,o,_,_,e,ex,_):=I.hok p _ hk;show%[0,o,e|ex]
    .let(_,_,_,_,o,_,_,e,ex,_):=I.hok p _ hk;show%[0,o,e|ex]
   let(o,e,ex):=z;calc%[%[0,o,e|ex.1]|λa e2=>?_];cases e2;show%[0,o,e|ex.2.1]
  .let(o,_,_,_,e,ex,_):=I.hok p _ hk;calc%[%[0,o,e|ex.1]|λa e2=>?_];cases e2;show%[0,o,e|ex.2.1]
 | _=>show False.elim ty
def Zn (K:W.Frag)(T:String)(r:V->List V->Hp->VK->Prop)(to:TE):TE:=λC H Q=>to C H λx H1=>tyV K T x H1/\r x [] H1 Q
def Qv (K:W.Frag)(T:String)(r:V->List V->Hp->VK->Prop)(to:TE)(t:TA):TE:=λC H Q=>to C H λx H1=>tyV K T x H1/\t C H1 λxs j=>r x xs j Q
variable {o e:Expr}{es:List Expr}{to:TE}{t:TA}{name:Str}{apos cpos:Pos}{T id:String}{r:V->List V->Hp->VK->Prop}
def aeS (D:PlainAttrs T)(slot:Slot T name id)(B:typeOf (.builtin id)=pure (.type "method_descriptor"))(hm:rM X id r)(J:PE X o to)(q:attributeBase o name X.env (eval o X.env)=eval o X.env:=by rfl)(j:(apos.endLine==cpos.line)=true:=by rfl):PE X (.Call (.Attribute o name apos) [] [] cpos) (Zn X.K T r to):=by intro ao s C H Q I h;calc wpAny_Call_method0_late q j (bD (J ao s C H _ I h) λv s1 G=>?_);let(x,H1,I1,r1,ty,q1):=G;let(h1,F):=V0 I1 r1 ty;show%[28,T,id,D,slot,B,h1,F|oz rb (PySem.evalArgs_none (hm ao s1 C H1 x [] v [] Q I1 r1 .nil q1))]
def agF (J:PlainAttrs T)(slot:Slot T name id)(F:typeOf (.builtin id)=pure (.type "method_descriptor"))(hm:rM X id r)(Y:PE X o to)(ha:PA X (e::es) t)(B:attributeBase o name X.env (eval o X.env)=eval o X.env:=by rfl)(D:((backTo cpos (starEach (e::es) X.env)).all (λx=>!x.1)&&(backToKw cpos (keywordEach [] X.env)).all (λx=>x.1.isSome)
   && decide ((e::es).length+([]:List Keyword).length+(if ([]:List Keyword).isEmpty then 0 else 1)<30))=true:=by rfl)
  (q:(apos.endLine==cpos.line)=true:=by rfl) (hs:starEach (e::es) X.env=(false,eval e X.env)::starEach es X.env:=by rfl) (j:(backTo cpos (starEach es X.env)).any (·.1)=false:=by rfl) :
  PE X (.Call (.Attribute o name apos) (e::es) [] cpos) (Qv X.K T r to t):=by
 intro ao s C H Q I h;calc wpAny_Call_method_late B D q rb (bD (Y ao s C H _ I h) λv s1 N=>?_);let(x,H1,I1,r1,ty,q1):=N;let(h1,M):=V0 I1 r1 ty;calc%[28,T,id,J,slot,F,h1,M|?_];let G:=ha cpos ao s1 C H1 _ I1 q1;rw[hs]at G ⊢;calc oz (by show (false||(backTo cpos (starEach es X.env)).any (·.1))=false;rw[j] <;> rfl) (Calls.evalArgs_plain ?_);show bD G λus s2 ⟨vs,O,I2,L,q2⟩=>hm ao s2 C O x vs v us Q I2 r1 L q2
end
def MtM (X:Cx)(id:String)(r:V->List V->Hp->VK->Prop):Prop:=∀(ao:AC) (s:Shared) (I:St) (H:Hp) (x:V) (xs:List V) (v:Value) (us:List Value) (Q:VK),aL X ao I H s->bG x v->Vals xs us->r x xs H Q->
  wpAny (model X.prog X.w) X.A (call (.builtin id) (v::us)) (EP X ao I Q) X.xe s
theorem Vals.one:∀{x:V} {us:List Value},Vals [x] us->∃u,us=[u]/\bG x u
 | _,_,.cons r .nil=>%[0,_,rb|r]
theorem Vals.zero:∀{us:List Value},Vals [] us->us=[]
 | _,.nil=>rfl
section
variable {X:Cx}{ao:AC}{T:St}{H:Hp}{s:Shared}{l:Addr}{xs ys:List V}
def aL.aeT {its its':List Value}(I:aL X ao T H s)(D:H l=some (.lst xs))(e:s.heap.get? l=some {cls:=.type "list",data:=.seq its.toArray n})(hf:f its.toArray=its'.toArray)(hv:Vals ys its')(hz:ys.length<=sizeLine)(F:s.toks<=t':=by first|show ah _|assumption|show du _|lia):aL X ao T (upd H l (.lst ys)) {s with heap:=s.heap.update l (Obj.mapSeq f),toks:=t' }:=by let q:=PySem.IsL.update e f;rw[hf]at q;calc I.write (x:=l) (e:=l) (by rw[D];show trivial) (.inl rb) (λG u B j=>(ja s.heap (Obj.mapSeq f) (kr B)).trans j) %[_|q] ?_;show%[24,hz,its',_,hv|q]
def aL.aeU (I:aL X ao T H s)(hv:Vals ys its)(hz:ys.length<=sizeLine)(j:s.toks<=t':=by first|show ah _|assumption|show du _|lia):aL X ao T (upd H s.heap.objs.size (.lst ys)) {s with heap:=s.heap.push {cls:=.type "list",data:=.seq its.toArray},toks:=t' }:=I.laid (λ_ _ q=>af _ q) (ah _) %[24,hz,its,0,hv|aw _ rb]
def aL.fresh (I:aL X ao T H s):H s.heap.objs.size=none:=I.hok.fresh (ah _)
def aL.KQ (I:aL X ao T H s)(j:H l=some (.lst xs)):xs.length<=sizeLine/\∃(its:List Value) (n:Nat),Vals xs its/\xs.length=its.length/\s.heap.get? l=some {cls:=.type "list",data:=.seq its.toArray n}:=by let(z,its,n,r,e):=I.hok l _ j;show%[30,z,its,n,r,r.length|e]
def Zo (h:n<=sizeLine):Builtin.List.listTooLong n=false:=by unfold Builtin.List.listTooLong;show ai xo
end
section
variable {X:Cx}
def acf:V->List V->Hp->VK->Prop:=λx vs H Q=>∃l xs y,x=.ref l/\vs=[y]/\H l=some (.lst xs)/\xs.length<sizeLine/\Q .non (upd H l (.lst (xs++[y])))
def iG:MtM X "list.append" acf:=by intro ao s T H x vs v us Q I G D h;let(l,xs,y,rfl,rfl,j,hz,q):=h;cases G;let(u,rfl,B):=D.one;let(z,its,n,r,J,e):=I.KQ j;calc call_meets F.slot_list_append %[0,_,e|rb] F.entry_list_append (F.args_list_append_2 _ _) (PySem.list_append l its.toArray n u (by rw[bv];simp_all)) %[e|?_];calc%[1,.non,_,I.aeT (its':=its++[u]) j e xp (r.append (.cons B .nil)) ?_,rb|q];rw[ax,List.length_singleton];show hz
def zP:V->List V->Hp->VK->Prop:=λx vs H Q=>∃l b xs j,x=.ref l/\vs=[.ref b]/\H l=some (.lst xs)/\H b=some (.lst j)/\xs.length+j.length<=sizeLine/\Q .non (upd H l (.lst (xs++j)))
def qm:MtM X "list.extend" zP:=by
 intro ao s T H x vs v us Q I O M h;let(l,b,xs,Z,rfl,rfl,B,L,hz,q):=h;cases O;let(u,rfl,D):=M.one;cases D;let(z,its,n,r,hl,e):=I.KQ B;let(z2,j,N,J,Y,e2):=I.KQ L;let hsz:its.toArray.size+j.toArray.size<=sizeLine:=by rw[bv,bv];simp_all
 let G:¬(!its.toArray.isEmpty&&Builtin.List.listTooLong (its.toArray.size+j.toArray.size))=true:=by rw[Zo hsz,gx];show b7
 refine call_meets F.slot_list_extend %[0,_,e|rb] F.entry_list_extend (F.args_list_extend_2 _ _)
  (AutoSeq1.list_extend_list_list_0 l its.toArray n b j.toArray N G (by rw[bv];simp_all) (gz hsz)) %[e,e2|?_]
 calc%[1,.non,_,I.aeT (its':=its++j) B e xp (r.append J) ?_,rb|q];rw[ax];show hz
def aho:R2:=λx y H Q=>∃l b xs j,x=.ref l/\y=.ref b/\H l=some (.lst xs)/\H b=some (.lst j)/\xs.length+j.length<=sizeLine/\∀p,H p=none->Q (.ref p) (upd H p (.lst (xs++j)))
def aeV:fJ X (binaryOp .Add) aho:=by intro ao s T H x y v u Q I F L h;let(l,b,xs,N,rfl,rfl,M,D,hz,q):=h;cases F;cases L;let(z,its,n,r,O,e):=I.KQ M;let(Z,j,Y,B,J,e2):=I.KQ D;calc PySem.P.add_list e e2 ?_ (by rw[bv,bv];lia);let G:its.toArray++j.toArray=(its++j).toArray:=xp;rw[G];show%[1,.ref _,_,I.aeU (t':=s.toks) (r.append B) (by rw[ax];lia),rb|q _ I.fresh]
end
section
variable {I:Type}[DecidableEq I]
def fQ (kvs:List (I×V))(k:I):Option V:=(kvs.find? λj=>decide (j.1=k)).map (·.2)
noncomputable def putK (kvs:List (I×V))(k:I)(v:V):List (I×V):=if (kvs.any λj=>decide (j.1=k))=true then kvs.map (λj=>if j.1=k then (j.1,v) else j) else kvs++[(k,v)]
def g_ {p:I×V}(e:p.1=k):fQ (p::r) k=some p.2:=by simp[fQ,kQ,e]
def h_ {p:I×V}(e:¬p.1=k):fQ (p::r) k=fQ r k:=by simp[fQ,kQ,e]
theorem pB (k:I):∀kvs:List (I×V),(kvs.any λj=>decide (j.1=k))=(fQ kvs k).isSome
 | []=>rfl
 | p::r=>by
  rw[mx];by_cases e:p.1=k;.simp only[g_ e,ap e,Bool.true_or,Option.isSome_some]
  .rw[h_ e,ai e,Bool.false_or];show pB k r
theorem KR (k j:I)(y):∀kvs:List (I×V),fQ (kvs.map λq=>if q.1=k then (q.1,y) else q) j=(fQ kvs j).map λx=>if j=k then y else x
 | []=>rfl
 | p::r=>by
  let B:=KR k j y r;rw[b9];by_cases h:p.1=k
  .rw[if_pos h];by_cases e:p.1=j;.rw[g_ (p:=(p.1,y)) e,g_ e,qA,if_pos (e.symm.trans h)]
   .rw[h_ (p:=(p.1,y)) e,h_ e,B]
  .rw[if_neg h];by_cases e:p.1=j;.rw[g_ (p:=p) e,g_ e,qA,if_neg (λz=>h (e.trans z))]
   .rw[h_ (p:=p) e,h_ e,B]
theorem HS (k j:I)(y):∀kvs:List (I×V),fQ kvs k=none->fQ (kvs++[(k,y)]) j=if j=k then some y else fQ kvs j
 | [],_=>by
  by_cases e:k=j;.rw[if_pos e.symm];show g_ (p:=(k,y)) e
  .rw[if_neg (λz=>e z.symm)];show h_ (p:=(k,y)) e
 | p::r,hn=>by
  rw[List.cons_append];let hk:¬p.1=k:=λz=>by rw[g_ z]at hn;cases hn
  rw[h_ hk]at hn;let q:=HS k j y r hn;by_cases e:p.1=j;.rw[g_ e,g_ e,if_neg (λz=>hk (e.trans z))]
  .rw[h_ e,h_ e,q]
def Zq (kvs:List (I×V))(k j:I)(y):fQ (putK kvs k y) j=if j=k then some y else fQ kvs j:=by
 unfold putK;by_cases a:(kvs.any λB=>decide (B.1=k))=true
 .rw[if_pos a,KR];rw[pB]at a;by_cases e:j=k
  .let(x,hx):=Option.isSome_iff_exists.mp a;rw[if_pos e,e,hx,qA,if_pos rfl]
  .rw[if_neg e];cases fQ kvs j with| none=>rfl| some x=>rw[qA,if_neg e]
 .rw[if_neg a];calc HS k j y kvs ?_;rw[pB]at a;cases q:fQ kvs k with| none=>rfl| some x=>rw[q]at a;show(a rb).elim
def Av (kvs:List (I×V))(k:I)(v):(putK kvs k v).length<=kvs.length+1:=by
 unfold putK;split;.rw[ab];lia
 .rw[ax,bP,mr];lia
def Zr {kvs:List (I×V)}{k:I}(v:V)(h:fQ kvs k=none):putK kvs k v=kvs++[(k,v)]:=by unfold putK;rw[pB,h];show if_neg xt
def kY.yj (r:kY o u):o.isSome=u.isSome:=by
 cases o with
 | none=>cases u with| none=>rfl| some _=>show(show False from r).elim
 | some _=>cases u with| none=>show(show False from r).elim| some _=>rfl
def KV.val (r:KV kvs vs)(k:I):kY (fQ kvs k) (valueAt vs k):=by
 unfold KV at r
 induction r with
 | nil=>show True.intro
 | @cons p q ps qs h t ih=>
  let(h1,B):=h;by_cases e:p.1=k
  .let j:q.1=k:=h1.symm.trans e;let b:valueAt (q::qs) k=some q.2:=by simp[valueAt,kQ,j]
   rw[g_ e,b];show B
  .let j:¬q.1=k:=λz=>e (h1.trans z)
   let b:valueAt (q::qs) k=valueAt qs k:=by simp[valueAt,kQ,j]
   rw[h_ e,b];show ih
def KV.any (r:KV kvs vs)(k:I):(kvs.any λj=>decide (j.1=k))=vs.any λj=>decide (j.1=k):=by
 unfold KV at r
 induction r with| nil=>rfl| cons h t ih=>rw[mx,mx,ih,h.1]
def KV.repl (r:KV kvs vs)(k:I)(D:bG y u):KV (kvs.map λj=>if j.1=k then (j.1,y) else j) (vs.map λj=>if j.1=k then (j.1,u) else j):=by
 unfold KV at r ⊢
 induction r with
 | nil=>show .nil
 | @cons p q ps qs h t ih=>
  rw[b9,b9];calc .cons ?_ ih;let(h1,B):=h;by_cases e:p.1=k;.rw[if_pos e,if_pos (h1.symm.trans e)];show%[h1|D]
  .rw[if_neg e,if_neg (λz=>e (h1.trans z))];show%[h1|B]
def KV.put (r:KV kvs vs)(k:I)(j:bG y u):KV (putK kvs k y) (stored vs k u):=by
 unfold putK stored;rw[r.any k];by_cases e:(vs.any λq=>decide (q.1=k))=true;.rw[if_pos e,if_pos e];show r.repl k j
 .rw[if_neg e,if_neg e];show Paired.snoc r %[rb|j]
def KV.keys {kvs:List (I×V)}{vs:List (I×Value)}(r:KV kvs vs):kvs.map (·.1)=vs.map (·.1):=by
 unfold KV at r
 induction r with| nil=>rfl| cons h t ih=>rw[b9,b9,ih,h.1]
def KV.length {kvs:List (I×V)}{vs:List (I×Value)}(r:KV kvs vs):kvs.length=vs.length:=ke r
end
def J9 (r:bG (kV k) u):(cX P w).is k u=true:=by
 cases k with
 | inl i=>let(t,e):=(show ∃t,u=Value.int i t from r);subst e;show Oz P w i t
 | inr x=>let(t,e):=(show ∃t,u=Value.str x t from r);subst e;show OD P w x t
theorem HW:∀{ks:List Key} {us:List Value},Vals (ks.map kV) us->ItemsAre (cX P w) ks us
 | [],_,r=>by rw[mf]at r;cases r;show .nil
 | k::ks,_,r=>by
  rw[b9]at r;cases r with| cons h t=>show .cons (J9 h) (HW t)
abbrev KT (H:Hp):List (List Key×V)->List (List Key×Addr×Value)->Prop:=Paired λp q=>p.1=q.1/\H q.2.1=some (.tup (p.1.map kV))/\bG p.2 q.2.2
def KT.val (r:KT H kvs xs)(k:List Key):kY (fQ kvs k) ((atKey xs k).map (·.2)):=by
 induction r with
 | nil=>show True.intro
 | @cons p q ps qs h t ih=>
  let(h1,_,B):=h;by_cases e:p.1=k
  .let j:q.1=k:=h1.symm.trans e;let b:atKey (q::qs) k=some q.2:=by simp[atKey,kQ,j]
   rw[g_ e,b];show B
  .let j:¬q.1=k:=λz=>e (h1.trans z)
   let b:atKey (q::qs) k=atKey qs k:=by simp[atKey,kQ,j]
   rw[h_ e,b];show ih
def KT.repl (r:KT H kvs xs)(k:List Key)(F:bG y u):KT H (kvs.map λj=>if j.1=k then (j.1,y) else j) (xs.map (putAt k u)):=by
 induction r with
 | nil=>show .nil
 | @cons p q ps qs h t ih=>
  rw[b9,b9];calc .cons ?_ ih;let(h1,B,D):=h;unfold putAt;by_cases e:p.1=k;.rw[if_pos e,if_pos (h1.symm.trans e)];show%[h1,B|F]
  .rw[if_neg e,if_neg (λz=>e (h1.trans z))];show%[h1,B|D]
def KT.put (r:KT H kvs xs)(k:List Key)(D:H b=some (.tup (k.map kV)))(j:bG y u):KT H (putK kvs k y) (storedH xs k b u):=by
 let e:(kvs.any λB=>decide (B.1=k))=(atKey xs k).isSome:=by rw[pB,(r.val k).yj,wa]
 unfold putK storedH;rw[e];by_cases q:(atKey xs k).isSome=true;.rw[if_pos q,if_pos q];show r.repl k j
 .rw[if_neg q,if_neg q];show Paired.snoc r %[rb,D|j]
def KT.keeps (r:KT H kvs xs)(j:∀b ys,H b=some (.tup ys)->H' b=some (.tup ys)):KT H' kvs xs:=Paired.Fd r λ_ _ z=>%[z.1,j _ _ z.2.1|z.2.2]
section
variable {P:Program}{w:World}{H:Hp}{h:Heap}{a:Addr}
def abv (ok:gK P w H h)(e:Rd H a u):cZ P w H h a u:=e.ok ok
def J_ (ok:gK P w H h)(e:Rd H a (.dK kvs)):kvs.length<=sizeLine/\(a==sysModules)=false/\∃vs,KV kvs vs/\h.DictOf (cX P w) a vs:=show cZ P w H h a (.dK kvs) from abv ok e
def Tn (ok:gK P w H h)(e:H a=some (.dK kvs)):kvs.length<=sizeLine/\(a==sysModules)=false/\∃vs,KV kvs vs/\h.DictOf (cX P w) a vs:=J_ ok (.inl e)
def CT {ks:List Key}(ok:gK P w H h)(e:H a=some (.tup (ks.map kV))):(tupleKind (cX P w)).is h ks a:=by
 let(_,its,r,o,h1,j,n,q):=(show cZ P w H h a (.tup (ks.map kV)) from ok a _ e)
 show%[29,o,its.toArray,n,h1,j,q|by simpa using HW r]
def Ka (ok:gK P w H h)(e:Rd H a (.dT kvs)):kvs.length<=sizeLine/\(a==sysModules)=false/\
  ∃xs,KT H kvs xs/\h.DictOfH (tupleKind (cX P w)) a xs:=by
 let(z,y,xs,r,o,es,ep,h1,j,B,D,F):=(show cZ P w H h a (.dT kvs) from abv ok e)
 calc%[14,z,y,xs,r|%[47,o,es,ep,h1,j,B,D,λx hx=>?_|F]];let all:∀{l:List (List Key×V)} {m:List (List Key×Addr×Value)},KT H l m->∀x∈m,(tupleKind (cX P w)).is h x.1 x.2.1:=by
  intro l m q
  induction q with
  | nil=>intro x hx;show nomatch hx
  | @cons p q ps qs hq t ih=>
   intro x hx;rcases bd.mp hx with e|hx
   .subst e;show CT ok (by rw[<-hq.1];show hq.2.1)
   .show ih x hx
 show all r x hx
def agH (ok:gK P w H h)(e:H a=some (.dT kvs)):kvs.length<=sizeLine/\(a==sysModules)=false/\
  ∃xs,KT H kvs xs/\h.DictOfH (tupleKind (cX P w)) a xs:=Ka ok (.inl e)
end
def rP (H:Hp)(a:Addr)(y:V)(r:Option V):Prop:=(∃kvs k,Rd H a (.dK kvs)/\y=kV k/\r=fQ kvs k)\/∃kvs k b,Rd H a (.dT kvs)/\y=.ref b/\H b=some (.tup (k.map kV))/\r=fQ kvs k
def uE (H:Hp)(a:Addr)(y v:V)(H':Hp):Prop:=(∃kvs k,H a=some (.dK kvs)/\y=kV k/\kvs.length<sizeLine/\H'=upd H a (.dK (putK kvs k v)))\/
 ∃kvs k b,H a=some (.dT kvs)/\y=.ref b/\H b=some (.tup (k.map kV))/\kvs.length<sizeLine/\H'=upd H a (.dT (putK kvs k v))
theorem rP.k {kvs:List (Key×V)}{k:Key}(e:H a=some (.dK kvs)):rP H a (kV k) (fQ kvs k):=.inl %[1,kvs,k,.inl e,rb|rb]
def rP.t {k:List Key}(e:H a=some (.dT kvs))(j:H b=some (.tup (k.map kV))):rP H a (.ref b) (fQ kvs k):=.inr %[29,kvs,k,b,.inl e,rb,j|rb]
theorem uE.k {kvs:List (Key×V)}{k:Key}{v:V}(e:H a=some (.dK kvs))(j:kvs.length<sizeLine):uE H a (kV k) v (upd H a (.dK (putK kvs k v))):=.inl %[4,kvs,k,e,rb,j|rb]
def uE.t {k:List Key}(e:H a=some (.dT kvs))(j:H b=some (.tup (k.map kV)))(q:kvs.length<sizeLine):uE H a (.ref b) v (upd H a (.dT (putK kvs k v))):=.inr %[15,kvs,k,b,e,rb,j,q|rb]
section
variable {X:Cx}{ao:AC}{T:St}{H:Hp}{s:Shared}{a:Addr}{y v:V}{u r:Value}{o:Option V}{A:Around}{E:AB}
def aL.big (I:aL X ao T H s):sysModules<s.heap.objs.size:=by let h:mainGlobals<s.heap.objs.size:=(I.mod.glob.keeps I.bk).lt;show mh xt h
def V1 (L:A.units+1<cLine)(I:aL X ao T H s)(g:rP H a y (some v))(J:bG y u)(h:∀q s',aL X ao T H s'->bG v q->Q q s'):wpAny (model X.prog X.w) A (getItem (.ref a) u) Q E s:=by
 rcases g with⟨kvs,k,e,F,l⟩|⟨kvs,k,b,e,F,M,l⟩
 .subst F;let(z,hd,vs,j,D):=J_ I.hok e;let(q,hw,G):=kY.some_of (v:=v) (o:=valueAt vs k) (by rw[l];show j.val k);show wpAny_getItem_of (J9 J) D.mapOf hw (h q _ (I.tok _) G)
 .subst F;cases(show u=Value.ref b from J);let(z,hd,xs,j,D):=Ka I.hok e;let(q,hw,G):=kY.some_of (v:=v) (o:=(atKey xs k).map (·.2)) (by rw[l];show j.val k);let(p,hp,B):=fz.mp hw;calc wpAny_getItem_heap (tupleKind_room_in1 L) (CT I.hok M) D hp ?_;rw[B];show h q _ (I.tok _) G
def ahp (G:A.units+1<cLine)(I:aL X ao T H s)(g:rP H a y o)(F:bG y u)(h:∀s',aL X ao T H s'->Q (.bool o.isSome) s'):wpAny (model X.prog X.w) A (compareOp .In u (.ref a)) Q E s:=by
 rcases g with⟨kvs,k,e,D,l⟩|⟨kvs,k,b,e,D,J,l⟩
 .subst D;let(z,hd,vs,j,B):=J_ I.hok e;calc wpAny_in_of (J9 F) hd B.mapOf ?_;rw[<-(j.val k).yj,<-l];show h _ (I.tok _)
 .subst D;cases(show u=Value.ref b from F);let(z,hd,xs,j,B):=Ka I.hok e;calc wpAny_in_heap (tupleKind_room_in1 G) (CT I.hok J) hd B ?_;let q:=(j.val k).yj;rw[wa]at q;rw[<-q,<-l];show h _ (I.tok _)
def Ft (I:aL X ao T H s)(J:Vm (H a))(hs:Heap.SameBut a s.heap h')(F:∃q,h'.get? a=some q)(j:cZ X.prog X.w (upd H a ob) h' a ob)(D:s.toks<=t':=by first|show ah _|assumption|show du _|lia)(B:Hu ob t':=by trivial):aL X ao T (upd H a ob) {s with heap:=h',toks:=t' }:=I.write (x:=a) (e:=a) J (.inl rb) (λb q G z=>(hs.2 b G).trans z) F j D B
def aeW {h':Heap}{kvs:List (Key×V)}(z:kvs.length<=sizeLine)(hd:(a==sysModules)=false)(j:KV kvs vs)(q:h'.DictOf (cX P w) a vs):cZ P w H' h' a (.dK kvs):=%[14,z,hd,vs,j|q]
def V2 (hu:A.units+1<cLine)(I:aL X ao T H s)(g:uE H a y v H')(Y:bG y u)(N:bG v r)(h:∀s',aL X ao T H' s'->Q () s'):wpAny (model X.prog X.w) A (setItem (.ref a) u r) Q E s:=by
 rcases g with⟨kvs,k,e,J,l,L⟩|⟨kvs,k,b,e,J,O,l,L⟩
 .subst J L;let(z,hd,vs,j,F):=Tn I.hok e;let hz:vs.length<=sizeLine:=by rw[<-j.length];show z
  let G:(putK kvs k v).length<=sizeLine:=by have:=Av kvs k v;lia
  calc wpAny_setItem_pairs (hsz:=hz) (J9 Y) F λh' B hs=>h _ ?_;let Z:∃q,h'.get? a=some q:=let %[q,_,_,D|_]:=B;%[q|D]
  show Ft I (by rw[e];show True.intro) hs Z (aeW G hd (j.put k N) B)
 .subst J L;cases(show u=Value.ref b from Y);let(z,hd,xs,j,F):=agH I.hok e;let hz:xs.length<=sizeLine:=by rw[<-ke j];show z
  let G:(putK kvs k v).length<=sizeLine:=by have:=Av kvs k v;lia
  calc wpAny_setItem_heap (hsz:=hz) (tupleKind_room_in1 hu) (CT I.hok O) F λh' B hs=>h _ ?_;let(q,es,ep,D,h2,h3,h4,_,h5):=B;calc Ft I (by rw[e];show True.intro) hs %[q|D] %[14,G,hd,_,(j.put k O N).keeps λc ys M=>?_|%[15,q,es,ep,D,h2,h3,h4|h5]];rw[aZ (agv M e (λz=>nomatch z))];show M
end
def Zt (i:Expr):Prop:=∀j q,subscripted i false j q=operate [j,q] (getItem j q)
def acg {T id:String}(M:typeLookup (.type T) "__getitem__"=pure (some (.builtin id)))(hs:Zt slice)(h:wpAny (model prog w) A (eval value env) (λo G=>wpAny (model prog w) A (eval slice env) (λi q=>q.TypeIs o T/\wpAny (model prog w) A (getItem o i) Q E q) E G) E s):wpAny (model prog w) A (eval (.Subscript value slice pos) env) Q E s:=by
 calc Subscript_ (fm h (λo G J=>fm J (λi q B=>?_) λ_ _ x=>x) λ_ _ x=>x);let(F,B):=B;unfold subscriptTail;calc aa ?_;rw[getitemInPython_of_ne F.not_modules];calc aa (on F M ?_);let j:wpAny (model prog w) A (subscripted slice false o i) (λr D=>wpAny (model prog w) A (letTemporaryGo value o r >>= λ_=>pure r) Q E D) E q:=by rw[hs o i];show wpAny_operating (fm B (λr D L=>aa (wpAny_letTemporaryGo (ae L))) λ_ _ x=>x)
 first| show ae (aa j)| show aa (ae (aa j))| show aa j
def O1 {X:Cx}{ao:AC}{T:St}{H:Hp}{s:Shared}{a:Addr}{y:V}{o:Option V}(I:aL X ao T H s)(g:rP H a y o):s.TypeIs (.ref a) "dict":=by
 rcases g with⟨kvs,k,e,_,_⟩|⟨kvs,k,b,e,_,_,_⟩
 .let(_,_,vs,_,j):=J_ I.hok e;show j.typeIs
 .let(_,_,xs,_,j):=Ka I.hok e;show j.typeIs
def abw (td ty:TE):TE:=λI H Q=>td I H λx H1=>ty I H1 λy j=>∃a v,x=.ref a/\rP j a y (some v)/\Q v j
def aeX (ty td:TE):TE:=λI H Q=>ty I H λy H1=>td I H1 λx j=>∃a o,x=.ref a/\rP j a y o/\Q (.bl o.isSome) j
def abx (td ty tv:TE):TS:=λD I H=>tv I H λv H1=>td I H1 λx B=>ty I B λy q=>∃a j,x=.ref a/\uE q a y v j/\D.nx I j
section
variable {X:Cx}{o i value:Expr}{pos pos':Pos}{td ty tv:TE}
def ach (q:X.A.units+1<cLine)(D:PE X o td)(hi:PE X i ty)(hs:Zt i):PE X (.Subscript o i pos) (abw td ty):=by intro ao s T H Q I h;calc acg PySem.F.slot_dict_getitem.lookup hs (bD (D ao s T H _ I h) λu s1 j=>?_);let(x,H1,I1,F,q1):=j;calc bD (hi ao s1 T H1 _ I1 q1) λN s2 j=>?_;let(y,B,I2,L,a,v,ex,g,q2):=j;subst ex;obtain rfl:u=Value.ref a:=F;show%[O1 I2 g|V1 q I2 g L λO M J G=>%[1,v,B,J,G|q2]]
def aeY (q:X.A.units+1<cLine)(hi:PE X i ty)(F:PE X o td):PC X .In i o (aeX ty td):=by intro ao s T H Q I h;calc bD (hi ao s T H _ I h) λN s1 j=>?_;let(y,H1,I1,L,q1):=j;calc bD (F ao s1 T H1 _ I1 q1) λu s2 j=>?_;let(x,D,I2,G,a,B,ex,g,q2):=j;subst ex;obtain rfl:u=Value.ref a:=G;show ahp q I2 g L λM J=>%[1,.bl B.isSome,D,J,rb|q2]
def aci (F:X.A.units+1<cLine)(J:PE X o td)(hi:PE X i ty)(hv:PE X value tv)(hs:swapsWith value (some (.Subscript o i pos')) pos.line X.env=pure false):PS X (.Assign [.Subscript o i pos'] value pos) (abx td ty tv):=by intro ao s T H D I h;calc wpAny_Assign_Subscript (bD (hv ao s T H _ I h) λr s1 j=>?_) hs;let(v,H1,I1,B,q1):=j;calc bD (J ao s1 T H1 _ I1 q1) λu s2 j=>?_;let(x,G,I2,M,q2):=j;calc bD (hi ao s2 T G _ I2 q2) λZ Y j=>?_;let(y,H3,N,O,a,q,ex,g,q3):=j;subst ex;obtain rfl:u=Value.ref a:=M;show V2 F N g O B λs4 L=>%[3,T,q,L|q3]
end
def Zu (h:Heap)(j:sysModules<h.objs.size):cZ P w H (h.push {cls:=.type "dict",data:=.dict #[]}) h.objs.size (.dK []):=%[14,b8 _,beq_eq_false_iff_ne.mpr (kr (a_ j)),[],.nil|Heap.DictOf.new h]
def Zv (h:Heap)(j:sysModules<h.objs.size):cZ P w H (h.push {cls:=.type "dict",data:=.dict #[]}) h.objs.size (.dT []):=%[14,b8 _,beq_eq_false_iff_ne.mpr (kr (a_ j)),[],.nil|%[15,_,#[],0,aw _ rb,%[rb,rb|rb],rb,rb|ng]]
def V3:TE:=λ_ H Q=>∀p,H p=none->Q (.ref p) (upd H p (.dK []))
def V4:TE:=λ_ H Q=>∀p,H p=none->Q (.ref p) (upd H p (.dT []))
section
variable {X:Cx}{pos:Pos}
def Zw:PE X (.Dict [] [] pos) V3:=λao s T H Q I h=>wpAny_Dict_empty %[1,.ref s.heap.objs.size,_,I.laid (a:=s.heap.objs.size) (o:=.dK []) (t':=s.toks) (λ_ _ q=>af _ q) (ah _) (Zu s.heap I.big),rb|h _ (I.hok.fresh (ah _))]
def Zx:PE X (.Dict [] [] pos) V4:=λao s T H Q I h=>wpAny_Dict_empty %[1,.ref s.heap.objs.size,_,I.laid (a:=s.heap.objs.size) (o:=.dT []) (t':=s.toks) (λ_ _ q=>af _ q) (ah _) (Zv s.heap I.big),rb|h _ (I.hok.fresh (ah _))]
end
end L2
namespace Att
open PySem PySem.W PySem.Calls PyProof.Rows
def CV:∀(ns:List Int) (vs:List Value),WellAll P h vs (ns.map WData.int)->IntsAre vs ns:=by
 intro ns
 induction ns with
 | nil=>intro vs w;rw[mf]at w;cases w;show .nil
 | cons n ns ih=>
  intro vs w;rw[b9]at w;cases w with| cons a b=>cases a;show .cons _ _ (ih _ b)
def V5 {l:OpenLaw}(hn:l.most=some n)(j:l.row.toRowW.claim.pre args=true)(G:WellAll P h vals args):∃a vs ns,vals=[Value.ref a]/\args=[WData.list (ns.map WData.int)]/\h.get? a=some {cls:=.type "list",data:=.seq vs.toArray}/\IntsAre vs ns/\ns.length<=n:=by
 let F:WShape.hasAll [] args [.list .int]=true:=(pre_splitW j).1;let J:l.pre.holds [] {args:=args}=true:=(pre_splitW j).2;let(d,r,rfl,h1,L):=hasAllW_cons F;obtain rfl:=hasAllW_nil L;let(xs,rfl,N):=hasW_list h1;let(ns,rfl):=items_int N;let O:ns.length<=n:=by
  unfold OpenLaw.pre at J;let B:(WTm.not (.lt (.lit (.int (n:Int))) (.len (.arg 0)))).holds [] {args:=[.list (ns.map .int)]}=true:=by let B:=(holds_andW J).1;rw[hn]at B;show B
  let D:=condW_of B (w_not (w_lt w_lit (w_len_list (w_arg rb))));rw[ab]at D;calc Nat.le_of_not_lt λq=>?_;let M:(n:Int)<((ns.length:Nat):Int):=ph gu q
  first| (rw[ap M]at D;show absurd D xt)| (simp at D;lia)
 cases G with
 | cons w1 w2=>
  cases w2;cases w1 with| list ho hall=>show%[15,_,_,ns,rb,rb,ho,CV ns _ hall|O]
def V6 (l:OpenLaw)(args:List WData):l.row.toRowW.claim.post args (.bool true) args=true:=postW_of (r:=l.row.toRowW) (X:=(true==true))
  (show WShape.has [] (.bool true) .bool=true by first|rfl|decide|simp[WShape.has,WShape.arms,WShape.armsAll])
  (show (WTm.eq .res (.lit (.bool true))).value [] {args:=args,res:=some (.bool true),after:=args}=some (.bool (true==true)) from w_eq_bool (w_res rb) w_lit) rfl
def O4 {l:OpenLaw}{d:DefRec}(hn:l.most=some n)(N:d.params.defaults=[])(call:∀(w:World) (s₀ j:Shared) (mg mb:Str->Option Value) (J:Addr) (o:Obj) (pm L doc:Value) (a:Addr) (vs:List Value) (ns:List Int),
   Ground q loose [] XP w s₀ mg mb j.heap->YP w j.heap->
   j.heap.get? J=some o->o.data=.func (docDef d.name d.params d.body d.scope pm L doc)->j.heap.CodeRec L d.name->mg d.name=some (.ref J)->
   j.heap.get? a=some {cls:=.type "list",data:=.seq vs.toArray}->IntsAre vs ns->ns.length<=n->j.gens=#[]->
   codeAny (model l.prog w) callerA (.call (.ref J) %[[.ref a]|[]]) (λr s'=>r=.ok (.ret (.bool true))/\OldK j.heap s'.heap/\s'.os=j.os/\AllBare s'.gens) j) :
  WalkO q loose XP YP l.row.toRowW d [] (λf vs=>PySem.call f vs):=by
 intro w s₀ j mg mb G Y J o pm L doc dV kV ho hd Z hD M hg args vals as D hlay hrd O hlo;obtain rfl:dV=.none:=Dflts.none hD N;obtain rfl:kV=.none:=Dflts.noKw hD;let(a,vs,ns,rfl,rfl,F,B,bM):=V5 hn D O;calc enter_call (kP (call w s₀ j mg mb J o pm L doc a vs ns G Y ho (fd_plain hd) Z M F B bM hg) λr s' hq=>?_);let(rfl,h2,h3,h4):=hq;show%[.inl %[15,.bool true,.bool true,[],rb,λ_=>rfl,.bool true,V6 l _|λ_=>%[List.Pairwise.nil|λ_ hm=>(nomatch hm)]],h2,h3|h4]
end Att
namespace L2
open PySem PySem.Spec PyProof.Rows
theorem HX:∀{vs:List Value} {ns:List Int},IntsAre vs ns->Vals (ns.map V.int) vs
 | _,_,.nil=>.nil
 | _,_,.cons n t h=>.cons %[t|rb] (HX h)
theorem Qx:∀{vs:List Value} {ns:List Int},IntsAre vs ns->∀x t,Value.str x t∉vs
 | _,_,.nil,_,_,z=>by simp at z
 | _,_,.cons n t h,x,u,z=>by
  rcases bd.mp z with z|z;.cases z
  .show Qx h x u z
def V7 (h:IntsAre vs ns):qY {cls:=.type "list",data:=.seq vs.toArray} n:=λx t z=>absurd (by simpa using z) (Qx h x t)
def Only (H:Hp):Prop:=∀b,H b=none\/∃o xs,H b=some (.iY o (.lst xs))
def Zy {K:W.Frag}{j:Shared}{vs:List Value}(KX:K.In j.heap)(Y:j.heap.Ns mainGlobals mg)(B:j.heap.Ns builtinsNs mb)(hbb:∀x:Str,x≠"__name__"->mb x=bootBuiltins x)(N:j.heap.NoLimit)(hg:j.gens=#[])(ha:j.heap.get? a=some {cls:=.type "list",data:=.seq vs.toArray})(hi:IntsAre vs ns)(hl:ns.length<=sizeLine)(hr:dG k callerA)(F:∀base:Heap,K.In base->base.Ns mainGlobals mg->n_ P w K mg base CX k fa fd [x] sp)(J:∀(s:Shared) (u:Value),BindsTo s fd %[[u]|[]] [(x,u)])(hsp:∀H:Hp,Only H->aN K H a (ns.map V.int)->sp [.ref a] H (λv _=>v=.bl true) λ_ _ _=>False)(hCX:∀H e s',CX [] H j (λ_ _ _=>False) e s'->False):codeAny (model P w) callerA (.call (.ref fa) %[[.ref a]|[]]) (λr s'=>r=.ok (.ret (.bool true))/\OldK j.heap s'.heap/\s'.os=j.os/\AllBare s'.gens) j:=by
 let rv:=HX hi;let O:=hi.length;let G:∀H:Hp,Only H->aN K H a (ns.map V.int)->gK P w H j.heap->(∀b,H b≠none->b=a)->(H a≠none->K.lookup a=none)->
   codeAny (model P w) callerA (.call (.ref fa) %[[.ref a]|[]]) (λr s'=>r=.ok (.ret (.bool true))/\OldK j.heap s'.heap/\s'.os=j.os/\AllBare s'.gens) j:=by
  intro H hO hS hok hA hK;let Qy:∀{b:Addr} {o:Obj},j.heap.get? b=some o->H b=none->(vN j.heap H).get? b=some o:=λe n=>Y4 e n;let VH:∀{b:Addr} {o:Obj} {es:Array DictEntry} {ep:Nat},j.heap.get? b=some o->o.data=.dict es ep->H b=none:=λ{b o es ep} e d=>by
   cases q:H b with| none=>rfl| some u=>have e':b=a:=hA b (by rw[q];simp);subst e';rw[ha]at e;cases e;let d':Data.seq vs.toArray _=Data.dict es ep:=d;cases d'
  let D:∀{b:Addr} {m:Str->Option Value},j.heap.Ns b m->(vN j.heap H).Ns b m:=λ{b m} ⟨o,es,ep,e,d,r⟩=>%[46,o,es,ep,Qy e (VH e d),d|r]
  let M:K.In (vN j.heap H):=λb o e=>Qy (KX b o e) (by
   cases q:H b with
   | none=>rfl
   | some u=>have e':b=a:=hA b (by rw[q];simp);subst e';rw[hK (by rw[q];simp)]at e;cases e)
  let hM:Mod K mg (vN j.heap H):=%[M,D Y,%[0,mb,D B|hbb]|let %[mc,h1|h2]:=N;%[0,mc,D h1|h2]]
  let e0:∀n:Nat,vQ P w K mg (vN j.heap H) callerA [] {j with toks:=n+1} H:=λn=>%[rb,hM,λb o e=>abS e,kN (Vn _ _),trivial,λb B=>absurd (show b∈([]:List Addr) from B) xp,hok,.of_eq hg,kR _|λb o e=>by
   rcases hO b with z|⟨ob,xs,z⟩;.rw[z]at e;cases e
   .rw[z]at e;cases e;let e':b=a:=hA b (by rw[z];simp);subst e';let(e1,_):=hok b _ z;rw[ha]at e1;cases e1;show V7 hi]
  calc kP ((F _ M (D Y)).run callerA [] j H %[[.ref a]|[]] [.ref a] [.ref a] _ _ hr e0 (J j (.ref a)) (.cons rb .nil) (hsp H hO hS)) λr s' h=>?_;cases r with
  | error e=>show(hCX H e s' h).elim
  | ok fl=>
   cases fl with
   | next=>show False.elim h
   | brk=>show False.elim h
   | cont=>show False.elim h
   | ret u=>
    let(v,H',os,bare,un,Z,r',q,_):=h;let q':v=.bl true:=q;subst q';obtain rfl:u=Value.bool true:=r';calc%[rb,OldK.of_keep λb o e=>?_,os|bare];cases q:H b with
    | none=>show un.keep b o e q (by intro z;show absurd (show b∈([]:List Addr) from z) xp) xp
    | some u=>
     rcases hO b with z|⟨ob,xs,z⟩;.rw[q]at z;cases z
     .let z2:=un.uD b ob _ z;let(e1,_):=hok b _ z;let(e2,_):=Z b _ z2;rw[e]at e1;cases e1;show e2
 cases hk:K.lookup a with
 | some o=>have e:=KX a o hk;rw[ha]at e;cases e;refine G (λ_=>none) (λ_=>.inl rb) (.inr %[60,_,vs.toArray,_,hk,rb,rb,rb,by rw[bv,O];show hl,by simpa using rv|λv z=>by let(i,_,rfl):=aI.mp z;rfl]) (λb u z=>by let L:(none:Option HO)=some u:=z;cases L) (λb z=>absurd rb z) λz=>absurd rb z
 | none=>
  refine G (λb=>if b=a then some (.iY {cls:=.type "list",data:=.seq vs.toArray} (.lst (ns.map V.int))) else none) (λb=>?_) (.inl (.inr %[{cls:=.type "list",data:=.seq vs.toArray}|if_pos rb])) (λb u z=>?_) (λb z=>?_) λ_=>hk
  .by_cases B:b=a;.show .inr %[6,_,_|if_pos B]
   .show .inl (if_neg B)
  .by_cases B:b=a
   .let L:=(if_pos B).symm.trans z;cases L;subst B;show%[ha|%[24,by rw[ab];show hl,vs,_,rv|ha]]
   .let L:=(if_neg B).symm.trans z;cases L
  .by_cases B:b=a;.show B
   .show absurd (if_neg B) z
abbrev KOf {K:W.Frag}{h:Heap}(_:K.In h):W.Frag:=K
def acj {l:W.OpenLaw}{n k:Nat}{j:List Str}{XP:(Str->Option Value)->Heap->Prop}{YP:World->Heap->Prop}{d:DefRec}{K:Params->W.Frag}{CX:World->qP}{sp:World->Sp}{x:Str}(hn:l.most=some n)(M:n<=sizeLine)(N:d.params.defaults=[])(hr:dG k callerA)(hY:∀(w:World) (h:Heap),YP w h->(K w.params).In h)(F:∀(w:World) (mg:Str->Option Value) (J:Addr) (h:Heap),(K w.params).In h->h.Ns mainGlobals mg->mg d.name=some (.ref J)->
   ∃fd:FuncData,(∀(s:Shared) (u:Value),BindsTo s fd %[[u]|[]] [(x,u)])/\
    ∀base:Heap,(K w.params).In base->base.Ns mainGlobals mg->n_ l.prog w (K w.params) mg base (CX w) k J fd [x] (sp w))
  (Z:∀(w:World) (H:Hp) (a:Addr) (ns:List Int),ns.length<=n->Only H->aN (K w.params) H a (ns.map V.int)->sp w [.ref a] H (λv _=>v=.bl true) λ_ _ _=>False)
  (O:∀(w:World) (H:Hp) (s:Shared) (e:Value) (s':Shared),CX w [] H s (λ_ _ _=>False) e s'->False) :
  W.WalkO q j XP YP l.row.toRowW d [] (λf vs=>PySem.call f vs):=by
 calc Att.O4 hn N λw s₀ s₁ mg mb J o pm cd doc a vs ns G Y ho hd hcd L D B bM hg=>?_;let KX:=hY w _ Y;let(fd,hb,hF):=F w mg J _ KX G.T.g L;show Zy KX G.T.g G.T.b G.T.builtins G.T.nolimit hg D B (ay bM M) hr hF hb (λH hO hS=>Z w H a ns bM hO hS) λH e s'=>O w H s₁ e s'
def inClass (s:Stmt)(j:Nat):Stmt:=match s with| .ClassDef _ _ _ body _ _ _ _ _ _ _=>body.getD j (.Pass %[(0),(0),(0)|0])| _=>.Pass %[(0),(0),(0)|0]
noncomputable def fu (s:Stmt):Arguments:=match s with| .FunctionDef _ a _ _ _ _ _ _ _ _=>a| _=>{posonlyargs:=[],args:=[],vararg:=none,kwonlyargs:=[],kw_defaults:=[],kwarg:=none,defaults:=[]}
def cO (s:Stmt):List Stmt:=match s with| .FunctionDef _ _ b _ _ _ _ _ _ _=>b| _=>[]
noncomputable def aH (s:Stmt):Scope:=match s with| .FunctionDef _ _ _ _ _ _ sc _ _ _=>sc| _=>{kind:=.function,names:=[],isGenerator:=false,isCoroutine:=false}
abbrev fZ:qP:=λ_ _ _ _ _ _=>False
abbrev E0:XK:=λ_ _ _=>False
def jU:Passes fZ X E0:=λ_ _ _ _ _ _ _ h=>h.elim
structure gO (K:W.Frag)(x qual:Str)(st:Stmt)(f:Addr)(fd:FuncData):Prop where
 ex:∃(oc:Value) (od:Option Addr) (kV doc pm:Value) (an:Option Addr) (bh ct:Value) (osl:Array (Option Value)),
  fd=W.fnOf x qual (fu st) (cO st) (aH st) .none kV doc pm an bh ct/\K.lookup f=some %[oc,od,.func fd|osl]/\W.codeIn K bh qual=true
 kp:W.keepIn K (.ref f)=true
section
variable {P:Program}{w:World}{K:W.Frag}{mg:Str->Option Value}{base:Heap}
def gO.ok {x qual:Str}{st:Stmt}{N ps:List Str}{k:Nat}{sp:Sp}(F:gO K x qual st f fd)(S:aU N ps (aH st))(len:∀vs H Q E,sp vs H Q E->vs.length=ps.length)(j:∀(bh:Value) (A:Around) (outer:List Env) (s:Shared) (H:Hp) (vs:List V) (Q:VK) (E:XK),dG k (A.deeper (envOfC qual (aH st) s.heap.objs.size f bh))->sp vs H Q E->
   ∃t,oY (oh fZ P w K mg base N qual (aH st) f bh A outer s H E).xX (cO st) t/\t {nx:=λ_ H'=>Q .non H',rt:=Q} (start N vs) H):eZ P w K mg base fZ (k+1) f fd ps sp:=by
 let(oc,od,kV,doc,pm,an,bh,ct,osl,rfl,J,B):=F.ex;calc agC J B S len λA outer s H vs Q E G D=>?_;let(t,h,q):=j bh A outer s H vs Q E G D;show%[0,t,h.xX|q]
def gO.okL {x qual y:Str}{st:Stmt}{f:Addr}{fd:FuncData}{N:List Str}{k:Nat}{sp:Sp}(F:gO K x qual st f fd)(S:aU N [y] (aH st))(G:(aH st).names.lookup y=some .local)(len:∀vs H Q E,sp vs H Q E->vs.length=1)(j:∀(bh:Value) (A:Around) (outer:List Env) (s:Shared) (H:Hp) (vs:List V) (Q:VK) (E:XK),dG k (A.deeper (envOfC qual (aH st) s.heap.objs.size f bh))->sp vs H Q E->
   ∃t,oY (oh fZ P w K mg base N qual (aH st) f bh A outer s H E).xX (cO st) t/\t {nx:=λ_ H'=>Q .non H',rt:=Q} (start N vs) H):n_ P w K mg base fZ (k+1) f fd [y] sp:=by
 let(oc,od,kV,doc,pm,an,bh,ct,osl,rfl,L,B):=F.ex;calc aeK L B S G len λA outer s H vs Q E J D=>?_;let(t,h,q):=j bh A outer s H vs Q E J D;show%[0,t,h.xX|q]
def gO.binds {x qual:Str}{st:Stmt}{ps:List Str}(F:gO K x qual st f fd)(h:∀(kV doc pm:Value) (an:Option Addr) (bh ct:Value) (us:List Value),us.length=ps.length->bindArgs (W.fnOf x qual (fu st) (cO st) (aH st) .none kV doc pm an bh ct) %[us|[]]=pure (ps.zip us)):cT K fd ps []:=by let(oc,od,kV,doc,pm,an,bh,ct,osl,rfl,q,j):=F.ex;show .all (h kV doc pm an bh ct)
def j9 {x qual:Str}{st:Stmt}{f:Addr}{oc:Value}{od an:Option Addr}{osl:Array (Option Value)}{kV doc pm bh ct:Value}(l:K.lookup f=some %[oc,od,.func (W.fnOf x qual (fu st) (cO st) (aH st) .none kV doc pm an bh ct)|osl])(c:W.codeIn K bh qual=true)(k:W.keepIn K (.ref f)=true):gO K x qual st f (W.fnOf x qual (fu st) (cO st) (aH st) .none kV doc pm an bh ct):=%[%[6,oc,od|%[52,kV,doc,pm,an,bh,ct,osl,rb,l|c]]|k]
end
def CW (j:dG k A):A.units+1<cLine:=ku (nV (by decide:1<=64) _) j.units
def aF (h:n<=1000):n<sizeLine:=ku h xt
section
variable {X:Cx}
def pv (i:Nat){x:Str}{pos:Pos}(N:X.N[i]?=some x:=by rfl)(hv:Vo X.env.scope x:=by first|show Or.inl rfl|show Or.inr (Or.inl rb)|show Or.inr (Or.inr rb))(hd:(x==("__debug__":Str))=false:=by decide)(j:(x==("__classdict__":Str))=false:=by decide):PE X (.Name x pos) (fH i):=ad6 N hv hd j
end
def bO {A B:Prop}(h:B):if false=true then A else B:=by rw[if_neg b7];show h
def bV {A B:Prop}(h:A):if true=true then A else B:=by rw[if_pos rfl];show h
def uF {c A B:Prop} [Decidable c] (h1:c->A)(j:¬c->B):if c then A else B:=by
 by_cases h:c
 .rw[if_pos h];show h1 h
 .rw[if_neg h];show j h
def Tp {c A B:Prop} [Decidable c] (j:c)(h:B):if (!decide c)=true then A else B:=by rw[ap j];show bO h
def aA (H H':Hp):Prop:=∀b o,H b=some o->H' b=some o
def aA.refl (H):aA H H:=λ_ _ h=>h
def aA.trans (a:aA H H1)(b:aA H1 H2):aA H H2:=λc o h=>b c o (a c o h)
def aA.free (e:aA H H')(h:H' l=Option.none):H l=Option.none:=by
 cases q:H l with| none=>rfl| some o=>rw[e l o q]at h;cases h
def aA.seq {K:W.Frag}{xs:List V}(e:aA H H')(h:aN K H a xs):aN K H' a xs:=by
 rcases h with(h|⟨o,h⟩)|h;.show .inl (.inl (e _ _ h))
 .show .inl (.inr %[o|e _ _ h])
 .show .inr h
section
variable {I:Type}[DecidableEq I]
theorem Qz:∀{l:List I} {k:I},l.Nodup->¬k∈l->(l++[k]).Nodup
 | [],k,_,_=>by simp
 | a::r,k,h,hk=>by
  let(h1,j):=gm.mp h;show (a::(r++[k])).Nodup;calc gm.mpr %[λm=>?_|Qz j λm=>hk (bd.mpr (Or.inr m))];rcases a6.mp m with q|q;.show h1 q
  .show hk (bd.mpr (Or.inl (am.mp q).symm))
end
noncomputable def blk (X:Cx)(scope:Scope)(cl:List (Str×Addr))(C:Addr)(x:Str)(s₀:Shared)(H₀:Hp)(fp:List Addr):Cx:={X with N:=x::X.N,s₀:=s₀,H₀:=H₀,env:=compEnvC scope cl C X.env,outer:=X.stack,ex:=fp,fn:=λ_=>false,pn:=[],xe:=λ_ _=>False}
structure eG (X:Cx)(scope:Scope)(x:Str):Prop where
 kind:scope.kind=.function
 CZ:∀y∈scope.names,y.2≠.cell
 names:∀y∈scope.names,y.2=.local->scope.names.lookup y.1=some .local
 hx:scope.names.lookup x=some .local
 free:∀y∈scope.names,y.2=.free->X.env.kindOf y.1=some .cell\/X.env.kindOf y.1=some .free
 out:∀y∈X.N,scope.names.lookup y≠some .local
 nd:X.N.Nodup
noncomputable def QB (sc:Scope)(N:List Str)(scope:Scope)(x:Str):Bool:=scope.kind == .function&&scope.names.all (λy=>y.2 != .cell)&&scope.names.all (λy=>y.2 != .local||scope.names.lookup y.1==some .local)&&scope.names.lookup x==some .local &&
 scope.names.all (λy=>y.2 != .free||sc.names.lookup y.1==some .cell||sc.names.lookup y.1==some .free)&&N.all (λy=>scope.names.lookup y != some .local)
def eG.of {X:Cx}(N:X.N.Nodup)(h:QB X.env.scope X.N scope x=true):eG X scope x:=by
 unfold QB at h;simp only[dm,gr,tN,bne_iff_ne,beq_iff_eq,ne_eq]at h;let(((((h1,B),D),q),G),F):=h;calc%[h1,λy j=>B y j,λy j e=>(D y j).resolve_left λz=>z e,q,λy j e=>?_,λy j=>F y j|N];rcases G y j with(z|z)|z;.show absurd e z
 .show .inl z
 .show .inr z
theorem jo {I:Type}:∀{l:List (Str×I)} {x:Str} {a:I},l.lookup x=some a->(x,a)∈l
 | [],_,_,h=>by simp at h
 | (y,b)::r,x,a,h=>by
  rw[ko]at h;split at h
  .rename_i e;let j:x=y:=by simpa using e
   cases h;subst j;show aT
  .show aS _ (jo h)
theorem vU {env:Env}:∀(names:List (Str×NameKind)),(∀y∈names,y.2=.free->∃c,env.cells.lookup y.1=some c)->∀j:List (Str×Addr),(∀n c,j.lookup n=some c->env.cells.lookup n=some c)->
  ∃cl,(forIn names j (λ(p:Str×NameKind) (N:List (Str×Addr))=>if (p.2==NameKind.free)=true then (do let a <- cellOf env p.1;pure (ForInStep.yield ((p.1,a)::N))) else (pure (ForInStep.yield N):Sem _)):Sem (List (Str×Addr)))=pure cl/\
   (∀n c,cl.lookup n=some c->env.cells.lookup n=some c)/\(∀n,(∃c,j.lookup n=some c)->∃c,cl.lookup n=some c)/\∀n,(n,NameKind.free)∈names->∃c,cl.lookup n=some c
 | [],_,j,ha=>%[11,j,xp,ha,λ_ h=>h|λ_ h=>by simp at h]
 | (n,k)::r,hf,j,ha=>by
  let L:∀y∈r,y.2=.free->∃c,env.cells.lookup y.1=some c:=λy O=>hf y (aS _ O);by_cases hk:k=.free
  .subst hk;let(c,M):=hf (n,.free) aT rfl;let(cl,e,h1,D,J):=vU r L ((n,c)::j) (λB F h=>by
    rw[ko]at h;split at h
    .rename_i q;let Y:B=n:=by simpa using q
     cases h;subst Y;show M
    .show ha B F h)
   refine%[11,cl,?_,h1,λB h=>D B ?_|λB h=>?_]
   .rw[iP];simp only[beq_self_eq_true,if_true];let e2:cellOf env n=pure c:=by unfold cellOf;rw[M]
    rw[e2];simp only[pure_bind];show e
   .let(F,G):=h;rw[ko];split;.show%[c|rb]
    .show%[F|G]
   .rcases bd.mp h with q|q
    .calc D B %[c|?_];cases q;rw[ko,beq_self_eq_true]
    .show J B q
  .let Z:(k==NameKind.free)=false:=by simpa using hk
   let(cl,e,h1,D,J):=vU r L j ha;refine%[11,cl,?_,h1,D|λB h=>?_]
   .rw[iP];simp only[Z,a9,if_false,pure_bind];show e
   .rcases bd.mp h with q|q;.cases q;show absurd rb hk
    .show J B q
theorem iH {env:Env}:∀{names:List (Str×NameKind)} {x:Str} {k:NameKind},
  (names.map λ(n,k)=>if (k==NameKind.free&&env.scope.kind == .function&&env.kindOf n==some .cell) then (n,NameKind.cell) else (n,k)).lookup x=some k->names.lookup x=some k\/(k=.cell/\names.lookup x=some .free)
 | [],_,_,h=>by simp at h
 | (n,j)::r,x,k,h=>by
  let B:=@iH env r x k;let h':List.lookup x ((if (j==NameKind.free&&env.scope.kind == .function&&env.kindOf n==some .cell)=true then (n,NameKind.cell) else (n,j))::_)=some k:=h;by_cases q:(j==NameKind.free&&env.scope.kind == .function&&env.kindOf n==some .cell)=true
  .rw[if_pos q]at h';cases hx:x==n with
   | true=>
    simp only[ko,hx]at h' ⊢;cases h';have:j=.free:=by simp at q;show q.1.1
    show .inr %[rb|by rw[this]]
   | false=>simp only[ko,hx]at h' ⊢;show B h'
  .rw[if_neg q]at h';cases hx:x==n with| true=>simp only[ko,hx]at h' ⊢;show .inl h'| false=>simp only[ko,hx]at h' ⊢;show B h'
def Tq (I:Nat->Shared->Prop)(j:∀n s,I n s->wpAny (model prog w) A (pyNext it) (λr B=>match r with
   | none=>R (.ok .next) B
   | some v=>wpAny (model prog w) A (letOwnedTupleGo target it v) (λ_ s₀=>wpAny (model prog w) A (assign target env v) (λ_ D=>
     wpAny (model prog w) A (forIn ifs true λc r=>if r=true then do let ok <- isTrue c env (eval c env);pure (ForInStep.yield ok) else pure (ForInStep.yield r)) (λok q=>
      if ok=true then wpAny (model prog w) A (eval elt env) (λx J=>wpAny (model prog w) A (call (.builtin "list.append") [acc,x]) (λ_ L=>∃m,m<n/\I m L) (λ_ _=>False) J) (λ_ _=>False) q
      else ∃m,m<n/\I m q) (λ_ _=>False) D) (λ_ _=>False) s₀) (λ_ _=>False) B) (λ_ _=>False) s)
  (n) (h:I n s) :
  codeAny (model prog w) A (.compLoop (.ListComp elt [%[target,iter,ifs|0]] scope pos) 0 it acc env) R s:=by
 calc codeAny_loop rb I (λn s N=>?_) n h;show wpAny _ A ((compTurn (.ListComp elt [%[target,iter,ifs|0]] scope pos) 0 it acc env).onRaise (λx=>do noteFrame x env;theTreesLotGoes x)) _ _ s;calc wpAny_noted ?_;rw[compTurn_list];calc aa (sF (aa (fm (j n s N) (λr B F=>?_) λ_ _ h'=>h'.elim)));cases r with
 | none=>show ae F
 | some v=>
  calc aa (fm F (λ_ s₀ h₀=>?_) λ_ _ h'=>h'.elim);calc aa (fm h₀ (λ_ D Y=>aa (fm Y (λok q G=>?_) λ_ _ h'=>h'.elim)) λ_ _ h'=>h'.elim);cases ok with| false=>show ae %[rb|G]| true=>show aa (aa (fm G (λx J O=>aa (fm O (λ_ L M=>ae (ae %[rb|M])) λ_ _ h'=>h'.elim)) λ_ _ h'=>h'.elim))
def KY (X:Cx)(ifs:List Expr)(t:TT):Prop:=∀(ao:AC) (s:Shared) (I:St) (H:Hp) (Q:Bool->Hp->Prop),aL X ao I H s->t I H Q->
  wpAny (model X.prog X.w) X.A (forIn ifs true λc r=>if r=true then do let ok <- isTrue c X.env (eval c X.env);pure (ForInStep.yield ok) else pure (ForInStep.yield r)) (TP X ao I Q) X.xe s
def iK:TT:=λ_ H Q=>Q true H
def acn:KY X [] iK:=λ_ _ _ H _ I h=>wpAny_tests_nil %[0,H,I|h]
def aco (h:PT X c t):KY X [c] t:=λao s T H Q I q=>wpAny_tests_one (h ao s T H Q I q)
def dZ (n i:Nat)(P:Prop):Prop:=∃j,j<n-i/\j=n-(i+1)/\i+1<=n/\P
abbrev Bm (n i:Nat)(D:Addr)(ys:List V)(P:List V->Hp->Prop)(y:V)(H3:Hp):Prop:=H3 D=some (.lst ys)/\ys.length<sizeLine/\dZ n i (P (ys++[y]) (upd H3 D (.lst (ys++[y]))))
abbrev qC (J:It)(D:Addr)(H:Hp)(R:Hp->Prop)(B:V->Hp->VK->(Hp->Prop)->Prop):Prop:=∃W:Nat->Nat->List V->Hp->Prop,(∃m,W 0 m [] (upd H D (.lst [])))/\
 ∀i m ys H,W i m ys H->(J.stop i H/\R H)\/(J.go i H/\∀x H',J.Hy i H x H'->B x H' (λy H3=>H3 D=some (.lst ys)/\ys.length<sizeLine/\∃m',m'<m/\W (i+1) m' (ys++[y]) (upd H3 D (.lst (ys++[y])))) λH2=>∃m',m'<m/\W (i+1) m' ys H2)
def Bo {J:It}{D:Addr}{H:Hp}{R:Hp->Prop}{B:V->Hp->VK->(Hp->Prop)->Prop}(n:Nat)(j:Nat->List V->Hp->Prop)(L:j 0 [] (upd H D (.lst [])))(M:∀i ys H,i<n->j i ys H->J.go i H/\∀x H',J.Hy i H x H'->B x H' (Bm n i D ys (j (i+1))) λG=>dZ n i (j (i+1) ys G))(F:∀ys H,j n ys H->J.stop n H/\R H):qC J D H R B:=by
 calc%[0,λi m ys H=>m=n-i/\i<=n/\j i ys H,%[2,n,xp,b8 _|L]|?_];intro i m ys H z;let(rfl,hi,p):=z;by_cases q:i<n;.show .inr (M i ys H q p)
 .let e:i=n:=xo;subst e;show .inl (F ys H p)
def vV {F:Hp->List V->Prop}{B:V->Hp->VK->(Hp->Prop)->Prop}{xs:List V}{D:Addr}{H:Hp}{R:Hp->Prop}(j:Nat->List V->Hp->Prop)(J:j 0 [] (upd H D (.lst [])))(q:∀i ys H,i<=xs.length->j i ys H->F H xs)(hs:∀i x ys H,xs[i]?=some x->j i ys H->B x H (Bm xs.length i D ys (j (i+1))) λG=>dZ xs.length i (j (i+1) ys G))(hd:∀ys H,j xs.length ys H->R H):qC (ItS F) D H R B:=Bo xs.length j J (λi ys H h p=>%[%[3,xs,xs[i],q i ys H (av h) p|by simp[h]]|λx H' ⟨e,y⟩=>by subst e;show hs i x ys _ (y xs (q i ys _ (av h) p)) p]) λys H p=>%[%[0,xs,q _ ys H (ah _) p|ah _]|hd ys H p]
abbrev KZ (I:St)(tt:TT)(te:TE)(x:V)(H:Hp)(k:VK)(l:Hp->Prop):Prop:=tt (some x::I) H λb H2=>if b=true then te (some x::I) H2 k else l H2
def C_ (wi:TI)(tt:TT)(te:TE):TE:=λI H Q=>wi I H λJ H1=>∀D,H1 D=none->qC J D H1 (Q (.ref D)) (KZ I tt te)
noncomputable def eO (X:Cx)(scope:Scope)(cl:List (Str×Addr))(C:Addr)(N:List Str)(s₀:Shared)(H₀:Hp)(fp:List Addr):Cx:={X with N:=N,s₀:=s₀,H₀:=H₀,env:=compEnvC scope cl C X.env,outer:=X.stack,ex:=fp,fn:=λ_=>false,pn:=[],xe:=λ_ _=>False}
structure gU (X:Cx)(scope:Scope)(ns N2:List Str)(f:St->St):Prop where
 kind:scope.kind=.function
 CZ:∀y∈scope.names,y.2≠.cell
 names:∀y∈scope.names,y.2=.local->scope.names.lookup y.1=some .local
 free:∀y∈scope.names,y.2=.free->X.env.kindOf y.1=some .cell\/X.env.kindOf y.1=some .free
 ahq:∀σ:St,(f σ).length=σ.length
 ahr:N2.length=X.N.length
 out:∀(σ:St) (i:Nat) (y:Str) (v:V),N2[i]?=some y->(f σ)[i]?=some (some v)->X.N[i]?=some y/\σ[i]?=some (some v)/\scope.names.lookup y≠some .local
def HY (X:Cx)(tg:Expr)(k:Nat)(TP:V->Hp->(St->Prop)->Prop):Prop:=∀(ao:AC) (s:Shared) (pre rest:St) (H:Hp) (v:V) (u:Value) (Q:St->Prop),pre.length=k->aL X ao (pre++rest) H s->bG v u->TP v H Q->
  wpAny (model X.prog X.w) X.A (assign tg X.env u) (λ_ s'=>∃j,j.length=k/\aL X ao (j++rest) H s'/\Q j) (λ_ _=>False) s
def yp (TP:V->Hp->(St->Prop)->Prop)(f:St->St)(I:St)(tt:TT)(te:TE)(x:V)(H:Hp)(k:VK)(l:Hp->Prop):Prop:=TP x H λpre=>tt (pre++f I) H λb j=>if b=true then te (pre++f I) j k else l j
def yq (f:St->St)(k:Nat)(wi:TI)(TP:V->Hp->(St->Prop)->Prop)(tt:TT)(te:TE):TE:=λI H Q=>wi I H λJ H1=>∀D,H1 D=none->qC J D H1 (Q (.ref D)) (yp TP f I tt te)
def yr {X:Cx}{Y iter tg:Expr}{ns N2:List Str}{f:St->St}{TP:V->Hp->(St->Prop)->Prop}{ifs:List Expr}{scope:Scope}{pos:Pos}{wi:TI}{tt:TT}{te:TE}(hc:X.calm=true)(ok:gU X scope ns N2 f)(hi:PI X tg iter wi)(hg:∀cl C s₀ H₀ fp,HY (eO X scope cl C (ns++N2) s₀ H₀ fp) tg ns.length TP)(ht:∀cl C s₀ H₀ fp,KY (eO X scope cl C (ns++N2) s₀ H₀ fp) ifs tt)(he:∀cl C s₀ H₀ fp,PE (eO X scope cl C (ns++N2) s₀ H₀ fp) Y te)(hs:∀x,foldedSetIterable iter X.env x=pure x:=by intro _;rfl){use:Option (Value->Sem Unit)}{RR:AB}{p1:Pos}{ao:AC}{s:Shared}{P:St}{H:Hp}{Q:V->Hp->Prop}(I:aL X ao P H s)(h:yq f ns.length wi TP tt te P H Q)(fin:∀(D C:Addr) (O:Hp) (s5:Shared) (m:Str->Option Value),s5.heap.Ns C m->(∀h',Heap.SameBut C s5.heap h'->aL X ao P O {s5 with heap:=h' })->lE X ao O C->Q (.ref D) O->compPost (model X.prog X.w) X.A X.xe use RR (.ref D) C (.ok .next) s5):wpAny (model X.prog X.w) X.A (comprehension (.ListComp Y [%[tg,iter,ifs|0]] scope pos) scope X.env p1 (newList []) false (eval iter X.env) use) RR X.xe s:=by
 let(cl,hcl,B,_,hall):=vU (env:=X.env) scope.names (λy hy e=>I.ok.has y.1 (ok.free y hy e)) [] (λ_ _ z=>by simp at z);let hclos:closureFor scope X.env=pure cl:=by unfold closureFor;simp only[bind_pure];show hcl
 calc wpAny_comprehension_free (use:=use) (E:=X.xe) (cl:=cl) rb hs hclos ok.kind ok.names (bD (hi ao s P H _ I h) λv s1 h1=>bD h1 λitv s2 Z=>?_);let(it,fp,tn,J,H2,e,I2,T,st2,f2,R):=Z;subst e;let(W,(m0,w0),turn):=R s2.heap.objs.size I2.fresh;calc dA (wpAny_newFunctionEnv ok.CZ (by intro y hy;simp at hy) (λh₁ hns₁ hsb₁=>?_) ok.kind);dsimp only at hns₁ hsb₁ ⊢;let F:aL X ao P (upd H2 s2.heap.objs.size (.lst [])) {s2 with heap:=s2.heap.push {cls:=.type "list",data:=.seq ([]:List Value).toArray} }:=I2.aeU (t':=s2.toks) (ys:=[]) (its:=[]) .nil (b8 _);generalize hH3:upd H2 s2.heap.objs.size (HO.lst [])=H3 at *
 generalize hs3:s2.heap.push {cls:=.type "list",data:=.seq ([]:List Value).toArray}=hp3 at *
 generalize hD:s2.heap.objs.size=D at *
 generalize hC:hp3.objs.size=C at *
 let hDC:D<C:=by rw[<-hC,<-hs3,dE,hD];show e_ _
 let M:∀b o,hp3.get? b=some o->h₁.get? b=some o:=λb o e=>(hsb₁.2 b (by rw[<-hC];show a_ (a7 e))).trans (af _ e);let fpl:∀b∈fp,b<C:=λb j=>by let(o,e,_):=T.obj _ _ st2 b j;rw[<-hC,<-hs3,dE];show fb (a7 e)
 let f3:∀b∈fp,lE X ao H3 b:=λb j=>by let(o,e,_):=T.obj _ _ st2 b j;calc%[?_|(f2 b j).2];rw[<-hH3,aZ (by rw[<-hD];show a_ (a7 e))];show(f2 b j).1
 let aeZ:∀b∈fp,b∉frs X.stack:=λb j z=>by
  let(_,g1,g2,_):=f3 b j;rcases bd.mp (F.Ku b z) with q|q;.show g1 q
  .show g2 q
 let YOk:(eO X scope cl C (ns++N2) {s2 with heap:=hp3} H3 fp).Ok:=by
  calc%[I.ok.mod,?_,I.ok.glob,I.ok.blt,kN hC,?_,?_,?_,I.ok.hd,I.ok.frames,.inl rb,?_,?_,?_,?_,?_,?_|?_];.show ok.kind
  .show λa b c h1 Z=>I.ok.inj a b c (B a c h1) (B b c Z)
  .intro a ha;calc hall a ?_;rcases ha with z|z
   .rcases iH (env:=X.env) z with q|⟨_,q⟩;.show absurd rb (ok.CZ _ (jo q))
    .show jo q
   .rcases iH (env:=X.env) z with q|⟨q,_⟩;.show jo q
    .cases q
  .intro a c hf;cases hf
  .intro b j;refine%[a_ (fpl b j)|λa c h1=>(f3 b j).2.2.2.2.1 a c (B a c h1)]
  .show F.bs
  .show ay I.ok.xW F.sz
  .intro b o e j;rcases(f3 b j).2.2.2.1 with z|z;.show I.ok.Bj b o e z
   .show absurd (bt (a7 e) (ay I.ok.xW z)) (lv _)
  .show aeZ
  .show F.stack
  .show F.Qk
 let Y0:aL (eO X scope cl C (ns++N2) {s2 with heap:=hp3} H3 fp) [] (List.replicate ns.length none++f P) H3 {s2 with heap:=h₁,toks:=s2.toks+([]:List (Str×Value)).length}:=by
  refine%[YOk,rb,F.bare,Un.kept M,%[0,_,hns₁|?_],?_,?_,?_,λp hp=>by simp[eO]at hp,F.hok.kept M,?_,F.gh|ah _]
  .intro i y v e1 e2 e3;by_cases j_:i<ns.length
   .rw[fq (by rw[eL];show j_),List.getElem?_replicate,if_pos j_]at e2;simp at e2
   .obtain⟨i,rfl⟩:∃k,i=ns.length+k:=%[i-ns.length|by simp_all]
    let e1a:(ns++N2)[ns.length+i]?=some y:=e1;rw[d6 xo,iq]at e1a;rw[d6 (by rw[eL];lia),eL,iq]at e2;let(e1',e2',hout):=ok.out P i y v e1a e2;let N:(y,NameKind.free)∈scope.names:=by
     let key:∀k,(relabel scope X.env).names.lookup y=some k->k≠.local->k=.cell\/k=.free->(y,NameKind.free)∈scope.names:=λk q n hk=>by
      rcases iH (env:=X.env) q with z|⟨_,z⟩
      .rcases hk with rfl|rfl;.show absurd rb (ok.CZ _ (jo z))
       .show jo z
      .show jo z
     rcases e3 with z|z|z
     .rcases iH (env:=X.env) z with q|⟨q,_⟩;.show absurd q hout
      .cases q
     .show key _ z xt (.inl rb)
     .show key _ z xt (.inr rb)
    let hk:=ok.free _ N rfl;let(m,hn,hl):=F.loc;let(u,r,q):=hl i y v e1' e2' (by rcases hk with z|z;show .inr (.inl z);show .inr (.inr z));refine%[0,u,r|.inr %[?_|?_]]
    .rcases e3 with z|z|z
     .rcases iH (env:=X.env) z with q|⟨q,_⟩;.show absurd q hout
      .cases q
     .show .inl z
     .show .inr z
    .rcases q with⟨z,_⟩|⟨_,c,hc',hcell⟩
     .rcases hk with q|q <;> (rw[z]at q;cases q)
     .let(c',hc2):=hall y N;have:c'=c:=by have:=B y c' hc2;rw[hc']at this;show(bg this).symm
      subst this;let(o,ho,hd):=hcell;show%[9,c',hc2,o,M _ _ ho|hd]
  .intro a c h1;let(v,o,ho,hd):=F.cell a c (B a c h1);show%[3,v,o,M _ _ ho|hd]
  .show H3 C=none;show F.hok.fresh (kN hC)
  .show λa c h1=>F.lV a c (B a c h1)
  .show (List.replicate ns.length none++f P).length=(ns++N2).length;rw[ax,ax,eL,ok.ahq,I.len,ok.ahr]
 let back:∀(s':Shared) (v:St) (H':Hp) (h':Heap),aL (eO X scope cl C (ns++N2) {s2 with heap:=hp3} H3 fp) [] v H' s'->Heap.SameBut C s'.heap h'->(∀b∈fp,H' b=none)->aL X ao P H' {s' with heap:=h' }:=by
  intro s' v H' h' I' sb fr;let Hw:∀b o,hp3.get? b=some o->b≠C:=λb o e=>by rw[<-hC];show a_ (a7 e)
  let U:Un (frs X.stack) fp H3 H' hp3 s'.heap:=I'.base;refine F.call' (ch:=fp) (H':=H') (s':={s' with heap:=h' }) I'.os %[λb o e n h1 Z=>(sb.2 b (Hw b o e)).trans (U.keep b o e n h1 Z),λb o e n h1 Z=>?_,U.free,λb o e Z=>?_,U.tups,U.uD|U.vM] (λb ob e=>?_) I'.bare I'.gh I'.tk λb j=>?_
  .let(sl,q):=U.slot b o e n h1 Z;show%[sl|(sb.2 b (Hw b o e)).trans q]
  .let(o',q):=U.there b o e Z;show%[o'|(sb.2 b (Hw b o e)).trans q]
  .let fC:H' C=none:=I'.free;calc(I'.hok b ob e).stay (λc w' hc q=>(sb.2 c ?_).trans q) (λ_ q=>q) λ_ _ q=>q;rintro rfl;rcases hc with rfl|hc
   .rw[fC]at e;cases e
   .rw[fC]at hc;cases hc
  .let(_,g1,_,g3,g4,g5):=f3 b j;show%[g3,g1,g4|g5]
 let G:∀{H':Hp},(∀b∈fp,H' b=none)->∀b∈fp,lE (eO X scope cl C (ns++N2) {s2 with heap:=hp3} H3 fp) [] H' b:=λhn b j=>%[hn b j,a_ (fpl b j),aeZ b j,.inl j,λa c h1=>(f3 b j).2.2.2.2.1 a c (B a c h1)|λp hp=>by simp[eO]at hp]
 let st₁:tn 0 h₁:=T.keep _ _ _ st2 λb _ o e=>M b o (by rw[<-hs3];show af _ e);let loop:codeAny (model X.prog X.w) X.A (.compLoop (.ListComp Y [%[tg,iter,ifs|0]] scope pos) 0 (.ref it) (.ref D) (compEnvC scope cl C X.env)) (compPost (model X.prog X.w) X.A X.xe use RR (.ref D) C)
   {s2 with heap:=h₁,toks:=s2.toks+([]:List (Str×Value)).length}:=by
  calc Tq (λn s'=>∃i v ys H',v.length=ns.length/\aL (eO X scope cl C (ns++N2) {s2 with heap:=hp3} H3 fp) [] (v++f P) H' s'/\tn i s'.heap/\(∀b∈fp,H' b=none)/\W i n ys H') ?_ m0 %[25,0,List.replicate ns.length none,[],H3,eL,Y0,st₁,λb j=>(f3 b j).1|w0];intro n s4 z;let(i,v,ys,O,hv4,I4,eY,QD,w4):=z;rcases turn i n ys O w4 with⟨stop,qn⟩|⟨go,step⟩
  .refine bD (T.done (eO X scope cl C (ns++N2) {s2 with heap:=hp3} H3 fp) rb rb rb hc i [] s4 (v++f P) O _ I4 (G QD) eY stop) λr s5 ⟨hr,I5⟩=>?_
   subst hr;let(m,hn,_):=id I5.loc;show fin D C O s5 m hn (λh' sb=>back s5 (v++f P) O h' I5 sb QD) %[I5.free|(F.nu (H':=H3) (kN hC) (F.hok.fresh (kN hC))).2] qn
  .calc bD (T.item (eO X scope cl C (ns++N2) {s2 with heap:=hp3} H3 fp) rb rb rb hc i [] s4 (v++f P) O _ I4 (G QD) eY go) λr s5 L=>?_;let(u,hr,h5):=L
   subst hr;calc bD h5 λ_ s6 L=>?_;let(y,H6,I6,r6,y6,st6,fr6):=L;let I6':=I6.pinned (G fr6) (T.obj _ _ st6);calc bD (hg cl C {s2 with heap:=hp3} H3 fp _ s6 v (f P) H6 y u _ hv4 I6' r6 (step y H6 y6)) λ_ s7 L=>?_;let(pre,hpre,I7',q7):=L;calc bD (ht cl C {s2 with heap:=hp3} H3 fp _ s7 _ H6 _ I7' q7) λb s8 L=>?_;let(H8,I8,q8):=L;let V8:∀{P':St} {H':Hp} {s':Shared},aL (eO X scope cl C (ns++N2) {s2 with heap:=hp3} H3 fp) ([]++uT fp s6.heap) P' H' s'->tn (i+1) s'.heap/\∀b∈fp,H' b=none:=λ{P' H' s'} I9=>by calc%[T.keep _ _ _ st6 λb j o e=>(I9.pin (b,o) (cS _ (cS _ (lW j e)))).1|λb j=>?_];let(o,e,d):=T.obj _ _ st6 b j;show(I9.pin (b,o) (cS _ (cS _ (lW j e)))).2.1
   cases b with
   | false=>let(m',hm,w'):=q8;let(k1,k2):=V8 I8;show%[7,m',hm,i+1,pre,ys,H8,hpre,I8.jm,k1,k2|w']
   | true=>have q8':te (pre++f P) H8 _:=q8;show wpAny _ _ (eval Y _) _ _ _;calc bD (he cl C {s2 with heap:=hp3} H3 fp _ s8 _ H8 _ I8 q8') λz s9 L=>?_;let(zv,H9,I9,r9,hD9,hz9,m',hm,w'):=L;calc bD (iG (X:=eO X scope cl C (ns++N2) {s2 with heap:=hp3} H3 fp) _ s9 _ H9 (.ref D) [zv] (.ref D) [z] (λ_ H'=>H'=upd H9 D (.lst (ys++[zv]))) I9 rb (.cons r9 .nil) %[15,D,ys,zv,rb,rb,hD9,hz9|rb]) λ_ s10 L=>?_;let(_,H10,I10,_,e10):=L;subst e10;let(k1,k2):=V8 I10;show%[7,m',hm,i+1,pre,ys++[zv],_,hpre,I10.jm,k1,k2|w']
 show codeAny_compStart_list loop (T.self X.A 0 _ _ _ st₁ loop)
def rE {scope:Scope}{N:List Str}(B:N.Nodup)(G:N[0]?=some x)(hx:scope.names.lookup x=some .local):HY (eO X scope cl C N s₀ H₀ fp) (.Name x pos) 1 (λv _ Q=>Q [some v]):=by intro ao s pre rest H v u Q hp I r q;let(J,rfl):=List.length_eq_one_iff.mp hp;calc bD (o9 (X:=eO X scope cl C N s₀ H₀ fp) (i:=0) B G (.inl (lookup_relabel_local hx)) (.inr (lookup_relabel_local hx)) ao s _ H v u (λj H'=>H'=H/\j=some v::rest) I r %[rb|rb]) λ_ s' D=>?_;let(j,H',F,e1,e2):=D;subst e1 e2;show%[2,[some v],rb,F|q]
def acp {X:Cx}(J:X.calm=true)(ok:eG X scope x)(hi:PI X (.Name x px) iter wi)(F:∀cl C s₀ H₀ fp,KY (blk X scope cl C x s₀ H₀ fp) ifs tt)(B:∀cl C s₀ H₀ fp,PE (blk X scope cl C x s₀ H₀ fp) elt te)(hs:∀x,foldedSetIterable iter X.env x=pure x:=by intro _;rfl):PE X (.ListComp elt [%[.Name x px,iter,ifs|0]] scope pos) (C_ wi tt te):=λao s T H Q I h=>by
 let e:∀cl C s₀ H₀ fp,eO X scope cl C ([x]++X.N) s₀ H₀ fp=blk X scope cl C x s₀ H₀ fp:=λ_ _ _ _ _=>rfl;let nd:([x]++X.N).Nodup:=gm.mpr %[λz=>ok.out x z ok.hx|ok.nd];let G:gU X scope [x] X.N id:=%[ok.kind,ok.CZ,ok.names,ok.free,λ_=>rfl,rb|λT i y v e1 e2=>%[e1,e2|ok.out y (aE e1)]]
 rw[eval_ListComp];show yr J G hi (λcl C s₀ H₀ fp=>rE nd rb ok.hx) (λcl C s₀ H₀ fp=>F cl C s₀ H₀ fp) (λcl C s₀ H₀ fp=>B cl C s₀ H₀ fp) hs I h λD C j M m hn bk _ q=>%[0,m,hn|λh' L=>%[1,.ref D,j,bk h' L,rb|q]]
def dZ.mk {P:Prop}(h:i<n)(p:P):dZ n i P:=%[11,_,uv h (e_ _),rb,h|p]
def jf {K:W.Frag}{a D:Addr}{xs:List V}{te:TE}{I:St}{H:Hp}{R:Hp->Prop}(j:Nat->List V->Hp->Prop)(B:j 0 [] (upd H D (.lst [])))(q:∀i ys H,i<=xs.length->j i ys H->aN K H a xs)(hs:∀i x ys H,xs[i]?=some x->j i ys H->te (some x::I) H (Bm xs.length i D ys (j (i+1))))(hd:∀ys H,j xs.length ys H->R H):qC (Itl K a) D H R (KZ I iK te):=vV j B q hs hd
def Dc {lo:Int}{n:Nat}{D:Addr}{te:TE}{I:St}{H:Hp}{R:Hp->Prop}(j:Nat->List V->Hp->Prop)(q:j 0 [] (upd H D (.lst [])))(hs:∀i ys H,i<n->j i ys H->te (some (.int (lo+i))::I) H (Bm n i D ys (j (i+1))))(hd:∀ys H,j n ys H->R H):qC (Qn lo n) D H R (KZ I iK te):=Bo n j q (λi ys H h p=>%[h|λx H' y=>by let(rfl,rfl):=y;show hs i ys _ h p]) λys H p=>%[ah _|hd ys H p]
def S (l:List Nat):Str:=⟨l.toArray⟩
def aby (l):(S l).cps.toList=l:=rfl
def jV (l):(S l).length=l.length:=rfl
def vW (h:S a=S b):a=b:=congrArg (λs:Str=>s.cps.toList) h
def Zz (z:Str):S z.cps.toList=z:=by cases z;rfl
def agI (a b):S a++S b=S (a++b):=by
 show (⟨a.toArray++b.toArray⟩:Str)=⟨(a++b).toArray⟩
 simp
def abz (a b):decide (V.str (S a)=V.str (S b))=decide (a=b):=by
 by_cases e:a=b;.subst e;simp
 .rw[ai e,ai];intro z;injection z with z;show e (vW z)
section
variable {X:Cx}{a b c e o:Expr}{pos:Pos}
def acq (l){j pos}(h:x=S l):PE X (.Constant (.str x) j pos) (tC (.str (S l))):=by rw[h];show ad8
def zQ:R2:=λx y H Q=>∃i j,x=.str (S i)/\y=.str (S j)/\i.length+j.length<=sizeLine/\Q (.str (S (i++j))) H
def iI:fJ X (binaryOp .Add) zQ:=by intro ao s T H x y v u Q I B D h;let(i,j,rfl,rfl,hz,q):=h;show S9 ao s T H _ _ v u Q I B D %[4,S i,S j,rb,rb,hz|by rw[agI];show q]
def agJ:R2:=λx y H Q=>∃l i c,x=.str (S l)/\y=.int i/\l.length<=sizeLine/\k_ l i=some c/\Q (.str (S [c])) H
def rQ:HN X agJ:=by intro value j ao s T H x y v u Q I D F h hs;let(l,i,c,rfl,rfl,hz,B,q):=h;show aeP value j ao s T H _ _ v u Q I D F %[15,S l,i,c,rb,rb,hz,B|q] hs
def agK:List V->Hp->VK->Prop:=λxs H Q=>∃l,xs=[.str (S l)]/\l.length<=sizeLine/\Q (.int l.length) H
def cV:d8 X (.builtin "len") agK:=by walk_at"g";let(l,rfl,hz,q):=h;show KN ao s T H _ us Q I r %[2,S l,rb,hz|q]
def ahs:R2:=λx y H Q=>∃i j,x=.str (S i)/\y=.str (S j)/\Q (.bl (decide (i=j))) H
def uW:fJ X (compareOp .Eq) ahs:=by intro ao s T H x y v u Q I B D h;let(i,j,rfl,rfl,q):=h;show jA ao s T H _ _ v u Q I B D %[rb|by rw[abz];show q]
def aht:R2:=λx y H Q=>∃i j,x=.str (S i)/\y=.str (S j)/\Q (.bl (!decide (i=j))) H
def mQ:fJ X (compareOp .NotEq) aht:=by intro ao s T H x y v u Q I B D h;let(i,j,rfl,rfl,q):=h;show J6 ao s T H _ _ v u Q I B D %[rb|by rw[abz];show q]
def ahu:R2:=λx y H Q=>∃c l,x=.str (S [c])/\y=.str (S l)/\Q (.bl (decide (c∈l))) H
def Dd:fJ X (compareOp .In) ahu:=by
 intro ao s T H x y v u Q I j B h;let(c,l,rfl,rfl,q):=h;show Vz ao s T H _ _ v u Q I j B %[1,S [c],S l,rb,rb|by
  let e:=StrLaws.found_one (S l) c;rw[aby]at e;rw[show (S [c])=(⟨#[c]⟩:Str) from rb,e];show q]
def pC (l:List Nat)(lo hi:Option Int):List Nat:=(l.drop (HT.cF l.length 0 lo)).take (HT.cF l.length l.length hi-HT.cF l.length 0 lo)
def QF (lo hi)(n):Builtin.Str.strSliceIndices lo hi 1 n=(List.range (HT.cF n n hi-HT.cF n 0 lo)).map (λk=>HT.cF n 0 lo+k):=by
 let q:∀(v:Int) (d:Nat),max (0:Int) (min (if v<0 then v+(n:Int) else v) (n:Int))=((HT.cF n d (some v):Nat):Int):=λv d=>by rw[<-HT.Fo];split <;> grind
 let B:∀a b:Nat,sliceRange (a:Int) (b:Int) 1=(List.range (b-a)).map (λk=>a+k):=λa b=>by
  simp only[sliceRange,show ((1:Int) > 0)=True from by simp,if_true];by_cases D:(a:Int)<b
  .let e3:(((b:Int)-a+1-1)/1).toNat=b-a:=by first|simp|(simp;done)|(simp;lia)
   simp only[D,if_true,e3];calc de λk _=>?_;lia
  .have:b-a=0:=by simp_all
   simp[D,this]
 unfold Builtin.Str.strSliceIndices;simp only[show ((1:Int) > 0)=True from by simp,if_true];cases lo with
 | none=>
  cases hi with| none=>show B 0 n| some j=>dsimp only;rw[q j n];show B 0 _
 | some i=>
  cases hi with| none=>dsimp only;rw[q i 0];show B _ n| some j=>dsimp only;rw[q i 0,q j n];show B _ _
def V9 (l)(lo hi):Txt.slice (S l) lo hi=S (pC l lo hi):=by
 let D:HT.cF l.length l.length hi<=l.length:=HT.VL _ _ (ah _) _;let j:((Builtin.Str.strSliceIndices lo hi 1 (S l).length).filterMap ((S l).cps[·]?))=pC l lo hi:=by
  rw[QF];let h:=StrLaws.picks l (HT.cF l.length l.length hi-HT.cF l.length 0 lo) (HT.cF l.length 0 lo);unfold pC;by_cases B:HT.cF l.length 0 lo<=HT.cF l.length l.length hi
  .let F:=h (by simp_all);rw[jV];simpa [S] using F
  .let e:HT.cF l.length l.length hi-HT.cF l.length 0 lo=0:=Nat.sub_eq_zero_of_le xo;rw[jV,e];simp
 unfold Txt.slice;split
 .rename_i B;let M:(Builtin.Str.strSliceIndices lo hi 1 (S l).length).length=l.length:=by
   simp at B;simpa [jV] using B
  let q:HT.cF l.length l.length hi-HT.cF l.length 0 lo=l.length:=by rw[QF,jV]at M;simpa using M
  let G:HT.cF l.length 0 lo=0\/l.length=0:=xo;let e:pC l lo hi=l:=by
   unfold pC;rw[q];rcases G with z|z;.rw[z];simp
   .have:l=[]:=ly.mp z;subst this;simp
  rw[e]
 .rw[j];rfl
def Tr:V->Option Int->Option Int->Hp->VK->Prop:=λx lo hi H Q=>∃l,x=.str (S l)/\l.length<=sizeLine/\Q (.str (S (pC l lo hi))) H
def part_of {o:Option Int}(p:IsPart v o):∃l:Option (Int×Tok),v=partValue l/\l.map (·.1)=o:=by
 cases p with| none=>show%[0,none,rb|rb]| int i t=>show%[0,some (i,t),rb|rb]
def K1:Qt X Tr:=by intro ao s T H x v vl L lo hi sl Q I G hs pl D h;let(l,rfl,hz,q):=h;let(t,rfl):=G;let(p1,rfl,rfl):=part_of pl;let(p2,rfl,rfl):=part_of D;calc%[1,"str",_,F.slot_str_getitem.lookup,typeIs_str _ _ _|?_];calc cj (wpAny_getItem_str_slice (l:=p1) (u:=p2) (st:=none) hs rb ?_);let e:=V9 l (p1.map (·.1)) (p2.map (·.1));let j:(Txt.slice (S l) (p1.map (·.1)) (p2.map (·.1))).length<=sizeLine:=ay (Txt.slice_le _ _ _) hz;calc post_val_or_str %[j|λt' k J=>?_];let B:(if ((Option.map (λx:Int×Tok=>x.1) none).getD 1==1&&(slicePicked (S l) p1 p2 none).length==(S l).length)=true then S l else ⟨((slicePicked (S l) p1 p2 none).filterMap ((S l).cps[·]?)).toArray⟩)=S (pC l (p1.map (·.1)) (p2.map (·.1))):=e;show%[1,.str (S (pC l (p1.map (·.1)) (p2.map (·.1)))),H,I.tok _,%[t'|congrArg (λz=>Value.str z t') B]|q]
abbrev Ts (ls:AA):List V:=ls.map λl=>V.str (S l)
def abA (K:W.Frag):List V->Hp->VK->Prop:=λxs H Q=>∃x n t b,xs=[x,.ty n]/\n6 K H x t/\W.kitOne K t (.type n)=some b/\Q (.bl b) H
def jq:d8 X (.builtin "isinstance") (abA X.K):=by walk_at"g";let(x,n,t,b,rfl,ty,k,q):=h;let(u,D,rfl,r1,j):=vals2 r;cases j;show cj (VG I r1 ty k λtk B=>%[1,.bl b,H,I.tok tk,rb|q])
def QH (ls:AA):Txt.join (S []) (ls.map S)=S ls.flatten:=by
 unfold Txt.join Builtin.Str.glued;let q:∀(ls:AA) (j:Array Nat),((ls.map S).foldl (λj p=>j++(S []).cps++p.cps) j).toList=j.toList++ls.flatten:=by
  intro ls
  induction ls with| nil=>intro j;simp| cons l r ih=>intro j;rw[b9,w_,ih];simp[S]
 unfold S;congr 1;apply nt.mp;cases ls with| nil=>rfl| cons l r=>have:=q r (S l).cps;let e:(List.map S (l::r)).drop 1=List.map S r:=rfl;show (((List.map S (l::r)).drop 1).foldl _ (S l).cps).toList=_;rw[e];show this.trans (by simp[S])
def rJoin (K:W.Frag):V->List V->Hp->VK->Prop:=λx vs H Q=>∃p ls,x=.str (S [])/\vs=[.ref p]/\aN K H p (Ts ls)/\ls.flatten.length<=1000/\Q (.str (S ls.flatten)) H
theorem uZ:∀{ls:AA} {us:List Value},Vals (Ts ls) us->StrsAre us (ls.map S)
 | [],_,.nil=>.nil
 | l::r,_,.cons q t=>by let(t',rfl):=q;show .cons (S l) t' (uZ t)
def QJ (ls:AA):((ls.map S).map (·.length)).sum=ls.flatten.length:=by
 induction ls with| nil=>rfl| cons l r ih=>rw[b9,b9,List.sum_cons,ih,lj,ax,jV]
def pD:rM X "str.join" (rJoin X.K):=by
 intro ao s T H x vs v us Q I F B h;let(p,ls,rfl,rfl,D,hz,q):=h;let(t,rfl):=F;let(u,rfl,j):=vals1 B;cases j;let(its,r,pl,_):=I.list D;calc cj (join_list pl.isList (ys:=ls.map S) (by simpa using uZ r) ?_ λt' k G=>?_);.rw[QJ];show _+_*0<=_;lia
 .show%[1,.str (S ls.flatten),H,I.tok k,%[t'|congrArg (λz=>Value.str z t') (QH ls)]|q]
end
structure aQ (K:W.Frag)(mg:Str->Option Value)(name:Str)(st:Stmt)(ps:List Str):Prop where
 ex:∃f fd,gO K name name st f fd/\cT K fd ps []/\mg name=some (.ref f)
structure bF (P:Program)(w:World)(K:W.Frag)(mg:Str->Option Value)(base:Heap)(name:Str)(k:Nat)(ps:List Str)(sp:Sp):Prop where
 ex:∃f fd,eZ P w K mg base fZ k f fd ps sp/\cT K fd ps []/\mg name=some (.ref f)/\W.keepIn K (.ref f)=true
def aQ.ok {K:W.Frag}{mg:Str->Option Value}{name:Str}{st:Stmt}{N ps:List Str}{k:Nat}{sp:Sp}(D:aQ K mg name st ps)(S:aU N ps (aH st))(len:∀vs H Q E,sp vs H Q E->vs.length=ps.length)(j:∀(f:Addr) (bh:Value) (A:Around) (outer:List Env) (s:Shared) (H:Hp) (vs:List V) (Q:VK) (E:XK),dG k (A.deeper (envOfC name (aH st) s.heap.objs.size f bh))->sp vs H Q E->
   ∃t,oY (oh fZ P w K mg base N name (aH st) f bh A outer s H E).xX (cO st) t/\t {nx:=λ_ H'=>Q .non H',rt:=Q} (start N vs) H):bF P w K mg base name (k+1) ps sp:=by
 let(f,fd,F,b,g):=D.ex;show%[f,fd,F.ok S len (j f),b,g|F.kp]
section
variable {X:Cx}{x:Str}{p pos:Pos}{e:Expr}{es:List Expr}{t:TA}
def ae0 (D:bF X.prog X.w X.K X.mg X.base x k ps sp)(B:dG k X.A)(F:Gl X x)(ha:PA X (e::es) t)(q:(x==("__debug__":Str))=false:=by decide)(hs:starEach (e::es) X.env=(false,eval e X.env)::starEach es X.env:=by rfl)(j:(backTo pos (starEach es X.env)).any (·.1)=false:=by rfl):PE X (.Call (.Name x p) (e::es) [] pos) (vR sp [] E0 t):=by let(f,fd,G,b,g,kp):=D.ex;show ab5 G B F g kp b .nil jU ha q hs j
end
theorem aA.upd (h:H p=none):aA H (upd H p o):=λb o' e=>by rw[aZ (bN e h)];show e
def aA.bC (s:aA H H')(h:H p=none):aA H (L2.upd H' p o):=λb o' e=>by rw[aZ (bN e h)];show s b o' e
def ZC {K:W.Frag}{h:Heap}{mg:Str->Option Value}{name:Str}{st:Stmt}{ps:List Str}{f:Addr}{oc:Value}{od an:Option Addr}{osl:Array (Option Value)}{kV doc pm bh ct:Value}(X:K.In h)(G:h.Ns mainGlobals mg)(a:W.nsIn K mainGlobals name=some (some (.ref f)))(l:K.lookup f=some %[oc,od,.func (W.fnOf name name (fu st) (cO st) (aH st) .none kV doc pm an bh ct)|osl])(c:W.codeIn K bh name=true)(k:W.keepIn K (.ref f)=true)(j:∀(kV doc pm:Value) (an:Option Addr) (bh ct:Value) (us:List Value),us.length=ps.length->bindArgs (W.fnOf name name (fu st) (cO st) (aH st) .none kV doc pm an bh ct) %[us|[]]=pure (ps.zip us)):aQ K mg name st ps:=%[f,_,j9 l c k,(j9 l c k).binds j|qk X G a]
def ae1 {K:W.Frag}{h:Heap}{mg:Str->Option Value}{st:Stmt}{x:Str}{f q:Addr}{oc:Value}{od an:Option Addr}{osl:Array (Option Value)}{kV doc pm bh ct:Value}(X:K.In h)(G:h.Ns mainGlobals mg)(j:mg "law"=some (.ref q))(a:W.nsIn K mainGlobals "law"=some (some (.ref f)))(l:K.lookup f=some %[oc,od,.func (W.fnOf "law" "law" (fu st) (cO st) (aH st) .none kV doc pm an bh ct)|osl])(c:W.codeIn K bh "law"=true)(k:W.keepIn K (.ref f)=true)(B:∀(kV doc pm:Value) (an:Option Addr) (bh ct v:Value),bindArgs (W.fnOf "law" "law" (fu st) (cO st) (aH st) .none kV doc pm an bh ct) %[[v]|[]]=pure [(x,v)]):∃fd:FuncData,gO K "law" "law" st q fd/\∀(s:Shared) (v:Value),BindsTo s fd %[[v]|[]] [(x,v)]:=by let e:=j.symm.trans (qk X G a);cases e;show%[0,_,j9 l c k|λs v=>.of_eq (B kV doc pm an bh ct v)]
def Kc (K:W.Frag):Sp:=λvs H Q _=>∃(a:Addr) (ns:List Int),vs=[.ref a]/\aN K H a (ns.map V.int)/\ns.length<=63/\∀H',Q (.bl true) H'
def acr {x:Str}{l:W.OpenLaw}{j:List Str}{L:(Str->Option Value)->Heap->Prop}{Y:World->Heap->Prop}{d:DefRec}{K:Params->W.Frag}(hn:l.most=some 63)(B:d.params.defaults=[])(G:∀(w:World) (h:Heap),Y w h->(K w.params).In h)(F:∀(w:World) (mg:Str->Option Value) (D:Addr) (h:Heap),(K w.params).In h->h.Ns mainGlobals mg->mg d.name=some (.ref D)->
   ∃fd:FuncData,(∀(s:Shared) (u:Value),BindsTo s fd %[[u]|[]] [(x,u)])/\∀base:Heap,(K w.params).In base->base.Ns mainGlobals mg->n_ l.prog w (K w.params) mg base fZ 20 D fd [x] (Kc (K w.params))) :
  W.WalkO q j L Y l.row.toRowW d [] (λf vs=>PySem.call f vs):=
 L2.acj (n:=63) (k:=20) (x:=x) (CX:=λ_=>fZ) (sp:=λw=>Kc (K w.params)) hn xt B %[rb,xt|xt] G F (λ_ _ a ns J _ M=>%[4,a,ns,rb,M,J|λ_=>rfl]) λ_ _ _ _ _ z=>z
namespace RV
end RV
structure QE (X:Cx)(e:Expr)(t:TE):Prop where
 out:PE X e t
structure QT (X:Cx)(e:Expr)(t:TT):Prop where
 out:PT X e t
structure QW (X:Cx)(e:Expr)(t:TT):Prop where
 out:PW X e t
structure QA (X:Cx)(es:List Expr)(t:TA):Prop where
 out:PA X es t
structure QS (X:Cx)(st:Stmt)(t:TS):Prop where
 out:PS X st t
structure rR (X:Cx)(st:List Stmt)(t:TS):Prop where
 out:oY X st t
structure QG (X:Cx)(e:Expr)(t:TG):Prop where
 out:PG X e t
structure V_ (X:Cx)(es:List Expr)(t:xY):Prop where
 out:Qm X es t
structure QI (X:Cx)(tg iter:Expr)(wi:TI):Prop where
 out:PI X tg iter wi
structure QO (X:Cx)(e:Option Expr)(t:TO):Prop where
 out:PO X e t
structure QC (X:Cx)(op:CmpOp)(a b:Expr)(t:TE):Prop where
 out:PC X op a b t
structure Wa (X:Cx)(ifs:List Expr)(t:TT):Prop where
 out:KY X ifs t
def QW.qt (h:QW X e t):QT X e t:=⟨h.out.pt⟩
section
variable {X:Cx}{st:Stmt}{rest:List Stmt}{t u:TS}
variable {pos:Pos}
variable {e:Expr}{te:TE}
def b_  : rR X [] abp:=⟨abW⟩
def aD (h1:QS X st t)(j:rR X rest u):rR X (st::rest) (aej t u):=⟨Y7 h1.out j.out⟩
def aJ (h1:QS X st t):rR X [st] t:=⟨abX h1.out⟩
def cU (j:QT X c tc)(ha:rR X a t)(q:rR X b u):QS X (.If c a b pos) (ael tc t u):=⟨agA j.out ha.out q.out⟩
def aW (j:QE X e te):QS X (.Return (some e) pos) (Sy te):=⟨aek j.out⟩
def gF (j:QE X e te)(hs:swapsWith e none pos.line X.env=pure false:=by rfl):QS X (.Expr e pos) (Cz te):=⟨abY j.out hs⟩
end
section
variable {X:Cx}{tg:Expr}
def eU (hp:PassesOwn (model X.prog X.w) X.A X.env X.xe)(q:X.calm=true)(hi:QI X tg iter wi)(B:QG X tg g)(j:rR X body tb)(hs:∀x,foldedSetIterable iter X.env x=pure x:=by intro _;rfl):QS X (.For tg iter body [] pos) (aev wi g tb):=⟨aew hp q hi.out B.out j.out hs⟩
end
section
variable {X:Cx}{o value:Expr}{f:Str}{pos pos':Pos}{ta tv:TE}
def Bp (hp:PassesOwn (model X.prog X.w) X.A X.env X.xe)(j:QT X c tc)(q:rR X body tb):QS X (.While c body [] pos) (Vu tc tb):=⟨Y9 hp j.out q.out⟩
def aR (N:X.N.Nodup)(hi:X.N[i]?=some x)(hx:Loc X.env.scope x)(j:QE X e te)(hs:swapsWith e (some (.Name x pos')) pos.line X.env=pure false:=by rfl)(hf:X.fn x=true\/X.env.scope.names.lookup x=some .local:=by first|show .inl rfl|show .inr rfl|assumption):QS X (.Assign [.Name x pos'] e pos) (Fi te (nZ i)):=⟨aer N hi hx j.out hs hf⟩
def H_:rR X sts Vs:=⟨Vt⟩
def Df (ha:QE X o ta)(hv:QE X value tv)(hs:swapsWith value (some (.Attribute o f pos')) pos.line X.env=pure false):QS X (.Assign [.Attribute o f pos'] value pos) (aeB X.K ta tv f):=⟨aeD ha.out hv.out hs⟩
def Wb (j:QE X e te)(q:QG X tg g)(hs:swapsWithSole [tg] e pos.line X.env=pure false:=by rfl)(hw:swappedStores [tg] e X.env=pure none:=by rfl)(h1:(assignEach [tg] X.env).map (·.2)=[assign tg X.env]:=by rfl):QS X (.Assign [tg] e pos) (Fi te g):=⟨aep j.out q.out hs hw h1⟩
def bQ (N:X.N.Nodup)(hi:X.N[i]?=some x)(hx:Loc X.env.scope x)(hf:X.fn x=true\/X.env.scope.names.lookup x=some .local:=by first|show .inl rfl|show .inr rfl|assumption):QG X (.Name x pos) (nZ i):=⟨o9 N hi hx hf⟩
def oA {es:List Expr}{k:Nat}{t:xY}{n:Nat}(q:X.calm=true)(h:V_ X es t)(hn:(assignEach es X.env).length=n:=by rfl)(j:(assignEach es X.env).findIdx? (·.1)=none:=by rfl):QG X (.Tuple es k pos) (SM X.K n t):=⟨Ky q h.out hn j⟩
def kO  : V_ X [] SJ:=⟨Fg⟩
def cJ (h1:QG X e t)(j:V_ X es u)(hs:(assignEach (e::es) X.env).map (·.2)=assign e X.env::(assignEach es X.env).map (·.2):=by rfl):V_ X (e::es) (vP t u):=⟨o_ h1.out j.out hs⟩
end
section
variable {X:Cx}
def aB {i j pos}:QE X (.Constant (.int i) j pos) (tC (.int i)):=⟨ad7⟩
def jW {b j pos}:QE X (.Constant (.bool b) j pos) (tC (.bl b)):=⟨agx⟩
end
section
variable {X:Cx}{a b c:Expr}{ta tb tc:TE}{pos:Pos}
variable {tA:TT}
variable {mL:TT}{rest:List Expr}
def aK (j:fJ X (binaryOp op) r)(ha:QE X a ta)(q:QE X b tb):QE X (.BinOp a op b pos) (qO r ta tb):=⟨agB j ha.out q.out⟩
def gW (j:fJ X (compareOp op) r)(ha:QE X a ta)(q:QE X b tb)(hm:behindInMarks op b=false):QE X (.Compare a [op] [b] pos) (qO r ta tb):=⟨ab0 j ha.out q.out hm⟩
def bW (j:fJ X (compareOp op) r)(ha:QE X a ta)(q:QE X b tb)(hm:behindInMarks op b=false):QT X (.Compare a [op] [b] pos) (J7 (qO r ta tb)):=⟨ab1 j ha.out q.out hm⟩
def nA (B:fJ X (compareOp op) r)(j:fJ X (compareOp op') r')(ha:QE X a ta)(q:QE X b tb)(D:QE X c tc)(hm:lastMarks [op,op'] [b,c]=false:=by with_unfolding_all rfl):QE X (.Compare a [op,op'] [b,c] pos) (xZ r r' ta tb tc):=⟨Zc B j ha.out q.out D.out hm⟩
def rT (B:fJ X (compareOp op) r)(j:fJ X (compareOp op') r')(ha:QE X a ta)(q:QE X b tb)(D:QE X c tc)(hm:lastMarks [op,op'] [b,c]=false:=by with_unfolding_all rfl):QT X (.Compare a [op,op'] [b,c] pos) (J7 (xZ r r' ta tb tc)):=⟨Zd B j ha.out q.out D.out hm⟩
def gP (h:QE X e t)(q:∀j,isTrue e X.env j=(do let v <- j;standAt e.pos;holding [v] (truthy v)):=by intro _;rfl):QT X e (tB t):=⟨ad_ h.out q⟩
def kh (ha:QT X a tA):QT X (.UnaryOp .Not a pos) (aeb tA):=⟨aee ha.out⟩
def Dg (ha:QT X a tA)(j:QW X (.BoolOp .And (b::rest) pos) mL):QW X (.BoolOp .And (a::b::rest) pos) (aea tA mL):=⟨aed ha.out j.out⟩
def zR (ha:QT X a tA):QW X (.BoolOp .And [a] pos) tA:=⟨abV ha.out⟩
def vX (ha:QT X a tA)(j:QW X (.BoolOp .Or (b::rest) pos) mL):QW X (.BoolOp .Or (a::b::rest) pos) (tOr tA mL):=⟨agy ha.out j.out⟩
def rU (ha:QT X a tA):QW X (.BoolOp .Or [a] pos) tA:=⟨aec ha.out⟩
def oE (ha:QE X a ta)(j:QE X (.BoolOp .And (b::rest) pos) tb):QE X (.BoolOp .And (a::b::rest) pos) (abn ta tb):=⟨aeh ha.out j.out⟩
def Tt (ha:QE X a ta)(j:QE X (.BoolOp .Or (b::rest) pos) tb):QE X (.BoolOp .Or (a::b::rest) pos) (aef ta tb):=⟨agz ha.out j.out⟩
def lG {op}(h:QE X a t):QE X (.BoolOp op [a] pos) t:=⟨aeg h.out⟩
def ae2 (ha:QE X a ta):QE X (.UnaryOp .Not a pos) (abo ta):=⟨aei ha.out⟩
def rW (j:QT X c tA)(ha:QE X a ta)(q:QE X b tb):QE X (.IfExp c a b pos) (tIf tA ta tb):=⟨Y6 j.out ha.out q.out⟩
def bH (j:HN X r)(ha:QE X a ta)(q:QE X b tb)(hs:Fq b):QE X (.Subscript a b pos) (qO r ta tb):=⟨agD j ha.out q.out hs⟩
end
section
variable {X:Cx}{e:Expr}{te:TE}{lo hi:Option Expr}{tl th:TO}{pos p2:Pos}
variable {es:List Expr}{t:TA}
variable {x:Str}{p:Pos}{id:String}{r:List V->Hp->VK->Prop}
variable {T:String}
def jr {r:V->Option Int->Option Int->Hp->VK->Prop}(j:Qt X r)(q:QE X e te)(B:QO X lo tl)(D:QO X hi th):QE X (.Subscript e (.Slice lo hi none p2) pos) (VN r te tl th):=⟨Zm j q.out B.out D.out⟩
def rF  : QO X none uU:=⟨acd⟩
def gZ (h:QE X e te):QO X (some e) (CP te):=⟨ace h.out⟩
def dw (h:QA X es t):QE X (.List es pos) (aeF t):=⟨aeH h.out⟩
def cW {x1}(h:QA X es t):QE X (.Tuple es x1 pos) (Zg t):=⟨aeG h.out⟩
def au  : QA X [] n8:=⟨aeE⟩
def ak (ha:QE X e te)(j:QA X es t)(hs:starEach (e::es) X.env=(false,eval e X.env)::starEach es X.env:=by rfl):QA X (e::es) (iW te t):=⟨ab4 ha.out j.out hs⟩
def aP (D:d8 X (.builtin id) r)(F:Gl X x)(hm:X.mg x=none)(hv:bootBuiltins x=some (.builtin id))(ha:QA X (e::es) t)(hn:x≠"__name__":=by decide)(q:(x==("__debug__":Str))=false:=by decide)(B:starEach (e::es) X.env=(false,eval e X.env)::starEach es X.env:=by rfl)(j:(backTo pos (starEach es X.env)).any (·.1)=false:=by rfl):QE X (.Call (.Name x p) (e::es) [] pos) (tCB r t):=⟨Zj D F hm hv ha.out hn q B j⟩
def cY (D:d8 X (.type T) r)(F:Gl X x)(hm:X.mg x=none)(hv:bootBuiltins x=some (.type T))(ha:QA X (e::es) t)(hn:x≠"__name__":=by decide)(q:(x==("__debug__":Str))=false:=by decide)(B:starEach (e::es) X.env=(false,eval e X.env)::starEach es X.env:=by rfl)(j:(backTo pos (starEach es X.env)).any (·.1)=false:=by rfl):QE X (.Call (.Name x p) (e::es) [] pos) (tCB r t):=⟨VJ D F hm hv ha.out hn q B j⟩
end
section
variable {X:Cx}{o e:Expr}{es:List Expr}{to:TE}{t:TA}{name:Str}{apos cpos:Pos}{T id:String}{r:V->List V->Hp->VK->Prop}
variable {tg:Expr}
def dU (G:PlainAttrs T)(slot:Slot T name id)(F:typeOf (.builtin id)=pure (.type "method_descriptor"))(hm:rM X id r)(J:QE X o to)(ha:QA X (e::es) t)(q:attributeBase o name X.env (eval o X.env)=eval o X.env:=by rfl)(D:((backTo cpos (starEach (e::es) X.env)).all (λx=>!x.1)&&(backToKw cpos (keywordEach [] X.env)).all (λx=>x.1.isSome)
   && decide ((e::es).length+([]:List Keyword).length+(if ([]:List Keyword).isEmpty then 0 else 1)<30))=true:=by rfl) (B:(apos.endLine==cpos.line)=true:=by rfl) (hs:starEach (e::es) X.env=(false,eval e X.env)::starEach es X.env:=by rfl) (j:(backTo cpos (starEach es X.env)).any (·.1)=false:=by rfl):QE X (.Call (.Attribute o name apos) (e::es) [] cpos) (Qv X.K T r to t):=
 ⟨agF G slot F hm J.out ha.out q D B hs j⟩
def qp (D:PlainAttrs T)(slot:Slot T name id)(B:typeOf (.builtin id)=pure (.type "method_descriptor"))(hm:rM X id r)(F:QE X o to)(j:attributeBase o name X.env (eval o X.env)=eval o X.env:=by rfl)(q:(apos.endLine==cpos.line)=true:=by rfl):QE X (.Call (.Attribute o name apos) [] [] cpos) (Zn X.K T r to):=⟨aeS D slot B hm F.out j q⟩
def pF {x:Str}{v:V}{u:Value}{pos:Pos}(j:Gl X x)(hm:X.mg x=none)(hv:bootBuiltins x=some u)(r:bG v u)(hn:x≠"__name__":=by decide)(hd:(x==("__debug__":Str))=false:=by decide):QE X (.Name x pos) (tC v):=⟨abU j hm hv r hn hd⟩
def QL (j:Gl X x)(hm:X.mg x=some u)(r:bG v u)(hd:(x==("__debug__":Str))=false:=by decide):QE X (.Name x pos) (tC v):=⟨abT j hm r hd⟩
def cG (j:QE X l tl):QI X tg l (CG X.K tl):=⟨abZ j.out⟩
def mR (j:QE X l tl):QI X tg l (aes X.K tl):=⟨aeu j.out⟩
def jN (j:Gl X "range")(hm:X.mg "range"=none)(ha:QA X [a] ta)(hs:starEach [a] X.env=[(false,eval a X.env)]:=by rfl):QI X tg (.Call (.Name "range" p) [a] [] pos) (abq ta):=⟨Vw j hm ha.out hs⟩
end
section
variable {X:Cx}{e:Expr}{f:Str}{pos:Pos}{ta:TE}
def eV (j:QE X e ta)(q:attributeBase e f X.env (eval e X.env)=eval e X.env):QE X (.Attribute e f pos) (aeA X.K ta f):=⟨aeC j.out q⟩
end
section
variable {X:Cx}{CX:qP}{k:Nat}{f C:Addr}{fd:FuncData}{ps:List Str}{sp:Sp}{iJ:List V}{ds:List Value}{E:XK}{m:Str}{pos apos:Pos}{e o:Expr}{es:List Expr}{ta:TE}{t:TA}
variable {x:Str}{p:Pos}
variable {i:Expr}{td ty:TE}
variable {value:Expr}{tv:TE}{pos':Pos}
def pG {pl:Sem Bool}(G:QE X o ta)(c:Cls X.K C)(hm:Meth X.K C m f)(F:eZ X.prog X.w X.K X.mg X.base CX k f fd ps sp)(D:dG k X.A)(J:cT X.K fd ps ds)(hd:Vals iJ ds)(hx:Passes CX X E)(ha:QA X (e::es) t)(q:starEach (e::es) X.env=(false,eval e X.env)::starEach es X.env:=by rfl)(j:(backTo pos (starEach es X.env)).any (·.1)=false:=by rfl)(B:eval (.Call (.Attribute o m apos) (e::es) [] pos) X.env=(do
   let ov <- eval o X.env
   standAt apos.atName
   let (f,first) <- holding [ov] (getMethod ov m pl)
   callWith pos f first (backTo pos (starEach (e::es) X.env)) (backToKw pos (keywordEach [] X.env))):=by rfl):QE X (.Call (.Attribute o m apos) (e::es) [] pos) (CK C m sp iJ E ta t):=
 ⟨ab6 G.out c hm F D J hd hx ha.out q j B⟩
def Bq (B:QE X o ta)(c:Cls X.K C)(hm:Meth X.K C m f)(F:eZ X.prog X.w X.K X.mg X.base CX k f fd ps sp)(q:dG k X.A)(D:cT X.K fd ps ds)(hd:Vals iJ ds)(hx:Passes CX X E)(j:eval (.Call (.Attribute o m apos) [] [] pos) X.env=(do
   let ov <- eval o X.env
   standAt apos.atName
   let (f,first) <- holding [ov] (getMethod ov m pl)
   callWith pos f first (backTo pos (starEach [] X.env)) (backToKw pos (keywordEach [] X.env))):=by rfl):QE X (.Call (.Attribute o m apos) [] [] pos) (CK C m sp iJ E ta n8):=
 ⟨Zh B.out c hm F q D hd hx j⟩
def zT (M:Mk X.K C f)(F:eZ X.prog X.w X.K X.mg X.base CX k f fd ps sp)(B:dG (k+1) X.A)(J:Gl X x)(hm:X.mg x=some (.ref C))(G:cT X.K fd ps ds)(hd:Vals iJ ds)(hx:Passes CX X E)(ha:QA X (e::es) t)(q:(x==("__debug__":Str))=false:=by decide)(D:starEach (e::es) X.env=(false,eval e X.env)::starEach es X.env:=by rfl)(j:(backTo pos (starEach es X.env)).any (·.1)=false:=by rfl):QE X (.Call (.Name x p) (e::es) [] pos) (abu C sp iJ E t):=⟨ab7 M F B J hm G hd hx ha.out q D j⟩
def K4  : QE X (.Dict [] [] pos) V3:=⟨Zw⟩
def ae3 (q:X.A.units+1<cLine)(hi:QE X i ty)(j:QE X o td):QC X .In i o (aeX ty td):=⟨aeY q hi.out j.out⟩
def Fv (q:X.A.units+1<cLine)(j:QE X o td)(hi:QE X i ty)(hv:QE X value tv)(hs:swapsWith value (some (.Subscript o i pos')) pos.line X.env=pure false):QS X (.Assign [.Subscript o i pos'] value pos) (abx td ty tv):=⟨aci q j.out hi.out hv.out hs⟩
end
section
variable {X:Cx}{a b:Expr}{pos:Pos}
def ae4 (h:QC X op a b t)(h1:behindInMarks op b=false:=by first|show Y5 _ xt xt|rfl):QE X (.Compare a [op] [b] pos) t:=⟨ad9 h.out h1⟩
def qv (i:Nat){x:Str}{pos:Pos}(N:X.N[i]?=some x:=by rfl)(hv:Vo X.env.scope x:=by first|show Or.inl rfl|show Or.inr (Or.inl rb)|show Or.inr (Or.inr rb))(hd:(x==("__debug__":Str))=false:=by decide)(j:(x==("__classdict__":Str))=false:=by decide):QE X (.Name x pos) (fH i):=⟨pv i N hv hd j⟩
def aG {X:Cx}{x:Str}{pos:Pos}:=@qv X 0 x pos
def bx {X:Cx}{x:Str}{pos:Pos}:=@qv X 1 x pos
def bf {X:Cx}{x:Str}{pos:Pos}:=@qv X 2 x pos
def bI {X:Cx}{x:Str}{pos:Pos}:=@qv X 3 x pos
def cg {X:Cx}{x:Str}{pos:Pos}:=@qv X 4 x pos
def cL {X:Cx}{x:Str}{pos:Pos}:=@qv X 5 x pos
def cM {X:Cx}{x:Str}{pos:Pos}:=@qv X 6 x pos
def iz {X:Cx}{x:Str}{pos:Pos}:=@qv X 7 x pos
def jX {X:Cx}{x:Str}{pos:Pos}:=@qv X 8 x pos
def cI:Wa X [] iK:=⟨acn⟩
def Fw (h:QT X c t):Wa X [c] t:=⟨aco h.out⟩
end
section
variable {X:Cx}
def bR (l){j pos}(h:x=S l):QE X (.Constant (.str x) j pos) (tC (.str (S l))):=⟨acq l h⟩
end
section
variable {X:Cx}{x:Str}{p pos:Pos}{e:Expr}{es:List Expr}{t:TA}
def aX (D:bF X.prog X.w X.K X.mg X.base x k ps sp)(B:dG k X.A)(F:Gl X x)(ha:QA X (e::es) t)(q:(x==("__debug__":Str))=false:=by decide)(hs:starEach (e::es) X.env=(false,eval e X.env)::starEach es X.env:=by rfl)(j:(backTo pos (starEach es X.env)).any (·.1)=false:=by rfl):QE X (.Call (.Name x p) (e::es) [] pos) (vR sp [] E0 t):=⟨ae0 D B F ha.out q hs j⟩
end
def fB {X:Cx}(B:X.calm=true)(ok:eG X scope x)(hi:QI X (.Name x px) iter wi)(j:∀cl C s₀ H₀ fp,Wa (blk X scope cl C x s₀ H₀ fp) ifs tt)(q:∀cl C s₀ H₀ fp,QE (blk X scope cl C x s₀ H₀ fp) elt te)(hs:∀x,foldedSetIterable iter X.env x=pure x:=by intro _;rfl):QE X (.ListComp elt [%[.Name x px,iter,ifs|0]] scope pos) (C_ wi tt te):=⟨acp B ok hi.out (λcl C s₀ H₀ fp=>(j cl C s₀ H₀ fp).out) (λcl C s₀ H₀ fp=>(q cl C s₀ H₀ fp).out) hs⟩
def rfg {as:List Addr}{n:Nat}{x:V}(h:(as.map V.ref)[n]?=some x):∃h:n<as.length,V.ref as[n]=x:=by
 let hn:n<as.length:=by have:=(al.mp h).1;simpa using this
 rw[bb,ag hn]at h;show%[hn|bg h]
def aQ.dz {K:W.Frag}{mg:Str->Option Value}{name:Str}{st:Stmt}{N ps:List Str}{k:Nat}{sp:Sp}(D:aQ K mg name st ps)(S:aU N ps (aH st))(j:∀(f:Addr) (bh:Value) (A:Around) (outer:List Env) (s:Shared) (H:Hp) (vs:List V) (Q:VK) (E:XK),dG k (A.deeper (envOfC name (aH st) s.heap.objs.size f bh))->sp vs H Q E->
   ∃t,rR (oh fZ P w K mg base N name (aH st) f bh A outer s H E).xX (cO st) t/\t {nx:=λ_ H'=>Q .non H',rt:=Q} (start N vs) H) (len:∀vs H Q E,sp vs H Q E->vs.length=ps.length:=by intro _ _ _ _ h;repeat (first|(let(rfl,_):=h;rfl)|let(_,h):=h)):bF P w K mg base name (k+1) ps sp:=
 D.ok S len λf bh A outer s H vs Q E q h=>let %[t,a|b]:=j f bh A outer s H vs Q E q h;%[0,t,a.out|b]
def gO.dz {K:W.Frag}{mg:Str->Option Value}{x qual:Str}{st:Stmt}{N ps:List Str}{k:Nat}{sp:Sp}(F:gO K x qual st f fd)(S:aU N ps (aH st))(j:∀(bh:Value) (A:Around) (outer:List Env) (s:Shared) (H:Hp) (vs:List V) (Q:VK) (E:XK),dG k (A.deeper (envOfC qual (aH st) s.heap.objs.size f bh))->sp vs H Q E->
   ∃t,rR (oh fZ P w K mg base N qual (aH st) f bh A outer s H E).xX (cO st) t/\t {nx:=λ_ H'=>Q .non H',rt:=Q} (start N vs) H) (len:∀vs H Q E,sp vs H Q E->vs.length=ps.length:=by intro _ _ _ _ h;repeat (first|(let(rfl,_):=h;rfl)|let(_,h):=h)):eZ P w K mg base fZ (k+1) f fd ps sp:=
 F.ok S len λbh A outer s H vs Q E q h=>let %[t,a|b]:=j bh A outer s H vs Q E q h;%[0,t,a.out|b]
def gO.ahv {K:W.Frag}{mg:Str->Option Value}{x qual y:Str}{st:Stmt}{N:List Str}{k:Nat}{sp:Sp}(F:gO K x qual st f fd)(S:aU N [y] (aH st))(q:(aH st).names.lookup y=some .local)(len:∀vs H Q E,sp vs H Q E->vs.length=1)(j:∀(bh:Value) (A:Around) (outer:List Env) (s:Shared) (H:Hp) (vs:List V) (Q:VK) (E:XK),dG k (A.deeper (envOfC qual (aH st) s.heap.objs.size f bh))->sp vs H Q E->
   ∃t,rR (oh fZ P w K mg base N qual (aH st) f bh A outer s H E).xX (cO st) t/\t {nx:=λ_ H'=>Q .non H',rt:=Q} (start N vs) H):n_ P w K mg base fZ (k+1) f fd [y] sp:=
 F.okL S q len λbh A outer s H vs Q E B h=>let %[t,a|b]:=j bh A outer s H vs Q E B h;%[0,t,a.out|b]
section
variable {prog:Program}{w:World}{A:Around}{E:AB}{s:Shared}
def Tv (N:wpAny (model prog w) A.in1 (collect v) (λvs s1=>∃ss,StrsAre vs ss/\vs.length<64/\
   ∀(h':Heap) (q:List Value) (j:List Str) (e:Nat),(∀b o,s1.heap.get? b=some o->h'.get? b=some o)->h'.get? s1.heap.objs.size=some (seqObj "list" q.toArray e)->StrsAre q j->j.Perm ss->sortedS j=true->
    Q (.ref s1.heap.objs.size) {s1 with heap:=h' }) E s):wpAny (model prog w) A (call (.builtin "sorted") [v]) Q E s:=by
 calc qB kind_sorted plain_sorted entry_sorted (args_sorted1 _) ?_;unfold Builtin.«sorted»;calc aa (m:=checkCount "sorted" 1 1 _) (ae ?_);calc aa (bD N λvs s1 ⟨ss,D,B,h⟩=>?_);calc aa (qo ?_);let L:(s1.heap.push (seqObj "list" vs.toArray 0)).get? s1.heap.objs.size=some (seqObj "list" vs.toArray 0):=aw _ rfl;refine aa (eD (c9 slot_list_sort (s:={s1 with heap:=s1.heap.push (seqObj "list" vs.toArray 0)}) %[0,_,L|rb] entry_list_sort
  (list_sort_treeK (s:={s1 with heap:=s1.heap.push (seqObj "list" vs.toArray 0)}) strKind_oneLt L D.keysOf (λO Y rest e=>keyKind_strs (by rw[<-e];show D)) B λst' hp hs=>%[0,_,rb|?_]) (args_list_sort _)))
 let(j,h1,J,M):=sorted_out_str D hp hs;let(e,G):=sortedHeap_at (vs:=vs) (out:=(arrOf st').map (·.2)) L;calc ae %[0,_,rb|h _ ((arrOf st').map (·.2)).toList j e (λb o z=>?_) (by rw[pT];show G) h1 J M];let F:b<s1.heap.objs.size:=a7 z;rw[sortedHeap_old (a_ F) (by rw[dE];show fb F)];show af _ z
theorem oF:∀{ss:List Str} {us:List Value},StrsAre us ss->Vals (ss.map V.str) us
 | _,_,.nil=>.nil
 | _,_,.cons x t r=>.cons %[t|rb] (oF r)
end
def Its (l:List Nat):It:=%[λi _=>i<l.length,λi H x H'=>H'=H/\∃c,l[i]?=some c/\x=.str (S [c])|λi _=>l.length<=i]
def K6 {P:Program}{w:World}{K:W.Frag}{tg:Expr}{ty:String}(j:ty="str_ascii_iterator"\/ty="str_iterator")(l:List Nat)(t:Tok)(it:Addr):Turn P w K tg (Its l) [it] it (λi h=>i<=l.length/\h.IsStrIter it ty (S l) t i) where
 mem:=by simp
 obj:=λi h st b B=>by
  let e:b=it:=by simpa using B
  subst e;let(_,o,e,c,d):=st;show%[0,o,e|λv z=>by rw[d]at z;cases z]
 keep:=λi h h' st k=>%[st.1|let %[o,ho|r]:=st.2;%[0,o,k it xp o ho|r]]
 item:=by
  intro X M hw O J i ao s T H E I hf st L;subst M hw O;walk_at"k";let G:i<(S l).cps.size:=L;let F:∀(v:Value) (h':Heap) (tk:Nat),SignAt (S l) i v->h'.IsStrIter it ty (S l) t (i+1)->(∀b o,b∉[it]->s.heap.get? b=some o->h'.get? b=some o)->s.toks<=tk->
    ∃u,some v=some u/\wpAny (model X.prog X.w) X.A (letOwnedTupleGo tg (.ref it) u) (λ_ s2=>∃x H',aL X ao T H' s2/\bG x u/\(Its l).Hy i H x H'/\(i+1<=l.length/\s2.heap.IsStrIter it ty (S l) t (i+1))/\∀b∈[it],H' b=none) E {s with heap:=h',toks:=tk}:=by
   intro v h' tk hv st' q D;let(c,u,N,rfl):=hv;let I1:aL X ao T H {s with heap:=h',toks:=tk}:=I.turned (λb o B e=>q b o (by simpa using B) e) f0 f1 f3 f4 f5;let(o,e,Z,Y):=id st';refine%[0,_,rb|zL (s:={s with heap:=h',toks:=tk}) e Z Y (by rcases j with rfl|rfl <;> decide) %[18,.str (S [c]),H,I1,%[u|rb],%[8,rb,c,by simpa [S] using N|rb],%[L|st']|λb B=>(hf b B).1]]
  rcases j with rfl|rfl;.show cj ((Walks.strAscii (prog:=X.prog) (w:=X.w) (I.ok.hd J) it (S l) t).item i s _ _ G st.2 λv h' tk hv st' q D=>F v h' tk hv st' q D)
  .show cj ((Walks.strWide (prog:=X.prog) (w:=X.w) (I.ok.hd J) it (S l) t).item i s _ _ G st.2 λv h' tk hv st' q D=>F v h' tk hv st' q D)
 done:=by
  intro X M hw O J i ao s T H E I hf st L;subst M hw O;walk_at"k";let hi:i=(S l).cps.size:=tP st.1 L;let st':=st.2;rw[hi]at st';rcases j with rfl|rfl;.show cj ((Walks.strAscii (prog:=X.prog) (w:=X.w) (I.ok.hd J) it (S l) t).done s _ _ st' λh' tk q D=>%[rb|I.turned (λb o B e=>q b o (by simpa using B) e) f0 f1 f3 f4 f5])
  .show cj ((Walks.strWide (prog:=X.prog) (w:=X.w) (I.ok.hd J) it (S l) t).done s _ _ st' λh' tk q D=>%[rb|I.turned (λb o B e=>q b o (by simpa using B) e) f0 f1 f3 f4 f5])
 self:=λA i s Q E st h=>by
  rcases j with rfl|rfl;.show wpAny_pyIter_striter_ascii st.2 h
  .show wpAny_pyIter_striter_wide st.2 h
def Wc {a b c:List Nat}(h1:¬b<a)(B:¬c<b):¬c<a:=by let q:a<=b:=h1;let j:b<=c:=B;show List.le_trans q j
theorem Ia:∀(r:List Str) (p:Str),risingS p r=true->(∀x∈r,¬x.cps.toList<p.cps.toList)/\(r.map λy=>y.cps.toList).Pairwise (λa b=>decide (b<a)=false)
 | [],_,_=>%[λ_ h=>by simp at h|List.Pairwise.nil]
 | y::r,p,h=>by
  rw[risingS,dm]at h;let j:¬y.cps.toList<p.cps.toList:=by have:=h.1;simpa [ltCps_eq] using this
  let(h1,q):=Ia r y h.2;refine%[λx hx=>?_|?_]
  .rcases bd.mp hx with e|e;.rw[e];show j
   .show Wc j (h1 x e)
  .rw[b9];calc List.Pairwise.cons (λb B=>?_) q;let(x,hx,rfl):=aI.mp B;show ai (h1 x hx)
def yt (ss)(h:sortedS ss=true):(ss.map λy=>y.cps.toList).Pairwise (λa b=>decide (b<a)=false):=by
 cases ss with| nil=>show List.Pairwise.nil| cons x r=>let(h1,j):=Ia r x h;rw[b9];calc List.Pairwise.cons (λb B=>?_) j;let(y,q,rfl):=aI.mp B;show ai (h1 y q)
section
variable {X:Cx}{tg:Expr}
def ahw (tl:TE):TI:=λT H R=>tl T H λx H1=>∃l,x=.str (S l)/\R (Its l) H1
def yu (B:QE X l tl):QI X tg l (ahw tl):=⟨by
 intro ao s T H R I h;calc bD (B.out ao s T H _ I h) λv s1 D=>?_;let(x,H1,I1,r1,q1):=D;let(l,e,q):=q1;subst e;let(t,rfl):=r1;calc oQ ?_;let j:strIterType (S l)="str_ascii_iterator"\/strIterType (S l)="str_iterator":=by unfold strIterType;split <;> simp
 calc%[12,s1.heap.objs.size,[s1.heap.objs.size],_,_,H1,rb,I1.kept (t':=s1.toks) λb o e=>af _ e,K6 j l t _,%[35,b8 _,_,aw _ rb,rb|rb],λb F=>?_|q];let e:b=s1.heap.objs.size:=by simpa using F
 subst e;show I1.nu (ah _) (I1.hok.fresh (ah _))⟩
def vY {l:List Nat}{D:Addr}{te:TE}{T:St}{H:Hp}{R:Hp->Prop}(j:Nat->List V->Hp->Prop)(B:j 0 [] (upd H D (.lst [])))(hs:∀i c ys H,l[i]?=some c->j i ys H->te (some (.str (S [c]))::T) H (Bm l.length i D ys (j (i+1))))(hd:∀ys H,j l.length ys H->R H):qC (Its l) D H R (KZ T iK te):=Bo l.length j B (λi ys H h p=>%[h|λx H' y=>by let(rfl,c,q,rfl):=y;show hs i c ys _ q p]) λys H p=>%[ah _|hd ys H p]
def nC (hc:X.calm=true):d8 X (.builtin "all") (λxs H Q=>∃(p:Addr) (bs:List Bool),xs=[.ref p]/\aN X.K H p (bs.map V.bl)/\Q (.bl (bs.all id)) H):=by
 walk_at"g";let(p,bs,rfl,Y,q):=h;let(u,rfl,j):=vals1 r;cases j;let(its,B,pl,hz):=I.list Y;let D:p≠s.heap.objs.size:=by let(o,Z,_):=pl.isList;show a_ (a7 Z)
 let O:∀(i:Nat) (v:Value),its[i]?=some v->v=.bool (bs.getD i true):=λi v hv=>by
  let M:=B.length;let hi:i<bs.length:=by have:=(al.mp hv).1;simp at M;simp_all
  let(u,L,j):=B.get (i:=i) (x:=.bl bs[i]) (by simp[hi]);rw[hv]at L;cases L;cases j;simp[List.getD,hi]
 calc cj (call_all_walk (oI pl.isList ?_));refine%[61,s.heap.objs.size,_,_,_,_,_,λi=>bs.getD i true,rb,Walks.list (A:=X.A.in1) (I.ok.hd hc) s.heap.objs.size p D its.toArray,%[%[2,_,aw _ rb,rb|rb]|pl.isList.at λo e=>af _ e],?_|λh' tk N ht=>?_]
 .intro i v s' Q' E' hv J;let e:=O i v (by simpa using hv);subst e;show eJ J
 .let I1:aL X ao T H {s with heap:=h',toks:=tk}:=I.kept λb o e=>N b o (by
   intro hm;have:b=s.heap.objs.size:=by simpa using hm
   subst this;show absurd (a7 e) (lv _)) (af _ e)
  calc%[1,.bl (bs.all id),H,I1,?_|q];show Value.bool _=Value.bool _;let M:its.toArray.size=bs.length:=by have:=B.length;simp at this;simp[this]
  rw[M];congr 1;let F:∀bs:List Bool,(List.range bs.length).all (λi=>bs.getD i true)=bs.all id:=λbs=>by
   rw[gN,gr,gr];constructor
   .intro h x hx;let(i,hi,rfl):=cK.mp hx;have:=h i (bz.mpr hi);simpa [List.getD,hi] using this
   .intro h i hi;let G:=bz.mp hi;have:=h bs[i] (ba _);simpa [List.getD,G] using this
  show F bs
def ZD:R2:=λx y H Q=>∃i j,x=.str (S i)/\y=.str (S j)/\Q (.bl (!decide (j<i))) H
def u9:fJ X (compareOp .LtE) ZD:=by intro ao s T H x y v u Q I B D h;let(i,j,rfl,rfl,q):=h;let(t,rfl):=B;let(t',rfl):=D;show xm %[1,.bl _,H,I,rb|q]
abbrev gQ (l:List Nat):Key:=Sum.inr (S l)
def K7 (hc:X.calm=true):d8 X (.builtin "sorted") (λxs H Q=>∃(d:Addr) (kvs:List (Key×V)) (ws:AA),xs=[.ref d]/\H d=some (.dK kvs)/\kvs.map (·.1)=ws.map gQ/\ws.length<64/\
  ∀(p:Addr) (G:AA),H p=none->G.Perm ws->G.Pairwise (λa b=>decide (b<a)=false)->Q (.ref p) (upd H p (.lst (Ts G)))):=by
 walk_at"g";let(d,kvs,ws,rfl,hd,hk,h64,q):=h;let(u,rfl,ru):=vals1 r;cases ru;let(hz,lo,vs,L,dd):=Tn I.hok hd;let(ep,N):=dd.dictAt;let hkv:=KV.keys L;let Y:vs.length=ws.length:=by let h1:=KV.length L;let h2:=congrArg List.length hk;simp at h2;lia
 calc cj (Tv (W.kdu_collect (A:=X.A.in1) (W.kdl_dict (knd:=cX X.prog X.w) (kvs:=vs) (ep:=ep) lo) (I.ok.hd hc) N (by rw[Y];show av (aF xo)) λh' tk O kk F=>?_));let hS:StrsAre O.toList (ws.map S):=by
  let Z:∀(l:List Value) (m:AA),l.length=m.length->(∀(j:Nat) v,l[j]?=some v->∃c,m[j]?=some c/\∃u,v=.str (S c) u)->StrsAre l (m.map S):=by
   intro l
   induction l with
   | nil=>intro m J _;cases m with|nil=>show .nil|cons c r=>simp at J
   | cons a r ih=>
    intro m J hv;cases m with
    | nil=>simp at J
    | cons c m=>
     let(c',e,u,rfl):=hv 0 a rfl;let e':c=c':=by simpa using e
     subst e';show .cons _ u (ih m (by simpa using J) λj v hj=>hv (j+1) v hj)
  calc Z _ _ (by rw[bq,F.1,Y]) λj v hj=>?_;let(k,x,hx,hi):=F.2 j v (by simpa using hj);let D:(ws.map gQ)[j]?=some k:=by rw[<-hk,hkv,bb,hx];rfl
  rw[bb]at D;cases hw:ws[j]? with
  | none=>rw[hw]at D;cases D
  | some c=>
   rw[hw]at D;let e:gQ c=k:=by simpa using D
   subst e;calc%[0,c,rb|?_];rcases dD (show jz (Sum.inr (S c)) v=true from hi) with⟨i,t,e1,_⟩|⟨y,t,e1,e2⟩;.cases e1
   .cases e1;show%[t|e2]
 calc%[2,_,hS,by rw[bq,F.1,Y];show h64|λh2 M B e k2 he hS' pm so ht=>?_];let I1:aL X ao T H {s with heap:=h',toks:=tk}:=I.kept kk;let es:B=(B.map λy=>y.cps.toList).map S:=by rw[cn];calc(jn _).symm.trans (de λy _=>?_);show(Zz y).symm
 let oZ:(B.map λy=>y.cps.toList).Perm ws:=by have:=pm.map λy:Str=>y.cps.toList;rw[cn]at this;let e:((λy:Str=>y.cps.toList) ∘ S)=id:=rfl;rw[e,jn]at this;show this
 let hv:Vals (Ts (B.map λy=>y.cps.toList)) M:=by have:=oF hS';rw[es]at this;simpa [Ts,si] using this
 let J:(Ts (B.map λy=>y.cps.toList)).length<=sizeLine:=by rw[ab,oZ.length_eq];show av (aF xo)
 refine%[1,.ref h'.objs.size,_,I1.laid (o:=.lst _) (t':=tk) k2 (ah _) %[24,J,M,e,hv|he],rb|q _ _ I1.fresh oZ (yt B so)]
def QI.or (h1:QI X tg iter w1)(j:QI X tg iter w2):QI X tg iter (λT H R=>w1 T H R\/w2 T H R):=⟨λao s T H R I h=>by
 rcases h with h|h;.show h1.out ao s T H R I h
 .show j.out ao s T H R I h⟩
end
def aN.keep {K:W.Frag}{xs:List V}(k:∀b o,H b=some o->b≠p->H' b=some o)(hp:∀o,H p=some o->(∀ys,o≠.lst ys)/\∀u ys,o≠.iY u (.lst ys))(h:aN K H a xs):aN K H' a xs:=by
 rcases h with(h|⟨o,h⟩)|h;.show .inl (.inl (k _ _ h λe=>(hp _ (e ▸ h)).1 _ rb))
 .show .inl (.inr %[o|k _ _ h λe=>(hp _ (e ▸ h)).2 _ _ rb])
 .show .inr h
def aV.keep {K:W.Frag}{xs:List V}(k:∀b o,H b=some o->b≠p->H' b=some o)(hp:∀o,H p=some o->(∀ys,o≠.tup ys)/\∀u ys,o≠.iY u (.tup ys))(h:aV K H a xs):aV K H' a xs:=by
 rcases h with(h|⟨o,h⟩)|h;.show .inl (.inl (k _ _ h λe=>(hp _ (e ▸ h)).1 _ rb))
 .show .inl (.inr %[o|k _ _ h λe=>(hp _ (e ▸ h)).2 _ _ rb])
 .show .inr h
end L2
namespace L2
open PySem PySem.Spec PyProof.Rows PySem.SeqAt PySem.MeetsSeq PySem.MeetsSeq3
open AutoSeq1 (wpAny_loadPart')
section
theorem yx (r:Vals xs us):∀ix:List Nat,Vals (ix.filterMap (xs[·]?)) (ix.filterMap (us[·]?))
 | []=>.nil
 | i::ix=>by
  rw[f_,f_];cases e:xs[i]? with| none=>rw[r.none_of e];show yx r ix| some x=>let(u,q,j):=r.get e;rw[q];show .cons j (yx r ix)
end
end L2
namespace L2
open PySem PySem.Spec PyProof.Rows
section
variable {X:Cx}
def ahx:V->List V->Hp->VK->Prop:=λx vs H Q=>∃l,x=.str (S l)/\vs=[]/\l.length<=1000/\(∀c∈l,c<128)/\Q (.str (S (l.map up1))) H
def Wd:rM X "str.upper" ahx:=by
 intro ao s T H x vs v us Q I G D h;let(l,rfl,rfl,hz,ha,q):=h;let(t,rfl):=G;let B:=D.zero;subst B;let j:Builtin.Str.tooLong (Txt.upper (S l)).length=false:=fit_upper (by rw[jV];lia);calc call_gives F.slot_str_upper (typeIs_str s _ t) F.entry_str_upper (F.args_str_upper_1 _) (gives_str_upper (S l) t j) %[fit_le j|?_];let e:Txt.upper (S l)=S (l.map up1):=by rw[upper_ascii (x:=S l) ha];simp[S]
 show%[1,.str (S (l.map up1)),H,I.tok _,%[s.toks|congrArg (λz=>Value.str z s.toks) e]|q]
def ahy:V->List V->Hp->VK->Prop:=λx vs H Q=>∃l,x=.str (S l)/\vs=[]/\l.length<=1000/\(∀c∈l,c<128)/\Q (.str (S (l.map lo1))) H
def u_:rM X "str.lower" ahy:=by
 intro ao s T H x vs v us Q I G D h;let(l,rfl,rfl,hz,ha,q):=h;let(t,rfl):=G;let B:=D.zero;subst B;let j:Builtin.Str.tooLong (Txt.lower (S l)).length=false:=fit_lower (by rw[jV];lia);calc call_gives F.slot_str_lower (typeIs_str s _ t) F.entry_str_lower (F.args_str_lower_1 _) (gives_str_lower (S l) t j) %[fit_le j|?_];let e:Txt.lower (S l)=S (l.map lo1):=by rw[lower_ascii (x:=S l) ha];simp[S]
 show%[1,.str (S (l.map lo1)),H,I.tok _,%[s.toks|congrArg (λz=>Value.str z s.toks) e]|q]
end
def AL:List Nat:=(List.range 26).map (97 + ·)
def Br {ds:List Int}{lo hi:Option Int}{v:V}(h:v∈jT (ds.map V.int) lo hi):∃d∈ds,v=.int d:=by unfold jT at h;let j:=ik (f6 h);let(d,hd,e):=aI.mp j;show%[0,d,hd|e.symm]
def zU {I:Type}{xs:List I}(hn:xs.length=n)(h:0<n)(c):∃v,k_ xs (c%(n:Int))=some v/\v∈xs:=by
 let q:0<=c%(n:Int):=eT _ xo;let h1:c%(n:Int)<n:=dC _ (ph gu h);obtain⟨k,hk⟩:∃k:Nat,c%(n:Int)=(k:Int):=%[(c%(n:Int)).toNat|xo]
 rw[hk];let j:k<xs.length:=by simp_all
 show%[0,xs[k],aO (by simp[j])|ba _]
inductive Dt where
 | non|int (i:Int)|str (l:List Nat)|tup (ds:List Dt)|lst (ds:List Dt)
mutual
def toP:Dt->PyData
 | .non=>.none
 | .int i=>.int i
 | .str l=>.str (S l)
 | .tup ds=>.tuple (eE ds)
 | .lst ds=>.list (eE ds)
def eE:List Dt->List PyData
 | []=>[]
 | d::ds=>toP d::eE ds
end
mutual
theorem Dh:∀d e:Dt,PyData.eqv (toP d) (toP e)=true↔d=e
 | .non,.non=>by simp[toP,PyData.eqv]
 | .non,.int _=>by simp[toP,PyData.eqv]
 | .non,.str _=>by simp[toP,PyData.eqv]
 | .non,.tup _=>by simp[toP,PyData.eqv]
 | .non,.lst _=>by simp[toP,PyData.eqv]
 | .int _,.non=>by simp[toP,PyData.eqv]
 | .int _,.int _=>by simp[toP,PyData.eqv]
 | .int _,.str _=>by simp[toP,PyData.eqv]
 | .int _,.tup _=>by simp[toP,PyData.eqv]
 | .int _,.lst _=>by simp[toP,PyData.eqv]
 | .str _,.non=>by simp[toP,PyData.eqv]
 | .str _,.int _=>by simp[toP,PyData.eqv]
 | .str a,.str b=>by simp only[toP,PyData.eqv,beq_iff_eq,Dt.str.injEq];show%[vW|λz=>by rw[z]]
 | .str _,.tup _=>by simp[toP,PyData.eqv]
 | .str _,.lst _=>by simp[toP,PyData.eqv]
 | .tup _,.non=>by simp[toP,PyData.eqv]
 | .tup _,.int _=>by simp[toP,PyData.eqv]
 | .tup _,.str _=>by simp[toP,PyData.eqv]
 | .tup ds,.tup es=>by simp only[toP,PyData.eqv,Dt.tup.injEq];show K8 ds es
 | .tup _,.lst _=>by simp[toP,PyData.eqv]
 | .lst _,.non=>by simp[toP,PyData.eqv]
 | .lst _,.int _=>by simp[toP,PyData.eqv]
 | .lst _,.str _=>by simp[toP,PyData.eqv]
 | .lst _,.tup _=>by simp[toP,PyData.eqv]
 | .lst ds,.lst es=>by simp only[toP,PyData.eqv,Dt.lst.injEq];show K8 ds es
theorem K8:∀ds es:List Dt,PyData.eqvAll (eE ds) (eE es)=true↔ds=es
 | [],[]=>by simp[eE,PyData.eqvAll]
 | [],_::_=>by simp[eE,PyData.eqvAll]
 | _::_,[]=>by simp[eE,PyData.eqvAll]
 | d::ds,e::es=>by simp only[eE,PyData.eqvAll,dm,xh];rw[Dh d e,K8 ds es]
end
open Classical in
def QM (d e:Dt):PyData.eqv (toP d) (toP e)=decide (d=e):=by
 by_cases h:d=e;.rw[ap h];show(Dh d e).mpr h
 .rw[ai h];cases z:PyData.eqv (toP d) (toP e) with| false=>rfl| true=>show absurd ((Dh d e).mp z) h
mutual
inductive gG (K:W.Frag) (H:Hp):Nat->Dt->V->Prop
 | non {n}:gG K H n .non .non
 | int {n} (i:Int):gG K H n (.int i) (.int i)
 | str {n} (l:List Nat) (h:∀c∈l,c<128):gG K H n (.str l) (.str (S l))
 | tup {n a ds xs} (h:aV K H a xs) (hs:jY K H n ds xs):gG K H (n+1) (.tup ds) (.ref a)
 | lst {n a ds xs} (h:aN K H a xs) (hs:jY K H n ds xs):gG K H (n+1) (.lst ds) (.ref a)
inductive jY (K:W.Frag) (H:Hp):Nat->List Dt->List V->Prop
 | nil {n}:jY K H n [] []
 | cons {n d ds x xs} (h:gG K H n d x) (hs:jY K H n ds xs):jY K H n (d::ds) (x::xs)
end
def QV (h:∀c∈l,c<128):PyData.strOk (S l)=true:=by unfold PyData.strOk;show l.toArray.all _=true;rw[Array.all_eq_true_iff_forall_mem];intro x hx;have:=h x (by simpa using hx);show ap xo
mutual
theorem gG.lay {K:W.Frag}:∀{n:Nat} {d:Dt} {x:V},gG K H n d x->(toP d).canLay0=true/\(toP d).depth<=n
 | _,_,_,.non=>by simp[toP,PyData.canLay0,PyData.depth]
 | _,_,_,.int _=>by simp[toP,PyData.canLay0,PyData.depth]
 | _,_,_,.str l h=>by simp only[toP,PyData.canLay0,PyData.depth];show%[QV h|b8 _]
 | _,_,_,.tup _ hs=>by simp only[toP,PyData.canLay0,PyData.depth];have:=hs.lay;show%[this.1|hG this.2]
 | _,_,_,.lst _ hs=>by simp only[toP,PyData.canLay0,PyData.depth];have:=hs.lay;show%[this.1|hG this.2]
theorem jY.lay {K:W.Frag}:∀{n:Nat} {ds:List Dt} {xs:List V},jY K H n ds xs->PyData.canLayAll0 (eE ds)=true/\PyData.depthAll (eE ds)<=n
 | _,_,_,.nil=>by simp[eE,PyData.canLayAll0,PyData.depthAll]
 | _,_,_,.cons h hs=>by let a:=h.lay;let b:=hs.lay;simp only[eE,PyData.canLayAll0,PyData.depthAll,dm];show%[%[a.1|b.1]|Nat.max_le.mpr %[a.2|b.2]]
end
mutual
theorem gG.same {K:W.Frag}(j:aA H H')(st:∀a xs,aV K H a xs->aV K H' a xs):∀{n:Nat} {d:Dt} {x:V},gG K H n d x->gG K H' n d x
 | _,_,_,.non=>.non
 | _,_,_,.int i=>.int i
 | _,_,_,.str l h=>.str l h
 | _,_,_,.tup h hs=>.tup (st _ _ h) (hs.same j st)
 | _,_,_,.lst h hs=>.lst (j.seq h) (hs.same j st)
theorem jY.same {K:W.Frag}(j:aA H H')(st:∀a xs,aV K H a xs->aV K H' a xs):∀{n:Nat} {ds:List Dt} {xs:List V},jY K H n ds xs->jY K H' n ds xs
 | _,_,_,.nil=>.nil
 | _,_,_,.cons h hs=>.cons (h.same j st) (hs.same j st)
end
def aA.ae5 {K:W.Frag}{xs:List V}(e:aA H H')(h:aV K H a xs):aV K H' a xs:=by
 rcases h with(h|⟨o,h⟩)|h;.show .inl (.inl (e _ _ h))
 .show .inl (.inr %[o|e _ _ h])
 .show .inr h
def gG.mv {K:W.Frag}(j:aA H H'){n:Nat}{d:Dt}{x:V}(h:gG K H n d x):gG K H' n d x:=h.same j λ_ _=>j.ae5
section
variable {X:Cx}
mutual
theorem gG.reads {ao:AC}{T:St}{H:Hp}{s:Shared}(I:aL X ao T H s):∀{n:Nat} {d:Dt} {x:V} {u:Value},gG X.K H n d x->bG x u->∃as,Reads s.heap u (toP d) as
 | _,_,_,u,.non,r=>by cases r;show%[[]|by rw[toP];show .none]
 | _,_,_,u,.int i,r=>by let(t,rfl):=r;show%[[]|by rw[toP];show .int i t]
 | _,_,_,u,.str l h,r=>by let(t,rfl):=r;show%[[]|by rw[toP];show .str _ t]
 | _,_,_,u,.tup h hs,r=>by cases r;let(its,j,pl,_):=I.tuple h;let(as,q):=hs.reads I j;let(o,B,D,n,hd):=pl;show%[as|by rw[toP];show .tuple B D hd (by simpa using q)]
 | _,_,_,u,.lst h hs,r=>by cases r;let(its,j,pl,_):=I.list h;let(as,q):=hs.reads I j;let(o,B,D,n,hd):=pl.isList;show%[_::as|by rw[toP];show .list B D hd (by simpa using q)]
theorem jY.reads {ao:AC}{T:St}{H:Hp}{s:Shared}(I:aL X ao T H s):∀{n:Nat} {ds:List Dt} {xs:List V} {us:List Value},jY X.K H n ds xs->Vals xs us->∃as,ReadsAll s.heap us (eE ds) as
 | _,_,_,us,.nil,r=>by cases r;show%[[]|by rw[eE];show .nil]
 | _,_,_,us,.cons h hs,r=>by
  cases r with| cons q t=>let(as,a):=h.reads I q;let(bs,b):=hs.reads I t;show%[as++bs|by rw[eE];show .cons a b]
end
def gG.shaped {K:W.Frag}{n:Nat}{d:Dt}{x:V}(h:gG K H n d x)(hn:n<=64):SeqAt.shaped (toP d)=true:=by unfold SeqAt.shaped;rw[h.lay.1,ap (ay h.lay.2 hn)];rfl
open Classical in
def ahz (K:W.Frag)(j:Bool):R2:=λx y H Q=>∃n d e,n<=64/\gG K H n d x/\gG K H n e y/\Q (.bl (if j then !decide (d=e) else decide (d=e))) H
def ae6 (F:X.A.units+64<cLine):fJ X (compareOp .Eq) (ahz X.K false):=by intro ao s T H x y v u Q I G J h;let(n,d,e,hn,hd,j,q):=h;let(as,D):=hd.reads I G;let(bs,B):=j.reads I J;calc SeqAt.compareEq_shaped D B (hd.shaped hn) (j.shaped hn) F %[1,.bl _,H,I,rb|?_];rw[QM];show q
def ae7 (K:W.Frag):V->List V->Hp->VK->Prop:=λx vs H Q=>∃p ls,x=.str (S [])/\vs=[.ref p]/\aV K H p (Ts ls)/\ls.flatten.length<=1000/\Q (.str (S ls.flatten)) H
def vZ:rM X "str.join" (ae7 X.K):=by
 intro ao s T H x vs v us Q I F B h;let(p,ls,rfl,rfl,D,hz,q):=h;let(t,rfl):=F;let(u,rfl,j):=vals1 B;cases j;let(its,r,pl,_):=I.tuple D;calc cj (join_tuple pl (ys:=ls.map S) (by simpa using uZ r) ?_ λt' k G=>?_);.rw[QJ];show _+_*0<=_;lia
 .show%[1,.str (S ls.flatten),H,I.tok k,%[t'|congrArg (λz=>Value.str z t') (QH ls)]|q]
end
def wg {K:W.Frag}{a D:Addr}{xs:List V}{te:TE}{I:St}{H:Hp}{R:Hp->Prop}(j:Nat->List V->Hp->Prop)(B:j 0 [] (upd H D (.lst [])))(q:∀i ys H,i<=xs.length->j i ys H->aV K H a xs)(hs:∀i x ys H,xs[i]?=some x->j i ys H->te (some x::I) H (Bm xs.length i D ys (j (i+1))))(hd:∀ys H,j xs.length ys H->R H):qC (Itt K a) D H R (KZ I iK te):=vV j B q hs hd
section
variable {X:Cx}{x:Str}{pos:Pos}
def mj (j:Gl X x)(hm:∃t,X.mg x=some (.str (S l) t))(hd:(x==("__debug__":Str))=false:=by decide):QE X (.Name x pos) (tC (.str (S l))):=let %[t|e]:=hm;QL j e %[t|rb] hd
def Tw (j:Gl X x)(hm:∃t,X.mg x=some (.int i t))(hd:(x==("__debug__":Str))=false:=by decide):QE X (.Name x pos) (tC (.int i)):=let %[t|e]:=hm;QL j e %[t|rb] hd
def ae8 (j:QE X o to)(hi:QE X i ti)(hs:Y8 X t)(ha:∀v,assign (.Subscript o i pos) X.env v=(do
   let ov <- holding [v] (eval o X.env)
   let iv <- holding [v,ov] (eval i X.env)
   standAt pos
   holding [v,ov,iv] (setItem ov iv v)
   release [v,ov,iv] []):=by intro _;rfl):QG X (.Subscript o i pos) (aen to ti t):=⟨aeo j.out hi.out hs ha⟩
end
def nP:bootBuiltins "all"=some (.builtin "all"):=by decide +kernel
def Ib:bootBuiltins "any"=some (.builtin "any"):=by decide +kernel
def ZF {K:W.Frag}(X:K.In h)(G:h.Ns mainGlobals mg)(a:W.nsIn K mainGlobals x=some (some (.str (S l) t))):∃t,mg x=some (.str (S l) t):=%[t|qk X G a]
def ZG {K:W.Frag}(X:K.In h)(G:h.Ns mainGlobals mg)(a:W.nsIn K mainGlobals x=some (some (.int i t))):∃t,mg x=some (.int i t):=%[t|qk X G a]
section
variable {X:Cx}
def K9 (K:W.Frag)  (h:X.K=K:=by rfl):HN X (aeN K):=by subst h;show gq
def mq (K:W.Frag)  (h:X.K=K:=by rfl):HN X (Ti K):=by subst h;show dO
def acs (K:W.Frag)  (h:X.K=K:=by rfl):Qt X (aeL K):=by subst h;show aeM
def qD (K:W.Frag)  (h:X.K=K:=by rfl):d8 X (.builtin "len") (λxs H Q=>∃p ys,xs=[.ref p]/\(aN K H p ys\/aV K H p ys)/\Q (.int ys.length) H):=by subst h;show cB
def K_ (K:W.Frag)  (h:X.K=K:=by rfl):d8 X (.builtin "isinstance") (abA K):=by subst h;show jq
def ZJ (K:W.Frag)  (h:X.K=K:=by rfl):rM X "str.join" (rJoin K):=by subst h;show pD
def Fx (K:W.Frag)  (h:X.K=K:=by rfl):d8 X (.type "tuple") (λxs H Q=>∃p ys,xs=[.ref p]/\((aN K H p ys/\∀l,H l=none->Q (.ref l) (upd H l (.tup ys)))\/(aV K H p ys/\Q (.ref p) H))):=by subst h;show dR
def Wf {name:Str}{apos cpos:Pos}{T id:String}(K:W.Frag)(G:PlainAttrs T)(slot:Slot T name id)(F:typeOf (.builtin id)=pure (.type "method_descriptor"))(hm:rM X id r)(J:QE X o to)(ha:QA X (e::es) t)(B:attributeBase o name X.env (eval o X.env)=eval o X.env:=by rfl)(D:((backTo cpos (starEach (e::es) X.env)).all (λx=>!x.1)&&(backToKw cpos (keywordEach [] X.env)).all (λx=>x.1.isSome)
   && decide ((e::es).length+([]:List Keyword).length+(if ([]:List Keyword).isEmpty then 0 else 1)<30))=true:=by rfl) (q:(apos.endLine==cpos.line)=true:=by rfl) (hs:starEach (e::es) X.env=(false,eval e X.env)::starEach es X.env:=by rfl) (j:(backTo cpos (starEach es X.env)).any (·.1)=false:=by rfl) (h:X.K=K:=by rfl):QE X (.Call (.Attribute o name apos) (e::es) [] cpos) (Qv K T r to t):=by subst h;show dU G slot F hm J ha B D q hs j
end
def fD (l:List Nat):List Nat:=l.takeWhile λc=>c != 46
def dF (l:List Nat):List Nat:=(l.reverse.takeWhile λc=>c != 46).reverse
theorem wj:∀{l:List Nat} {i:Nat},l[i]?=some 46->(∀k,k<i->l[k]?≠some 46)->fD l=l.take i
 | [],i,h,_=>by simp at h
 | c::l,0,h,_=>by
  have:c=46:=by simpa using h
  subst this;simp[fD]
 | c::l,i+1,h,hk=>by let B:c≠46:=λe=>hk 0 xo (by simp[e]);let q:=wj (l:=l) (i:=i) (by simpa using h) (λk j=>by have:=hk (k+1) (sL j);simpa using this);unfold fD at q ⊢;rw[vS (by simpa using B),q,uS]
def yC (h:46∉l):fD l=l:=by
 unfold fD
 induction l with| nil=>rfl| cons c r ih=>have j:c≠46:=λe=>h (by rw[e];show aT);rw[vS (by simpa using j),ih λz=>h (aS _ z)]
def yD (h:46∉l):dF l=l:=by have:=yC (l:=l.reverse) (by simpa using h);unfold fD at this;unfold dF;rw[this,List.reverse_reverse]
def La (h:l[i]?=some 46)(hk:∀k,i<k->l[k]?≠some 46):dF l=l.drop (i+1):=by
 let hi:i<l.length:=(al.mp h).1;let e:fD l.reverse=l.reverse.take (l.length-(i+1)):=by
  refine wj ?_ λk j=>?_
  .rw[List.getElem?_reverse (cp xo xo),show l.length-1-(l.length-(i+1))=i by lia];show h
  .rw[List.getElem?_reverse (by simp[gd,kz]at *;lia)];show hk _ (by simp[gd,kz]at *;lia)
 unfold fD at e;unfold dF;rw[e,List.take_reverse,List.reverse_reverse,show l.length-(l.length-(i+1))=i+1 by rw[hV (by assumption)]]
def Lb (l:List Nat)(n:Nat):pC l none (some (n:Int))=l.take n:=by
 unfold pC;rw[HT.rD];show (l.drop 0).take (min n l.length-0)=_;rw[r8,Nat.sub_zero];by_cases h:n<=l.length;.rw[oo h]
 .rw[Nat.min_eq_right xo,cx (ah _),cx xo]
def wk (l:List Nat)(n:Nat):pC l (some (n:Int)) none=l.drop n:=by
 unfold pC;rw[HT.rD];show (l.drop (min n l.length)).take (l.length-min n l.length)=_;rw[cx (by rw[cz];lia)];by_cases h:n<=l.length;.rw[oo h]
 .rw[Nat.min_eq_right xo,oB (ah _),oB xo]
def Ke (l)(i j):Builtin.Str.strSub (S l) i j=S ((l.take j).drop i):=by unfold Builtin.Str.strSub S;congr 1;apply nt.mp;simp[List.drop_take]
section
variable {X:Cx}
def Wg (l):(Txt.partition (S l) (S [46])).1=S (fD l):=by
 rcases partition_head (S l) (S [46]) with⟨e,h⟩|⟨i,e,h,hk⟩
 .rw[e,yC λhm=>?_];let(i,hi):=kC.mp hm;show h i ((gE (S l) 46 i).mpr hi)
 .rw[e,Ke,r8,wj (l:=l) ((gE (S l) 46 i).mp h) λk j z=>hk k j ((gE (S l) 46 k).mpr z)]
def Tz (l):(Txt.rpartition (S l) (S [46])).2.2=S (dF l):=by
 unfold Txt.rpartition;rcases StrLaws.last_spec (S l) (S [46]) with⟨e,h⟩|⟨i,e,h,hk⟩
 .rw[e];show S l=_;rw[yD λhm=>?_];let(i,hi):=kC.mp hm;show h i ((gE (S l) 46 i).mpr hi)
 .rw[e];show Builtin.Str.strSub (S l) (i+1) l.length=_;rw[Ke,cx (ah _),La (l:=l) ((gE (S l) 46 i).mp h) λk j z=>hk k j ((gE (S l) 46 k).mpr z)]
def agL:V->List V->Hp->VK->Prop:=λx vs H Q=>∃l,x=.str (S l)/\vs=[.str (S [46])]/\l.length<=1000/\∀(p:Addr) (b c:Str),H p=none->Q (.ref p) (upd H p (.tup [.str (S (fD l)),.str b,.str c]))
def acu:rM X "str.partition" agL:=by
 intro ao s T H x vs v us Q I G D h;let(l,rfl,rfl,hz,q):=h;let(t,rfl):=G;let(u,rfl,B):=vals1 D;let(J,rfl):=B;let hsz:(S l).length<=sizeLine:=av (aF hz);calc call_meets F.slot_str_partition (typeIs_str _ _ _) F.entry_str_partition (F.args_str_partition_2 _ _) (meets_str_partition (S l) (S [46]) t J rb hsz) ?_;let e:=Wg l;let j:=λb c=>q s.heap.objs.size b c (I.hok.fresh (ah _));rw[<-e]at j;unfold Txt.partition at j
 revert j
 cases Builtin.Str.occurrences (S l) (S [46]) 0 (S l).length 1 with| nil=>intro j;calc%[1,.ref s.heap.objs.size,_,I.laid (o:=.tup _) (t':=s.toks+1) (λb ob z=>af _ z) (ah _) ?_,rb|j Str.empty Str.empty];show%[8,zsz 3,_,.cons %[_|rb] (.cons %[_|rb] (.cons %[_|rb] .nil))|%[40,_,aw _ rb,rb,0|rb]]| cons i r=>intro j;calc%[1,.ref s.heap.objs.size,_,I.laid (o:=.tup _) (t':=s.toks+1+1) (λb ob z=>af _ z) (ah _) ?_,rb|j (S [46]) (Builtin.Str.strSub (S l) (i+(S [46]).length) (S l).length)];show%[8,zsz 3,_,.cons %[_|rb] (.cons %[_|rb] (.cons %[_|rb] .nil))|%[40,_,aw _ rb,rb,0|rb]]
def ae9:V->List V->Hp->VK->Prop:=λx vs H Q=>∃l,x=.str (S l)/\vs=[.str (S [46])]/\l.length<=1000/\∀(p:Addr) (a b:Str),H p=none->Q (.ref p) (upd H p (.tup [.str a,.str b,.str (S (dF l))]))
def ZK:rM X "str.rpartition" ae9:=by
 intro ao s T H x vs v us Q I G D h;let(l,rfl,rfl,hz,q):=h;let(t,rfl):=G;let(u,rfl,B):=vals1 D;let(J,rfl):=B;let hsz:(S l).length<=sizeLine:=av (aF hz);calc call_meets F.slot_str_rpartition (typeIs_str _ _ _) F.entry_str_rpartition (F.args_str_rpartition_2 _ _) (meets_str_rpartition (S l) (S [46]) t J rb hsz) ?_;let e:=Tz l;let j:=λb c=>q s.heap.objs.size b c (I.hok.fresh (ah _));rw[<-e]at j;unfold Txt.rpartition at j
 revert j
 cases Builtin.Str.lastOccurrence (S l) (S [46]) 0 (S l).length with| none=>intro j;calc%[1,.ref s.heap.objs.size,_,I.laid (o:=.tup _) (t':=s.toks+1) (λb ob z=>af _ z) (ah _) ?_,rb|j Str.empty Str.empty];show%[8,zsz 3,_,.cons %[_|rb] (.cons %[_|rb] (.cons %[_|rb] .nil))|%[40,_,aw _ rb,rb,0|rb]]| some i=>intro j;calc%[1,.ref s.heap.objs.size,_,I.laid (o:=.tup _) (t':=s.toks+1+1) (λb ob z=>af _ z) (ah _) ?_,rb|j (Builtin.Str.strSub (S l) 0 i) (S [46])];show%[8,zsz 3,_,.cons %[_|rb] (.cons %[_|rb] (.cons %[_|rb] .nil))|%[40,_,aw _ rb,rb,0|rb]]
end
def ZL {X:Cx}{j iter tg:Expr}{ns N2:List Str}{f:St->St}{TP:V->Hp->(St->Prop)->Prop}{ifs:List Expr}{scope:Scope}{wi:TI}(J:X.calm=true)(ok:gU X scope ns N2 f)(hi:PI X tg iter wi)(M:∀cl C s₀ H₀ fp,HY (eO X scope cl C (ns++N2) s₀ H₀ fp) tg ns.length TP)(G:∀cl C s₀ H₀ fp,KY (eO X scope cl C (ns++N2) s₀ H₀ fp) ifs tt)(F:∀cl C s₀ H₀ fp,PE (eO X scope cl C (ns++N2) s₀ H₀ fp) j te)(hs:∀x,foldedSetIterable iter X.env x=pure x:=by intro _;rfl):PE X (.ListComp j [%[tg,iter,ifs|0]] scope pos) (yq f ns.length wi TP tt te):=λao s T H Q I h=>by rw[eval_ListComp];show yr J ok hi M G F hs I h λD C B N m hn bk _ q=>%[0,m,hn|λh' L=>%[1,.ref D,B,bk h' L,rb|q]]
def gC (ks:List Nat):Nat->St->St
 | _,[]=>[]
 | i,v::r=>(if ks.contains i=true then none else v)::gC ks (i+1) r
theorem Ie (ks):∀(i:Nat) (I:St),(gC ks i I).length=I.length
 | _,[]=>rfl
 | i,_::r=>by rw[gC,bP,bP,Ie ks (i+1) r]
theorem Ig (ks):∀(i:Nat) (I:St) (j:Nat) (v:V),(gC ks i I)[j]?=some (some v)->ks.contains (i+j)=false/\I[j]?=some (some v)
 | _,[],j,v,h=>by simp[gC]at h
 | i,x::r,0,v,h=>by
  rw[gC]at h;cases e:ks.contains i with| true=>rw[e]at h;simp at h| false=>rw[e]at h;show⟨by first|rfl|show e,by simpa using h⟩
 | i,x::r,j+1,v,h=>by rw[gC,se]at h;let(a,b):=Ig ks (i+1) r j v h;show%[by rw[show i+(j+1)=i+1+j by lia];show a|by rw[se];show b]
noncomputable def ae_ (sc:Scope)(N:List Str)(scope:Scope)(N2:List Str)(ks:List Nat):Bool:=scope.kind == .function&&scope.names.all (λy=>y.2 != .cell)&&scope.names.all (λy=>y.2 != .local||scope.names.lookup y.1==some .local) &&
 scope.names.all (λy=>y.2 != .free||sc.names.lookup y.1==some .cell||sc.names.lookup y.1==some .free)&&N2.length==N.length &&
 (List.range N.length).all (λi=>ks.contains i||(N2[i]? == N[i]? && (N[i]?.map λy=>scope.names.lookup y != some .local)==some true))
def gU.of {X:Cx}(N2)(ks)(h:ae_ X.env.scope X.N scope N2 ks=true):gU X scope ns N2 (gC ks 0):=by
 unfold ae_ at h;simp only[dm,gr,tN,bne_iff_ne,beq_iff_eq,ne_eq]at h;let(((((h1,F),J),L),B),G):=h;refine%[h1,λy j=>F y j,λy j e=>(J y j).resolve_left λz=>z e,λy j e=>?_,Ie ks 0,B|λI i y v e1 e2=>?_]
 .rcases L y j with(z|z)|z;.show absurd e z
  .show .inl z
  .show .inr z
 .let(a,b):=Ig ks 0 I i v e2;rw[gv]at a;let hi:i<X.N.length:=by rw[<-B];show(al.mp e1).1
  rcases G i (bz.mpr hi) with z|⟨D,q⟩;.rw[a]at z;cases z
  .rw[<-D,e1]at q;rw[D]at e1;show%[e1,b|by simpa using q]
def Fy {X:Cx}{scope:Scope}{N:List Str}(K:W.Frag)(M:X.calm=true)(D:N.Nodup)(Y:N[0]?=some x)(h1:N[1]?=some y)(hx:scope.names.lookup x=some .local)(F:scope.names.lookup y=some .local)(L:X.K=K:=by rfl):HY (eO X scope cl C N s₀ H₀ fp) (.Tuple [.Name x px,.Name y py] k pos) 2 (λv H Q=>∃a p q,v=.ref a/\aV K H a [p,q]/\Q [some p,some q]):=by
 subst L;intro ao s pre rest H v u Q hp I r q;let(a,p,j,rfl,J,q):=q;obtain⟨B,p1,rfl⟩:∃B p1,pre=[B,p1]:=by
  match pre,hp with| [B,p1],_=>show%[6,B,p1|rb]
 let P:PG (eO X scope cl C N s₀ H₀ fp) (.Tuple [.Name x px,.Name y py] k pos) (SM X.K 2 (vP (nZ 0) (vP (nZ 1) SJ))):=Ky (X:=eO X scope cl C N s₀ H₀ fp) M (o_ (o9 (i:=0) D Y (.inl (lookup_relabel_local hx)) (.inr (lookup_relabel_local hx))) (o_ (o9 (i:=1) D h1 (.inl (lookup_relabel_local F)) (.inr (lookup_relabel_local F))) Fg));refine bD (P ao s _ H (.ref a) u (λG H'=>H'=H/\G=some p::some j::rest) I r
  %[53,a,[p,j],rb,J,rb,p,[j],rb,j,[],rb,rb|%[rb|rb]]) λ_ s' ⟨G,H',O,e1,e2⟩=>?_
 subst e1 e2;show%[2,[some p,some j],rb,O|q]
def zV {X:Cx}{scope:Scope}{N:List Str}(K:W.Frag)(Y:X.calm=true)(F:N.Nodup)(h0:N[0]?=some x)(h1:N[1]?=some y)(L:N[2]?=some z)(hx:scope.names.lookup x=some .local)(G:scope.names.lookup y=some .local)(hz:scope.names.lookup z=some .local)(O:X.K=K:=by rfl):HY (eO X scope cl C N s₀ H₀ fp) (.Tuple [.Name x px,.Name y py,.Name z pz] k pos) 3 (λv H Q=>∃a p q r,v=.ref a/\aV K H a [p,q,r]/\Q [some p,some q,some r]):=by
 subst O;intro ao s pre rest H v u Q hp I r q;let(a,p,B,j,rfl,M,q):=q;obtain⟨D,p1,p2,rfl⟩:∃D p1 p2,pre=[D,p1,p2]:=by
  match pre,hp with| [D,p1,p2],_=>show%[10,D,p1,p2|rb]
 let P:PG (eO X scope cl C N s₀ H₀ fp) (.Tuple [.Name x px,.Name y py,.Name z pz] k pos) (SM X.K 3 (vP (nZ 0) (vP (nZ 1) (vP (nZ 2) SJ)))):=Ky (X:=eO X scope cl C N s₀ H₀ fp) Y (o_ (o9 (i:=0) F h0 (.inl (lookup_relabel_local hx)) (.inr (lookup_relabel_local hx))) (o_ (o9 (i:=1) F h1 (.inl (lookup_relabel_local G)) (.inr (lookup_relabel_local G))) (o_ (o9 (i:=2) F L (.inl (lookup_relabel_local hz)) (.inr (lookup_relabel_local hz))) Fg)));refine bD (P ao s _ H (.ref a) u (λJ H'=>H'=H/\J=some p::some B::some j::rest) I r
  %[1,a,[p,B,j],rb,M|%[16,rb,p|%[20,[B,j],rb,B,[j],rb|%[4,j,[],rb,rb,rb|rb]]]]) λ_ s' ⟨J,H',Z,e1,e2⟩=>?_
 subst e1 e2;show%[2,[some p,some B,some j],rb,Z|q]
def jZ {X:Cx}{j iter tg:Expr}{ns N2:List Str}{f:St->St}{TP:V->Hp->(St->Prop)->Prop}{ifs:List Expr}{scope:Scope}{wi:TI}(D:X.calm=true)(ok:gU X scope ns N2 f)(hi:QI X tg iter wi)(F:∀cl C s₀ H₀ fp,HY (eO X scope cl C (ns++N2) s₀ H₀ fp) tg ns.length TP)(B:∀cl C s₀ H₀ fp,Wa (eO X scope cl C (ns++N2) s₀ H₀ fp) ifs tt)(q:∀cl C s₀ H₀ fp,QE (eO X scope cl C (ns++N2) s₀ H₀ fp) j te)(hs:∀x,foldedSetIterable iter X.env x=pure x:=by intro _;rfl):QE X (.ListComp j [%[tg,iter,ifs|0]] scope pos) (yq f ns.length wi TP tt te):=⟨ZL D ok hi.out F (λcl C s₀ H₀ fp=>(B cl C s₀ H₀ fp).out) (λcl C s₀ H₀ fp=>(q cl C s₀ H₀ fp).out) hs⟩
def uc (n i:Nat)(D:Addr)(TP:V->Hp->(St->Prop)->Prop)(f:St->St)(I:St)(tt:TT)(te:TE)(x:V)(H:Hp)(ys:List V)(P:List V->Hp->Prop):Prop:=yp TP f I tt te x H (Bm n i D ys P) λj=>dZ n i (P ys j)
def Aw {K:W.Frag}{a:Addr}{f:St->St}{I:St}{tt:TT}{te:TE}:=@vV (λH=>aN K H a) (yp (λv _ Q=>Q [some v]) f I tt te)
def TF {K:W.Frag}{a:Addr}{f:St->St}{I:St}{tt:TT}{te:TE}:=@vV (λH=>aV K H a) (yp (λv _ Q=>Q [some v]) f I tt te)
def Ld {lo:Int}{n:Nat}{f:St->St}{tt:TT}{D:Addr}{te:TE}{I:St}{H:Hp}{R:Hp->Prop}(j:Nat->List V->Hp->Prop)(q:j 0 [] (upd H D (.lst [])))(hs:∀i ys H,i<n->j i ys H->uc n i D (λv _ Q=>Q [some v]) f I tt te (.int (lo+i)) H ys (j (i+1)))(hd:∀ys H,j n ys H->R H):qC (Qn lo n) D H R (yp (λv _ Q=>Q [some v]) f I tt te):=Bo n j q (λi ys H h p=>%[h|λx H' y=>by let(rfl,rfl):=y;show hs i ys _ h p]) λys H p=>%[ah _|hd ys H p]
def TJ {l:List Nat}{f:St->St}{tt:TT}{D:Addr}{te:TE}{I:St}{H:Hp}{R:Hp->Prop}(j:Nat->List V->Hp->Prop)(B:j 0 [] (upd H D (.lst [])))(hs:∀i c ys H,l[i]?=some c->j i ys H->uc l.length i D (λv _ Q=>Q [some v]) f I tt te (.str (S [c])) H ys (j (i+1)))(hd:∀ys H,j l.length ys H->R H):qC (Its l) D H R (yp (λv _ Q=>Q [some v]) f I tt te):=Bo l.length j B (λi ys H h p=>%[h|λx H' y=>by let(rfl,c,q,rfl):=y;show hs i c ys _ q p]) λys H p=>%[ah _|hd ys H p]
noncomputable def O5 {K KT:W.Frag}{a:Addr}{f:St->St}{I:St}{tt:TT}{te:TE}:=@vV (λH=>aN K H a) (yp (λv H Q=>∃a p q,v=.ref a/\aV KT H a [p,q]/\Q [some p,some q]) f I tt te)
noncomputable def uG {K KT:W.Frag}{a:Addr}{f:St->St}{I:St}{tt:TT}{te:TE}:=@vV (λH=>aN K H a) (yp (λv H Q=>∃a p q r,v=.ref a/\aV KT H a [p,q,r]/\Q [some p,some q,some r]) f I tt te)
noncomputable def Di {K KT:W.Frag}{a:Addr}{f:St->St}{I:St}{tt:TT}{te:TE}:=@vV (λH=>aV K H a) (yp (λv H Q=>∃a p q r,v=.ref a/\aV KT H a [p,q,r]/\Q [some p,some q,some r]) f I tt te)
def abB (h:te ([some x]++f I) H λy j=>j D=some (.lst ys)/\ys.length<sizeLine/\dZ n i (P (ys++[y]) (upd j D (.lst (ys++[y]))))):uc n i D (λv _ Q=>Q [some v]) f I iK te x H ys P:=by show (if true=true then (te ([some x]++f I) H λy j=>j D=some (.lst ys)/\ys.length<sizeLine/\dZ n i (P (ys++[y]) (upd j D (.lst (ys++[y]))))) else dZ n i (P ys H));rw[if_pos rfl];show h
def abC {KT:W.Frag}{n i:Nat}{p q:V}{f:St->St}{x:V}{ys:List V}{P:List V->Hp->Prop}(hx:x=.ref a)(B:aV KT H a [p,q])(h:te ([some p,some q]++f I) H λy j=>j D=some (.lst ys)/\ys.length<sizeLine/\dZ n i (P (ys++[y]) (upd j D (.lst (ys++[y]))))):uc n i D (λv H Q=>∃a p q,v=.ref a/\aV KT H a [p,q]/\Q [some p,some q]) f I iK te x H ys P:=by calc%[46,a,p,q,hx,B|?_];show (if true=true then (te ([some p,some q]++f I) H λy j=>j D=some (.lst ys)/\ys.length<sizeLine/\dZ n i (P (ys++[y]) (upd j D (.lst (ys++[y]))))) else dZ n i (P ys H));rw[if_pos rfl];show h
def Kf {KT:W.Frag}{n i:Nat}{p q r:V}{f:St->St}{x:V}{ys:List V}{P:List V->Hp->Prop}(hx:x=.ref a)(B:aV KT H a [p,q,r])(h:te ([some p,some q,some r]++f I) H λy j=>j D=some (.lst ys)/\ys.length<sizeLine/\dZ n i (P (ys++[y]) (upd j D (.lst (ys++[y]))))):uc n i D (λv H Q=>∃a p q r,v=.ref a/\aV KT H a [p,q,r]/\Q [some p,some q,some r]) f I iK te x H ys P:=by calc%[37,a,p,q,r,hx,B|?_];show (if true=true then (te ([some p,some q,some r]++f I) H λy j=>j D=some (.lst ys)/\ys.length<sizeLine/\dZ n i (P (ys++[y]) (upd j D (.lst (ys++[y]))))) else dZ n i (P ys H));rw[if_pos rfl];show h
section
variable {X:Cx}
def afa (K:W.Frag):List V->Hp->VK->Prop:=λxs H Q=>∃(a:Addr) (ws:AA),xs=[.ref a]/\aN K H a (Ts ws)/\ws.length<64/\∀(p:Addr) (j:AA),H p=none->j.Perm ws->j.Pairwise (λa b=>decide (b<a)=false)->Q (.ref p) (upd H p (.lst (Ts j)))
def Le:d8 X (.builtin "sorted") (afa X.K):=by
 walk_at"g";let(a,ws,rfl,N,M,q):=h;let(u,rfl,D):=vals1 r;cases D;let(its,B,pl,_):=I.list N;let Y:its.length=ws.length:=by have:=B.length;simpa using this.symm
 calc sorted_strs pl.isList (uZ B) (by simp_all) λout j O L G=>?_;let(e,F):=sortedAll_at s.heap its out;let Z:(j.map λy=>y.cps.toList).Perm ws:=by have:=L.map λy:Str=>y.cps.toList;rw[cn]at this;let e:((λy:Str=>y.cps.toList) ∘ S)=id:=rfl;rw[e,jn]at this;show this
 let hv:Vals (Ts (j.map λy=>y.cps.toList)) out.toList:=by
  have:=oF O;let es:(j.map V.str)=Ts (j.map λy=>y.cps.toList):=by rw[Ts,cn];show de λy _=>by simp[si,Zz]
  rw[es]at this;show this
 let J:(Ts (j.map λy=>y.cps.toList)).length<=sizeLine:=by rw[ab,Z.length_eq];show av (aF xo)
 refine%[1,.ref (s.heap.objs.size+1),_,I.laid (o:=.lst _) (t':=s.toks) (λb o z=>sortedAll_old z) (du _) %[24,J,out.toList,e,hv|by rw[pT];show F],rb|q _ _ (I.hok.fresh (du _)) Z (yt j G)]
def ahA (t:TS):TS:=λD T H=>∃q:St->Hp->Prop,t {D with nx:=q} T H/\∀j H',q j H'->D.nx j H'
def qu {st:Stmt}(h:QS X st t):QS X st (ahA t):=⟨λao s T H D I ⟨G,a,b⟩=>by
 calc bD (h.out ao s T H _ I a) λf s' q=>?_;cases f with
 | next=>let(T7,B,j,F):=q;show%[3,T7,B,j|b _ _ F]
 | cont=>show q
 | brk=>show q
 | ret v=>show q⟩
end
end L2
namespace L2
open PySem PySem.Spec PyProof.Rows PySem.W
def afb (H:Hp)(cf:Addr->Nat)(a:Addr):Prop:=∃(x y:Nat) (rest:List V),Rd H a (.tup (.int x :: .int y::rest))/\y<1000/\cf a=x*1000+y/\(rest=[]\/∃z,rest=[.str z])
section
theorem ud:∀{as:List Addr} {us:List Value},Vals (as.map V.ref) us->us=as.map Value.ref
 | [],_,.nil=>rfl
 | a::as,_,.cons r t=>by cases r;rw[b9,ud t]
theorem uf:∀(as:List Addr),Vals (as.map V.ref) (as.map Value.ref)
 | []=>.nil
 | a::as=>.cons rb (uf as)
end
def Raw (h:Heap)(d:Addr)(g:Array DictEntry)(e:Nat):Prop:=∃x,h.get? d=some x/\x.ExactDict/\x.data=.dict g e
def Raw.ty {s:Shared}(m:Raw s.heap d g e):s.TypeIs (.ref d) "dict":=let %[x,p,q|_]:=m;%[0,x,p|q.1]
def Raw.mv {h h':Heap}(m:Raw h d g e)(k:∀x,h.get? d=some x->h'.get? d=some x):Raw h' d g e:=let %[x,p|q]:=m;%[0,x,k _ p|q]
def Raw.lt (m:Raw h d g e):d<h.objs.size:=let %[x,p|q]:=m;a7 p
section
variable {prog:Program}{w:World}{A:Around}{E:AB}{s:Shared}{d a:Addr}{g:Array DictEntry}{e i:Nat}
variable {X:Cx}{pos:Pos}
def ZM (hd:(d==sysModules)=false)(m:Raw s.heap d g e)(q:Q (.ref s.heap.objs.size) {s with heap:=s.heap.push {cls:=.type "dict_keyiterator",data:=.fields #[.ref d,.int 0 0,.int g.size 0,.int e 0]} }):wpAny (model prog w) A (pyIter (.ref d)) Q E s:=by let T:=m.ty;let(x,p1,p2,p3):=m;calc wb T F.slot_dict_iter (c9 F.slot_dict_iter T F.entry_dict_iter ?_ (F.args_dict_iter_1 _));unfold Builtin.«dict.__iter__» Builtin.Dict.dictSlotNone;calc aa (aa (wpAny_notOrdered_dict T ?_));show wpAny _ _ (pure (Value.ref d)) _ _ s;calc ae ?_;show wpAny _ _ (Builtin.Dict.showsAll d >>= _) _ _ s;unfold Builtin.Dict.showsAll;rw[if_neg (by rw[hd];show b7)];calc aa (ae (aa (wc p1 p3 (aa (wpAny_dictEpoch p1 p3 ?_)))));calc aa (dA (ae %[17,_,rb,"dict_keyiterator",_,%[0,_,aw _ rb|rb],im.lookup|?_]));simpa [rawInt] using q
def ZP (t:s.heap.IsKeyIter a d i g.size e)(m:Raw s.heap d g e)(hi:i<g.size)(q:∀h',h'.IsKeyIter a d (i+1) g.size e->Heap.SameBut a s.heap h'->Q (some g[i].key) {s with heap:=h' }):wpAny (model prog w) A (pyNext (.ref a)) Q E s:=by
 let T:=t.typeIs;let(x,B,D,j):=id t;walk_at"l"
 first|refine aa (lx T (ae ?_))|refine aa (nw T (ae ?_))
 calc aa (pi B j ?_);let Z:Builtin.Dict_items.ownsTuple "dict_keyiterator"=false:=by decide
 simp only[Z,a9,if_false];show wpAny _ _ (if (Value.ref d==Value.none)=true then _ else _) _ _ s;rw[if_neg (show ¬((Value.ref d==Value.none)=true) from b7)];calc aa (ae (aa (wc p1 p3 ?_)));rw[if_neg xp];calc aa (ae (aa (wpAny_dictEpoch p1 p3 ?_)));rw[if_neg xp];calc ae ?_;simp only[show ¬((i:Int)<0) from by simp,if_false,ci,b6 hi];refine aa ?_
 first|refine aa (lx T (ae ?_))|refine aa (nw T (ae ?_))
 calc aa (wpAny_isOneOf_keyiter T ?_);show wpAny _ _ (setField (.ref a) 1 (rawInt ((i:Int)+1)) >>= _) _ _ s;calc aa (gy B j xp ?_);let t':(s.heap.update a (Obj.mapFields (·.setIfInBounds 1 (rawInt ((i:Int)+1))))).IsKeyIter a d (i+1) g.size e:=%[2,_,fg _ B (kD (eB j _)),(oS ..).trans D|by rw[eB j];simp[rawInt]]
 calc aa (eD (aa (wpAny_isOneOf_keyiter (s:={s with heap:=s.heap.update a (Obj.mapFields (·.setIfInBounds 1 (rawInt ((i:Int)+1))))}) t'.typeIs ?_)));show wpAny _ _ (pure g[i].key) _ _ _;show ae (ae %[0,_,rb|ae (q _ t' (fk ..))])
def acv (D:A.handled=none)(t:s.heap.IsKeyIter a d i g.size e)(m:Raw s.heap d g e)(hi:g.size<=i)(q:∀h',Heap.ExtBut a s.heap h'->Q none {s with heap:=h' }):wpAny (model prog w) A (pyNext (.ref a)) Q E s:=by
 let T:=t.typeIs;let(x,B,G,j):=id t;walk_at"l"
 first|refine aa (lx T (ae ?_))|refine aa (nw T (ae ?_))
 calc aa (pi B j ?_);let Z:Builtin.Dict_items.ownsTuple "dict_keyiterator"=false:=by decide
 simp only[Z,a9,if_false];show wpAny _ _ (if (Value.ref d==Value.none)=true then _ else _) _ _ s;rw[if_neg (show ¬((Value.ref d==Value.none)=true) from b7)];calc aa (ae (aa (wc p1 p3 ?_)));rw[if_neg xp];calc aa (ae (aa (wpAny_dictEpoch p1 p3 ?_)));rw[if_neg xp];calc ae ?_;simp only[show ¬((i:Int)<0) from by lia,if_false,ci,l_ hi];refine aa ?_
 first|refine aa (lx T (ae ?_))|refine aa (nw T (ae ?_))
 show wpAny _ _ (setField (.ref a) 0 .none >>= _) _ _ s;calc aa (gy B j xp ?_);show wpAny _ _ (newExc (.type "StopIteration") [] >>= _) _ _ _;calc aa ?_;simp only[newExc,newTuple];walk_at"d";rw[show A.in1.handled=none from D];walk_at"f";show ae (q _ (((fk ..).extBut.push _).push _))
def Wh (D:A.handled=none)(I:Addr)(B:d≠I)(g:Array DictEntry)(e:Nat):Walks prog w A I [I,d] [I] g.size (λi v=>∃z,g[i]?=some z/\v=z.key) (λi h=>h.IsKeyIter I d i g.size e/\Raw h d g e) where
 sub:=λb j=>by simp at j;simp[j]
 frame:=λ_ _ _ st hk=>%[st.1.at λo z=>hk I xp o z|st.2.mv λo z=>hk d xp o z]
 item:=λi s Q E hi st q=>ZP st.1 st.2 hi λh' t' k=>q _ h' s.toks %[0,g[i],by simp[hi]|rb] %[t'|st.2.mv λo z=>k.extBut d o B z] λb o j z=>k.extBut b o (λy=>j (by simp[y])) z
 done:=λs Q E st q=>acv D st.1 st.2 (ah _) λh' k=>q h' s.toks λb o j z=>k b o (λy=>j (by simp[y])) z
 self:=λ_ _ _ _ st q=>wpAny_pyIter_keyiter st.1 q
def acw (lo:(d==sysModules)=false)(g:Array DictEntry)(e:Nat):KdlSrc prog w "dict" d d g.size (λi v=>∃z,g[i]?=some z/\v=z.key) (λh=>Raw h d g e) where
 type:=λ_ m=>m.ty
 there:=λ_ m=>%[m.lt|m.lt]
 keep:=λ_ _ m hk=>m.mv λo z=>hk d (.inl rb) o z
 notList:=by decide
 notTuple:=by decide
 hint:=λ_ _ _ _ m q=>kdl_hint_dict m.ty q
 iter:=λ_ _ j m=>%[1,_,_,(λ_ _ q=>ZM lo m q),Wh j _ (a_ m.lt) g e|%[%[2,_,aw _ rb,rb|rb]|m.mv λo z=>af _ z]]
open Classical in
def afc (K:W.Frag)(j:Bool):R2:=λx y H Q=>∃n d es,n<=60/\gG K H n d x/\gG K H n (.tup es) y/\Q (.bl (if j then !decide (d∈es) else decide (d∈es))) H
open Classical in
theorem Fz (d:Dt):∀es:List Dt,((eE es).any λy=>PyData.eqv y (toP d))=decide (d∈es)
 | []=>by simp[eE]
 | e::es=>by
  rw[eE,mx,Fz d es,QM];by_cases z:e=d;.subst z;simp
  .let j:¬d=e:=λy=>z y.symm
   simp[z,j]
def acy {o i:Expr}{td ty:TE}(q:X.A.units+1<cLine)(j:QE X o td)(hi:QE X i ty)(hs:Zt i):QE X (.Subscript o i pos) (abw td ty):=⟨ach q j.out hi.out hs⟩
def ZR:QE X (.Dict [] [] pos) V4:=⟨Zx⟩
end
section
variable {X:Cx}
def afd:List V->Hp->VK->Prop:=λxs H Q=>∃l:List Nat,xs=[.str (S l)]/\l.length<=1000/\∀p,H p=none->Q (.ref p) (upd H p (.lst (Ts (l.map λc=>[c]))))
theorem Ih:∀(l:List Nat) (us:List Value),us.length=l.length->(∀(i c:Nat),l[i]?=some c->∃t,us[i]?=some (.str (S [c]) t))->Vals (Ts (l.map λc=>[c])) us
 | [],[],_,_=>.nil
 | [],_::_,h,_=>by simp at h
 | _::_,[],h,_=>by simp at h
 | c::l,u::us,h,k=>by let(t,e):=k 0 c rfl;let e:u=.str (S [c]) t:=bg e;show .cons %[t|e] (Ih l us (by simpa using h) λi d hd=>k (i+1) d hd)
def Dj (D:X.calm=true):d8 X (.type "list") afd:=by
 walk_at"g";let(l,rfl,L,q):=h;let(u,rfl,F):=vals1 r;let(t,rfl):=F;let hz:l.length<=sizeLine:=av (aF L);calc cj (call_list_str (I.ok.hd D) (S l) t (λh' tk j J hk G B O=>?_) (by show l.toArray.size<=_;simpa using hz));let hsz:j.size=l.length:=by rw[B.1];show l.toArray.size=_;simp
 calc%[1,.ref s.heap.objs.size,_,I.laid (o:=.lst (Ts (l.map λc=>[c]))) (t':=tk) hk (ah _) %[24,by rw[ab,ab];show hz,j.toList,J,?_|by simpa using G],rb|q _ (I.hok.fresh (ah _))];calc Ih l j.toList (by rw[bq];show hsz) λi c D=>?_;let hi:i<j.size:=by rw[hsz];show(al.mp D).1
 let(M,N,e1,e2):=B.2 i j[i] (by simp[hi]);let e1:l.toArray[i]?=some M:=e1;rw[List.getElem?_toArray,D]at e1;let e1:=bg e1;show%[N|by rw[ck,b6 hi,e2,e1];rfl]
end
end L2
namespace L2
open PySem PySem.Spec PyProof.Rows
def acz {X:Cx}{ix:Nat}{F:Str}{J j:Pos}{B iter tg:Expr}{ns N2:List Str}{f:St->St}{TP:V->Hp->(St->Prop)->Prop}{ifs:List Expr}{scope:Scope}{pos:Pos}{wi:TI}{tt:TT}{te:TE}(hN:X.N.Nodup)(L:X.N[ix]?=some F)(Ax:Loc X.env.scope F)(hc:X.calm=true)(ok:gU X scope ns N2 f)(hi:PI X tg iter wi)(hg:∀cl C s₀ H₀ fp,HY (eO X scope cl C (ns++N2) s₀ H₀ fp) tg ns.length TP)(ht:∀cl C s₀ H₀ fp,KY (eO X scope cl C (ns++N2) s₀ H₀ fp) ifs tt)(he:∀cl C s₀ H₀ fp,PE (eO X scope cl C (ns++N2) s₀ H₀ fp) B te)(hs:∀x,foldedSetIterable iter X.env x=pure x:=by intro _;rfl)(N:swapsWith (.ListComp B [%[tg,iter,ifs|0]] scope pos) (some (.Name F J)) j.line X.env=pure true:=by rfl)(hf:X.fn F=true\/X.env.scope.names.lookup F=some .local:=by first|show .inl rfl|show .inr rfl|assumption):PS X (.Assign [.Name F J] (.ListComp B [%[tg,iter,ifs|0]] scope pos) j) (Fi (yq f ns.length wi TP tt te) (nZ ix)):=λao s T H De I h=>by
 rw[exec_Assign_Name_used _ _ _ _ N];calc aa (sF (aa (aa ?_)));calc bD (Q:=λ_ s'=>∃O H',aL X ao O H' s'/\De.nx O H') ?_ λ_ s' hq=>ae (ae hq);calc yr (use:=some (assign (.Name F J) X.env)) hc ok hi hg ht he hs I h λD C Z Y m hn bk q qn=>?_;calc sf (tZ (bk Y.heap (Heap.SameBut.refl _ _)) hN L Ax (show bG (.ref D) (.ref D) from rb) (λs6 I6 ⟨a,M,ha⟩ _=>?_) hf);let G:C≠a:=by
  rcases ha with z|z;.rw[z];show q.2.1
  .show λy=>q.2.2.2.2.1 _ _ z y.symm
 let(o,es,ep,e1,e2):=hn;refine%[0,m,%[41,o,es,ep,(M.2 C G).trans e1|e2]|λh' sb=>%[3,_,Z,I6.turned (t':=s6.toks) (λb o hb e=>(sb.2 b hb).trans e) q.1 q.2.1 q.2.2.2.1 q.2.2.2.2.1 q.2.2.2.2.2|qn]]
def FN {X:Cx}{ix:Nat}{B:Str}{J j:Pos}{q iter tg:Expr}{ns N2:List Str}{f:St->St}{TP:V->Hp->(St->Prop)->Prop}{ifs:List Expr}{scope:Scope}{pos:Pos}{wi:TI}{tt:TT}{te:TE}(N:X.N.Nodup)(D:X.N[ix]?=some B)(M:Loc X.env.scope B)(O:X.calm=true)(ok:gU X scope ns N2 f)(hi:QI X tg iter wi)(Y:∀cl C s₀ H₀ fp,HY (eO X scope cl C (ns++N2) s₀ H₀ fp) tg ns.length TP)(L:∀cl C s₀ H₀ fp,Wa (eO X scope cl C (ns++N2) s₀ H₀ fp) ifs tt)(G:∀cl C s₀ H₀ fp,QE (eO X scope cl C (ns++N2) s₀ H₀ fp) q te)(hs:∀x,foldedSetIterable iter X.env x=pure x:=by intro _;rfl)(F:swapsWith (.ListComp q [%[tg,iter,ifs|0]] scope pos) (some (.Name B J)) j.line X.env=pure true:=by rfl)(hf:X.fn B=true\/X.env.scope.names.lookup B=some .local:=by first|show .inl rfl|show .inr rfl|assumption):QS X (.Assign [.Name B J] (.ListComp q [%[tg,iter,ifs|0]] scope pos) j) (Fi (yq f ns.length wi TP tt te) (nZ ix)):=⟨acz N D M O ok hi.out Y (λa b c d e=>(L a b c d e).out) (λa b c d e=>(G a b c d e).out) hs F hf⟩
end L2
namespace L2
open PySem PySem.Spec PyProof.Rows PySem.W
section
variable {X:Cx}
theorem Dk:∀(m:AA) (l:List Value),l.length=m.length->(∀(j:Nat) (c:List Nat),m[j]?=some c->∃t,l[j]?=some (.str (S c) t))->Vals (Ts m) l
 | [],[],_,_=>.nil
 | [],_::_,h,_=>by simp at h
 | _::_,[],h,_=>by simp at h
 | c::m,a::l,h,k=>by
  let(t,e):=k 0 c rfl;let B:a=.str (S c) t:=by simpa using e
  subst B;show .cons %[t|rb] (Dk m l (by simpa using h) λj c q=>k (j+1) c q)
def afe:List V->Hp->VK->Prop:=λxs H Q=>∃(d:Addr) (kvs:List (Key×V)) (ws:AA),xs=[.ref d]/\H d=some (.dK kvs)/\kvs.map (·.1)=ws.map gQ/\ws.length<=900/\∀p:Addr,H p=none->Q (.ref p) (upd H p (.lst (Ts ws)))
def TQ (hc:X.calm=true):d8 X (.type "list") afe:=by
 walk_at"g";let(d,kvs,ws,rfl,hd,hk,h64,q):=h;let(u,rfl,Z):=vals1 r;cases Z;let(hz,lo,vs,F,dd):=Tn I.hok hd;let(ep,L):=dd.dictAt;let M:=KV.keys F;let O:vs.length=ws.length:=by let h1:=KV.length F;let h2:=congrArg List.length hk;simp at h2;lia
 calc cj (kdl_call (kdl_dict (knd:=cX X.prog X.w) (kvs:=vs) (ep:=ep) lo) (I.ok.hd hc) L (by rw[O];show av (aF xo)) λh' tk B c' N hD D ht=>?_);let hv:Vals (Ts ws) B.toList:=by
  calc Dk ws _ (by rw[bq,D.1,O]) λj c Y=>?_;let G:j<B.size:=by rw[D.1,O];show(al.mp Y).1
  let(k,x,hx,hi):=D.2 j B[j] (by simp[G]);let J:(ws.map gQ)[j]?=some k:=by rw[<-hk,M,bb,hx];rfl
  rw[bb,Y]at J;let e:gQ c=k:=by simpa using J
  subst e;rcases dD (show jz (Sum.inr (S c)) B[j]=true from hi) with⟨i,t,e1,_⟩|⟨y,t,e1,e2⟩;.cases e1
  .cases e1;show%[t|by rw[ck,b6 G,e2]]
 show%[1,.ref s.heap.objs.size,_,I.laid (o:=.lst _) (t':=tk) N (ah _) %[24,by rw[ab];show av (aF xo),B.toList,c',hv|by simpa using hD],rb|q _ (I.hok.fresh (ah _))]
end
end L2
namespace L2
open PySem PySem.Spec PyProof.Rows PySem.W
open AutoSeq1 (wpAny_loadPart')
section
variable {prog:Program}{w:World}{A:Around}{E:AB}{s:Shared}
def ZS (t:s.heap.IsTupleIter u a i)(p:s.heap.IsTuple a g)(hx:g[i]?=some x)(q:∀h',h'.IsTupleIter u a (i+1)->Heap.SameBut u s.heap h'->Q x {s with heap:=h' }):wpAny (model prog w) A (Builtin.SmallTypes.nextOf (.ref u)) Q E s:=by let(o,j,G,hd):=id t;let(L,D,_,J,B):=p;unfold Builtin.SmallTypes.nextOf;walk_at"e";rw[if_neg (show ¬((Value.ref a==Value.none)=true) from b7)];show wpAny _ _ (field (.ref u) 1 >>= _) _ _ s;calc aa (f8 j hd (x:=.int i 0) rb ?_);show wpAny _ _ (seqItems? (.ref a) >>= _) _ _ s;calc aa (ge D B ?_);simp only[ci,hx];calc aa (gy j hd xp (ae %[0,x,rb|ae (q _ ?_ (fk ..))]));show%[2,_,fg _ j (kD (eB hd _)),(oS ..).trans G|by rw[eB hd];simp[rawInt]]
def QX (G:A.handled=none)(t:s.heap.IsTupleIter u a i)(p:s.heap.IsTuple a g)(hx:g[i]?=none)(q:∀h' e,Heap.ExtBut u s.heap h'->(∃o,h'.get? e=some o/\o.cls=.type "StopIteration")->E (.ref e) {s with heap:=h' }):wpAny (model prog w) A (Builtin.SmallTypes.nextOf (.ref u)) Q E s:=by
 let(o,j,L,hd):=id t;let(J,D,_,M,B):=p;unfold Builtin.SmallTypes.nextOf;walk_at"e";rw[if_neg (show ¬((Value.ref a==Value.none)=true) from b7)];show wpAny _ _ (field (.ref u) 1 >>= _) _ _ s;calc aa (f8 j hd (x:=.int i 0) rb ?_);show wpAny _ _ (seqItems? (.ref a) >>= _) _ _ s;calc aa (ge D B ?_);simp only[ci,hx]
 first|refine aa (gT (aa (gy j hd xp ?_)))|refine aa (gy j hd xp ?_)
 show wpAny _ _ (newExc (.type "StopIteration") [] >>= _) _ _ _;calc aa ?_;simp only[newExc,newTuple];calc aa (dA ?_ xB);calc aa (m:=firstArgMember _ _) (mS (a:=Value.none) (by first|rfl|(simp only[firstArgMember];rfl)) ?_);calc dA ?_ xB;simp only[raiseNew];refine aa (vT ?_)
 first|rw[show A.in1.handled=none from G]|rw[G]
 calc aa (ae (wpAny_throw ?_));show q _ _ (((fk ..).extBut.push _).push _) %[0,_,aw _ rb|rb]
def afg (F:A.handled=none)(u a:Addr)(B:a≠u)(g:Array Value):Draws prog w A u [u,a] g.size (λi v=>g[i]?=some v) (λi h=>h.IsTupleIter u a i/\h.IsTuple a g) where
 live:=λ_ _ st=>let %[o,ho|_]:=st.1;%[o|ho]
 frame:=λ_ _ _ st hk=>%[st.1.at λo e=>hk u xp o e|let %[o,ho|r]:=st.2;%[0,o,hk a xp o ho|r]]
 item:=λi s Q E hi st G=>by calc ZS st.1 st.2 (x:=g[i]) (by simp[hi]) λh' q j=>?_;show G _ h' s.toks (by simp[hi]) %[q|let %[o,ho|r]:=st.2;%[0,o,j.extBut a o B ho|r]] j
 done:=λs Q E st D=>QX F st.1 st.2 xp D
def newT (a)(g)(n)(dct)(sl):Meets (Builtin.«enumerate.__new__» %[[.type "enumerate",.ref a]|[]]) (λ_ R s=>s.heap.get? a=some {cls:=.type "tuple",dict:=dct,data:=.seq g n,slots:=sl}/\
   R (.ok (.ret (.ref (s.heap.push {cls:=.type "tuple_iterator",data:=.fields #[.ref a,.int 0 0]}).objs.size)))
    {s with heap:=(s.heap.push {cls:=.type "tuple_iterator",data:=.fields #[.ref a,.int 0 0]}).push {cls:=.type "enumerate",data:=.fields #[.none,.bool false,.ref s.heap.objs.size,rawInt 0,.none,.none]} }):=
 .of_wp λprog w A R s h=>by
  let(hp,g,d,tk,os):=s;let(j,h):=h;let q:=sub_enumerate;let L:Heap.IsTuple (Shared.heap %[hp,g,d,tk|os]) a _:=%[40,_,j,rb,n|rb]
  wp_walk using tS j
  refine wpAny_stack_any λst=>ae ?_
  split
  .rename_i c _ _ _ _ _;cases(c==Value.type "enumerate")
   .wp_walk using tS j,oj L
    show%[0,_,rb|h]
   .wp_walk using tS j,oj L
    show%[0,_,rb|h]
  .wp_walk using tS j,oj L
   show%[0,_,rb|h]
def agM (L:s.heap.IsTuple a g)(q:∀h',IsEnum h' (s.heap.objs.size+1) s.heap.objs.size 0 .none->h'.IsTupleIter s.heap.objs.size a 0->h'.objs.size=s.heap.objs.size+2->(∀b o,s.heap.get? b=some o->h'.get? b=some o)->Q (.ref (s.heap.objs.size+1)) {s with heap:=h' }):wpAny (model prog w) A (call (.type "enumerate") [.ref a]) Q E s:=by
 let((c,j,J,sl),G,B,n,hd):=L;replace B:c=.type "tuple":=B;replace hd:J=.seq g n:=hd;subst B hd;calc callType_new rh xt (F.typeCall_enumerate_1 _) (F.newCall_enumerate_1 _) (λobj=>F.args_object_init_2 obj _) F.entry_enumerate_new (newT a g n j sl) %[G|?_];let hz:(s.heap.push {cls:=.type "tuple_iterator",data:=.fields #[.ref a,.int 0 0]}).objs.size=s.heap.objs.size+1:=dE ..;show _/\_;rw[hz];let D:IsEnum ((s.heap.push {cls:=.type "tuple_iterator",data:=.fields #[.ref a,.int 0 0]}).push {cls:=.type "enumerate",data:=.fields #[.none,.bool false,.ref s.heap.objs.size,rawInt 0,.none,.none]}) (s.heap.objs.size+1) s.heap.objs.size 0 .none:=by have:=aw (s.heap.push {cls:=.type "tuple_iterator",data:=.fields #[.ref a,.int 0 0]}) (o:={cls:=.type "enumerate",data:=.fields #[.none,.bool false,.ref s.heap.objs.size,rawInt 0,.none,.none]}) rfl;rw[hz]at this;show this
 show%[%[0,_,D|rb]|q _ D %[2,_,af _ (aw _ rb),rb|rb] (by rw[dE,hz]) λb o x=>af _ (af _ x)]
end
section
variable {X:Cx}{ao:AC}{T:St}{H:Hp}{s:Shared}{h':Heap}
def aL.FP {t':Nat}{fp:List Addr}(I:aL X ao T H s)(k:∀b o,b∉fp->s.heap.get? b=some o->h'.get? b=some o)(hf:∀b∈fp,lE X ao H b)(B:s.toks<=t':=by first|show ah _|assumption|show du _|lia):aL X ao T H {s with heap:=h',toks:=t' }:=by
 let D:∀b u,H b=some u->b∉fp:=λb u e z=>by rw[(hf b z).1]at e;cases e
 refine I.step (g':=s.gens) (d':=s.drawn) (ch:=fp) (λb F=>?_) (λb o _ _ j e _=>k b o j e) (λb o _ _ j e _=>%[o.slots|k b o j e]) (λ_ _ _ _ n=>n)
  (λb o j e=>%[o|k b o j e]) (λ_ _ e=>e) (λ_ _ _ e=>e) (λb ps e=>%[#[]|by rw[e];simp]) (λm hm=>?_) (λb u e=>?_) I.bare (I.gh.up B) B
 .let(f0,f1,f2,f3,f4,f5):=hf b F;show%[f3,f1,f4|f5]
 .let(o,es,ep,G,r):=hm;show%[41,o,es,ep,k _ o (λz=>(hf _ z).2.1 rb) G|r]
 .refine(I.hok b u e).stay (λc v j q=>k c v ?_ q) (λ_ q=>q) λ_ _ q=>q
  rcases j with z|z;.rw[z];show D b u e
  .show D c _ z
def aL.pair {e it:Addr}{i tk:Nat}{x:V}{u:Value}{h1 B:Heap}(I:aL X ao T H s)(hf:∀b∈[e,it],lE X ao H b)(le:e<s.heap.objs.size)(J:it<s.heap.objs.size)(M:bG x u)(F:h1.get? s.heap.objs.size=some {cls:=.type "tuple",data:=.seq #[.int i tk,u]})(hk:∀b o,b≠e->b≠it->s.heap.get? b=some o->h1.get? b=some o)(hs:Heap.SameBut e h1 B)(O:s.toks<=tk+1:=by first|show ah _|assumption|show du _|lia):aL X ao T (upd H s.heap.objs.size (.tup [.int i,x])) {s with heap:=B,toks:=tk+1}/\∀b∈[e,it],upd H s.heap.objs.size (.tup [.int i,x]) b=none:=by
 let I2:aL X ao T (upd H s.heap.objs.size (.tup [.int i,x])) {s with heap:=s.heap.push {cls:=.type "tuple",data:=.seq #[.int i tk,u]},toks:=tk+1}:=I.laid (λb v e=>af _ e) (ah _) %[8,zsz 2,[.int i tk,u],.cons %[tk|rb] (.cons M .nil)|%[40,_,aw _ rb,rb,_|rb]]
 let ne:∀b∈[e,it],b≠s.heap.objs.size:=λb j=>by
  rcases bd.mp j with z|z;.rw[z];show a_ le
  .rw[am.mp z];show a_ J
 let fr:∀b∈[e,it],upd H s.heap.objs.size (.tup [.int i,x]) b=none:=λb j=>by rw[aZ (ne b j)];show(hf b j).1
 let N:=aL.FP (s:={s with heap:=s.heap.push {cls:=.type "tuple",data:=.seq #[.int i tk,u]},toks:=tk+1}) (h':=B) (fp:=[e,it]) (t':=tk+1) I2 (λb o j g=>?_) λb j=>?_
 .show%[N|fr]
 .let q:b≠e:=λz=>j (by simp[z])
  let D:b≠it:=λz=>j (by simp[z]);rw[hs.2 b q];rcases Heap.get?_push_cases g with⟨L,G⟩|z
  .rw[L,G];show F
  .show hk b o q D z
 .let(f0,f1,f2,f3,f4,f5):=hf b j;show%[fr b j,f1,f2,f3,f4|f5]
end
def ZV (K:W.Frag)(a:Addr):It:=%[λi H=>∃xs x,aV K H a xs/\xs[i]?=some x,λi H v H'=>∃T y,H T=none/\v=.ref T/\(∀xs,aV K H a xs->xs[i]?=some y)/\H'=upd H T (.tup [.int i,y])|λi H=>∃xs,aV K H a xs/\xs.length<=i]
def Lf (l:List Nat):It:=%[λi _=>i<l.length,λi H v H'=>∃T c,H T=none/\v=.ref T/\l[i]?=some c/\H'=upd H T (.tup [.int i,.str (S [c])])|λi _=>l.length<=i]
section
variable {prog:Program}{w:World}{A:Around}{E:AB}{s:Shared}
def O6 {it:Addr}{fp:List Addr}{n:Nat}{B:Nat->Value->Prop}{St:Nat->Heap->Prop}(D:Draws prog w A it fp n B St)(k:Nat):Draws prog w A it fp (k+n) (λj v=>∃i,j=k+i/\B i v) (λj h=>∃i,j=k+i/\St i h) where
 live:=λj h ⟨i,_,st⟩=>D.live i h st
 frame:=λj h h' ⟨i,e,st⟩ hk=>%[0,i,e|D.frame i h h' st hk]
 item:=λj s Q E J ⟨i,e,st⟩ G=>by subst e;show D.item i s Q E (by simp_all) st λv h' tk hp st' q=>G v h' tk %[0,i,rb|hp] %[0,i+1,rb|st'] q
 done:=λs Q E ⟨i,e,st⟩ F=>by
  have:i=n:=by lia
  subst this;show D.done s Q E st F
end
def yE (l:List Nat)(k:Nat):It:=%[λi _=>i<l.length,λi H v H'=>∃T c,H T=none/\v=.ref T/\l[i]?=some c/\H'=upd H T (.tup [.int ((k+i:Nat):Int),.str (S [c])])|λi _=>l.length<=i]
def Dl {P:Program}{w:World}{K:W.Frag}{elts:List Expr}{x1}{pos:Pos}{ty:String}(F:ty="str_ascii_iterator"\/ty="str_iterator")(l:List Nat)(k:Nat)(t:Tok)(it e:Addr):Turn P w K (.Tuple elts x1 pos) (yE l k) [e,it] e (λi h=>e≠it/\i<=l.length/\(∃j,IsEnum h e it ((k+i:Nat):Int) j)/\h.IsStrIter it ty (S l) t i) where
 mem:=by simp
 obj:=λi h st b L=>by
  let(_,_,(j,B),o,O,_,hd):=st;rcases bd.mp L with z|z;.show%[0,_,by rw[z];show B|λv y=>by cases y]
  .show%[0,o,by rw[am.mp z];show O|λv y=>by rw[hd]at y;cases y]
 keep:=λi h h' st k=>by let(n,le,(j,B),o,O,r):=st;show%[n|%[14,le,%[j|k e xp _ B],o,k it xp o O|r]]
 item:=by
  intro X J hw hK hc i ao s T H E I hf st Y;subst J hw hK;let(ne,le,(j,B),hs):=st;let M:X.A.in1.handled=none:=by simp[I.ok.hd hc]
  let Z:k+i<k+(S l).cps.size:=Nat.add_lt_add_left Y k;let N:∀(D:Draws X.prog X.w X.A.in1 it [it] (S l).cps.size (λi v=>∃c u,(S l).cps[i]?=some c/\v=.str ⟨#[c]⟩ u) (λi h=>h.IsStrIter it ty (S l) t i)),
    wpAny (model X.prog X.w) X.A (pyNext (.ref e)) (λr s1=>∃u,r=some u/\wpAny (model X.prog X.w) X.A (letOwnedTupleGo (.Tuple elts x1 pos) (.ref e) u) (λ_ s2=>∃x H',aL X ao T H' s2/\bG x u/\(yE l k).Hy i H x H'/\(e≠it/\i+1<=l.length/\(∃j,IsEnum s2.heap e it ((k+(i+1):Nat):Int) j)/\s2.heap.IsStrIter it ty (S l) t (i+1))/\∀b∈[e,it],H' b=none) E s1) E s:=by
   intro D;calc cj (wpAny_pyNext_enum_itemD (O6 D k) B %[0,i,rb|hs] Z ne (by simp[ne]) λx h' tk J O q hT hsz hk ht=>?_);let(i',ei,c,u,hc',rfl):=J;let(i'',ei2,q):=q;obtain rfl:i'=i:=by lia
   obtain rfl:i''=i'+1:=by lia
   calc%[0,_,rb|wpAny_letOwnedTupleGo_enum O λh2 he2 G=>?_];let(o,ho2,r2):=q;let(oi,hoi,_):=id hs;let(I3,fr):=aL.pair (i:=k+i') (x:=.str (S [c])) I hf (a7 B) (a7 hoi) %[u|rb] hT hk G;refine%[18,.ref s.heap.objs.size,_,I3,rb,%[4,s.heap.objs.size,c,I.hok.fresh (ah _),rb,by simpa [S] using hc'|rb],%[ne|%[14,Y,%[_|by simpa [Int.add_assoc] using he2],o,(G.2 it (kr ne)).trans ho2|r2]]|fr]
  rcases F with rfl|rfl;.show N (Draws.strAscii M it (S l) t)
  .show N (Draws.strWide M it (S l) t)
 done:=by
  intro X J hw hK hc i ao s T H E I hf st Y;subst J hw hK;let(ne,le,(j,B),hs):=st;let M:X.A.in1.handled=none:=by simp[I.ok.hd hc]
  let hi:i=(S l).cps.size:=tP le Y;let q:=hs;rw[hi]at q;walk_at"k";rcases F with rfl|rfl
  .show wpAny_pyNext_enum_endD (Draws.strAscii M it (S l) t) B q λh' eb=>%[rb|I.turned (t':=s.toks) (λb o L e=>eb b o L e) f0 f1 f3 f4 f5]
  .show wpAny_pyNext_enum_endD (Draws.strWide M it (S l) t) B q λh' eb=>%[rb|I.turned (t':=s.toks) (λb o L e=>eb b o L e) f0 f1 f3 f4 f5]
 self:=λA i s Q E st h=>by let(_,_,(j,B),_):=st;show oT B h
def TV {K:W.Frag}{elts:List Expr}{x1}{ty:String}(j:ty="str_ascii_iterator"\/ty="str_iterator")(l:List Nat)(t:Tok)(it e:Addr):Turn P w K (.Tuple elts x1 pos) (Lf l) [e,it] e (λi h=>e≠it/\i<=l.length/\(∃q,IsEnum h e it i q)/\h.IsStrIter it ty (S l) t i):=by
 let h:=Dl (P:=P) (w:=w) (K:=K) (elts:=elts) (x1:=x1) (pos:=pos) j l 0 t it e;let e1:yE l 0=Lf l:=by unfold yE Lf;simp only[gv]
 simp only[gv]at h;rw[e1]at h;show h
def TX {P:Program}{w:World}{K:W.Frag}{elts:List Expr}{x1}{pos:Pos}(a it e:Addr):Turn P w K (.Tuple elts x1 pos) (ZV K a) [e,it] e (λi h=>(e≠it/\a≠e/\a≠it)/\(∃j,IsEnum h e it i j)/\h.IsTupleIter it a i) where
 mem:=by simp
 obj:=λi h st b hb=>by
  let(_,(j,q),o,G,_,hd):=st;rcases bd.mp hb with z|z;.show%[0,_,by rw[z];show q|λv y=>by cases y]
  .show%[0,o,by rw[am.mp z];show G|λv y=>by rw[hd]at y;cases y]
 keep:=λi h h' st k=>by let(n,(j,q),o,G,r):=st;show%[14,n,%[j|k e xp _ q],o,k it xp o G|r]
 item:=by
  intro X L hw O hc i ao s C H E I hf st hg;subst L hw O;let((ne,B,D),(j,q),hs):=st;let(xs,x,N,hx):=hg;let(its,rv,p,hz):=I.tuple N;let(v,hv,ru):=rv.get hx;let hh:X.A.in1.handled=none:=by simp[I.ok.hd hc]
  let hit:i<its.toArray.size:=by have:=(al.mp hv).1;simpa using this
  let Z:s.heap.IsTuple a its.toArray:=p;calc cj (wpAny_pyNext_enum_itemD (afg hh it a D its.toArray) q %[hs|Z] hit ne (by simp[ne,B.symm]) λy h' tk L G hs' M hsz hk ht=>?_);calc%[0,_,rb|wpAny_letOwnedTupleGo_enum G λh2 he2 J=>?_];let((o,Y,r2),_):=hs';let(oi,hoi,_):=id hs;let ey:y=v:=by
   let h1:its[i]?=some y:=by simpa using L
   rw[hv]at h1;show(bg h1).symm
  subst ey;let(I3,fr):=aL.pair (x:=x) I hf (a7 q) (a7 hoi) ru M hk J;refine%[18,.ref s.heap.objs.size,_,I3,rb,%[4,s.heap.objs.size,x,I.hok.fresh (ah _),rb,λys hy=>by rw[I.Hx hy N];show hx|rb],%[14,%[ne,B|D],%[_|by simpa using he2],o,(J.2 it (kr ne)).trans Y|r2]|fr]
 done:=by
  intro X L hw O hc i ao s C H E I hf st hg;subst L hw O;let((ne,B,D),(j,q),hs):=st;let(xs,N,hx):=hg;let(its,rv,p,hz):=I.tuple N;let hl:=rv.length;let hh:X.A.in1.handled=none:=by simp[I.ok.hd hc]
  walk_at"k";let M:s.TypeIs (.ref e) "enumerate":=%[0,_,q|rb]
  unfold pyNext;calc aa (kg (dL (name:=Str.ofString "__next__") M F.slot_enumerate_next (c9 F.slot_enumerate_next M F.entry_enumerate_next ?_ (F.args_enumerate_next_1 _))));show wpAny _ _ (field (.ref e) 2 >>= _) _ _ _;calc aa (f8 q rb (x:=.ref it) rb ?_);calc aa (QX hh hs (show s.heap.IsTuple a its.toArray from p) (by simp;simp_all) λh' x he' hx'=>?_);let(o,G,hc'):=hx';calc aa (ib (T:="StopIteration") (b:=true) %[0,o,G|hc'] isSubtype_stop ?_);show ae %[rb|I.turned (t':=s.toks) (λb o hb e=>he' b o hb e) f0 f1 f3 f4 f5]
 self:=λA i s Q E st h=>by let(_,(j,q),_):=st;show oT q h
section
variable {X:Cx}{elts:List Expr}{x1:Nat}{tp:Pos}
def afh (ta:TA):TI:=λT H R=>ta T H λvs H1=>∃l,vs=[.str (S l)]/\R (Lf l) H1
def afi (K:W.Frag)(ta:TA):TI:=λT H R=>ta T H λvs H1=>∃a,vs=[.ref a]/\(∃xs,aV K H1 a xs)/\R (ZV K a) H1
def ZW (J:Gl X "enumerate")(hm:X.mg "enumerate"=none)(ha:QA X [a] ta)(hs:starEach [a] X.env=[(false,eval a X.env)]:=by rfl):QI X (.Tuple elts x1 tp) (.Call (.Name "enumerate" p) [a] [] pos) (afh ta):=⟨by
 intro ao s T H R I h;calc Call_ (qg I J hm boot_enumerate (iO (bD (ha.out pos ao s T H _ I h) λus s1 F=>?_) hs rb));let(vs,H1,I1,r1,q1):=F;let(l,e,q):=q1;subst e;cases r1 with
 | cons r rr=>
  cases rr;let(t,rfl):=r;let j:strIterType (S l)="str_ascii_iterator"\/strIterType (S l)="str_iterator":=by unfold strIterType;split <;> simp
  calc call_enumerate_str λh' D B hsz hk=>oT D ?_;calc%[12,s1.heap.objs.size+1,[s1.heap.objs.size+1,s1.heap.objs.size],_,_,H1,rb,I1.kept (t':=s1.toks) hk,TV j l t s1.heap.objs.size _,%[wt _,b8 _,%[_|D]|B],λb G=>?_|q];rcases bd.mp G with z|z
  .rw[z];show I1.nu (du _) (I1.hok.fresh (du _))
  .rw[am.mp z];show I1.nu (ah _) (I1.hok.fresh (ah _))⟩
def ZX (N:Gl X "enumerate")(hm:X.mg "enumerate"=none)(ha:QA X [a] ta)(hs:starEach [a] X.env=[(false,eval a X.env)]:=by rfl):QI X (.Tuple elts x1 tp) (.Call (.Name "enumerate" p) [a] [] pos) (afi X.K ta):=⟨by
 intro ao s T H R I h;calc Call_ (qg I N hm boot_enumerate (iO (bD (ha.out pos ao s T H _ I h) λus s1 G=>?_) hs rb));let(vs,H1,I1,r1,q1):=G;let(a,e,(xs,L),q):=q1;subst e;cases r1 with
 | cons r rr=>
  cases rr;cases r;let(its,O,F,hz):=I1.tuple L;let j:a<s1.heap.objs.size:=by
   let(o,M,_):=(show s1.heap.IsTuple a its.toArray from F)
   show a7 M
  calc agM (show s1.heap.IsTuple a its.toArray from F) λh' D B hsz hk=>oT D ?_;calc%[12,s1.heap.objs.size+1,[s1.heap.objs.size+1,s1.heap.objs.size],_,_,H1,rb,I1.kept (t':=s1.toks) hk,TX a s1.heap.objs.size _,%[%[wt _,a_ (fb j)|a_ j],%[_|D]|B],λb J=>?_|q];rcases bd.mp J with z|z
  .rw[z];show I1.nu (du _) (I1.hok.fresh (du _))
  .rw[am.mp z];show I1.nu (ah _) (I1.hok.fresh (ah _))⟩
end
def Wi {K:W.Frag}{a:Addr}{xs:List V}{g:TG}{tb:TS}{D:Ends}{I:St}{H:Hp}(j:Nat->St->Hp->Prop)(J:j 0 I H)(q:∀i I H,i<=xs.length->j i I H->aV K H a xs)(hs:∀i x I H T,xs[i]?=some x->j i I H->H T=none->g (.ref T) I (upd H T (.tup [.int i,x])) λI2 G=>tb {D with nx:=j (i+1),ct:=j (i+1),bk:=D.nx} I2 G)(hd:∀I H,j xs.length I H->D.nx I H):Fj (ZV K a) g tb D I H:=SX xs.length j J (λi I H h p=>%[%[3,xs,xs[i],q i I H (av h) p|by simp[h]]|λx H' y=>by let(T,y,B,rfl,F,rfl):=y;show hs i y I _ T (F xs (q i I H (av h) p)) p B]) λI H p=>%[%[0,xs,q _ I H (ah _) p|ah _]|hd I H p]
def Wj {l:List Nat}{f:St->St}{tt:TT}{KT:W.Frag}{D:Addr}{te:TE}{I:St}{H:Hp}{R:Hp->Prop}(j:Nat->List V->Hp->Prop)(G:j 0 [] (upd H D (.lst [])))(hs:∀i c ys H T,l[i]?=some c->j i ys H->H T=none->uc l.length i D (λv H Q=>∃a p q,v=.ref a/\aV KT H a [p,q]/\Q [some p,some q]) f I tt te (.ref T) (upd H T (.tup [.int i,.str (S [c])])) ys (j (i+1)))(hd:∀ys H,j l.length ys H->R H):qC (Lf l) D H R (yp (λv H Q=>∃a p q,v=.ref a/\aV KT H a [p,q]/\Q [some p,some q]) f I tt te):=Bo l.length j G (λi ys H h p=>%[h|λx H' y=>by let(T,c,B,rfl,F,rfl):=y;show hs i c ys H T F p B]) λys H p=>%[ah _|hd ys H p]
section
variable {X:Cx}
def Lg (hc:X.calm=true):d8 X (.builtin "any") (λxs H Q=>∃(p:Addr) (bs:List Bool),xs=[.ref p]/\aN X.K H p (bs.map V.bl)/\Q (.bl (bs.any id)) H):=by
 walk_at"g";let(p,bs,rfl,Y,q):=h;let(u,rfl,j):=vals1 r;cases j;let(its,B,pl,hz):=I.list Y;let D:p≠s.heap.objs.size:=by let(o,Z,_):=pl.isList;show a_ (a7 Z)
 let O:∀(i:Nat) (v:Value),its[i]?=some v->v=.bool (bs.getD i false):=λi v hv=>by
  let M:=B.length;let hi:i<bs.length:=by have:=(al.mp hv).1;simp at M;simp_all
  let(u,L,j):=B.get (i:=i) (x:=.bl bs[i]) (by simp[hi]);rw[hv]at L;cases L;cases j;simp[List.getD,hi]
 calc cj (call_any_walk (oI pl.isList ?_));refine%[61,s.heap.objs.size,_,_,_,_,_,λi=>bs.getD i false,rb,Walks.list (A:=X.A.in1) (I.ok.hd hc) s.heap.objs.size p D its.toArray,%[%[2,_,aw _ rb,rb|rb]|pl.isList.at λo e=>af _ e],?_|λh' tk N ht=>?_]
 .intro i v s' Q' E' hv J;let e:=O i v (by simpa using hv);subst e;show eJ J
 .let I1:aL X ao T H {s with heap:=h',toks:=tk}:=I.kept λb o e=>N b o (by
   intro hm;have:b=s.heap.objs.size:=by simpa using hm
   subst this;show absurd (a7 e) (lv _)) (af _ e)
  calc%[1,.bl (bs.any id),H,I1,?_|q];show Value.bool _=Value.bool _;let M:its.toArray.size=bs.length:=by have:=B.length;simp at this;simp[this]
  rw[M];congr 1;let F:∀bs:List Bool,(List.range bs.length).any (λi=>bs.getD i false)=bs.any id:=λbs=>by
   rw[gN,lL,lL];constructor
   .intro z;let(i,hi,h):=z;let G:=bz.mp hi;show%[0,bs[i],ba _|by simpa [List.getD,G] using h]
   .intro z;let(x,hx,h):=z;let(i,hi,rfl):=cK.mp hx;show%[0,i,bz.mpr hi|by simpa [List.getD,hi] using h]
  show F bs
end
structure ZA (z ti to u v a b:Addr):Prop where
 q1:ti≠z
 q2:to≠z
 q3:u≠z
 q4:v≠z
 q5:ti≠to
 q6:ti≠u
 q7:ti≠v
 q8:to≠u
 q9:to≠v
 p1:u≠v
 p2:a≠z
 p3:a≠to
 p4:a≠u
 p5:a≠v
 p6:b≠z
 p7:b≠to
 p8:b≠u
 p9:b≠v
section
variable {X:Cx}{ao:AC}{T:St}{H:Hp}{s:Shared}
def aL.agN {fp:List Addr}{tk:Nat}{x y:V}{p q:Value}{B:Heap}(I:aL X ao T H s)(hf:∀b∈fp,lE X ao H b)(lt:∀b∈fp,b<s.heap.objs.size)(J:bG x p)(M:bG y q)(D:B.get? s.heap.objs.size=some {cls:=.type "tuple",data:=.seq #[p,q]})(hk:∀b o,b∉fp->s.heap.get? b=some o->B.get? b=some o)(N:s.toks<=tk:=by first|show ah _|assumption|show du _|lia):aL X ao T (upd H s.heap.objs.size (.tup [x,y])) {s with heap:=B,toks:=tk}/\∀b∈fp,upd H s.heap.objs.size (.tup [x,y]) b=none:=by
 let I2:aL X ao T (upd H s.heap.objs.size (.tup [x,y])) {s with heap:=s.heap.push {cls:=.type "tuple",data:=.seq #[p,q]},toks:=tk}:=I.laid (λb v e=>af _ e) (ah _) %[8,zsz 2,[p,q],.cons J (.cons M .nil)|%[40,_,aw _ rb,rb,_|rb]]
 let fr:∀b∈fp,upd H s.heap.objs.size (.tup [x,y]) b=none:=λb j=>by rw[aZ (a_ (lt b j))];show(hf b j).1
 let L:=aL.FP (s:={s with heap:=s.heap.push {cls:=.type "tuple",data:=.seq #[p,q]},toks:=tk}) (h':=B) (fp:=fp) (t':=tk) I2 (λb o j g=>?_) λb j=>?_
 .show%[L|fr]
 .rcases Heap.get?_push_cases g with⟨G,F⟩|z;.rw[G,F];show D
  .show hk b o j z
 .let(f0,f1,f2,f3,f4,f5):=hf b j;show%[fr b j,f1,f2,f3,f4|f5]
def Wk:bootBuiltins "zip"=some (.type "zip"):=by decide +kernel
end
end L2
namespace HT
open PySem PySem.Spec PyProof.Rows
end HT
namespace L2
open PySem PySem.Spec PyProof.Rows PySem.W
section
variable {a:Addr}
variable {X:Cx}
def agO (K:W.Frag):R2:=λx y H Q=>∃a b xs ys,x=.ref a/\y=.ref b/\aV K H a xs/\aV K H b ys/\xs.length+ys.length<=sizeLine/\(xs=[]->H b=some (.tup ys))/\(ys=[]->xs≠[]->H a=some (.tup xs))/\
 ∀p H',aA H H'->H' p=some (.tup (xs++ys))->Q (.ref p) H'
def QZ:fJ X (binaryOp .Add) (agO X.K):=by
 intro ao s T H x y v u Q I rx ry h;let(a,b,xs,ys,rfl,rfl,ha,hb,hz,e1,e2,q):=h;cases rx;cases ry;let(its,r1,p1,_):=I.tuple ha;let(F,G,p2,_):=I.tuple hb;by_cases hx:xs=[]
 .let hi:its=[]:=r1.Fp.mpr hx;let((cls,dd,data,sl),Y,Z,n,hd):=id p1;let((O,J,L,M),B,j,n2,D):=id p2;simp only at Z hd j D;subst Z hd j D;show concat_meets %[0,_,Y|rb] %[0,_,B|rb] noFill_tuple_add seq_tuple_add sr sd (rg _ _)
   (tuple_addW0 a b its.toArray F.toArray n n2 dd J sl M (by simp[hi])) %[Y,B|%[1,.ref b,H,I,rb|q b H (aA.refl _) (by rw[hx];show e1 hx)]]
 .refine HT.ab_ p1 p2 (λz=>hx (r1.Fp.mp z)) (λz=>%[1,.ref a,H,I,rb|?_]) (λz=>?_) (by rw[<-r1.length,<-G.length];show hz)
  .let N:=G.Fp.mp z;show q a H (aA.refl _) (by rw[N,ej];show e2 N hx)
  .calc%[1,.ref s.heap.objs.size,_,I.laid (t':=s.toks) (o:=.tup (xs++ys)) (λb ob q=>af _ q) (ah _) ?_,rb|q _ _ (aA.upd (I.hok.fresh (ah _))) aq];show%[8,by rw[ax];show hz,_,r1.append G|IsTup.new _ _]
abbrev zl1 (h:Heap)(a:Addr):Heap:=h.push {cls:=.type "list_iterator",data:=.fields #[.ref a,.int 0 0]}
open Classical in
def agP (K:W.Frag)(j:Bool):R2:=λx y H Q=>∃n d es,n<=60/\gG K H n d x/\gG K H n (.lst es) y/\Q (.bl (if j then !decide (d∈es) else decide (d∈es))) H
def acA (M:X.A.units+64<cLine):fJ X (compareOp .In) (agP X.K false):=by intro ao s T H x y v u Q I J L h;let(n,d,es,hn,hd,B,q):=h;let(as,F):=hd.reads I J;let(bs,j):=B.reads I L;let G:=hd.lay;let D:=B.lay;rw[toP]at j;simp only[toP,PyData.canLay0,PyData.depth]at D;calc SeqAt.in_list_reads j F D.1 G.1 (by have:=wq (PyData.depthAll (eE es)) (toP d).depth;lia) %[1,.bl _,H,I,rb|?_];rw[Fz];show q
end
def acB {name:Str}{apos cpos:Pos}{T id:String}(K:W.Frag)(D:PlainAttrs T)(slot:Slot T name id)(B:typeOf (.builtin id)=pure (.type "method_descriptor"))(hm:rM X id r)(F:QE X o to)(j:attributeBase o name X.env (eval o X.env)=eval o X.env:=by rfl)(q:(apos.endLine==cpos.line)=true:=by rfl)(h:X.K=K:=by rfl):QE X (.Call (.Attribute o name apos) [] [] cpos) (Zn K T r to):=by subst h;show qp D slot B hm F j q
def SetT (w:World)(h:Heap)(a:Addr)(es:Array (Int×Value))(ep:Nat)(t:SetTable):Prop:=∃o,h.get? a=some o/\o.ExactSet/\o.data=.set es ep t/\t.fits es.size=true/\(w.params.followText "set-order"=true\/t.led=true)/\(t.plain=false\/es.size=0)
def SetT.mv {h h':Heap}(m:SetT w h a es ep t)(k:∀o,h.get? a=some o->h'.get? a=some o):SetT w h' a es ep t:=let %[o,p|q]:=m;%[0,o,k _ p|q]
def SetT.ty {s:Shared}(m:SetT w s.heap a es ep t):s.TypeIs (.ref a) "set":=let %[o,p,q|_]:=m;%[0,o,p|q.1]
def SetT.lt (m:SetT w h a es ep t):a<h.objs.size:=let %[o,p|_]:=m;a7 p
section
variable {prog:Program}{w:World}{A:Around}{E:AB}{s:Shared}{a:Addr}{es:Array (Int×Value)}{ep:Nat}{t:SetTable}
def Dm {j:Array (Int×Value)}{t':SetTable}(m:SetT w s.heap a es ep t)(hf:t'.fits j.size=true)(G:t'.led=t.led)(hp:t'.plain=false)(hz:j.size<scanBound)(q:∀h',Heap.SameBut a s.heap h'->SetT w h' a j (ep+1) t'->Q () {s with heap:=h' }):wpAny (model prog w) A (storeSet a j t') Q E s:=by let(o,D,B,hd,_,J,_):=m;calc wpAny_storeSet_of D hd (q _ (fk s.heap a (Obj.putSet j t')) ?_) (fits_of_scanBound hz);let F:=fg (Obj.putSet j t') D (by rw[putSet_of j t' hd];rfl);rw[putSet_of j t' hd]at F;show%[42,_,F,B,rb,hf,by rw[G];show J|.inl hp]
def Jz (a)(h:Q₁ (.ref s.heap.objs.size) {s with heap:=s.heap.push {cls:=.type "set",dict:=none,data:=.set #[] 0 (.fresh 0 0 (!w.params.followText "set-order"))} }):codeAny (model prog w) A (.call (.builtin "set.__new__") %[[.type "set",a]|[]]) (wants Q₁ E) s:=by
 calc codeAny_of_tree ?_;show wpAny _ A.in1 (do checkBuiltinCall "set.__new__" %[[.type "set",a]|[]];again (.builtin "set.__new__" %[[.type "set",a]|[]])) _ _ s;calc aa (mS (F.newCall_set_1 a) (ae %[plainId_quiet F.plain_set_new _|iS F.entry_set_new ?_]));rw[mM F.plain_set_new _];unfold Builtin.«set.__new__» Builtin.Frozenset.newClass;let j:=sub_set_self;let(hp,g,d,tk,os):=s;dsimp only
 wp_walk
 calc ny (ae ?_);dsimp only;simp only[newObj];calc aa (wpAny_alloc (ae ?_));show ae h
end
theorem wu {I:Type}:∀(l:List I) (i:Nat) (h:i<l.length),(l[i]::l.eraseIdx i).Perm l
 | a::l,0,h=>.refl _
 | a::l,i+1,h=>(List.Perm.swap a _ _).trans ((wu l i (by simpa using h)).cons a)
def ug {I:Type}(j:Nat->Nat)(xs:Array I):(pickOrder j xs).toList.Perm xs.toList:=by
 let q:∀(f k:Nat) (l:List I) (o:Array I),f=l.length->(pickOrder.go j f k l o).toList.Perm (o.toList++l):=by
  intro f
  induction f with
  | zero=>intro k l o e;cases l with|nil=>simp[pickOrder.go]|cons a r=>simp at e
  | succ f ih=>intro k l o e;let B:0<l.length:=xo;let hi:j k%l.length<l.length:=ki _ B;unfold pickOrder.go;rw[ag hi];dsimp only;calc(ih _ _ _ (by rw[List.length_eraseIdx,if_pos hi];lia)).trans ?_;rw[mE,be];show kF _ (by simpa using wu _ _ hi)
 have:=q xs.size 0 xs.toList #[] xp;simpa [pickOrder] using this
section
variable {prog:Program}{w:World}{A:Around}{E:AB}{s:Shared}
def JB (hn:n≠0)(h:∀i d,i<n->Q i {s with drawn:=d}):wpAny (model prog w) A (choose src n) Q E s:=λ_ _ _=>%[hn|h _ _ (ki _ (Nat.pos_of_ne_zero hn))]
theorem Ay {I:Type}:∀(n:Nat) (xs:List I) {s:Shared} {Q:List I->Shared->Prop},n=xs.length->(∀ys d,ys.Perm xs->Q ys {s with drawn:=d})->wpAny (model prog w) A (drawOrder n xs) Q E s
 | 0,xs,s,Q,e,h=>by have:xs=[]:=ly.mp e.symm;subst this;unfold drawOrder;show ae (h [] s.drawn .nil)
 | n+1,[],s,Q,e,h=>by simp at e
 | n+1,x::xs,s,Q,e,h=>by unfold drawOrder;calc aa (JB xp λi d hi=>?_);rw[ag hi];dsimp only;calc aa (Ay n _ (by rw[List.length_eraseIdx,if_pos hi];simp_all) λys d' p=>ae ?_);calc h _ d' ?_;show((p.cons _).trans (wu _ _ hi))
end
end L2
namespace PySem.F
def bZ:Slot "set_iterator" "__next__" "set_iterator.__next__":=
 .of (owner:="set_iterator") (n:="__next__") (by rw[typeLookup_type,builtinLookup_eq_fast];kernel_rfl) xz xz xz
  (by first|show .inl xz|show .inr xz) (by rw[isSubtype_type];kernel_rfl)
def mU:Slot "set_iterator" "__iter__" "set_iterator.__iter__":=
 .of (owner:="set_iterator") (n:="__iter__") (by rw[typeLookup_type,builtinLookup_eq_fast];kernel_rfl) xz xz xz
  (by first|show .inl xz|show .inr xz) (by rw[isSubtype_type];kernel_rfl)
def gD:entryFor table "set_iterator.__next__"=some Builtin.«set_iterator.__next__»:=entryFor_of_tree xy
def Dp:entryFor table "set.__iter__"=some Builtin.«frozenset.__iter__»:=entryFor_alias (id':="frozenset.__iter__") xy rb xz xy
def qw:Manifest.owners.lookup (String.ofList ['r','o','t','a','r','e','t','i','_','t','e','s'].reverse)=some Manifest.sig_set_iterator:=by kernel_rfl
def f9 (a):argsOk "set_iterator.__next__" %[[a]|[]]:=by unfold argsOk;rw[signature?_of (id:="set_iterator.__next__") (n:=['_','_','t','x','e','n','_','_']) (o:=['r','o','t','a','r','e','t','i','_','t','e','s']) xy qw];kernel_rfl
def rY:entryFor table "set_iterator.__iter__"=some Builtin.«dict_keyiterator.__iter__»:=entryFor_alias (id':="dict_keyiterator.__iter__") xy rb xz xy
def rZ (a):argsOk "set_iterator.__iter__" %[[a]|[]]:=by unfold argsOk;rw[signature?_of (id:="set_iterator.__iter__") (n:=['_','_','r','e','t','i','_','_']) (o:=['r','o','t','a','r','e','t','i','_','t','e','s']) xy qw];kernel_rfl
end PySem.F
namespace L2
open PySem PySem.Spec PyProof.Rows PySem.W
def dH (h:Heap)(it:Addr)(first:Value)(i:Nat)(a:Addr)(n ep:Nat):Prop:=∃o,h.get? it=some o/\o.cls=.type "set_iterator"/\o.data=.fields #[first,.int i 0,.ref a,.int n 0,.int ep 0]
def dH.ty {s:Shared}(x:dH s.heap it f i a n ep):s.TypeIs (.ref it) "set_iterator":=let %[o,p,q|_]:=x;%[0,o,p|q]
def dH.mv {h h':Heap}(x:dH h it f i a n ep)(k:∀o,h.get? it=some o->h'.get? it=some o):dH h' it f i a n ep:=let %[o,p|q]:=x;%[0,o,k _ p|q]
section
variable {prog:Program}{w:World}{A:Around}{E:AB}{s:Shared}{a it:Addr}{es:Array (Int×Value)}{ep i:Nat}{t:SetTable}{first:Value}
def xG {slot k:Nat}(x:dH s.heap it (.int slot u) i a es.size ep)(m:SetT w s.heap a es ep t)(hn:∀(Y:Around) (J:AB) (D:Option (Value×Nat)->Shared->Prop),D (some (v,k)) s->wpAny (model prog w) Y (setNext a slot i ep) D J s)(q:∀h',dH h' it (.int k 0) (i+1) a es.size ep->Heap.SameBut it s.heap h'->Q (some v) {s with heap:=h' }):wpAny (model prog w) A (pyNext (.ref it)) Q E s:=by let T:=x.ty;let(y,B,O,j):=id x;let(o,N,L,hd,hf,_,_):=m;walk_at"c";calc aa (pi B j ?_);dsimp only;calc aa (n0 N hd hf ?_);rw[if_neg xp];calc aa ?_;simp only[ci];calc hn _ _ _ ?_;dsimp only;calc aa (gy B j xp ?_);let G:=fg (Obj.mapFields (·.setIfInBounds 0 (rawInt (k:Int)))) B (kD (eB j _));calc aa (gy G (eB j _) xp ?_);let M:=fg (Obj.mapFields (·.setIfInBounds 1 (rawInt ((i:Int)+1)))) G (kD (eB (eB j _) _));calc ae %[0,_,rb|ae ?_];calc q _ %[2,_,M,(oS ..).trans ((oS ..).trans O)|?_] ((fk ..).trans (fk ..));rw[eB (eB j _)];simp[rawInt]
def yF {slot:Nat}(L:A.handled=none)(x:dH s.heap it (.int slot u) i a es.size ep)(m:SetT w s.heap a es ep t)(hn:∀(N:Around) (G:AB) (B:Option (Value×Nat)->Shared->Prop),B none s->wpAny (model prog w) N (setNext a slot i ep) B G s)(q:∀h',Heap.ExtBut it s.heap h'->Q none {s with heap:=h' }):wpAny (model prog w) A (pyNext (.ref it)) Q E s:=by let T:=x.ty;let(y,D,O,j):=id x;let(o,M,J,hd,hf,_,_):=m;walk_at"c";calc aa (pi D j ?_);dsimp only;calc aa (n0 M hd hf ?_);rw[if_neg xp];calc aa ?_;simp only[ci];calc hn _ _ _ ?_;dsimp only;calc aa (gy D j xp ?_);calc aa ?_;simp only[PySem.newExc,newTuple];walk_at"d";rw[show A.in1.handled=none from L];walk_at"f";show ae (q _ (((fk ..).extBut.push _).push _))
def FQ {J j:Nat}{hv:Int}(x:dH s.heap it (.ref tp) i a es.size ep)(m:SetT w s.heap a es ep t)(h1:s.heap.get? tp=some ot)(N:ot.data=.seq ps J)(hp:ps[i]?=some (.int j u))(L:es[j]?=some (hv,v))(q:∀h',dH h' it (.ref tp) (i+1) a es.size ep->Heap.SameBut it s.heap h'->Q (some v) {s with heap:=h' }):wpAny (model prog w) A (pyNext (.ref it)) Q E s:=by let T:=x.ty;let(y,D,O,B):=id x;let(o,G,M,hd,hf,_,_):=m;walk_at"c";calc aa (pi D B ?_);dsimp only;calc aa (n0 G hd hf ?_);rw[if_neg xp];calc aa (ge h1 N ?_);dsimp only;simp only[ci,hp];calc aa ?_;unfold setNextDrawn;calc aa (fS G hd hf ?_);dsimp only;rw[if_neg xp];simp only[L];calc ae ?_;calc aa (gy D B xp ?_);let Y:=fg (Obj.mapFields (·.setIfInBounds 1 (rawInt ((i:Int)+1)))) D (kD (eB B _));calc ae %[0,_,rb|ae ?_];calc q _ %[2,_,Y,(oS ..).trans O|?_] (fk ..);rw[eB B];simp[rawInt]
def JC (G:A.handled=none)(x:dH s.heap it (.ref tp) i a es.size ep)(m:SetT w s.heap a es ep t)(h1:s.heap.get? tp=some ot)(J:ot.data=.seq ps pe)(hp:ps[i]?=none)(q:∀h',Heap.ExtBut it s.heap h'->Q none {s with heap:=h' }):wpAny (model prog w) A (pyNext (.ref it)) Q E s:=by let T:=x.ty;let(y,B,N,j):=id x;let(o,L,D,hd,hf,_,_):=m;walk_at"c";calc aa (pi B j ?_);dsimp only;calc aa (n0 L hd hf ?_);rw[if_neg xp];calc aa (ge h1 J ?_);dsimp only;simp only[ci,hp];calc aa (gy B j xp ?_);let M:=fg (Obj.mapFields (·.setIfInBounds 0 (rawInt 0))) B (kD (eB j _));calc aa (gy M (eB j _) xp ?_);calc aa ?_;simp only[PySem.newExc,newTuple];walk_at"d";rw[show A.in1.handled=none from G];walk_at"f";show ae (q _ ((((fk ..).trans (fk ..)).extBut.push _).push _))
def Z0 (m:SetT w s.heap a es ep t)(hz:es.size<=4000)(q1:(w.params.followText "set-order"=true\/(w.params.followText "set-order"=false/\es.size<=1))->Q (.ref s.heap.objs.size) {s with heap:=s.heap.push {cls:=.type "set_iterator",data:=.fields #[.int 0 0,.int 0 0,.ref a,.int es.size 0,.int ep 0]} })(q2:∀(ps:List Nat) (d:Drawn),ps.Perm (List.range es.size)->Q (.ref (s.heap.objs.size+1)) {s with heap:=(s.heap.push {cls:=.type "tuple",data:=.seq (ps.map λi:Nat=>Value.int i 0).toArray}).push {cls:=.type "set_iterator",data:=.fields #[.ref s.heap.objs.size,.int 0 0,.ref a,.int es.size 0,.int ep 0]},drawn:=d}):wpAny (model prog w) A (pyIter (.ref a)) Q E s:=by
 let T:=m.ty;let(o,j,q,hd,hf,B,hp):=m;calc wb T F.slot_set_iter (c9 F.slot_set_iter T F.Dp ?_ (F.args_set_iter_1 _));unfold Builtin.«frozenset.__iter__» Builtin.Frozenset.slot0 Builtin.Frozenset.sizeOf;calc aa (aa (ae ?_));show wpAny _ _ (pure a) _ _ _;calc ae ?_;calc aa (aa (n0 j hd hf (ae ?_)));unfold setDrawn setsByText;calc aa (aa (fS j hd hf ?_));dsimp only;calc aa (aa (ny (ae ?_)));calc ae ?_;split
 .rename_i h;let h:(!w.params.followText "set-order" && (!t.plain&&decide (es.size > 1)))=true:=h;calc aa (Ay _ _ xp λps d pm=>?_);calc aa (vv ?_ (by rw[ab,pm.length_eq,dP];show ay hz xt));calc aa (wpAny_setEpoch_of (a:=a) (o:=o) (es:=es) (ep:=ep) (t:=t) (af _ j) hd hf ?_);calc aa (dA (ae %[17,_,rb,"set_iterator",_,%[0,_,aw _ rb|rb],F.bZ.lookup|?_]));have:=q2 ps d pm;simpa [rawInt,dE] using this
 .rename_i h;let h:¬(!w.params.followText "set-order" && (!t.plain&&decide (es.size > 1)))=true:=h;calc aa (ae ?_);calc aa (wpAny_setEpoch_of j hd hf ?_);calc aa (dA (ae %[17,_,rb,"set_iterator",_,%[0,_,aw _ rb|rb],F.bZ.lookup|?_]));have:=q1 (by
   cases e:w.params.followText "set-order" with
   | true=>show .inl rfl
   | false=>
    calc .inr %[rb|?_];rcases hp with hp|hp;.simp[e,hp]at h;show h
    .lia)
  simpa [rawInt] using this
def Z1 (B:s.TypeIs (.ref a) "set")(h:Q false s):wpAny (model prog w) A (Builtin.List.listLengthHint (.ref a)) Q E s:=by
 unfold Builtin.List.listLengthHint;calc aa (on B PySem.F.slot_set_len.lookup ?_);generalize q:("set.__len__":String)=id0
 wp_delta
 rw[show splitId id0=some ("set","__len__") from by subst q;decide +kernel];subst q;calc aa (ib (T:="set") (b:=true) B (by rw[isSubtype_type];kernel_rfl) ?_);calc wpAny_ite_split (λj=>absurd j xt) (λ_=>?_);calc wpAny_ite_split (λ_=>?_) (λj=>absurd xz j);calc aa (tJ B ?_);show ae h
def Bs (x:dH s.heap it first i a n ep)(q:Q (.ref it) s):wpAny (model prog w) A (pyIter (.ref it)) Q E s:=by calc wb x.ty F.mU (c9 F.mU x.ty F.rY ?_ (F.rZ _));show wpAny _ _ (ret (.ref it)) _ _ s;show ae %[17,_,rb,"set_iterator",_,x.ty,F.bZ.lookup|q]
def TY {tp:Addr}{ps:List Nat}(N:A.handled=none)(J:a≠it)(L:tp≠it)(hp:∀j∈ps,j<es.size)(Y:ps.length=es.size):Walks prog w A it [it,tp,a] [it] es.size (λi v=>∃j e,ps[i]?=some j/\es[j]?=some e/\v=e.2)
   (λi h=>dH h it (.ref tp) i a es.size ep/\SetT w h a es ep t/\∃q,h.get? tp=some q/\q.data=.seq (ps.map λi:Nat=>Value.int i 0).toArray 0) where
 sub:=λb F=>by simp at F;simp[F]
 frame:=λ_ _ _ st hk=>%[st.1.mv λo e=>hk it xp o e,st.2.1.mv λo e=>hk a xp o e|let %[q,h1|D]:=st.2.2;%[0,q,hk tp xp _ h1|D]]
 item:=λi s Q E hi st G=>by
  let(x,m,q,h1,D):=st;let B:i<ps.length:=by simp_all
  let M:=hp _ (ba B);calc FQ x m h1 D (j:=ps[i]) (u:=0) (by simp[B]) (hv:=es[ps[i]].1) (v:=es[ps[i]].2) (by simp[M]) λh' O k=>?_;show G _ h' s.toks %[1,ps[i],es[ps[i]],by simp[B],by simp[M]|rb] %[14,O,m.mv λo e=>k.extBut a o J e,q,k.extBut tp q L h1|D] λb o F e=>k.extBut b o (λy=>F (by simp[y])) e
 done:=λs Q E st G=>by let(x,m,q,h1,D):=st;show JC N x m h1 D (by simp[Y]) λh' k=>G h' s.toks λb o F e=>k b o (λy=>F (by simp[y])) e
 self:=λi s Q E st G=>Bs st.1 G
def Ii (m:SetT w s.heap a es ep t)(j:w.params.followText "set-order"=true)(h:Q (((pickOrder (w.params.setOrder a ep) es)[i]?).map λe=>(e.2,slot)) s):wpAny (model prog w) A (setNext a slot i ep) Q E s:=by let(o,q,B,hd,hf,_,_):=m;unfold setNext setsByText;calc aa (fS q hd hf ?_);dsimp only;calc aa (aa (ny (ae ?_)));rw[if_pos (by show j)];rw[if_neg xp];unfold setWalk setsByText;calc aa ?_;calc aa (fS q hd hf ?_);dsimp only;calc aa (aa (ny (ae ?_)));rw[if_pos (by show j)];calc aa (ny (ae ?_));show ae h
def Dq (m:SetT w s.heap a es ep t)(B:w.params.followText "set-order"=false)(hz:es.size<=1)(h:Q (match es[SetTable.below t.place slot]?,t.place[SetTable.below t.place slot]? with|some (_,x),some j=>some (x,j+1)|_,_=>none) s):wpAny (model prog w) A (setNext a slot i ep) Q E s:=by
 let(o,F,D,hd,hf,q,_):=m;let q:t.led=true:=by rcases q with z|z;rw[B]at z;cases z;show z
 unfold setNext setsByText;calc aa (fS F hd hf ?_);dsimp only;calc aa (aa (ny (ae ?_)));rw[if_neg (by show ¬w.params.followText "set-order"=true;rw[B];simp)];split
 .rename_i z;let z:(!t.plain&&decide (es.size > 1))=true:=z;simp at z;lia
 .calc aa ?_;show wpAny _ _ (if (!t.led && !es.isEmpty)=true then unsupported "set:maker-not-led" else pure ()) _ _ _;rw[if_neg (by rw[q];simp)];show ae (ae h)
def Wm (J:A.handled=none)(F:a≠it)(j:w.params.followText "set-order"=true):Walks prog w A it [it,a] [it] es.size (λi v=>∃e,(pickOrder (w.params.setOrder a ep) es)[i]?=some e/\v=e.2)
   (λi h=>dH h it (.int (0:Nat) 0) i a es.size ep/\SetT w h a es ep t) where
 sub:=λb j=>by simp at j;simp[j]
 frame:=λ_ _ _ st hk=>%[st.1.mv λo e=>hk it xp o e|st.2.mv λo e=>hk a xp o e]
 item:=λi s Q E hi st D=>by
  let hsz:(pickOrder (w.params.setOrder a ep) es).size=es.size:=by have:=(ug (w.params.setOrder a ep) es).length_eq;simpa using this
  let B:i<(pickOrder (w.params.setOrder a ep) es).size:=by simp_all
  calc xG (slot:=0) (k:=0) (v:=(pickOrder (w.params.setOrder a ep) es)[i].2) st.1 st.2 (λN G L q=>Ii st.2 j (by rw[b6 B];show q)) λh' M k=>?_;show D _ h' s.toks %[0,_,by rw[b6 B]|rb] %[M|st.2.mv λo e=>k.extBut a o F e] λb o j e=>k.extBut b o (λy=>j (by simp[y])) e
 done:=λs Q E st D=>by
  let hsz:(pickOrder (w.params.setOrder a ep) es).size=es.size:=by have:=(ug (w.params.setOrder a ep) es).length_eq;simpa using this
  refine yF J st.1 st.2 (λN G L q=>Ii st.2 j (by rw[l_ (kN hsz)];show q)) λh' k=>D h' s.toks λb o j e=>k b o (λy=>j (by simp[y])) e
 self:=λi s Q E st D=>Bs st.1 D
def T4 {p:Array Nat}(h:p.size=1):SetTable.below p 0=0:=by unfold SetTable.below;rw[h];simp[SetTable.below.go]
def Wn {p:Array Nat}(h:p.size=1):SetTable.below p (p.getD 0 0+1)=1:=by
 let⟨l⟩:=p
 match l,h with| [x],_=>simp[SetTable.below,SetTable.below.go]
def T5 (L:A.handled=none)(G:a≠it)(j:w.params.followText "set-order"=false)(hz:es.size<=1):Walks prog w A it [it,a] [it] es.size (λi v=>∃e,es[i]?=some e/\v=e.2) (λi h=>∃slot:Nat,dH h it (.int slot 0) i a es.size ep/\SetT w h a es ep t/\t.place.size=es.size/\slot=(if i=0 then 0 else t.place.getD 0 0+1)) where
 sub:=λb j=>by simp at j;simp[j]
 frame:=λ_ _ _ st hk=>let %[slot,x,m|r]:=st;%[2,slot,x.mv λo e=>hk it xp o e,m.mv λo e=>hk a xp o e|r]
 item:=λi s Q E hi st D=>by
  let(slot,x,m,hp,hs):=st;let F:i=0:=xo;subst F;rw[if_pos rfl]at hs;subst hs;let h1:es.size=1:=xo;let B:t.place.size=1:=xo;refine xG (slot:=0) (k:=t.place.getD 0 0+1) (v:=es[0].2) x m (λO J M q=>Dq m j hz ?_) λh' N k=>?_
  .rw[T4 B,b6 hi,b6 (by lia:0<t.place.size)];let e:t.place.getD 0 0=t.place[0]:=by simp[Array.getD,B]
   rw[e]at q;show q
  .show D _ h' s.toks %[0,es[0],by simp[h1]|rb] %[11,_,N,m.mv λo e=>k.extBut a o G e,hp|rb] λb o j e=>k.extBut b o (λy=>j (by simp[y])) e
 done:=λs Q E st D=>by
  let(slot,x,m,hp,hs):=st;calc yF L x m (λO J M q=>Dq m j hz ?_) λh' k=>D h' s.toks λb o j e=>k b o (λy=>j (by simp[y])) e;rcases(show es.size=0\/es.size=1 by lia) with h0|h1
  .rw[l_ xo];show q
  .rw[if_neg xo]at hs;subst hs;rw[Wn xo,l_ hz];show q
 self:=λi s Q E st D=>by let(slot,x,_):=st;show Bs x D
end
def Bu {l:List Value}(h:ItemsOf P acc n)(F:l.length=n)(D:∀i v,P i v->l[i]?=some v):acc.toList=l:=by
 apply iA;intro j;by_cases B:j<n
 .let q:j<acc.size:=by rw[h.1];show B
  let e:acc[j]?=some acc[j]:=by simp[q]
  rw[D j _ (h.2 j _ e),ck,e]
 .rw[eC (by rw[bq,h.1];show lS B),eC (by simp_all)]
section
variable {prog:Program}{w:World}{A:Around}{E:AB}{s:Shared}{a:Addr}{es:Array (Int×Value)}{ep i:Nat}{t:SetTable}
variable {X:Cx}
def Bv {R:Result->Shared->Prop}{rs:Bool}{n:Nat}{P:Nat->Value->Prop}{St:Nat->Heap->Prop}(W:Walks prog w A.in1 I fp [I] n P St)(F:S0∉fp)(res:Value)(c₀:Nat)(hS:s.heap.get? S0=some {cls:=.type "list",data:=.seq #[] c₀})(st:St 0 s.heap)(hn:n<=sizeLine)(hT:s.TypeIs (.ref a) "set")(hR:∀h' tk j D,(∀b o,b≠S0->b≠I->s.heap.get? b=some o->h'.get? b=some o)->h'.get? S0=some {cls:=.type "list",dict:=none,data:=.seq j D,slots:=#[]}->ItemsOf P j n->R (.ok (.ret res)) {s with heap:=h',toks:=tk}):wpAny (model prog w) A.in1 (do
   let room <- holding [Value.ref I] (Builtin.List.listLengthHint (.ref a))
   if room||rs then rule "list.extend.makes-room";Builtin.List.listTouch (.ref S0)
   again (.builtin "list.extend.loop" %[[.ref S0,.ref I,res]|[]]))
   (λY s'=>match Y with|.done f=>R (.ok f) s'|.again D=>D.quiet=true/\codeAny (model prog w) A D R s') (λe s'=>R (.error e) s') s:=by
 let G:∀(h:Heap) (c₁ tk:Nat),St 0 h->(∀b o,b≠S0->s.heap.get? b=some o->h.get? b=some o)->
   h.get? S0=some {cls:=.type "list",data:=.seq #[] c₁}->codeAny (model prog w) A (.builtin "list.extend.loop" %[[.ref S0,.ref I,res]|[]]) R {s with heap:=h,toks:=tk}:=by
  intro h c₁ tk Z hk hS₁;calc codeAny_extend_loopS W.toS hn S0 F res n 0 _ #[] c₁ rb (b8 _) Z hS₁ (ItemsOf.nil _) λs' j D hm O L=>?_;rw[Moved.eq_with hm];calc hR s'.heap s'.toks j D (λb o B hbI e=>hm.heap b o (λq=>?_) (hk b o B e)) O L;rcases bd.mp q with e'|q
  .show B e'
  .show hbI (am.mp q)
 calc aa (eD (Z1 hT ?_));calc wpAny_ite_split (λ_=>?_) (λ_=>ae %[plainId_quiet wm _|G _ c₀ _ st (λb o _ e=>e) hS]);calc aa (gT ?_);calc aa ?_;show wpAny _ _ (updateSeq S0 (·.push .none) >>= λ_=>updateSeq S0 (·.pop)) _ _ _;calc aa (wpAny_updateSeq hS rb ?_);let J:=fg (Obj.mapSeq (·.push Value.none)) hS rfl;calc wpAny_updateSeq (hz:=by seq_fits) J rb ?_;let N:=fg (Obj.mapSeq (·.pop)) J rfl;refine ae %[plainId_quiet wm _|G _ _ _ ?_ (λb o B e=>?_) N]
 .refine W.frame 0 _ _ st λb B o e=>?_
  let M:b≠S0:=λh=>F (h ▸ B);show(ja _ _ (kr M)).trans ((ja _ _ (kr M)).trans e)
 .show(ja _ _ (kr B)).trans ((ja _ _ (kr B)).trans e)
def T6 (hh:A.handled=none)(m:SetT w s.heap a es ep t)(hz:es.size<=4000)(S0)(O:S0≠a)(res)(c₀)(hS:s.heap.get? S0=some {cls:=.type "list",data:=.seq #[] c₀})(hR:∀h' tk d q G,(∀b o,b≠S0->s.heap.get? b=some o->h'.get? b=some o)->h'.get? S0=some {cls:=.type "list",dict:=none,data:=.seq q G,slots:=#[]}->q.toList.Perm (es.toList.map (·.2))->R (.ok (.ret res)) {s with heap:=h',toks:=tk,drawn:=d}):wpAny (model prog w) A.in1 (Builtin.List.listExtendWith (.ref S0) (.ref a) res)
   (λfin s'=>match fin with|.done f=>R (.ok f) s'|.again G=>G.quiet=true/\codeAny (model prog w) A G R s') (λe s'=>R (.error e) s') s:=by
 let yG:es.size<=sizeLine:=ay hz xt;let N:=m.lt;let F:=a7 hS;unfold Builtin.List.listExtendWith;calc aa (tJ (T:="set") m.ty ?_);let h1:Builtin.List.listSameRef (.ref S0) (.ref a)=false:=by simp[Builtin.List.listSameRef,O]
 let n1:(Value.type "set" == Value.type "list")=false:=by decide
 let n2:(Value.type "set" == Value.type "tuple")=false:=by decide
 simp only[h1,n1,n2,qi,a9,if_false];refine aa (Z0 m hz (λc=>?_) (λps d pm=>?_))
 .let L:SetT w (s.heap.push {cls:=.type "set_iterator",data:=.fields #[.int 0 0,.int 0 0,.ref a,.int es.size 0,.int ep 0]}) a es ep t:=m.mv λo e=>af _ e
  let hx:dH (s.heap.push {cls:=.type "set_iterator",data:=.fields #[.int 0 0,.int 0 0,.ref a,.int es.size 0,.int ep 0]}) s.heap.objs.size (.int (0:Nat) 0) 0 a es.size ep:=%[2,_,aw _ rb,rb|rb]
  let J:S0∉[s.heap.objs.size,a]:=by simp only[bd,ic,or_false,not_or];show%[a_ F|O]
  rcases c with c|⟨c,c1⟩
  .refine Bv (a:=a) (Wm (t:=t) hh (a_ N) c) J res c₀ (af _ hS) %[hx|L] yG (SetT.ty (s:={s with heap:=_}) L) λh' tk q G k D B=>?_
   let hsz:=(ug (w.params.setOrder a ep) es).length_eq;calc hR h' tk s.drawn q G (λb o Z e=>k b o Z (a_ (a7 e)) (af _ e)) D ?_;rw[Bu (l:=(pickOrder (w.params.setOrder a ep) es).toList.map (·.2)) B (by simpa using hsz) (λi v hv=>by let(e,Y,rfl):=hv;simp[Y])];show(ug _ _).map _
  .refine Bv (a:=a) (T5 (t:=t) hh (a_ N) c c1) J res c₀ (af _ hS) %[11,0,hx,L,?_|rb] yG (SetT.ty (s:={s with heap:=_}) L) λh' tk q G k D B=>?_
   .let(o,_,_,_,hf,_):=m;simp only[SetTable.fits,dm,beq_iff_eq]at hf;show hf.1
   .calc hR h' tk s.drawn q G (λb o Z e=>k b o Z (a_ (a7 e)) (af _ e)) D ?_;rw[Bu (l:=es.toList.map (·.2)) B xp (λi v hv=>by let(e,Y,rfl):=hv;simp[Y])]
 .generalize M:s.heap.push {cls:=.type "tuple",data:=.seq (ps.map λi:Nat=>Value.int i 0).toArray}=h1;let k1:∀b o,s.heap.get? b=some o->h1.get? b=some o:=λb o e=>by rw[<-M];show af _ e
  let z1:h1.objs.size=s.heap.objs.size+1:=by rw[<-M];show dE ..
  let g1:h1.get? s.heap.objs.size=some {cls:=.type "tuple",data:=.seq (ps.map λi:Nat=>Value.int i 0).toArray}:=by rw[<-M];show aw _ rfl
  let L:SetT w (h1.push {cls:=.type "set_iterator",data:=.fields #[.ref s.heap.objs.size,.int 0 0,.ref a,.int es.size 0,.int ep 0]}) a es ep t:=m.mv λo e=>af _ (k1 _ _ e);let hx:dH (h1.push {cls:=.type "set_iterator",data:=.fields #[.ref s.heap.objs.size,.int 0 0,.ref a,.int es.size 0,.int ep 0]}) (s.heap.objs.size+1) (.ref s.heap.objs.size) 0 a es.size ep:=%[2,_,by rw[<-z1];show aw _ rb,rb|rb]
  let hp:∀j∈ps,j<es.size:=λj hj=>bz.mp (pm.mem_iff.mp hj);let hl:ps.length=es.size:=by rw[pm.length_eq,dP]
  let J:S0∉[s.heap.objs.size+1,s.heap.objs.size,a]:=by simp only[bd,ic,or_false,not_or];show%[a_ (fb F),a_ F|O]
  calc Bv (a:=a) (s:={s with heap:=h1.push {cls:=.type "set_iterator",data:=.fields #[.ref s.heap.objs.size,.int 0 0,.ref a,.int es.size 0,.int ep 0]},drawn:=d}) (TY (t:=t) (tp:=s.heap.objs.size) (ps:=ps) hh (a_ (fb N)) (a_ (e_ _)) hp hl) J res c₀ (af _ (k1 _ _ hS)) %[14,hx,L,_,af _ g1|rb] yG (SetT.ty (s:={s with heap:=_,drawn:=d}) L) λh' tk q G k D B=>?_;calc hR h' tk d q G (λb o Z e=>k b o Z (a_ (fb (a7 e))) (af _ (k1 _ _ e))) D ?_;rw[Bu (l:=ps.map λj=>(es.getD j (0,.none)).2) B (by simp[hl]) (λi v hv=>by let(j,e,hj,Y,rfl):=hv;rw[bb,hj];simp[fN,Y])]
  calc(pm.map _).trans (xi ?_);apply iA;intro j;rw[bb,bb];by_cases h:j<es.size;.rw[iX h];simp[h,fN]
  .rw[eC (by simpa using h),eC (by simpa using h)];rfl
def O7 (O:A.handled=none)(m:SetT w s.heap a es ep t)(hz:es.size<=4000)(h:∀(h':Heap) (tk:Nat) (d:Drawn) (G:List Value),(∀b o,s.heap.get? b=some o->h'.get? b=some o)->G.Perm (es.toList.map (·.2))->R G {s with heap:=h',toks:=tk,drawn:=d}):wpAny (model prog w) A (collect (.ref a)) R E s:=by
 let M:=m.lt;unfold collect;calc aa (wpAny_runValue (iS entry_proto_collect' ?_));rw[mM PySem.F.plain_proto_collect _];show wpAny _ A.in1 (newList [] >>= λl=>again (.builtin "list.__iadd__" %[[l,.ref a]|[]])) _ _ s;calc aa (dA ?_);calc ae %[plainId_quiet PySem.F.plain_list_iadd _|iS entry_list_iadd' ?_];rw[mM PySem.F.plain_list_iadd _];let N:(s.heap.push {cls:=.type "list",data:=.seq ([]:List Value).toArray}).get? s.heap.objs.size=some {cls:=.type "list",data:=.seq #[]}:=aw _ rfl;show wpAny _ A.in1 (Builtin.List.listExtendWith (.ref s.heap.objs.size) (.ref a) (.ref s.heap.objs.size)) _ _ _;let L:=T6 (prog:=prog) (A:=A) (s:={s with heap:=s.heap.push {cls:=.type "list",data:=.seq ([]:List Value).toArray} })
  (R:=λ(q:Result) (s':Shared)=>∃(h':Heap) (tk:Nat) (d:Drawn) (j:Array Value) (F:Nat),q=.ok (.ret (.ref s.heap.objs.size))/\s'={s with heap:=h',toks:=tk,drawn:=d}/\
   (∀b o,s.heap.get? b=some o->h'.get? b=some o)/\h'.get? s.heap.objs.size=some {cls:=.type "list",dict:=none,data:=.seq j F,slots:=#[]}/\j.toList.Perm (es.toList.map (·.2)))
  O (m.mv λo e=>af _ e) hz s.heap.objs.size (g9 M) (.ref s.heap.objs.size) 0 N
  (λh' tk d j F hk D B=>%[38,h',tk,d,j,F,rb,rb,λb o e=>hk b o (a_ (a7 e)) (af _ e),D|B])
 refine fm L (λJ s' x=>?_) λe s' x=>?_
 .cases J with
  | done f=>let(h',tk,d,j,F,e,rfl,hk,D,B):=x;cases e;show wpAny _ A (load s.heap.objs.size >>= _) _ _ _;calc aa (wpAny_load D ?_);show ae (h h' tk d j.toList hk B)
  | again c₁=>calc%[x.1|kP x.2 λq Y y=>?_];let(h',tk,d,j,F,rfl,rfl,hk,D,B):=y;show wpAny _ A (load s.heap.objs.size >>= _) _ _ _;calc aa (wpAny_load D ?_);show ae (h h' tk d j.toList hk B)
 .let(_,_,_,_,_,e,_):=x;cases e
def aL.agQ {ao:AC}{C:St}{H:Hp}{s:Shared}(I:aL X ao C H s)(d:Drawn):aL X ao C H {s with drawn:=d}:=%[I.ok,I.os,I.bare,I.base,I.loc,I.cell,I.free,I.lV,I.pin,I.hok,I.len,I.gh|I.tk]
end
end L2
namespace L2
open PySem PySem.Spec PyProof.Rows PySem.SeqAt PySem.MeetsSeq PySem.MeetsSeq3 PySem.W
open AutoSeq1 (wpAny_loadPart')
open PySem.StrLaws Builtin Builtin.Str in
theorem FT (s)(c hi limit):∀(k a:Nat) (st:Array Nat×Nat),st.snd<=a->st.fst.size+k<=limit->
  (forIn (List.range' a k) st (occBody s (S [c]) hi limit)).run.fst.size=st.fst.size+((List.range' a k).filter λi=>decide (i+1<=hi)&&subAt s (S [c]) i).length
 | 0,a,st,h1,h2=>rfl
 | k+1,a,st,h1,h2=>by
  rw[List.range'_succ,iP];let q:(S [c]).length=1:=rfl;unfold occBody;split
  .rename_i j;let F:((st.fst.push a,a+(S [c]).length).snd)<=a+1:=by show a+(S [c]).length<=a+1;rw[q];show ah _
   have:=FT s c hi limit k (a+1) (st.fst.push a,a+(S [c]).length) F (by show (st.fst.push a).size+k<=limit;rw[Array.size_push];lia);calc this.trans ?_;let B:(decide (a+1<=hi)&&subAt s (S [c]) a)=true:=by let D:=j.1.2;rw[q]at D;rw[j.2];simp;show D
   rw[wv,if_pos B,bP];show (st.fst.push a).size+_=_;rw[Array.size_push];lia
  .rename_i j;have:=FT s c hi limit k (a+1) (st.fst,st.snd) (gz h1) (by show st.fst.size+k<=limit;show av h2);calc this.trans ?_;let B:¬(decide (a+1<=hi)&&subAt s (S [c]) a)=true:=λz=>j (by
    simp only[dm,eK]at z;show%[%[%[xo|h1]|by rw[q];show z.1]|z.2])
   rw[wv,if_neg B]
open Builtin.Str in
def subAt_one (l:List Nat)(c i)(hi:i<l.length):subAt (S l) (S [c]) i=decide (l[i]=c):=by
 unfold subAt;let e:(S l).cps.extract i (i+(S [c]).length)=#[l[i]]:=by
  show l.toArray.extract i (i+1)=#[l[i]];apply Array.ext;.simp;lia
  .intro j h1 q;have:j=0:=by simp at q;show q
   subst this;simp
 rw[e];show (#[l[i]] == #[c])=_;by_cases h:l[i]=c;.subst h;simp
 .rw[ai h];simpa using h
open Builtin.Str in
def Wo (l)(c):(occurrences (S l) (S [c]) 0 (S l).length ((S l).length+1)).length=l.count c:=by
 let hn:(S l).length=l.length:=by show l.toArray.size=l.length;simp
 rw[PySem.StrLaws.occ_eq,bq,hn];rw[FT (S l) c l.length (l.length+1) (l.length+1-0) 0 (#[],0) (ah _) xp];rw[<-List.range_eq_range',show l.length+1-0=l.length+1 from rb,fh,gp];let e1:([l.length].filter λi=>decide (i+1<=l.length)&&subAt (S l) (S [c]) i)=[]:=by simp;lia
 rw[e1,ej];let j:∀k,k<=l.length->((List.range k).filter λi=>decide (i+1<=l.length)&&subAt (S l) (S [c]) i).length=(l.take k).count c:=by
  intro k
  induction k with
  | zero=>intro _;simp
  | succ k ih=>
   intro hk;rw[fh,gp,ax,ih (av hk),bX,ag hk,wd];let e2:(decide (k+1<=l.length)&&subAt (S l) (S [c]) k)=decide (l[k]=c):=by rw[subAt_one l c k xo];simp;lia
   rw[wv,e2];by_cases h:l[k]=c;.simp[h]
   .simp[h]
 have:=j l.length (ah _);rw[cy]at this;simpa using this
section
variable {X:Cx}
def acC:V->List V->Hp->VK->Prop:=λx vs H Q=>∃(l:List Nat) (c:Nat),x=.str (S l)/\vs=[.str (S [c])]/\Q (.int (l.count c:Nat)) H
def Ij:rM X "str.count" acC:=by intro ao s T H x vs v us Q I D B h;let(l,c,rfl,rfl,q):=h;let(t,rfl):=D;let(u,rfl,j):=B.one;let(t',rfl):=j;calc call_gives F.slot_str_count (typeIs_str s _ t) F.entry_str_count (F.args_str_count_2 _ _) (gives_str_count (S l) (S [c]) t t') ?_;show EP X ao T Q _ _;rw[<-Wo]at q;show%[1,.int (Builtin.Str.occurrences (S l) (S [c]) 0 (S l).length ((S l).length+1)).length,H,I.tok _,%[s.toks|rb]|q]
end
end L2
namespace L2
open PySem PySem.Spec PyProof.Rows
def iB (prog:Program)(w:World)(A:Around)(s:Shared)(I:PyProof.Rows.KeyKind)(kn:SortKind):Prop:=∀(E:AB) (x y:Value) (a b:I.α) (Q:Bool->Shared->Prop),I.keyOf x=some a->I.keyOf y=some b->Q (I.blt a b) s->wpAny (model prog w) A (keyLt' kn x y) Q E s
def iB.one {I:PyProof.Rows.KeyKind}(h:I.OneLt):iB prog w A s I oneType':=λE x y a b Q ha j q=>by rw[keyLt'_oneType];show h prog w A E s x y a b ha j q
section
variable {prog:Program}{w:World}{A:Around}{E:AB}{s:Shared}{K:PyProof.Rows.KeyKind}{kn:SortKind}
variable {W:Type}{le:W->W->Prop}
def bA {W:Type}{c:Prop}{d:Decidable c}{a b:StateT SortSt Sem W}{Q:W->SortSt->Prop}{st:SortSt}(j:c)(h:wpS (model prog w) A E s a Q st):wpS (model prog w) A E s (@ite _ c d a b) Q st:=by rw[if_pos j];show h
def aY {W:Type}{c:Prop}{d:Decidable c}{a b:StateT SortSt Sem W}{Q:W->SortSt->Prop}{st:SortSt}(j:¬c)(h:wpS (model prog w) A E s b Q st):wpS (model prog w) A E s (@ite _ c d a b) Q st:=by rw[if_neg j];show h
def yH {st:SortSt}{x y:Keyed}{a b:K.α}{Q:Option Bool->SortSt->Prop}(O:iB prog w A s K kn)(hk:kindOf st=kn)(ha:K.keyOf x.1=some a)(j:K.keyOf y.1=some b)(h:Q (some (K.blt a b)) st):wpS (model prog w) A E s (lt' x y) Q st:=by rw[lt'_eq];calc a8 (r_ ?_);rw[hk];calc a8 (wpS_lift (kg (O _ x.1 y.1 a b _ ha j %[rb|?_])));show bo h
def cQ {st:SortSt}{arr:Array Keyed}{i:Nat}(hi:i<arr.size){Q:Keyed->SortSt->Prop}(h:Q arr[i] st):wpS (model prog w) A E s (elem' arr i) Q st:=by rw[elem'_eq,b6 hi];show bo h
noncomputable def jF (K:PyProof.Rows.KeyKind)(left:Bool)(j:K.α)(arr:Array Keyed)(i:Nat):Bool:=if left=true then K.blt (KK K arr i) j else !K.blt j (KK K arr i)
def su (j:KeysOf K arr)(hi:i<arr.size):K.keyOf arr[i].1=some (KK K arr i):=by let(a,ha):=j arr[i] xp;unfold KK;rw[b6 hi];simp[ha]
def vd {left:Bool}{q:Keyed}{D:K.α}{arr:Array Keyed}{i:Nat}{st:SortSt}{Q:Option Bool->SortSt->Prop}(O:iB prog w A s K kn)(hk:kindOf st=kn)(j:K.keyOf q.1=some D)(B:KeysOf K arr)(hi:i<arr.size)(h:Q (some (jF K left D arr i)) st):wpS (model prog w) A E s (do
   let p <- elem' arr i
   if left=true then lt' p q
   else do
    let r <- lt' q p
    pure (r.map λb=>!b)) Q st:=by
 calc a8 (cQ hi ?_);unfold jF at h;cases left with| true=>show yH O hk (su B hi) j h| false=>show a8 (yH O hk j (su B hi) (bo h))
def mz {left:Bool}{key:Keyed}{Z:K.α}{arr:Array Keyed}{lo n B:Nat}{st:SortSt}{Q:Option Nat->SortSt->Prop}(hO:iB prog w A s K kn)(hk:kindOf st=kn)(L:K.keyOf key.1=some Z)(O:KeysOf K arr)(hn:B<n)(hsz:lo+n<=arr.size)(mono:∀i j,i<=j->j<n->jF K left Z arr (lo+j)=true->jF K left Z arr (lo+i)=true)(h:∀k,k<=n->(∀i,i<k->jF K left Z arr (lo+i)=true)->(∀i,k<=i->i<n->jF K left Z arr (lo+i)=false)->Q (some k) st):wpS (model prog w) A E s ((sortPriv% PySem.Builtin.gallop) left key arr lo n B) Q st:=by
 show wpS _ _ _ _ (_ >>= _) _ _;dsimp only;generalize hbp:(λi=>jF K left Z arr (lo+i))=bp;let Y:∀i,jF K left Z arr (lo+i)=bp i:=λi=>by rw[<-hbp]
 let abD:∀i j,i<=j->j<n->bp j=false\/bp i=true:=λi j h1 G=>by
  cases e:bp j with| false=>show .inl rfl| true=>show .inr (by rw[<-Y];show mono i j h1 G (by rw[Y];show e))
 let h':∀k,k<=n->(∀i,i<k->bp i=true)->(∀i,k<=i->i<n->bp i=false)->Q (some k) st:=λk h1 G D=>h k h1 (λi hi=>by rw[Y];show G i hi) λi hi hj=>by rw[Y];show D i hi hj
 let up:∀i j,i<=j->j<n->bp j=true->bp i=true:=λi j h1 G D=>by
  rcases abD i j h1 G with z|z;.rw[z]at D;cases D
  .show z
 let dn:∀i j,i<=j->j<n->bp i=false->bp j=false:=λi j h1 G D=>by
  rcases abD i j h1 G with z|z;.show z
  .rw[z]at D;cases D
 calc a8 (vd hO hk L O (i:=lo+B) xo ?_);rw[Y];dsimp only;let fin:∀l0 h0,l0<=h0->h0<=n->(∀i,i<l0->bp i=true)->(∀i,h0<=i->i<n->bp i=false)->∀(f:Nat->(Option (Option Nat)×Nat×Nat)->StateT SortSt Sem (ForInStep (Option (Option Nat)×Nat×Nat))) (F:(Option (Option Nat)×Nat×Nat)->StateT SortSt Sem (Option Nat)),
   (∀x l u (Q':ForInStep (Option (Option Nat)×Nat×Nat)->SortSt->Prop),u<=n->(u<=l->Q' (.done (none,l,u)) st)->(l<u->Q' (.yield (if bp (l+(u-l)/2)=true then (none,l+(u-l)/2+1,u) else (none,l,l+(u-l)/2))) st)->wpS (model prog w) A E s (f x (none,l,u)) Q' st)->
   (∀l u,Q (some u) st->wpS (model prog w) A E s (F (none,l,u)) Q st)->
   wpS (model prog w) A E s (forIn [0:n] ((none:Option (Option Nat)),l0,h0) f >>= F) Q st:=by
  intro l0 h0 hle hh t1 t2 f F hf hF;refine a8 (iE (fF (I:=λ(x:Nat) (c:Option (Option Nat)×Nat×Nat) (st':SortSt)=>∃l u,c=(none,l,u)/\st'=st/\l<=u/\u<=n/\(∀i,i<l->bp i=true)/\(∀i,u<=i->i<n->bp i=false)/\u-l<=n-x)
   (Q:=λ(c:Option (Option Nat)×Nat×Nat) (st':SortSt)=>∃l u,c=(none,l,u)/\st'=st/\u<=l/\u<=n/\(∀i,i<l->bp i=true)/\(∀i,u<=i->i<n->bp i=false)) ?_ ?_ %[32,l0,h0,rb,rb,hle,hh,t1,t2|mN xo]) ?_)
  .intro x c st' _ hx z;let(l,u,rfl,rfl,G,D,M,J,h6):=z;calc hf x l u _ D (λz=>%[28,l,u,rb,rb,z,D,M|J]) λz=>?_;cases e:bp (l+(u-l)/2) with| true=>rw[if_pos rfl];show%[32,_,_,rb,rb,by grind,D,λi hi=>up i _ (dQ hi) (by grind) e,J|eI (cp xo xo)]| false=>rw[if_neg xp];show%[32,_,_,rb,rb,xo,by grind,M,λi hi hj=>dn _ i hi hj e|eI (cp xo xo)]
  .intro c st' z;let(l,u,N,h1,G,D,M,J,h6):=z;show%[28,l,u,N,h1,xo,D,M|J]
  .intro c st' z;let(l,u,rfl,rfl,G,D,M,J):=z;show hF l u (h' _ D (λi hi=>M i (bt hi G)) J)
 cases e0:bp B with
 | true=>
  rw[if_pos rfl];refine a8 (iE (fF (I:=λ(x:Nat) (c:Option (Option Nat)×Nat×Nat) (st':SortSt)=>st'=st/\c.1=none/\c.2.1<n-B/\c.2.1<c.2.2/\x+1<=c.2.2/\bp (B+c.2.1)=true)
   (Q:=λ(c:Option (Option Nat)×Nat×Nat) (st':SortSt)=>st'=st/\c.1=none/\c.2.1<n-B/\c.2.1<c.2.2/\bp (B+c.2.1)=true/\(c.2.2>=n-B\/bp (B+c.2.2)=false)) ?_ ?_ %[rb,rb,by dsimp only;show Nat.sub_pos_of_lt hn,by dsimp only;lia,by dsimp only;lia|e0]) ?_)
  .intro x c st' _ hx z;let(rfl,h1,G,D,M,J):=z;by_cases z:c.2.2>=n-B
   .rw[if_pos z];show bo %[rb,rb,G,D,J|.inl z]
   .rw[if_neg z];calc a8 (vd hO hk L O (i:=lo+(B+c.2.2)) xo ?_);rw[Y];dsimp only;cases e:bp (B+c.2.2) with| true=>rw[if_neg xp];show bo %[rb,rb,by dsimp only;show sN z,by dsimp only;lia,by dsimp only;lia|e]| false=>rw[if_pos xp];show bo %[rb,rb,G,D,J|.inr e]
  .intro c st' z;let(N,h1,G,D,M,J):=z;show%[N,h1,G,D,J|.inl (mN xo)]
  .intro c st' z;let(rfl,h1,G,D,M,J):=z;rw[h1];dsimp only;refine fin (B+c.2.1+1) (B+min c.2.2 (n-B)) xo xo (λi hi=>up i (B+c.2.1) (dQ hi) xo M) (λi hi hj=>?_) _ _ ?_ ?_
   .rcases J with z|z;.lia
    .show dn (B+c.2.2) i xo hj z
   .intro x l u Q' hun q1 q2;dsimp only;by_cases z:l>=u
    .rw[if_pos z];show bo (q1 z)
    .rw[if_neg z];calc a8 (vd hO hk L O (i:=lo+(l+(u-l)/2)) (by grind) ?_);rw[Y];dsimp only;let q2:=q2 (sN z);cases e:bp (l+(u-l)/2) with| true=>rw[e,if_pos rfl]at q2;rw[if_pos rfl];show bo q2| false=>rw[e,if_neg xp]at q2;rw[if_neg xp];show bo q2
   .show λl u q=>bo q
 | false=>
  rw[if_neg xp];refine a8 (iE (fF (I:=λ(x:Nat) (c:Option (Option Nat)×Nat×Nat) (st':SortSt)=>st'=st/\c.1=none/\c.2.1<=B/\c.2.1<c.2.2/\x+1<=c.2.2/\bp (B-c.2.1)=false)
   (Q:=λ(c:Option (Option Nat)×Nat×Nat) (st':SortSt)=>st'=st/\c.1=none/\c.2.1<=B/\c.2.1<c.2.2/\bp (B-c.2.1)=false/\(c.2.2>=B+1\/bp (B-c.2.2)=true)) ?_ ?_ %[rb,rb,by dsimp only;lia,by dsimp only;lia,by dsimp only;lia|e0]) ?_)
  .intro x c st' _ hx z;let(rfl,h1,G,D,M,J):=z;by_cases z:c.2.2>=B+1
   .rw[if_pos z];show bo %[rb,rb,G,D,J|.inl z]
   .rw[if_neg z];calc a8 (vd hO hk L O (i:=lo+(B-c.2.2)) (by grind) ?_);rw[Y];dsimp only;cases e:bp (B-c.2.2) with| true=>rw[if_pos rfl];show bo %[rb,rb,G,D,J|.inr e]| false=>rw[if_neg xp];show bo %[rb,rb,by dsimp only;show lS z,by dsimp only;lia,by dsimp only;lia|e]
  .intro c st' z;let(N,h1,G,D,M,J):=z;show%[N,h1,G,D,J|.inl xo]
  .intro c st' z;let(rfl,h1,G,D,M,J):=z;rw[h1];dsimp only;refine fin (B+1-min c.2.2 (B+1)) (B-c.2.1) (mN xo) (mN xo) (λi hi=>?_) (λi hi hj=>dn (B-c.2.1) i hi hj M) _ _ ?_ ?_
   .rcases J with z|z;.lia
    .show up i (B-c.2.2) (fv xo) (ku (wn _ _) hn) z
   .intro x l u Q' hun q1 q2;dsimp only;by_cases z:l>=u
    .rw[if_pos z];show bo (q1 z)
    .rw[if_neg z];calc a8 (vd hO hk L O (i:=lo+(l+(u-l)/2)) xo ?_);rw[Y];dsimp only;let q2:=q2 xo;cases e:bp (l+(u-l)/2) with| true=>rw[e,if_pos rfl]at q2;rw[if_pos rfl];show bo q2| false=>rw[e,if_neg xp]at q2;rw[if_neg xp];show bo q2
   .show λl u q=>bo q
structure Mg (le:W->W->Prop)(a b out:List W)(i j:Nat):Prop where
 ia:i<=a.length
 jb:j<=b.length
 perm:out.Perm (a.take i++b.take j)
 up:out.Pairwise le
 Lh:∀x∈out,∀y∈a.drop i,le x y
 Li:∀x∈out,∀y∈b.drop j,le x y
def wz (le:W->W->Prop)(a b r:List W):Prop:=r.Perm (a++b)/\r.Pairwise le
def Q0 {out:List W}(h:out.Pairwise le)(l:∀y∈out,le y x):(out++[x]).Pairwise le:=by rw[f7];calc%[h,List.pairwise_singleton _ _|λy j z hz=>?_];rw[am.mp hz];show l y j
def jG {a:List W}(h:i<a.length):a.drop i=a[i]::a.drop (i+1):=(qE h)
def Q5 {a:List W}(h:i<a.length):a.take (i+1)=a.take i++[a[i]]:=by rw[bX,ag h];rfl
def Q6 {a:List W}(h:a.Pairwise le)(hi:i<a.length):∀y∈a.drop (i+1),le a[i] y:=λy q=>by let j:(a.drop i).Pairwise le:=h.sublist (iF i a);rw[jG hi]at j;show(kG.mp j).1 y q
def Mg.uh (m:Mg le a b out i j)(ha:a.Pairwise le)(hi:i<a.length)(h:∀y∈b.drop j,le a[i] y):Mg le a b (out++[a[i]]) (i+1) j:=by
 refine%[hi,m.jb,?_,Q0 m.up λy q=>m.Lh y q _ (by rw[jG hi];show aT),λx hx y q=>?_|λx hx y q=>?_]
 .rw[Q5 hi];calc(m.perm.append_right _).trans ?_;rw[be,be];show kF _ tj
 .rcases a6.mp hx with z|z;.show m.Lh x z y (by rw[jG hi];show aS _ q)
  .rw[am.mp z];show Q6 ha hi y q
 .rcases a6.mp hx with z|z;.show m.Li x z y q
  .rw[am.mp z];show h y q
def Mg.wA (m:Mg le a b out i j)(D:b.Pairwise le)(B:j<b.length)(h:∀y∈a.drop i,le b[j] y):Mg le a b (out++[b[j]]) i (j+1):=by
 refine%[m.ia,B,?_,Q0 m.up λy q=>m.Li y q _ (by rw[jG B];show aT),λx hx y q=>?_|λx hx y q=>?_]
 .rw[Q5 B,<-be];show m.perm.append_right _
 .rcases a6.mp hx with z|z;.show m.Lh x z y q
  .rw[am.mp z];show h y q
 .rcases a6.mp hx with z|z;.show m.Li x z y (by rw[jG B];show aS _ q)
  .rw[am.mp z];show Q6 D B y q
theorem Mg.yI {a b:List W}(ha:a.Pairwise le):∀(k:Nat) {out:List W} {i:Nat},Mg le a b out i j->i+k<=a.length->(∀t (q:t<a.length),i<=t->t<i+k->∀y∈b.drop j,le a[t] y)->Mg le a b (out++(a.drop i).take k) (i+k) j
 | 0,out,i,m,_,_=>by simpa using m
 | k+1,out,i,m,hk,h=>by let hi:i<a.length:=xo;let m2:=Mg.yI ha k (m.uh ha hi (h i hi (ah _) xo)) xo λt q h1 B=>h t q (av h1) xo;rw[jG hi,uS];rw[be,show i+1+k=i+(k+1) by lia]at m2;show m2
theorem Mg.yJ {a b:List W}(D:b.Pairwise le):∀(k:Nat) {out:List W} {j:Nat},Mg le a b out i j->j+k<=b.length->(∀t (B:t<b.length),j<=t->t<j+k->∀y∈a.drop i,le b[t] y)->Mg le a b (out++(b.drop j).take k) i (j+k)
 | 0,out,j,m,_,_=>by simpa using m
 | k+1,out,j,m,hk,h=>by let q:j<b.length:=xo;let m2:=Mg.yJ D k (m.wA D q (h j q (ah _) xo)) xo λt B h1 F=>h t B xo xo;rw[jG q,uS];rw[be,show j+1+k=j+(k+1) by lia]at m2;show m2
def Mg.done (m:Mg le a b out i j)(ha:a.Pairwise le)(B:b.Pairwise le)(h:i=a.length\/j=b.length):wz le a b (out++a.drop i++b.drop j):=by
 refine%[?_|?_]
 .let p:(out++(a.drop i++b.drop j)).Perm ((a.take i++b.take j)++(a.drop i++b.drop j)):=m.perm.append_right _;rw[be];calc p.trans ?_;let e:a++b=(a.take i++a.drop i)++(b.take j++b.drop j):=by rw[c_,c_]
  rw[e,be,be];calc kF _ ?_;rw[<-be,<-be];show List.Perm.append_right _ tj
 .rw[be,f7];refine%[m.up,?_|λx hx y q=>?_]
  .rcases h with z|z;.rw[z,List.drop_length,List.nil_append];show B.sublist (iF _ _)
   .rw[z,List.drop_length,ej];show ha.sublist (iF _ _)
  .rcases a6.mp q with z|z;.show m.Lh x hx y z
   .show m.Li x hx y z
def Mg.abE (m:Mg le a b out i j)(ha:a.Pairwise le)(B:b.Pairwise le)(h:∀x∈b.drop j,∀y∈a.drop i,le x y):wz le a b (out++b.drop j++a.drop i):=by
 refine%[?_|?_]
 .let p:(out++(b.drop j++a.drop i)).Perm ((a.take i++b.take j)++(b.drop j++a.drop i)):=m.perm.append_right _;rw[be];calc p.trans ?_;let e:a++b=(a.take i++a.drop i)++(b.take j++b.drop j):=by rw[c_,c_]
  rw[e,be,be];calc kF _ ?_;rw[<-be];show tj
 .rw[be,f7];refine%[m.up,?_|λx hx y q=>?_]
  .rw[f7];show%[B.sublist (iF _ _),ha.sublist (iF _ _)|h]
  .rcases a6.mp q with z|z;.show m.Li x hx y z
   .show m.Lh x hx y z
def Mg.zero:Mg le a b [] 0 0:=%[b8 _,b8 _,xp,.nil,λx h=>by simp at h|λx h=>by simp at h]
def kf (K:PyProof.Rows.KeyKind)(p:Keyed):K.α:=(K.keyOf p.1).getD K.dflt
def kL (K:PyProof.Rows.KeyKind)(p q:Keyed):Prop:=K.kle (kf K p) (kf K q)
def q_ {arr:Array Keyed}(h:i<arr.size):KK K arr i=kf K arr[i]:=by unfold KK kf;rw[b6 h]
def mV (j:KeysOf K arr)(h:i<arr.size):K.keyOf arr[i].1=some (kf K arr[i]):=by rw[su j h,q_ h]
structure jO (st st':SortSt):Prop where
 kind:kindOf st'=kindOf st
 arr:arrOf st'=arrOf st
 pend:pendingOf st'=pendingOf st
 fail:failedOf st'=failedOf st
def jO.refl (st):jO st st:=%[rb,rb,rb|rb]
def mC {a:Array Keyed}(h:a.toList.Pairwise (kL K))(q:i<=j)(B:j<a.size):K.kle (kf K a[i]) (kf K a[j]):=by
 rcases Nat.eq_or_lt_of_le q with z|z;.subst z;show gV _
 .have:=(kK.mp h) i j (by simpa using (by show mh z B:i<a.size)) (by simpa using B) z;show(by simpa using this:kL K a[i] a[j])
def vf {a:Array Keyed}(h:y∈a.toList.drop i):∃t,∃(j:t<a.size),i<=t/\a[t]=y:=by
 let(t,j,e):=cK.mp h;let q:t<a.size-i:=by simpa using j
 show%[i+t,by grind,xo|by rw[<-e];simp]
def m7 {g:Nat}{st0 st:SortSt}{Q:Unit->SortSt->Prop}(j:jO st0 st)(h:∀st',jO st0 st'->Q () st'):wpS (model prog w) A E s ((sortPriv% PySem.Builtin.setMinGallop) g) Q st:=by show tT (h _ %[j.kind,j.arr,j.pend|j.fail])
def vg {H W:Type}{J:H->StateT SortSt Sem W}{C:H->Prop}{m:StateT SortSt Sem W}{R:W->SortSt->Prop}{st:SortSt}(h1:∀o,C o->wpS (model prog w) A E s (J o) R st)(j:(∀o,C o->wpS (model prog w) A E s (J o) R st)->wpS (model prog w) A E s m R st):wpS (model prog w) A E s m R st:=j h1
def zW {arr:Array Keyed}(hx:x<arr.size):jF K false kk arr x=true↔K.kle (kf K arr[x]) kk:=by unfold jF;rw[if_neg xp,q_ hx];unfold KeyOrd.kle;simp
def Lj {arr:Array Keyed}(hx:x<arr.size):jF K false kk arr x=false↔K.klt kk (kf K arr[x]):=by unfold jF;rw[if_neg xp,q_ hx];unfold KeyOrd.klt;simp
def zX {arr:Array Keyed}(hx:x<arr.size):jF K true kk arr x=true↔K.klt (kf K arr[x]) kk:=by unfold jF;rw[if_pos rb,q_ hx];rfl
def Lk {arr:Array Keyed}(hx:x<arr.size):jF K true kk arr x=false↔K.kle kk (kf K arr[x]):=by unfold jF;rw[if_pos rb,q_ hx];rfl
def Wq {arr:Array Keyed}(B:arr.toList.Pairwise (kL K)){lo n:Nat}(hn:lo+n<=arr.size):∀i j,i<=j->j<n->jF K false kk arr (lo+j)=true->jF K false kk arr (lo+i)=true:=λi j q D h=>by rw[zW xo]at h ⊢;show dq (mC B (nV q _) xo) h
def Wr {arr:Array Keyed}(B:arr.toList.Pairwise (kL K)){lo n:Nat}(hn:lo+n<=arr.size):∀i j,i<=j->j<n->jF K true kk arr (lo+j)=true->jF K true kk arr (lo+i)=true:=λi j q D h=>by rw[zX xo]at h ⊢;show KeyOrd.klt_of_kle_of_klt (mC B xo xo) h
def O8 {a b:Array Keyed}{st:SortSt}{Q:Array Keyed->SortSt->Prop}(hO:iB prog w A s K kn)(hk:kindOf st=kn)(hka:KeysOf K a)(hkb:KeysOf K b)(ha:a.toList.Pairwise (kL K))(hb:b.toList.Pairwise (kL K))(a0:0<a.size)(b0:0<b.size)(hlo:K.kle (kf K b[0]) (kf K a[0]))(hhi:∀j (F:j<b.size),K.klt (kf K b[j]) (kf K a[a.size-1]))(h:∀r st',wz (kL K) a.toList b.toList r.toList->jO st st'->Q r st'):wpS (model prog w) A E s ((sortPriv% PySem.Builtin.mergeLo) a b) Q st:=by
 let lA:∀{i},(a.extract i).toList=a.toList.drop i:=by intro i;simp;show cx xp
 let lB:∀{i},(b.extract i).toList=b.toList.drop i:=by intro i;simp;show cx xp
 let sA:a.toList.length=a.size:=xp;let sB:b.toList.length=b.size:=xp;let gA:∀i (hi:i<a.size),a.toList[i]'(by simpa using hi)=a[i]:=λi hi=>by simp
 let gB:∀i (hi:i<b.size),b.toList[i]'(by simpa using hi)=b[i]:=λi hi=>by simp
 let agR:∀{i j},i+1=a.size->∀x∈b.toList.drop j,∀y∈a.toList.drop i,kL K x y:=λ{i j} hi x hx y N=>by
  let(t,D,_,rfl):=vf hx;let(u,B,h1,rfl):=vf N;obtain rfl:u=a.size-1:=by first|lia|((try dsimp only);lia)
  show dS (hhi t D)
 let mpA:∀{out:Array Keyed} {i j:Nat},Mg (kL K) a.toList b.toList out.toList i j->(hi:i<a.size)->(∀u (B:u<b.size),j<=u->K.kle (kf K a[i]) (kf K b[u]))->Mg (kL K) a.toList b.toList (out.push a[i]).toList (i+1) j:=λ{out i j} m hi q=>by
  have:=m.uh ha (by simpa using hi) λy N=>by let(u,B,h1,rfl):=vf N;rw[gA i hi];show q u B h1
  rw[gA i hi]at this;simpa using this
 let mpB:∀{out:Array Keyed} {i j:Nat},Mg (kL K) a.toList b.toList out.toList i j->(F:j<b.size)->(∀u (B:u<a.size),i<=u->K.kle (kf K b[j]) (kf K a[u]))->Mg (kL K) a.toList b.toList (out.push b[j]).toList i (j+1):=λ{out i j} m F q=>by
  have:=m.wA hb (by simpa using F) λy N=>by let(u,B,h1,rfl):=vf N;rw[gB j F];show q u B h1
  rw[gB j F]at this;simpa using this
 let mbA:∀{out:Array Keyed} {i j k:Nat},Mg (kL K) a.toList b.toList out.toList i j->i+k<=a.size->(∀t (D:t<a.size),i<=t->t<i+k->∀u (B:u<b.size),j<=u->K.kle (kf K a[t]) (kf K b[u]))->Mg (kL K) a.toList b.toList (out++a.extract i (i+k)).toList (i+k) j:=λ{out i j k} m hk q=>by
  have:=Mg.yI ha k m (by simpa using hk) λt D h1 h2 y N=>by
   let(u,B,h3,rfl):=vf N;let ht':t<a.size:=by simpa using D
   rw[gA t ht'];show q t ht' h1 h2 u B h3
  rw[fI];let e:(a.extract i (i+k)).toList=(a.toList.drop i).take k:=xp;rw[e];show this
 let mbB:∀{out:Array Keyed} {i j k:Nat},Mg (kL K) a.toList b.toList out.toList i j->j+k<=b.size->(∀t (D:t<b.size),j<=t->t<j+k->∀u (B:u<a.size),i<=u->K.kle (kf K b[t]) (kf K a[u]))->Mg (kL K) a.toList b.toList (out++b.extract j (j+k)).toList i (j+k):=λ{out i j k} m hk q=>by
  have:=Mg.yJ hb k m (by simpa using hk) λt D h1 h2 y N=>by
   let(u,B,h3,rfl):=vf N;let ht':t<b.size:=by simpa using D
   rw[gB t ht'];show q t ht' h1 h2 u B h3
  rw[fI];let e:(b.extract j (j+k)).toList=(b.toList.drop j).take k:=xp;rw[e];show this
 let wB:∀{out:Array Keyed} {i j:Nat} {st':SortSt},jO st st'->Mg (kL K) a.toList b.toList out.toList i j->(i=a.size\/j=b.size)->Q (out++a.extract i++b.extract j) st':=λ{out i j st'} e m z=>by calc h _ _ ?_ e;rw[fI,fI,lA,lB];show m.done ha hb (by rw[sA,sB];show z)
 let G:∀{out:Array Keyed} {i j:Nat} {st':SortSt},jO st st'->Mg (kL K) a.toList b.toList out.toList i j->i+1=a.size->Q (out++b.extract j++a.extract i) st':=λ{out i j st'} e m z=>by calc h _ _ ?_ e;rw[fI,fI,lA,lB];show m.abE ha hb (agR z)
 show wpS _ _ _ _ (_ >>= _) _ _;refine a8 (wpS_lift (gT %[rb|?_]))
 skip
 calc a8 (cQ b0 ?_);let m0:Mg (kL K) a.toList b.toList (#[b[0]]:Array Keyed).toList 0 1:=by have:=mpB (out:=#[]) (i:=0) (j:=0) Mg.zero b0 λu B _=>dq hlo (mC ha (b8 _) B);simpa using this
 skip
 by_cases z1:1=b.size
 .calc bA (by simpa using z1) ?_;show bo (wB (jO.refl _) m0 (.inr z1))
 calc aY (by simpa using z1) ?_;by_cases z2:0+1=a.size
 .calc bA (by simpa using z2) ?_;show bo (G (jO.refl _) m0 z2)
 calc aY (by simpa using z2) ?_;refine a8 (r_ ?_)
 skip
 refine a8 (iE (fF (I:=λ(x:Nat) (c:Option (Array Keyed)×Array Keyed×Nat×Nat×Nat) (st':SortSt)=>∃out i j g,c=(none,out,i,j,g)/\jO st st'/\Mg (kL K) a.toList b.toList out.toList i j/\i+1<a.size/\j<b.size/\x+1<=i+j)
  (Q:=λ(c:Option (Array Keyed)×Array Keyed×Nat×Nat×Nat) (st':SortSt)=>∃r q,c=(some r,q)/\Q r st') ?_ ?_ %[36,_,_,_,_,rb,jO.refl _,m0,xA,xA|xA]) ?_)
 .intro x c st1 _ hx z;let(out,i,j,g,rfl,e1,m1,hi,F,hc):=z
  walk_at"a"
  refine a8 (iE (fF (I:=λ(y:Nat) (c:Option (Array Keyed)×Array Keyed×Nat×Nat×Nat×Nat) (st':SortSt)=>∃out i' M p q,c=(none,out,i',M,p,q)/\jO st st'/\Mg (kL K) a.toList b.toList out.toList i' M/\i'+1<a.size/\M<b.size/\i+j+y<=i'+M)
   (Q:=λ(c:Option (Array Keyed)×Array Keyed×Nat×Nat×Nat×Nat) (st':SortSt)=>(∃r q,c=(some r,q)/\Q r st')\/∃out i' M p q,c=(none,out,i',M,p,q)/\jO st st'/\Mg (kL K) a.toList b.toList out.toList i' M/\i'+1<a.size/\M<b.size/\i+j+1<=i'+M) ?_ ?_ %[12,_,_,_,_,_,rb,e1,m1,hi,F|xA]) ?_)
  .intro y c st2 _ N z;let(out,i,j,p,q,rfl,e2,m2,hi,F,hc):=z
   walk_at"a"
   calc a8 (cQ F (a8 (cQ (show i<a.size from av hi) ?_)));refine a8 (yH hO (by rw[e2.kind];show hk) (mV hkb F) (mV hka xA) ?_)
   walk_at"a"
   cases e:K.blt (kf K b[j]) (kf K a[i]) with
   | true=>
    calc bA rb ?_;refine a8 (cQ F ?_)
    walk_at"a"
    let m3:=mpB m2 F λu B h1=>dq (dS e) (mC ha h1 B);by_cases z:j+1=b.size
    .calc bA (by simpa using z) ?_;show bo (.inl %[3,_,_,rb|wB e2 m3 (.inr z)])
    .calc aY (by simpa using z) ?_;by_cases z':q+1>=g
     .calc bA z' ?_;show bo (.inr %[12,_,_,_,_,_,rb,e2,m3,hi,xA|xA])
     .calc aY z' ?_;show bo %[12,_,_,_,_,_,rb,e2,m3,hi,xA|xA]
   | false=>
    calc aY xp ?_;refine a8 (cQ (show i<a.size by first|lia|((try dsimp only);lia)) ?_)
    walk_at"a"
    let m3:=mpA m2 (show i<a.size by first|lia|((try dsimp only);lia)) λu B h1=>dq (show K.kle _ _ from e) (mC hb h1 B);by_cases z:i+1+1=a.size
    .calc bA (by simpa using z) ?_;show bo (.inl %[3,_,_,rb|G e2 m3 z])
    .calc aY (by simpa using z) ?_;by_cases z':p+1>=g
     .calc bA z' ?_;show bo (.inr %[12,_,_,_,_,_,rb,e2,m3,xA,F|xA])
     .calc aY z' ?_;show bo %[12,_,_,_,_,_,rb,e2,m3,xA,F|xA]
  .intro c st2 z;let(out,i',M,p,q,rfl,e2,m2,hi',hj',hc'):=z;exfalso;lia
  .rintro c st2 (⟨r,q,rfl,hq⟩|⟨out,i',M,p,q,rfl,e2,m2,hi',hj',hc'⟩)
   .walk_at"a"
    show bo %[3,_,_,rb|hq]
   .walk_at"a"
    refine a8 (wpS_lift (gT %[rb|?_]))
    walk_at"a"
    refine a8 (iE (fF (I:=λ(y:Nat) (c:Option (Array Keyed)×Array Keyed×Nat×Nat×Nat×Nat×Nat) (st':SortSt)=>∃out O Z g p q,c=(none,out,O,Z,g,p,q)/\jO st st'/\Mg (kL K) a.toList b.toList out.toList O Z/\O+1<a.size/\Z<b.size/\i'+M+y<=O+Z)
     (Q:=λ(c:Option (Array Keyed)×Array Keyed×Nat×Nat×Nat×Nat×Nat) (st':SortSt)=>(∃r q,c=(some r,q)/\Q r st')\/∃out O Z g p q,c=(none,out,O,Z,g,p,q)/\jO st st'/\Mg (kL K) a.toList b.toList out.toList O Z/\O+1<a.size/\Z<b.size/\i'+M<=O+Z) ?_ ?_ %[43,_,_,_,_,_,_,rb,e2,m2,hi',hj'|xA]) ?_)
    .intro y c st3 _ N z;let(out,i,j,g,p,q,rfl,e3,m3,hi,F,hc):=z
     walk_at"a"
     extract_lets -underBinder +onlyGivenNames l1 l2 l3 l4 l5 l6 l7 l8 l9 l10 l11 jp1
     let q4:l4=i:=rfl;let q4b:l3.fst=i:=rfl;let q6:l6=j:=rfl;let q6b:l5.fst=j:=rfl;let q8:l8=g:=rfl;let q8b:l7.fst=g:=rfl;refine vg (J:=λg':Nat=>jp1 () g') (C:=λ_=>True) (λg' _=>?_) (λhJ=>?_)
     rotate_left
     .by_cases z:g > 1
      .calc bA z ?_;show hJ (g-1) trivial
      .calc aY z ?_;show hJ g trivial
     walk_at"a"
     calc a8 (m7 e3 λeY e4=>?_);calc a8 (cQ F ?_);calc a8 (mz hO (by rw[e4.kind];show hk) (mV hkb F) hka (Nat.sub_pos_of_lt xo) (by grind) (Wq ha xA) λk hk1 hk2 hk3=>?_);let kA:∀t (D:t<a.size),i<=t->t<i+k->K.kle (kf K a[t]) (kf K b[j]):=λt D h1 h2=>by have:=hk2 (t-i) (by grind);rw[show i+(t-i)=t from lI h1,zW D]at this;show this
     let kB:∀t (D:t<a.size),i+k<=t->K.klt (kf K b[j]) (kf K a[t]):=λt D h1=>by have:=hk3 (t-i) (by show fv (by simp +arith [*])) xA;rw[show i+(t-i)=t by first|lia|((try dsimp only);lia),Lj D]at this;show this
     let L:i+k<a.size:=by
      rcases eR (i+k) a.size with z|z;.show z
      .let h1:=kA (a.size-1) (by grind) (fv xo) (by grind);show absurd (hhi j F) (tm h1)
     walk_at"a"
     extract_lets -underBinder +onlyGivenNames ac jp2
     refine vg (J:=λo:Array Keyed×Nat=>jp2 () o.1 o.2) (C:=λo=>Mg (kL K) a.toList b.toList o.1.toList o.2 j/\o.2=i+k/\o.2+1<a.size) (λo ho=>?_) (λhJ=>?_)
     .let(o1,o2):=o;let(mo,eo,qR):=ho;let eo:o2=i+k:=eo;subst eo;let mo:Mg (kL K) a.toList b.toList o1.toList (i+k) j:=mo;let qR:i+k+1<a.size:=qR
      walk_at"a"
      refine a8 (cQ F ?_)
      walk_at"a"
      let m5:=mpB mo F λu B h1=>dS (kB u B h1);by_cases z:j+1=b.size
      .calc bA (by simpa using z) ?_;show bo (.inl %[3,_,_,rb|wB e4 m5 (.inr z)])
      calc aY (by simpa using z) ?_;calc a8 (cQ L ?_);calc a8 (mz hO (by rw[e4.kind];show hk) (mV hka L) hkb (fv xo) (by grind) (Wr hb xA) λY h1 h2 h3=>?_);let lb:∀t (D:t<b.size),j+1<=t->t<j+1+Y->K.klt (kf K b[t]) (kf K a[i+k]):=λt D q1 q2=>by have:=h2 (t-(j+1)) (by grind);rw[show j+1+(t-(j+1))=t from lI q1,zX D]at this;show this
      let la:∀t (D:t<b.size),j+1+Y<=t->K.kle (kf K a[i+k]) (kf K b[t]):=λt D q1=>by have:=h3 (t-(j+1)) xA xA;rw[show j+1+(t-(j+1))=t by first|lia|((try dsimp only);lia),Lk D]at this;show this
      walk_at"a"
      extract_lets -underBinder +onlyGivenNames bc jp3
      refine vg (J:=λo:Array Keyed×Nat=>jp3 () o.1 o.2) (C:=λo=>Mg (kL K) a.toList b.toList o.1.toList (i+k) o.2/\o.2=j+1+Y/\o.2<b.size) (λo ho=>?_) (λhJ=>?_)
      .let(o1,o2):=o;let(mo,eo,qR):=ho;let eo:o2=j+1+Y:=eo;subst eo;let mo:Mg (kL K) a.toList b.toList o1.toList (i+k) (j+1+Y):=mo;let qR:j+1+Y<b.size:=qR
       walk_at"a"
       refine a8 (cQ L ?_)
       walk_at"a"
       let m6:=mpA mo L λu B h1=>la u B h1;by_cases z:i+k+1+1=a.size
       .calc bA (by simpa using z) ?_;show bo (.inl %[3,_,_,rb|G e4 m6 z])
       calc aY (by simpa using z) ?_;by_cases z':(decide (k<7)&&decide (Y<7))=true
       .calc bA z' ?_;show bo (.inr %[43,_,_,_,_,_,_,rb,e4,m6,xA,qR|xA])
       .calc aY z' ?_;show bo %[43,_,_,_,_,_,_,rb,e4,m6,xA,qR|xA]
      .by_cases z3:Y > 0
       .refine bA z3 ?_
        walk_at"a"
        let m6:=mbB (k:=Y) m5 xA λt D q1 q2 u B q3=>dS (rj (lb t D q1 q2) (mC ha q3 B));by_cases z4:j+1+Y=b.size
        .calc bA (by simpa using z4) ?_;show bo (.inl %[3,_,_,rb|wB e4 m6 (.inr z4)])
        .calc aY (by simpa using z4) ?_;show hJ (_,_) %[m6,rb|by dsimp only;lia]
       .calc aY z3 ?_;obtain rfl:Y=0:=Nat.eq_zero_of_not_pos z3;show hJ (_,_) %[m5,rb|by dsimp only;lia]
     .by_cases z3:k > 0
      .refine bA z3 ?_
       walk_at"a"
       let m6:=mbA (k:=k) m3 (av L) λt D q1 q2 u B q3=>dq (kA t D q1 q2) (mC hb q3 B);by_cases z4:i+k+1=a.size
       .calc bA (by simpa using z4) ?_;show bo (.inl %[3,_,_,rb|G e4 m6 z4])
       .calc aY (by simpa using z4) ?_;calc aY (by simp;show a_ L) ?_;show hJ (_,_) %[m6,rb|by dsimp only;lia]
      .calc aY z3 ?_;obtain rfl:k=0:=by first|lia|((try dsimp only);lia)
       show hJ (_,_) %[m3,rb|by dsimp only;lia]
    .intro c st3 z;let(out,O,Z,g,p,q,rfl,e3,m3,hi2,hj2,hc2):=z;exfalso;lia
    .rintro c st3 (⟨r,q,rfl,hq⟩|⟨out,O,Z,g,p,q,rfl,e3,m3,hi2,hj2,hc2⟩)
     .walk_at"a"
      show bo %[3,_,_,rb|hq]
     .walk_at"a"
      calc a8 (m7 e3 λeY e4=>?_);show bo %[36,_,_,_,_,rb,e4,m3,hi2,hj2|xA]
 .intro c st1 z;let(out,i,j,g,rfl,e1,m1,hi,F,hc):=z;exfalso;lia
 .intro c st1 z;let(r,q,rfl,hq):=z;show bo hq
structure gM (K:PyProof.Rows.KeyKind)(a b out:Array Keyed)(n m:Nat):Prop where
 na:n<=a.size
 mb:m<=b.size
 mg:Mg (λx y=>kL K y x) b.toList.reverse a.toList.reverse out.toList (b.size-m) (a.size-n)
def vh {a:Array Keyed}(h:a.toList.Pairwise (kL K)):a.toList.reverse.Pairwise (λx y=>kL K y x):=by rw[List.pairwise_reverse];show h
def sy {a:Array Keyed}(h:n<=a.size):a.toList.reverse.drop (a.size-n)=(a.toList.take n).reverse:=by rw[List.drop_reverse];congr 2;simp;show hV h
def Ds {a:Array Keyed}(hn:n<=a.size)(h:y∈a.toList.reverse.drop (a.size-n)):∃u,∃(B:u<a.size),u<n/\a[u]=y:=by
 rw[sy hn,ww]at h;let(t,q,e):=cK.mp h;let j:t<n:=by have:=q;simp at this;simp_all
 show%[t,bt j hn,j|by rw[<-e];simp]
def Ws {a:Array Keyed}(j:0<n)(hn:n<=a.size):∃h:a.size-n<a.toList.reverse.length,a.toList.reverse[a.size-n]=a[n-1]:=by calc%[by simp;show cp xo xo|?_];rw[List.getElem_reverse];simp only[Array.getElem_toList,bq];congr 1;lia
def gM.uh (g:gM K a b out n m)(ha:a.toList.Pairwise (kL K))(F:0<n)(D:n-1<a.size)(h:∀u (j:u<b.size),u<m->K.kle (kf K b[u]) (kf K a[n-1])):gM K a b (out.push a[n-1]) (n-1) m:=by
 let(h1,e1):=Ws F g.na;have:=g.mg.wA (vh ha) h1 λy B=>by let(u,j,q,rfl):=Ds g.mb B;rw[e1];show h u j q
 rw[e1]at this;let hn:=g.na;calc%[av D,g.mb|?_];rw[show a.size-(n-1)=a.size-n+1 from gt xo];simpa using this
def gM.wA (g:gM K a b out n m)(D:b.toList.Pairwise (kL K))(F:0<m)(G:m-1<b.size)(h:∀u (j:u<a.size),u<n->K.kle (kf K a[u]) (kf K b[m-1])):gM K a b (out.push b[m-1]) n (m-1):=by
 let(h1,e1):=Ws F g.mb;have:=g.mg.uh (vh D) h1 λy B=>by let(u,j,q,rfl):=Ds g.na B;rw[e1];show h u j q
 rw[e1]at this;let hm:=g.mb;calc%[g.na,xo|?_];rw[show b.size-(m-1)=b.size-m+1 by lia];simpa using this
theorem gM.yI {a b:Array Keyed}(ha:a.toList.Pairwise (kL K)):∀(k:Nat) {out:Array Keyed} {n:Nat},gM K a b out n m->k<=n->(∀t (j:t<a.size),n-k<=t->t<n->∀u (D:u<b.size),u<m->K.kle (kf K b[u]) (kf K a[t]))->gM K a b (out++(a.extract (n-k) n).reverse) (n-k) m
 | 0,out,n,g,_,_=>by
  let e:(a.extract (n-0) n).reverse=#[]:=by simp;show t7 _ _
  rw[e];simpa using g
 | k+1,out,n,g,hk,h=>by
  let hn:=g.na;let B:=gM.yI ha k (g.uh ha xo (cp xo xo) (h (n-1) xo (Nat.sub_le_sub_left xo _) (wo xo xo))) (we hk) λt j h1 q=>h t j xo xo;let e:out++(a.extract (n-(k+1)) n).reverse=out.push a[n-1]++(a.extract (n-1-k) (n-1)).reverse:=by
   apply nt.mp;rw[fI,fI,mE,be];congr 1;rw[pV,pV,show n-1-k=n-(k+1) by lia];let e2:a.extract (n-(k+1)) n=(a.extract (n-(k+1)) (n-1)).push a[n-1]:=by
    apply Array.ext;.simp;lia
    .intro i h1 q;simp at h1 q;rw[Array.getElem_push];split;.simp
     .rename_i z;simp at z;simp;congr 1
      (simp[gd,kz]at *;lia)
   rw[e2,mE,u7];rfl
  rw[e,show n-(k+1)=n-1-k by lia];show B
theorem gM.yJ {a b:Array Keyed}(B:b.toList.Pairwise (kL K)):∀(k:Nat) {out:Array Keyed} {m:Nat},gM K a b out n m->k<=m->(∀t (j:t<b.size),m-k<=t->t<m->∀u (F:u<a.size),u<n->K.kle (kf K a[u]) (kf K b[t]))->gM K a b (out++(b.extract (m-k) m).reverse) n (m-k)
 | 0,out,m,g,_,_=>by
  let e:(b.extract (m-0) m).reverse=#[]:=by simp;lia
  rw[e];simpa using g
 | k+1,out,m,g,hk,h=>by
  let hm:=g.mb;let D:=gM.yJ B k (g.wA B xo xo (h (m-1) xo xo xo)) xo λt j h1 q=>h t j xo xo;let e:out++(b.extract (m-(k+1)) m).reverse=out.push b[m-1]++(b.extract (m-1-k) (m-1)).reverse:=by
   apply nt.mp;rw[fI,fI,mE,be];congr 1;rw[pV,pV,show m-1-k=m-(k+1) by lia];let e2:b.extract (m-(k+1)) m=(b.extract (m-(k+1)) (m-1)).push b[m-1]:=by
    apply Array.ext;.simp;lia
    .intro i h1 q;simp at h1 q;rw[Array.getElem_push];split;.simp
     .rename_i z;simp at z;simp;congr 1;lia
   rw[e2,mE,u7];rfl
  rw[e,show m-(k+1)=m-1-k by lia];show D
def Q7 {a b r:Array Keyed}(h:wz (λx y=>kL K y x) b.toList.reverse a.toList.reverse r.toList.reverse):wz (kL K) a.toList b.toList r.toList:=by calc%[?_|List.pairwise_reverse.mp h.2];calc(List.reverse_perm r.toList).symm.trans (h.1.trans ?_);rw[<-u7];show List.reverse_perm _
def gM.done (g:gM K a b out n m)(ha:a.toList.Pairwise (kL K))(j:b.toList.Pairwise (kL K))(h:n=0\/m=0):wz (kL K) a.toList b.toList (a.extract 0 n++b.extract 0 m++out.reverse).toList:=by calc Q7 ?_;have:=g.mg.done (vh j) (vh ha) (by simp;lia);rw[sy g.na,sy g.mb]at this;simpa using this
def gM.afj (g:gM K a b out n m)(ha:a.toList.Pairwise (kL K))(F:b.toList.Pairwise (kL K))(h:∀u (q:u<b.size),u<m->∀t (j:t<a.size),t<n->K.kle (kf K b[u]) (kf K a[t])):wz (kL K) a.toList b.toList (b.extract 0 m++a.extract 0 n++out.reverse).toList:=by
 calc Q7 ?_;have:=g.mg.abE (vh F) (vh ha) λx hx y D=>by let(t,j,B,rfl):=Ds g.na hx;let(u,q,h1,rfl):=Ds g.mb D;show h u q h1 t j B
 rw[sy g.na,sy g.mb]at this;simpa using this
def gM.zero:gM K a b #[] a.size b.size:=%[ah _,ah _|by rw[nB,nB];show Mg.zero]
def O9 {a b:Array Keyed}{st:SortSt}{Q:Array Keyed->SortSt->Prop}(hO:iB prog w A s K kn)(hk:kindOf st=kn)(hka:KeysOf K a)(hkb:KeysOf K b)(ha:a.toList.Pairwise (kL K))(hb:b.toList.Pairwise (kL K))(a0:0<a.size)(b0:0<b.size)(hlo:K.klt (kf K b[0]) (kf K a[0]))(hhi:∀j (hj:j<b.size),K.kle (kf K b[j]) (kf K a[a.size-1]))(h:∀r st',wz (kL K) a.toList b.toList r.toList->jO st st'->Q r st'):wpS (model prog w) A E s ((sortPriv% PySem.Builtin.mergeHi) a b) Q st:=by
 let hlow:∀t (B:t<a.size),K.klt (kf K b[0]) (kf K a[t]):=λt B=>rj hlo (mC ha (b8 _) B);let wB:∀{out:Array Keyed} {n m:Nat} {st':SortSt},jO st st'->gM K a b out n m->(n=0\/m=0)->Q (a.extract 0 n++b.extract 0 m++out.reverse) st':=λ{out n m st'} e g z=>h _ _ (g.done ha hb z) e;let D:∀{out:Array Keyed} {n m:Nat} {st':SortSt},jO st st'->gM K a b out n m->m=1->Q (b.extract 0 m++a.extract 0 n++out.reverse) st':=λ{out n m st'} e g z=>h _ _ (g.afj ha hb λu Z h1 t B h2=>by
  obtain rfl:u=0:=by first|lia|((try dsimp only);lia)
  show dS (hlow t B)) e
 show wpS _ _ _ _ (_ >>= _) _ _;refine a8 (wpS_lift (gT %[rb|?_]))
 skip
 walk_at"a"
 calc a8 (cQ (show a.size-1<a.size by first|lia|((try dsimp only);lia)) ?_);let m0:gM K a b (#[a[a.size-1]]:Array Keyed) (a.size-1) b.size:=by have:=gM.uh (gM.zero (K:=K) (a:=a) (b:=b)) ha a0 xA λu Z _=>hhi u Z;simpa using this
 walk_at"a"
 by_cases z1:a.size-1=0
 .calc bA (by simpa using z1) ?_;show bo (wB (jO.refl _) m0 (.inl z1))
 calc aY (by simpa using z1) ?_;by_cases z2:b.size=1
 .calc bA (by simpa using z2) ?_;show bo (D (jO.refl _) m0 z2)
 calc aY (by simpa using z2) ?_;refine a8 (r_ ?_)
 walk_at"a"
 refine a8 (iE (fF (I:=λ(x:Nat) (c:Option (Array Keyed)×Nat×Nat×Array Keyed×Nat) (st':SortSt)=>∃n m out g,c=(none,n,m,out,g)/\jO st st'/\gM K a b out n m/\1<=n/\2<=m/\n+m+x+1<=a.size+b.size)
  (Q:=λ(c:Option (Array Keyed)×Nat×Nat×Array Keyed×Nat) (st':SortSt)=>∃r q,c=(some r,q)/\Q r st') ?_ ?_ %[36,_,_,_,_,rb,jO.refl _,m0,xA,xA|xA]) ?_)
 .intro x c st1 _ hx z;let(n,m,out,g,rfl,e1,m1,hn,hm,hc):=z
  walk_at"a"
  refine a8 (iE (fF (I:=λ(y:Nat) (c:Option (Array Keyed)×Nat×Nat×Array Keyed×Nat×Nat) (st':SortSt)=>∃G F out p q,c=(none,G,F,out,p,q)/\jO st st'/\gM K a b out G F/\1<=G/\2<=F/\G+F+y<=n+m)
   (Q:=λ(c:Option (Array Keyed)×Nat×Nat×Array Keyed×Nat×Nat) (st':SortSt)=>(∃r q,c=(some r,q)/\Q r st')\/∃G F out p q,c=(none,G,F,out,p,q)/\jO st st'/\gM K a b out G F/\1<=G/\2<=F/\G+F+1<=n+m) ?_ ?_ %[12,_,_,_,_,_,rb,e1,m1,hn,hm|xA]) ?_)
  .intro y c st2 _ hy z;let(n,m,out,p,q,rfl,e2,m2,hn,hm,hc):=z;let hna:=m2.na;let hmb:=m2.mb;let ln:n-1<a.size:=cp xo xo;let Y:m-1<b.size:=cp xo xo
   walk_at"a"
   calc a8 (cQ Y (a8 (cQ ln ?_)));refine a8 (yH hO (by rw[e2.kind];show hk) (mV hkb Y) (mV hka ln) ?_)
   walk_at"a"
   cases e:K.blt (kf K b[m-1]) (kf K a[n-1]) with
   | true=>
    refine bA rb ?_
    walk_at"a"
    refine a8 (cQ ln ?_)
    walk_at"a"
    let m3:=m2.uh ha hn ln λu Z h1=>dq (mC hb (show u<=m-1 from eI h1) Y) (dS e);by_cases z:n-1=0
    .calc bA (by simpa using z) ?_;show bo (.inl %[3,_,_,rb|wB e2 m3 (.inl z)])
    .calc aY (by simpa using z) ?_;by_cases z':p+1>=g
     .calc bA z' ?_;show bo (.inr %[12,_,_,_,_,_,rb,e2,m3,xA,hm|xA])
     .calc aY z' ?_;show bo %[12,_,_,_,_,_,rb,e2,m3,xA,hm|xA]
   | false=>
    refine aY xp ?_
    walk_at"a"
    refine a8 (cQ Y ?_)
    walk_at"a"
    let m3:=m2.wA hb (av hm) Y λu Z h1=>dq (mC ha (show u<=n-1 from eI h1) ln) (show K.kle _ _ from e);by_cases z:m-1=1
    .calc bA (by simpa using z) ?_;show bo (.inl %[3,_,_,rb|D e2 m3 z])
    .calc aY (by simpa using z) ?_;by_cases z':q+1>=g
     .calc bA z' ?_;show bo (.inr %[12,_,_,_,_,_,rb,e2,m3,hn,xA|xA])
     .calc aY z' ?_;show bo %[12,_,_,_,_,_,rb,e2,m3,hn,xA|xA]
  .intro c st2 z;let(G,F,out,p,q,rfl,e2,m2,hn',hm',hc'):=z;exfalso;lia
  .rintro c st2 (⟨r,q,rfl,hq⟩|⟨G,F,out,p,q,rfl,e2,m2,hn',hm',hc'⟩)
   .walk_at"a"
    show bo %[3,_,_,rb|hq]
   .walk_at"a"
    refine a8 (wpS_lift (gT %[rb|?_]))
    walk_at"a"
    refine a8 (iE (fF (I:=λ(y:Nat) (c:Option (Array Keyed)×Nat×Nat×Array Keyed×Nat×Nat×Nat) (st':SortSt)=>∃O m2 out g p q,c=(none,O,m2,out,g,p,q)/\jO st st'/\gM K a b out O m2/\1<=O/\2<=m2/\O+m2+y<=G+F)
     (Q:=λ(c:Option (Array Keyed)×Nat×Nat×Array Keyed×Nat×Nat×Nat) (st':SortSt)=>(∃r q,c=(some r,q)/\Q r st')\/∃O m2 out g p q,c=(none,O,m2,out,g,p,q)/\jO st st'/\gM K a b out O m2/\1<=O/\2<=m2/\O+m2<=G+F) ?_ ?_ %[43,_,_,_,_,_,_,rb,e2,m2,hn',hm'|xA]) ?_)
    .intro y c st3 _ hy z;let(n,m,out,g,p,q,rfl,e3,m3,hn,hm,hc):=z;let hna:=m3.na;let hmb:=m3.mb;let ln:n-1<a.size:=by first|lia|((try dsimp only);lia)
     let Y:m-1<b.size:=by first|lia|((try dsimp only);lia)
     walk_at"a"
     extract_lets -underBinder +onlyGivenNames l1 l2 l3 l4 l5 l6 l7 l8 l9 l10 l11 jp1
     let q4:l2=n:=rfl;let q4b:l1.fst=n:=rfl;let q6:l4=m:=rfl;let q6b:l3.fst=m:=rfl;let q8:l8=g:=rfl;let q8b:l7.fst=g:=rfl;refine vg (J:=λg':Nat=>jp1 () g') (C:=λ_=>True) (λg' _=>?_) (λhJ=>?_)
     rotate_left
     .by_cases z:g > 1
      .calc bA z ?_;show hJ (g-1) trivial
      .calc aY z ?_;show hJ g trivial
     walk_at"a"
     calc a8 (m7 e3 λeY e4=>?_);calc a8 (cQ Y ?_);calc a8 (mz hO (by rw[e4.kind];show hk) (mV hkb Y) hka (wo xo xo) (by simp[*]) (Wq ha xA) λk hk1 hk2 hk3=>?_);let kA:∀t (B:t<a.size),t<k->K.kle (kf K a[t]) (kf K b[m-1]):=λt B h1=>by have:=hk2 t h1;rw[gv,zW B]at this;show this
     let kB:∀t (B:t<a.size),k<=t->t<n->K.klt (kf K b[m-1]) (kf K a[t]):=λt B h1 h2=>by have:=hk3 t h1 h2;rw[gv,Lj B]at this;show this
     walk_at"a"
     extract_lets -underBinder +onlyGivenNames kx ac jp2
     let q10:kx=n-k:=rfl;let q11:ac=n-k:=rfl;refine vg (J:=λo:Nat×Array Keyed=>jp2 () o.1 o.2) (C:=λo=>gM K a b o.2 o.1 m/\o.1=k/\1<=o.1) (λo ho=>?_) (λhJ=>?_)
     .let(L,o2):=o;let(mo,eo,qR):=ho;let eo:L=k:=eo;subst eo;let mo:gM K a b o2 L m:=mo;let qR:1<=L:=qR;let lk:L-1<a.size:=cp xo xo
      walk_at"a"
      walk_at"a"
      refine a8 (cQ Y ?_)
      walk_at"a"
      let m5:=mo.wA hb xA Y λu Z h1=>kA u Z h1;by_cases z:m-1=1
      .calc bA (by simpa using z) ?_;show bo (.inl %[3,_,_,rb|D e4 m5 z])
      calc aY (by simpa using z) ?_;calc a8 (cQ lk ?_);calc a8 (mz hO (by rw[e4.kind];show hk) (mV hka lk) hkb (by grind) xA (Wr hb xA) λM h1 h2 h3=>?_);let lb:∀t (B:t<b.size),t<M->K.klt (kf K b[t]) (kf K a[L-1]):=λt B q1=>by have:=h2 t q1;rw[gv,zX B]at this;show this
      let la:∀t (B:t<b.size),M<=t->t<m-1->K.kle (kf K a[L-1]) (kf K b[t]):=λt B q1 q2=>by have:=h3 t q1 q2;rw[gv,Lk B]at this;show this
      let Q8:0<M:=by
       rcases vy M with z|z
       .let h4:=la 0 b0 (kN z) (we hm);show absurd (hlow (L-1) lk) (tm h4)
       .show z
      walk_at"a"
      extract_lets -underBinder +onlyGivenNames ky bc jp3
      refine vg (J:=λo:Nat×Array Keyed=>jp3 () o.1 o.2) (C:=λo=>gM K a b o.2 L o.1/\o.1=M/\2<=o.1) (λo ho=>?_) (λhJ=>?_)
      .let(p1,p2):=o;let(mo,eo,hp3):=ho;let eo:p1=M:=eo;subst eo;let mo:gM K a b p2 L p1:=mo;let hp3:2<=p1:=hp3
       walk_at"a"
       walk_at"a"
       refine a8 (cQ lk ?_)
       walk_at"a"
       let N:=mo.uh ha qR lk λu Z h1=>dS (lb u Z h1);by_cases z:L-1=0
       .calc bA (by simpa using z) ?_;show bo (.inl %[3,_,_,rb|wB e4 N (.inl z)])
       calc aY (by simpa using z) ?_;by_cases z':(decide (n-L<7)&&decide (m-1-p1<7))=true
       .calc bA z' ?_;show bo (.inr %[43,_,_,_,_,_,_,rb,e4,N,xA,hp3|by grind])
       .calc aY z' ?_;show bo %[43,_,_,_,_,_,_,rb,e4,N,xA,hp3|by grind]
      .by_cases z3:m-1-M > 0
       .refine bA z3 ?_
        walk_at"a"
        let N:=gM.yJ hb (m-1-M) m5 (wn _ _) λt B q1 q2 u Z q3=>dq (mC ha (show u<=L-1 from eI q3) lk) (la t B xA q2);rw[show m-1-(m-1-M)=M from hV h1]at N;by_cases z4:M=1
        .calc bA (by simpa using z4) ?_;show bo (.inl %[3,_,_,rb|D e4 N z4])
        .calc aY (by simpa using z4) ?_;calc aY (by simp;show g9 Q8) ?_;show hJ (_,_) %[N,rb|by dsimp only;lia]
       .calc aY z3 ?_;obtain rfl:M=m-1:=by grind
        show hJ (_,_) %[m5,rb|by dsimp only;lia]
     .by_cases z3:n-k > 0
      .refine bA z3 ?_
       walk_at"a"
       let N:=gM.yI ha (n-k) m3 (wn _ _) λt B q1 q2 u Z q3=>dq (mC hb (show u<=m-1 from eI q3) Y) (dS (kB t B xA q2));rw[show n-(n-k)=k by first|lia|((try dsimp only);lia)]at N;by_cases z4:k=0
       .calc bA (by simpa using z4) ?_;show bo (.inl %[3,_,_,rb|wB e4 N (.inl z4)])
       .calc aY (by simpa using z4) ?_;show hJ (_,_) %[N,rb|by dsimp only;lia]
      .calc aY z3 ?_;obtain rfl:k=n:=by first|lia|((try dsimp only);lia)
       show hJ (_,_) %[m3,rb|by dsimp only;lia]
    .intro c st3 z;let(O,m2',out,g,p,q,rfl,e3,m3,hn2,hm2,hc2):=z;exfalso;lia
    .rintro c st3 (⟨r,q,rfl,hq⟩|⟨O,m2',out,g,p,q,rfl,e3,m3,hn2,hm2,hc2⟩)
     .walk_at"a"
      show bo %[3,_,_,rb|hq]
     .walk_at"a"
      calc a8 (m7 e3 λeY e4=>?_);show bo %[36,_,_,_,_,rb,e4,m3,hn2,hm2|xA]
 .intro c st1 z;let(n,m,out,g,rfl,e1,m1,hn,hm,hc):=z;exfalso;lia
 .intro c st1 z;let(r,q,rfl,hq):=z;show bo hq
def acD {T:Type}{M:Model}{x:T}{Q:PUnit->T->Prop}{st:T}(h:Q ⟨⟩ x):wpS M A E s (set x:StateT T Sem PUnit) Q st:=by unfold wpS;rw[StateT.run_set];show ae %[rb|h]
theorem Ln:∀(m:List Keyed) (n:Nat) (o:Nat) (P X S:List Keyed) (arr:Array Keyed),arr.toList=P++(X++S)->X.length=m.length->P.length=o+n->((m.zipIdx n).foldl (λa (x:Keyed×Nat)=>a.setIfInBounds (o+x.2) x.1) arr).toList=P++(m++S)
 | [],n,o,P,X,S,arr,e,h,_=>by obtain rfl:X=[]:=ly.mp h;simpa using e
 | y::m,n,o,P,X,S,arr,e,h,hp=>by
  obtain⟨x,j,rfl⟩:∃x j,X=x::j:=by
   cases X with| nil=>simp at h| cons x j=>show%[6,x,j|rb]
  rw[wx,w_];let e2:(arr.setIfInBounds (o+n) y).toList=(P++[y])++(j++S):=by rw[v0,e,<-hp,List.set_append_right _ _ (ah _),nB];simp
  have:=Ln m (n+1) o (P++[y]) j S (arr.setIfInBounds (o+n) y) e2 (by simpa using h) (by simp;lia);simpa using this
def seg_at {arr:Array Keyed}{P X S:List Keyed}(e:arr.toList=P++(X++S)){t:Nat}(j:t<X.length):∃h:P.length+t<arr.size,arr[P.length+t]=X[t]:=by
 let q:arr.size=P.length+(X.length+S.length):=by rw[<-bq,e];simp
 calc%[xo|?_];let h1:arr.toList[P.length+t]?=some X[t]:=by rw[e,d6 xo,iq,fq j,ag j]
 rw[ck,b6 xo]at h1;show bg h1
def Du {X:List Keyed}(h:X.Pairwise (kL K))(q:i<=j)(B:j<X.length):K.kle (kf K X[i]) (kf K X[j]):=by
 rcases Nat.eq_or_lt_of_le q with z|z;.subst z;show gV _
 .show(kK.mp h) i j (mh z B) B z
def O_ {i sa na p1 sb nb p2:Nat}{st:SortSt}{Pl X Y Sl:List Keyed}{Q:Bool->SortSt->Prop}(hO:iB prog w A s K kn)(hk:kindOf st=kn)(hf:failedOf st=none)(J:KeysOf K (arrOf st))(h1:(pendingOf st)[i]?=some (sa,na,p1))(h2:(pendingOf st)[i+1]?=some (sb,nb,p2))(e:(arrOf st).toList=Pl++(X++(Y++Sl)))(lP:Pl.length=sa)(lX:X.length=na)(lY:Y.length=nb)(hsb:sb=sa+na)(x0:0<na)(y0:0<nb)(uX:X.Pairwise (kL K))(uY:Y.Pairwise (kL K))(h:∀st' Z,kindOf st'=kindOf st->failedOf st'=none->pendingOf st'=((pendingOf st).setIfInBounds i (sa,na+nb,p1)).eraseIdxIfInBounds (i+1)->(arrOf st').toList=Pl++(Z++Sl)->Z.Perm (X++Y)->Z.Pairwise (kL K)->Q true st'):wpS (model prog w) A E s ((sortPriv% PySem.Builtin.mergeAt) i) Q st:=by
 subst hsb lP lX lY;let e':(arrOf st).toList=(Pl++X)++(Y++Sl):=by rw[e];simp
 let gX:∀{t},(F:t<X.length)->∃h:Pl.length+t<(arrOf st).size,(arrOf st)[Pl.length+t]=X[t]:=λF=>seg_at e F;let gY:∀{t},(F:t<Y.length)->∃h:Pl.length+X.length+t<(arrOf st).size,(arrOf st)[Pl.length+X.length+t]=Y[t]:=λF=>by have:=seg_at e' F;rw[ax]at this;show this
 let hsz:(arrOf st).size=Pl.length+(X.length+(Y.length+Sl.length)):=by rw[<-bq,e];simp
 let(O,ey0):=gY y0;rw[t9]at O;let ahB:(arrOf st)[Pl.length+X.length]=Y[0]:=ey0;show wpS _ _ _ _ (_ >>= _) _ _;calc a8 (r_ ?_);rw[h1,h2]
 walk_at"a"
 calc a8 (acD ?_);calc a8 (cQ O ?_);refine a8 (mz hO hk (mV J O) J x0 (show Pl.length+X.length<=(arrOf st).size from av O) ?_ λk hk1 hk2 hk3=>?_)
 .intro p q hpq hq hb;let(L,M):=gX hq;let(g3,g4):=gX (show p<X.length by lia);rw[zW L,M]at hb;rw[zW g3,g4];show dq (Du uX hpq hq) hb
 rw[ahB]at hk2 hk3;let kA:∀x∈X.take k,K.kle (kf K x) (kf K Y[0]):=λx hx=>by
  let(t,F,rfl):=cK.mp hx;let D:t<k:=by simp at F;simp_all
  let(L,M):=gX (show t<X.length from bt D hk1);have:=hk2 t D;rw[zW L,M]at this;simpa using this
 let kB:∀x∈X.drop k,K.klt (kf K Y[0]) (kf K x):=λx hx=>by
  let(t,F,rfl):=cK.mp hx;let D:k+t<X.length:=by simp at F;lia
  let(L,M):=gX D;have:=hk3 (k+t) xo D;rw[Lj L,M]at this;simpa using this
 let yl:∀y∈Y,K.kle (kf K Y[0]) (kf K y):=λy N=>by let(t,F,rfl):=cK.mp N;show Du uY (b8 _) F
 walk_at"a"
 by_cases z1:X.length-k=0
 .calc bA (by simpa using z1) ?_;calc bo (h _ (X++Y) rb hf rb (by rw[be];show e) (List.Perm.refl _) ?_);rw[f7];calc%[uX,uY|λx hx y N=>?_];have:X.take k=X:=cx xo;show dq (kA x (by rw[this];show hx)) (yl y N)
 calc aY (by simpa using z1) ?_;let hkx:k<X.length:=xo;let el:Pl.length+k+(X.length-k)-1=Pl.length+(X.length-1):=gt xo;let(hl0,hl1):=gX (show X.length-1<X.length from wo x0 Nat.one_pos);let hel:Pl.length+k+(X.length-k)-1<(arrOf st).size:=by grind
 let ex:(arrOf st)[Pl.length+k+(X.length-k)-1]=X[X.length-1]:=by rw[<-hl1];congr 1
 let agS:∀x∈X,K.kle (kf K x) (kf K X[X.length-1]):=λx hx=>by let(t,F,rfl):=cK.mp hx;show Du uX (eI F) xo
 let ahC:X[X.length-1]∈X.drop k:=by calc cK.mpr %[X.length-1-k,by simp;show fv xo|?_];rw[List.getElem_drop];congr 1;grind
 calc a8 (cQ hel ?_);refine a8 (mz hO hk (mV J hel) J (show Y.length-1<Y.length from wo y0 Nat.one_pos) (show Pl.length+X.length+Y.length<=(arrOf st).size by lia) ?_ λB hy1 hy2 Q9=>?_)
 .intro p q hpq hq hb;let(L,M):=gY hq;let(g3,g4):=gY (show p<Y.length by lia);rw[zX L,M]at hb;rw[zX g3,g4];show KeyOrd.klt_of_kle_of_klt (Du uY hpq hq) hb
 rw[ex]at hy2 Q9;let yA:∀y∈Y.take B,K.klt (kf K y) (kf K X[X.length-1]):=λy N=>by
  let(t,F,rfl):=cK.mp N;let D:t<B:=by simp at F;lia
  let(L,M):=gY (show t<Y.length by lia);have:=hy2 t D;rw[zX L,M]at this;simpa using this
 let yB:∀y∈Y.drop B,K.kle (kf K X[X.length-1]) (kf K y):=λy N=>by
  let(t,F,rfl):=cK.mp N;let D:B+t<Y.length:=by simp at F;lia
  let(L,M):=gY D;have:=Q9 (B+t) xo D;rw[Lk L,M]at this;simpa using this
 walk_at"a"
 let Q8:0<B:=by
  rcases vy B with z|z
  .subst z;let h3:=yB Y[0] xp;show absurd (kB _ ahC) (tm h3)
  .show z
 refine aY (by simp;lia) ?_
 walk_at"a"
 let la:((arrOf st).extract (Pl.length+k) (Pl.length+X.length)).toList=X.drop k:=by rw[ue,qS,e,List.drop_length_add_append,List.drop_append_of_le_length hk1];show List.take_left' (by simp;lia)
 let lb:((arrOf st).extract (Pl.length+X.length) (Pl.length+X.length+B)).toList=Y.take B:=by rw[ue,qS,e',show Pl.length+X.length=(Pl++X).length by simp,List.drop_left,iq,List.take_append_of_le_length hy1]
 generalize hga:(arrOf st).extract (Pl.length+k) (Pl.length+X.length)=a at la;generalize hgb:(arrOf st).extract (Pl.length+X.length) (Pl.length+X.length+B)=b at lb
 extract_lets -underBinder +onlyGivenNames xx yy jp
 let hJ:∀r st',wz (kL K) a.toList b.toList r.toList->kindOf st'=kindOf st->arrOf st'=arrOf st->failedOf st'=none->pendingOf st'=((pendingOf st).setIfInBounds i (Pl.length,X.length+Y.length,p1)).eraseIdxIfInBounds (i+1)->wpS (model prog w) A E s (jp r) Q st':=by
  intro r st' fr e1 e2 e3 e4;rw[la,lb]at fr
  walk_at"a"
  calc a8 (tT (a8 (r_ ?_)));let hZ:∀z∈r.toList,z∈X.drop k\/z∈Y.take B:=λz hz=>a6.mp (fr.1.mem_iff.mp hz);let er:=Ln r.toList 0 (Pl.length+k) (Pl++X.take k) (X.drop k++Y.take B) (Y.drop B++Sl) (arrOf st) (by
   rw[e];rw[be,be,<-be (Y.take B),c_,<-be (X.take k),c_]) fr.1.length_eq.symm (by simp;lia)
  refine cast (congrArg (λq=>wpS (model prog w) A E s (pure q) Q _) (show true=_ from ?_)) (bo (h _ (X.take k++(r.toList++Y.drop B)) e1 e3 e4 ?_ ?_ ?_))
  .show true=(failedOf st').isNone;rw[e3];rfl
  .show (List.foldl _ (arrOf st') r.toList.zipIdx).toList=_;rw[e2];calc Eq.trans ?_ (er.trans xp);rfl
  .let p1:(r.toList++Y.drop B).Perm ((X.drop k++Y.take B)++Y.drop B):=fr.1.append_right _;let p2:=kF (X.take k) p1;let e5:X.take k++((X.drop k++Y.take B)++Y.drop B)=X++Y:=by rw[be,c_,<-be,c_]
   rw[<-e5];show p2
  .rw[f7];refine%[uX.sublist (sh _ _),?_|λx hx z hz=>?_]
   .rw[f7];calc%[fr.2,uY.sublist (iF _ _)|λz hz y N=>?_];rcases hZ z hz with q|q;.show dq (agS z (ik q)) (yB y N)
    .show dq (dS (yA z q)) (yB y N)
   .let hxy:K.kle (kf K x) (kf K Y[0]):=kA x hx;rcases a6.mp hz with q|q
    .rcases hZ z q with q|q;.show dq hxy (dS (kB z q))
     .show dq hxy (yl z (f6 q))
    .show dq hxy (yl z (ik q))
 let hka:KeysOf K a:=λp hp=>by rw[la]at hp;show J p (by rw[e];simp[ik hp])
 let hkb:KeysOf K b:=λp hp=>by rw[lb]at hp;show J p (by rw[e];simp[f6 hp])
 let sa:a.size=X.length-k:=by rw[<-bq,la];simp
 let sb:b.size=B:=by rw[<-bq,lb];simp;lia
 let gb0:∀j (G:j<b.size),b[j]∈Y.take B:=λj G=>by rw[<-lb];simp
 let gl:∀(G:a.size-1<a.size),a[a.size-1]=X[X.length-1]:=λG=>by
  let h4:a.toList[a.size-1]?=some X[X.length-1]:=by rw[la,kH,sa,show k+(X.length-k-1)=X.length-1 by grind,ag xo]
  rw[ck,b6 G]at h4;show bg h4
 let ahD:∀(G:0<b.size),b[0]=Y[0]:=λG=>by
  let h4:b.toList[0]?=some Y[0]:=by rw[lb,re Q8,ag y0]
  rw[ck,b6 G]at h4;show bg h4
 let ga0:∀(G:0<a.size),a[0]∈X.drop k:=λG=>by rw[<-la];simp
 let ua:a.toList.Pairwise (kL K):=by rw[la];show uX.sublist (iF _ _)
 let ub:b.toList.Pairwise (kL K):=by rw[lb];show uY.sublist (sh _ _)
 let a0:0<a.size:=xo;let b0:0<b.size:=xo;let hlo:K.klt (kf K b[0]) (kf K a[0]):=by rw[ahD b0];show kB _ (ga0 a0)
 let hhi:∀j (G:j<b.size),K.klt (kf K b[j]) (kf K a[a.size-1]):=λj G=>by rw[gl xo];show yA _ (gb0 j G)
 by_cases z5:X.length-k<=B
 .calc bA z5 ?_;show a8 (O8 hO hk hka hkb ua ub a0 b0 (dS hlo) hhi λr st' fr q=>hJ r st' fr q.kind q.arr (q.fail.trans hf) q.pend)
 .calc aY z5 ?_;show a8 (O9 hO hk hka hkb ua ub a0 b0 hlo (λj G=>dS (hhi j G)) λr st' fr q=>hJ r st' fr q.kind q.arr (q.fail.trans hf) q.pend)
structure SG (st0 st:SortSt)(lo hi:Nat):Prop where
 kind:kindOf st=kindOf st0
 fail:failedOf st=failedOf st0
 pend:pendingOf st=pendingOf st0
 perm:(arrOf st).Perm (arrOf st0)
 out:∀t:Nat,t<lo\/hi<=t->(arrOf st)[t]?=(arrOf st0)[t]?
def SG.refl {st:SortSt}{lo hi:Nat}:SG st st lo hi:=%[rb,rb,rb,Array.Perm.refl _|λ_ _=>rfl]
def SG.size {st0 st:SortSt}{lo hi:Nat}(g:SG st0 st lo hi):(arrOf st).size=(arrOf st0).size:=g.perm.size_eq
def SG.keys {st0 st:SortSt}{lo hi:Nat}(g:SG st0 st lo hi)(h:KeysOf K (arrOf st0)):KeysOf K (arrOf st):=λp hp=>h p ((qq.mp g.perm).mem_iff.mp hp)
def SG.arr {st0 st:SortSt}{lo hi:Nat}(g:SG st0 st lo hi){xs:Array Keyed}(hp:xs.Perm (arrOf st))(q:∀t:Nat,t<lo\/hi<=t->xs[t]?=(arrOf st)[t]?):SG st0 (setArr st xs) lo hi:=%[g.kind,g.fail,g.pend,hp.trans g.perm|λt j=>(q t j).trans (g.out t j)]
def lg (K:PyProof.Rows.KeyKind)(xs:Array Keyed)(lo n:Nat):Prop:=∀i j,i<=j->j<n->K.kle (KK K xs (lo+i)) (KK K xs (lo+j))
def rG {st:SortSt}{i j:Nat}{Q:Option Bool->SortSt->Prop}(O:iB prog w A s K kn)(hk:kindOf st=kn)(q:KeysOf K (arrOf st))(hi:i<(arrOf st).size)(B:j<(arrOf st).size)(h:Q (some (K.blt (KK K (arrOf st) i) (KK K (arrOf st) j))) st):wpS (model prog w) A E s ((sortPriv% PySem.Builtin.ltAt) i j) Q st:=
 by
 show wpS _ _ _ _ (ltAt' i j) Q st;rw[ltAt'_eq];calc a8 (r_ ?_);show wpS _ _ _ _ (do let x <- elem' (arrOf st) i;let y <- elem' (arrOf st) j;lt' x y) Q st;show a8 (cQ hi (a8 (cQ B (yH O hk (su q hi) (su q B) h))))
def T7 {lo n ok:Nat}{st:SortSt}{Q:Bool->SortSt->Prop}(hO:iB prog w A s K kn)(hk:kindOf st=kn)(Z:KeysOf K (arrOf st))(hn:lo+n<=(arrOf st).size)(hok:ok<=n)(hs:lg K (arrOf st) lo ok)(h:∀st',SG st st' lo (lo+n)->lg K (arrOf st') lo n->Q true st'):wpS (model prog w) A E s ((sortPriv% PySem.Builtin.binarySort) lo n ok) Q st:=by
 show wpS _ _ _ _ (_ >>= _) _ _;refine a8 (iE (fF (I:=λ(k:Nat) (c:Option Bool×Unit) (st':SortSt)=>c=(none,())/\SG st st' lo (lo+n)/\lg K (arrOf st') lo (min k n))
  (Q:=λ(c:Option Bool×Unit) (st':SortSt)=>c=(none,())/\SG st st' lo (lo+n)/\lg K (arrOf st') lo n) ?_ ?_ %[rb,SG.refl|?_]) ?_)
 .intro k c q hk1 M z;let(rfl,G,F):=z;rw[oo (av M)]at F;let z1:=G.size
  walk_at"a"
  refine a8 (iE (fF (I:=λ(x:Nat) (c:Option Bool×Nat×Nat) (st':SortSt)=>∃l r,c=(none,l,r)/\st'=q/\l<=r/\r<=k/\r-l<=k-x/\(∀i,i<l->K.kle (KK K (arrOf q) (lo+i)) (KK K (arrOf q) (lo+k)))/\(∀i,r<=i->i<k->K.klt (KK K (arrOf q) (lo+k)) (KK K (arrOf q) (lo+i))))
   (Q:=λ(c:Option Bool×Nat×Nat) (st':SortSt)=>∃l r,c=(none,l,r)/\st'=q/\l<=k/\(∀i,i<l->K.kle (KK K (arrOf q) (lo+i)) (KK K (arrOf q) (lo+k)))/\(∀i,l<=i->i<k->K.klt (KK K (arrOf q) (lo+k)) (KK K (arrOf q) (lo+i)))) ?_ ?_ %[32,0,k,rb,rb,xo,xo,xo,λi hi=>by lia|λi h1 N=>by lia]) ?_)
  .intro x c B _ hx z;let(l,r,rfl,rfl,h1,N,h3,J,L):=z
   walk_at"a"
   by_cases z:l>=r
   .calc bA z ?_;show bo %[18,l,r,rb,rb,ay h1 N,J|λi q1 q2=>L i (ay z q1) q2]
   refine aY z ?_
   walk_at"a"
   refine a8 (rG hO (G.kind.trans hk) (G.keys Z) xo xo ?_)
   walk_at"a"
   cases e:K.blt (KK K (arrOf B) (lo+k)) (KK K (arrOf B) (lo+(l+r)/2)) with| true=>calc bA rb ?_;show bo %[32,l,(l+r)/2,rb,rb,xo,xo,eI (cp xo xo),J|λi q1 q2=>rj e (F _ _ q1 q2)]| false=>calc aY xp ?_;show bo %[32,(l+r)/2+1,r,rb,rb,p_ xo,N,eI (cp xo xo),λi q1=>dq (F i ((l+r)/2) (dQ q1) (p_ xo)) (show K.kle _ _ from e)|L]
  .intro c B z;let(l,r,rfl,rfl,h1,N,h3,J,L):=z;show%[18,l,r,rb,rb,ay h1 N,J|λi q1 q2=>L i (by simp_all;lia) q2]
  .intro c B z;let(l,r,rfl,rfl,h1,J,L):=z
   walk_at"a"
   let O:lo+k<(arrOf B).size:=xo;calc a8 ?_;show wpS _ _ _ _ (moveDown' (lo+k) (lo+l)) _ _;rw[moveDown'_eq];calc tT (bo %[rb,G.arr (bubble_perm _ _ _) λt ht=>?_|?_]);.rw[getElem?_bubble O _ (wn _ _),if_neg (by rw[hV xo];lia),if_neg (by rw[hV xo];lia)]
   .rw[oo M];intro i j D hj;show K.kle (KK K (bubble (arrOf B) (lo+k) (lo+k-(lo+l))) (lo+i)) (KK K (bubble (arrOf B) (lo+k) (lo+k-(lo+l))) (lo+j));let kb:∀t,t<=k->KK K (bubble (arrOf B) (lo+k) (lo+k-(lo+l))) (lo+t)=if t=l then KK K (arrOf B) (lo+k) else if l<t then KK K (arrOf B) (lo+(t-1)) else KK K (arrOf B) (lo+t):=λt ht=>by
     rw[KK_bubble O xo];by_cases q1:t=l;.rw[if_pos (by rw[hV xo];lia),if_pos q1]
     .rw[if_neg (by rw[hV xo];lia),if_neg q1];by_cases q2:l<t;.rw[if_pos (by rw[hV xo];lia),if_pos q2,show lo+t-1=lo+(t-1) from gt xo]
      .rw[if_neg (by rw[hV xo];lia),if_neg q2]
    rw[kb i xo,kb j (dQ hj)];by_cases i1:i=l
    .rw[if_pos i1];by_cases Y:j=l;.rw[if_pos Y];show gV _
     .rw[if_neg Y,if_pos xo];show dS (L (j-1) (eI xo) (cp xo xo))
    .rw[if_neg i1];by_cases i2:l<i
     .rw[if_pos i2,if_neg xo,if_pos (bt i2 D)];show F _ _ (ui D _) (cp xo xo)
     .rw[if_neg i2];by_cases Y:j=l;.rw[if_pos Y];show J i xo
      .rw[if_neg Y];by_cases j2:l<j;.rw[if_pos j2];show F _ _ (fv xo) (cp xo xo)
       .rw[if_neg j2];show F _ _ D xo
 .intro c q z;let(rfl,G,F):=z;refine%[rb,G|?_]
  rwa [show min (max (max ok 1) n) n=n by lia]at F
 .intro i j D hj;by_cases z:ok=0
  .obtain rfl:i=j:=by lia
   show gV _
  .show hs i j D xo
 .intro c q z;let(rfl,G,F):=z;show bo (h _ G F)
def zY {i j:Nat}{st:SortSt}{Q:Unit->SortSt->Prop}(h:Q () (setArr st (mirror (arrOf st) i j ((j-i)/2)))):wpS (model prog w) A E s ((sortPriv% PySem.Builtin.reverseSlice) i j) Q st:=by show wpS _ _ _ _ (reverseSlice' i j) _ _;rw[reverseSlice'_eq];show tT h
def SG.rev {st0 st:SortSt}{lo hi i j:Nat}(g:SG st0 st lo hi)(h1:lo<=i)(D:j<=hi)(q:j<=(arrOf st).size):SG st0 (setArr st (mirror (arrOf st) i j ((j-i)/2))) lo hi:=g.arr (mirror_perm _ _ _ _) λt B=>by rw[getElem?_mirror_all q,if_neg xo]
def Z2 {lo m:Nat}(h1:1<=m)(h:lg K xs lo m)(q:K.kle (KK K xs (lo+(m-1))) (KK K xs (lo+m))):lg K xs lo (m+1):=λi j B D=>by
 rcases eR j m with z|z;.show h i j B z
 .obtain rfl:j=m:=by lia
  rcases eR i j with y|y;.show dq (h i (j-1) (eI y) (wo (ku (b8 _) y) Nat.one_pos)) q
  .obtain rfl:i=j:=by lia
   show gV _
def Lp {lo n B:Nat}{st:SortSt}{f:Nat->(Option (Option Nat)×Nat)->StateT SortSt Sem (ForInStep (Option (Option Nat)×Nat))}(m1:1<=B)(L:B<=n)(J:lg K (arrOf st) lo B)(hf:∀x m (D:ForInStep (Option (Option Nat)×Nat)->SortSt->Prop),1<=m->m<n->(K.blt (KK K (arrOf st) (lo+m)) (KK K (arrOf st) (lo+m-1))=true->D (.done (none,m)) st)->(K.blt (KK K (arrOf st) (lo+m)) (KK K (arrOf st) (lo+m-1))=false->D (.yield (none,m+1)) st)->wpS (model prog w) A E s (f x (none,m)) D st):wpS (model prog w) A E s (forIn [B:n] ((none:Option (Option Nat)),B) f) (λc st'=>st'=st/\∃m,c=(none,m)/\1<=m/\m<=n/\lg K (arrOf st) lo m/\(m=n\/K.klt (KK K (arrOf st) (lo+m)) (KK K (arrOf st) (lo+m-1)))) st:=by
 refine fF (I:=λ(x:Nat) (c:Option (Option Nat)×Nat) (st':SortSt)=>st'=st/\c=(none,x)/\1<=x/\lg K (arrOf st) lo x) ?_ ?_ %[rb,rb,m1|J]
 .intro x c F h1 G z;let(rfl,rfl,j,q):=z;refine hf x x _ j G (λe=>%[rb|%[5,x,rb,j,av G,q|.inr e]]) λe=>%[rb,rb,xo|Z2 j q ?_]
  rw[show lo+(x-1)=lo+x-1 by lia];show e
 .intro c F z;let(rfl,rfl,j,q):=z;rw[Nat.max_eq_right L]at j q ⊢;show%[rb|%[5,n,rb,j,ah _,q|.inl rb]]
def wC (K:PyProof.Rows.KeyKind)(xs:Array Keyed)(lo n:Nat):Prop:=∀i j,i<=j->j<n->K.kle (KK K xs (lo+j)) (KK K xs (lo+i))
def zZ {lo m:Nat}(h1:1<=m)(h:wC K xs lo m)(q:K.kle (KK K xs (lo+m)) (KK K xs (lo+m-1))):wC K xs lo (m+1):=λi j B D=>by
 rcases eR j m with z|z;.show h i j B z
 .obtain rfl:j=m:=by lia
  rcases eR i j with y|y
  .have:=h i (j-1) xo xo;rw[show lo+(j-1)=lo+j-1 by lia]at this;show dq q this
  .obtain rfl:i=j:=by lia
   show gV _
def Wt {lo n:Nat}{st:SortSt}{Q:Option Nat->SortSt->Prop}(hO:iB prog w A s K kn)(hk:kindOf st=kn)(L:KeysOf K (arrOf st))(hn:lo+n<=(arrOf st).size)(n1:1<=n)(h:∀st' m,SG st st' lo (lo+n)->1<=m->m<=n->lg K (arrOf st') lo m->Q (some m) st'):wpS (model prog w) A E s ((sortPriv% PySem.Builtin.countRun) lo n) Q st:=by
 let one:∀xs,lg K xs lo 1:=λxs i j h1 O=>by
  obtain rfl:i=j:=by lia
  show gV _
 show wpS _ _ _ _ (_ >>= _) _ _
 walk_at"a"
 refine a8 (iE (Lp (K:=K) (ah 1) n1 (one _) ?_) ?_)
 .intro x m Q' h1 O q1 q2
  walk_at"a"
  refine a8 (rG hO hk L xo (kq xo) ?_)
  walk_at"a"
  cases e:K.blt (KK K (arrOf st) (lo+m)) (KK K (arrOf st) (lo+m-1)) with| true=>calc bA rb ?_;show bo (q1 e)| false=>calc aY xp ?_;show bo (q2 e)
 intro c B z;let(rfl,m,rfl,h1,O,u1,h3):=z
 walk_at"a"
 by_cases z:m=n
 .calc bA (by simpa using z) ?_;show bo (h _ _ SG.refl h1 O u1)
 calc aY (by simpa using z) ?_;let Wu:K.klt (KK K (arrOf B) (lo+m)) (KK K (arrOf B) (lo+m-1)):=h3.resolve_left z
 extract_lets -underBinder +onlyGivenNames jp
 let hJ:∀N,SG B N lo (lo+n)->wC K (arrOf N) lo (m+1)->wpS (model prog w) A E s (jp ()) Q N:=by
  intro N g2 d2
  walk_at"a"
  refine a8 (wpS_lift (gT %[rb|?_]))
  walk_at"a"
  refine a8 (iE (fF (I:=λ(x:Nat) (c:Option (Option Nat)×Nat×Nat) (st':SortSt)=>∃q,c=(none,x,q)/\SG B st' lo (lo+n)/\wC K (arrOf st') lo x/\q<x/\m+1<=x/\∀t,x-1-q<=t->t<x->KK K (arrOf st') (lo+t)=KK K (arrOf st') (lo+x-1))
   (Q:=λ(c:Option (Option Nat)×Nat×Nat) (st':SortSt)=>∃x q,c=(none,x,q)/\SG B st' lo (lo+n)/\wC K (arrOf st') lo x/\q<x/\m+1<=x/\x<=n/\∀t,x-1-q<=t->t<x->KK K (arrOf st') (lo+t)=KK K (arrOf st') (lo+x-1)) ?_ ?_ %[42,0,rb,g2,d2,xo,ah _|λt q1 q2=>by rw[show lo+t=lo+(m+1)-1 by lia]]) ?_)
  .intro x c D hx1 hx2 z;let(q,rfl,F,M,hq,G,eq):=z;let z3:=F.size
   walk_at"a"
   refine a8 (rG hO (F.kind.trans hk) (F.keys L) xo (kq xo) ?_)
   walk_at"a"
   skip
   cases e:K.blt (KK K (arrOf D) (lo+x)) (KK K (arrOf D) (lo+x-1)) with
   | true=>
    refine bA rb ?_
    skip
    let done:∀Y,SG B Y lo (lo+n)->(∀t,KK K (arrOf Y) t=KK K (arrOf D) t)->∃q,((none:Option (Option Nat)),x+1,0)=(none,x+1,q)/\SG B Y lo (lo+n)/\wC K (arrOf Y) lo (x+1)/\q<x+1/\m+1<=x+1/\∀t,x+1-1-q<=t->t<x+1->KK K (arrOf Y) (lo+t)=KK K (arrOf Y) (lo+(x+1)-1):=λY g4 J=>by calc%[42,0,rb,g4,?_,xo,gz G|λt q1 q2=>by rw[show lo+t=lo+(x+1)-1 by lia]];calc zZ xo (λi j q1 q2=>by rw[J,J];show M i j q1 q2) ?_;rw[J,J];show dS e
    by_cases z4:q > 0
    .calc bA z4 ?_;calc a8 (zY ?_);calc bo (done _ (F.rev (fv xo) xo xo) λt=>?_);show KK_mirror_equal xo (λu q1 q2=>by have:=eq (u-lo) (by simp[gd,kz]at *;lia) xo;rw[show lo+(u-lo)=u by rw[gd]at *;lia]at this;show this) t
    .calc aY z4 ?_;show bo (done _ F λt=>rfl)
   | false=>
    calc aY xp ?_;refine a8 (rG hO (F.kind.trans hk) (F.keys L) (kq xo) xo ?_)
    walk_at"a"
    cases e2:K.blt (KK K (arrOf D) (lo+x-1)) (KK K (arrOf D) (lo+x)) with
    | true=>calc bA rb ?_;show bo %[32,x,q,rb,F,M,hq,G,xo|eq]
    | false=>
     calc aY xp ?_;let ek:KK K (arrOf D) (lo+x-1)=KK K (arrOf D) (lo+x):=K.total _ _ e2 e;calc bo %[42,q+1,rb,F,zZ xo M (by rw[ek];show gV _),sL hq,xo|λt q1 q2=>?_];rw[show lo+(x+1)-1=lo+x from rfl];rcases eR t x with y|y;.rw[eq t xo y,ek]
     .rw[show t=x by lia]
  .intro c D z;let(q,rfl,F,M,hq,G,eq):=z;rw[Nat.max_eq_right xo]at M hq G eq ⊢;show%[32,n,q,rb,F,M,hq,G,ah _|eq]
  .intro c D z;let(x,q,rfl,F,M,hq,G,hxn,eq):=z;let z3:=F.size
   walk_at"a"
   extract_lets -underBinder +onlyGivenNames lr ls n1 nq
   let q1:n1=x:=rfl;let q2:nq=q:=rfl
   conv=>arg 5;dsimp -zeta only[lr]
   extract_lets -underBinder +onlyGivenNames jp2
   let hJ2:∀Y,SG B Y lo (lo+n)->wC K (arrOf Y) lo x->wpS (model prog w) A E s (jp2 ()) Q Y:=by
    intro Y g4 d4;let z4:=g4.size
    walk_at"a"
    calc a8 (zY ?_);let g5:=g4.rev (i:=lo) (j:=lo+x) (ah _) (nV hxn _) xo;let u5:lg K (arrOf (setArr Y (mirror (arrOf Y) lo (lo+x) ((lo+x-lo)/2)))) lo x:=λi j q1 q2=>by show K.kle (KK K (mirror (arrOf Y) lo (lo+x) ((lo+x-lo)/2)) (lo+i)) (KK K (mirror (arrOf Y) lo (lo+x) ((lo+x-lo)/2)) (lo+j));rw[KK_mirror xo,KK_mirror xo,if_pos xo,if_pos (by simp_all),show lo+(lo+x)-1-(lo+i)=lo+(x-1-i) from gt xo,show lo+(lo+x)-1-(lo+j)=lo+(x-1-j) from gt xo];show d4 _ _ (Nat.sub_le_sub_left q1 _) (kq xo)
    generalize setArr Y (mirror (arrOf Y) lo (lo+x) ((lo+x-lo)/2))=Kz at g5 u5;let z5:=g5.size;refine a8 (iE (Lp (K:=K) xo hxn u5 ?_) ?_)
    .intro y p Q' h1 O q1 q2
     walk_at"a"
     refine a8 (rG hO (g5.kind.trans hk) (g5.keys L) xo (kq xo) ?_)
     walk_at"a"
     cases e:K.blt (KK K (arrOf Kz) (lo+p)) (KK K (arrOf Kz) (lo+p-1)) with| true=>calc bA rb ?_;show bo (q1 e)| false=>calc aY xp ?_;show bo (q2 e)
    .intro c st6 z;let(rfl,p,rfl,h1,O,u6,_):=z;show bo (h _ _ g5 h1 O u6)
   by_cases z4:q > 0
   .calc bA z4 ?_;calc a8 (zY ?_);calc hJ2 _ (F.rev (by simp_all;lia) (nV hxn _) xo) λi j q1 q2=>?_;let J:∀t,KK K (mirror (arrOf D) (lo+x-(q+1)) (lo+x) ((lo+x-(lo+x-(q+1)))/2)) t=KK K (arrOf D) t:=KK_mirror_equal xo λu q1 q2=>by
     have:=eq (u-lo) xo xo;rw[show lo+(u-lo)=u by lia]at this;show this
    show K.kle (KK K (mirror (arrOf D) (lo+x-(q+1)) (lo+x) ((lo+x-(lo+x-(q+1)))/2)) (lo+j)) (KK K (mirror (arrOf D) (lo+x-(q+1)) (lo+x) ((lo+x-(lo+x-(q+1)))/2)) (lo+i));rw[J,J];show M i j q1 q2
   .calc aY z4 ?_;show hJ2 _ F M
 by_cases z2:m > 1
 .calc bA z2 ?_;refine a8 (rG hO hk L xo (kq xo) ?_)
  walk_at"a"
  cases e:K.blt (KK K (arrOf B) lo) (KK K (arrOf B) (lo+m-1)) with
  | true=>calc bA rb ?_;show bo (h _ _ SG.refl h1 O u1)
  | false=>
   calc aY xp ?_;calc a8 (zY ?_);let Z:∀t,t<m->KK K (arrOf B) (lo+t)=KK K (arrOf B) (lo+m-1):=λt ht=>by let a1:=u1 t (m-1) (eI ht) xo;let a2:=u1 0 t xo ht;rw[show lo+(m-1)=lo+m-1 by lia]at a1;rw[t9]at a2;show KeyOrd.kle_antisymm a1 (dq (show K.kle _ _ from e) a2)
   let J:∀t,KK K (mirror (arrOf B) lo (lo+m) ((lo+m-lo)/2)) t=KK K (arrOf B) t:=KK_mirror_equal xo λu q1 q2=>by have:=Z (u-lo) (cp xo xo);rw[show lo+(u-lo)=u from lI q1]at this;show this
   calc hJ _ (SG.refl.rev (ah _) (nV O _) xo) ?_;refine zZ h1 (λi j q1 q2=>?_) ?_
   .show K.kle (KK K (mirror (arrOf B) lo (lo+m) ((lo+m-lo)/2)) (lo+j)) (KK K (mirror (arrOf B) lo (lo+m) ((lo+m-lo)/2)) (lo+i));rw[J,J,Z i (ku q1 q2),Z j q2];show gV _
   .show K.kle (KK K (mirror (arrOf B) lo (lo+m) ((lo+m-lo)/2)) (lo+m)) (KK K (mirror (arrOf B) lo (lo+m) ((lo+m-lo)/2)) (lo+m-1));rw[J,J];show dS Wu
 .calc aY z2 ?_;obtain rfl:m=1:=by lia
  calc hJ _ SG.refl (zZ h1 (λi j q1 q2=>?_) (dS Wu));obtain rfl:i=j:=by lia
  show gV _
def gb:Nat->List (List Keyed)->List (Nat×Nat×Nat)->Prop
 | _,[],[]=>True
 | o,r::rs,p::ps=>p.1=o/\p.2.1=r.length/\gb (o+r.length) rs ps
 | _,_,_=>False
theorem gb.len:∀{rs:List (List Keyed)} {ps:List (Nat×Nat×Nat)} {o:Nat},gb o rs ps->ps.length=rs.length
 | [],[],_,_=>rfl
 | r::rs,p::ps,o,h=>by rw[bP,bP,gb.len h.2.2]
theorem gb.app:∀{F G:List (List Keyed)} {f g:List (Nat×Nat×Nat)} {o:Nat},gb o F f->gb (o+F.flatten.length) G g->gb o (F++G) (f++g)
 | [],G,[],g,o,_,h=>by simpa using h
 | r::F,G,p::f,g,o,h1,h2=>%[h1.1,h1.2.1|gb.app h1.2.2 (by rw[lj,ax]at h2;rw[og];show h2)]
theorem gb.split:∀{F G:List (List Keyed)} {ps:List (Nat×Nat×Nat)} {o:Nat},gb o (F++G) ps->∃f g,ps=f++g/\f.length=F.length/\gb o F f/\gb (o+F.flatten.length) G g
 | [],G,ps,o,h=>%[4,[],ps,rb,rb,trivial|by simpa using h]
 | r::F,G,p::ps,o,h=>by let(f,g,e,l,h1,j):=gb.split (F:=F) (G:=G) h.2.2;calc%[4,p::f,g,by rw[e];rfl,by simp[l],%[h.1,h.2.1|h1]|?_];rw[lj,ax];rw[og]at j;show j
structure gj (K:PyProof.Rows.KeyKind)(kn:SortKind)(a0:List Keyed)(st:SortSt)(rs:List (List Keyed))(rest:List Keyed):Prop where
 kind:kindOf st=kn
 fail:failedOf st=none
 keys:KeysOf K (arrOf st)
 perm:(arrOf st).toList.Perm a0
 arr:(arrOf st).toList=rs.flatten++rest
 pend:gb 0 rs (pendingOf st).toList
 up:∀r∈rs,r.Pairwise (kL K)
 ne:∀r∈rs,r≠[]
def keys_perm {a b:Array Keyed}(p:a.toList.Perm b.toList)(h:KeysOf K b):KeysOf K a:=λx hx=>h x (p.mem_iff.mp hx)
def xH {a0:List Keyed}{i:Nat}{st:SortSt}{F G:List (List Keyed)}{X Y rest:List Keyed}{Q:Bool->SortSt->Prop}(hO:iB prog w A s K kn)(R:gj K kn a0 st (F++X::Y::G) rest)(hi:F.length=i)(h:∀st' Z,gj K kn a0 st' (F++Z::G) rest->Q true st'):wpS (model prog w) A E s ((sortPriv% PySem.Builtin.mergeAt) i) Q st:=by
 subst hi;let(f,g,ep,J,h1,h2):=R.pend.split;obtain⟨p,q,g',rfl⟩:∃p q g',g=p::q::g':=by
  match g,h2 with| p::q::g',_=>show%[10,p,q,g'|rb]
 let(D,pb,pc):=p;let(qa,B,qc):=q;let(e1,e2,e3,e4,M):=h2;let e1:D=0+F.flatten.length:=e1;let e2:pb=X.length:=e2;let e3:qa=0+F.flatten.length+X.length:=e3;let e4:B=Y.length:=e4;let M:gb (0+F.flatten.length+X.length+Y.length) G g':=M;let nX:0<X.length:=u8.mpr (R.ne X xp);let nY:0<Y.length:=u8.mpr (R.ne Y xp);let O:(pendingOf st)[F.length]?=some (D,pb,pc):=by rw[<-ck,ep,<-J];simp
 let N:(pendingOf st)[F.length+1]?=some (qa,B,qc):=by rw[<-ck,ep,<-J,d6 xo];simp
 calc O_ (Pl:=F.flatten) (X:=X) (Y:=Y) (Sl:=G.flatten++rest) hO R.kind R.fail R.keys O N (by rw[R.arr];simp) xo e2.symm e4.symm (by simp_all) (by simp_all) xo (R.up X xp) (R.up Y xp) λst' Z k1 k2 k3 k4 j k6=>?_;let pm:(arrOf st').toList.Perm (arrOf st).toList:=by rw[k4,R.arr];simp only[ve,lj,be];calc kF _ ?_;rw[<-be X];show j.append_right _
 refine h st' Z %[k1.trans R.kind,k2,keys_perm pm R.keys,pm.trans R.perm,by rw[k4];simp,?_,λr L=>?_|λr L=>?_]
 .let e5:(pendingOf st').toList=f++(D,pb+B,pc)::g':=by
   rw[k3,Array.toList_eraseIdxIfInBounds,v0,ep,<-J];rw[List.set_append_right _ _ (ah _),nB,List.eraseIdx_append_of_length_le xo];simp
  rw[e5];refine gb.app h1 %[e1,?_|?_]
  .show pb+B=Z.length;rw[j.length_eq,e2,e4,ax]
  .rw[j.length_eq,ax,<-og];show M
 .rcases a6.mp L with z|z;.show R.up r (by simp[z])
  .rcases bd.mp z with z|z;.rw[z];show k6
   .show R.up r (by simp[z])
 .rcases a6.mp L with z|z;.show R.ne r (by simp[z])
  .rcases bd.mp z with z|z
   .rw[z];intro y;have:=j.length_eq;rw[y,ax]at this;simp at this;simp_all
   .show R.ne r (by simp[z])
def Z4 {W:Type}{l:List W}(h:2<=l.length):∃F x y,l=F++[x,y]:=by
 calc%[10,l.take (l.length-2),l[l.length-2],l[l.length-1]|?_];let e1:l.drop (l.length-2)=[l[l.length-2],l[l.length-1]]:=by rw[jG (show l.length-2<l.length by lia),jG (show l.length-2+1<l.length by simp_all +arith),List.drop_eq_nil_of_le (by simp_all +arith)];congr 2;congr 1;lia
 rw[<-e1,c_]
def nD {rs:List (List Keyed)}(h:∀r∈rs,r≠[]):rs.length<=rs.flatten.length:=by
 induction rs with| nil=>simp| cons r rs ih=>have h1:=u8.mpr (h r aT);let j:=ih λx hx=>h x (aS _ hx);rw[bP,lj,ax];lia
def Q_ {H W:Type}{J:H->StateT SortSt Sem W}{C:H->SortSt->Prop}{m:StateT SortSt Sem W}{R:W->SortSt->Prop}{st:SortSt}(h1:∀o st',C o st'->wpS (model prog w) A E s (J o) R st')(j:(∀o st',C o st'->wpS (model prog w) A E s (J o) R st')->wpS (model prog w) A E s m R st):wpS (model prog w) A E s m R st:=j h1
theorem gb.congr:∀{rs:List (List Keyed)} {ps j:List (Nat×Nat×Nat)} {o:Nat},gb o rs ps->j.map (λp=>(p.1,p.2.1))=ps.map (λp=>(p.1,p.2.1))->gb o rs j
 | [],[],[],_,_,_=>trivial
 | [],[],_::_,_,_,e=>by simp at e
 | r::rs,p::ps,[],_,_,e=>by simp at e
 | r::rs,p::ps,q::j,o,h,e=>by rw[b9,b9]at e;injection e with e1 e2;injection e1 with e3 e4;show%[e3.trans h.1,e4.trans h.2.1|gb.congr h.2.2 e2]
def gj.len {a0:List Keyed}{st:SortSt}{rs:List (List Keyed)}{rest:List Keyed}(R:gj K kn a0 st rs rest):rs.flatten.length+rest.length=a0.length:=by rw[<-R.perm.length_eq,R.arr,ax]
def gj.size {a0:List Keyed}{st:SortSt}{rs:List (List Keyed)}{rest:List Keyed}(R:gj K kn a0 st rs rest):(arrOf st).size=a0.length:=by rw[<-R.perm.length_eq,bq]
def gj.seg {a0:List Keyed}{st st':SortSt}{rs:List (List Keyed)}{rest:List Keyed}{n hi:Nat}(R:gj K kn a0 st rs rest)(g:SG st st' rs.flatten.length hi)(u:lg K (arrOf st') rs.flatten.length n)(hn:n<=rest.length):∃B J,B.length=n/\B.Pairwise (kL K)/\gj K kn a0 st' rs (B++J):=by
 let z:=R.size;let L:=g.size;let M:=R.len;let e1:(arrOf st').toList.take rs.flatten.length=rs.flatten:=by
  apply iA;intro t;rcases eR t rs.flatten.length with y|y;.rw[re y,ck,g.out t (.inl y),<-ck,R.arr,fq y]
  .rw[eC (by rw[bn];lia),eC y]
 let pm:(arrOf st').toList.Perm (arrOf st).toList:=qq.mp g.perm;calc%[1,((arrOf st').toList.drop rs.flatten.length).take n,((arrOf st').toList.drop rs.flatten.length).drop n,?_,?_|%[g.kind.trans R.kind,g.fail.trans R.fail,keys_perm pm R.keys,pm.trans R.perm,?_,by rw[g.pend];show R.pend,R.up|R.ne]];.rw[bn,cz,bq];lia
 .rw[kK];intro i j hi G q;let F:j<n:=by simp at G;lia
  let D:rs.flatten.length+j<(arrOf st').size:=by simp at G;lia
  have:=u i j (av q) F;rw[q_ (show rs.flatten.length+i<(arrOf st').size by lia),q_ D]at this;show K.kle _ _;simpa using this
 .rw[c_]
  conv=>lhs;rw[<-c_ rs.flatten.length (arrOf st').toList]
  rw[e1]
def acE {c:Prop} [Decidable c] (h1:a+1<n)(j:b+1<n):(if c then a else b)+1<n:=by split <;> assumption
def FW {a0:List Keyed}{i:Nat}{st:SortSt}{rs:List (List Keyed)}{rest:List Keyed}{Q:Bool->SortSt->Prop}(O:iB prog w A s K kn)(R:gj K kn a0 st rs rest)(hi:i+1<rs.length)(h:∀st' j,gj K kn a0 st' j rest->j.length+1=rs.length->Q true st'):wpS (model prog w) A E s ((sortPriv% PySem.Builtin.mergeAt) i) Q st:=by
 let e:rs=rs.take i++rs[i]::rs[i+1]::rs.drop (i+2):=by rw[<-jG hi,<-jG (show i<rs.length by lia),c_]
 let B:=R;rw[e]at B;calc xH O B (by rw[bn];lia) λq Z D=>h q _ D ?_;rw[ax,bn,bP,cz];lia
def Lq {st:SortSt}{Q:Unit->SortSt->Prop}(hO:iB prog w A s K kn)(hk:kindOf st=kn)(hf:failedOf st=none)(hp:pendingOf st=#[])(hks:KeysOf K (arrOf st))(h:∀st',failedOf st'=none->(arrOf st').toList.Perm (arrOf st).toList->(arrOf st').toList.Pairwise (kL K)->Q () st'):wpS (model prog w) A E s (sortPriv% PySem.Builtin.sortRuns) Q st:=by
 obtain⟨N,hN⟩:∃N,(arrOf st).size=N:=%[_|rb]
 let hl:(arrOf st).toList.length=N:=by rw[bq,hN]
 let R0:gj K kn (arrOf st).toList st [] (arrOf st).toList:=%[hk,hf,hks,List.Perm.refl _,xp,by rw[hp];trivial,λr h=>by simp at h|λr h=>by simp at h]
 generalize (arrOf st).toList=a0 at hl R0 h;show wpS _ _ _ _ (_ >>= _) _ _;refine a8 (r_ ?_)
 walk_at"a"
 rw[hN];refine a8 (iE (fF (I:=λ(x:Nat) (c:Option Unit×Nat) (st':SortSt)=>∃rs rest,c=(none,rs.flatten.length)/\gj K kn a0 st' rs rest/\(x<=rs.flatten.length\/rest=[]))
  (Q:=λ(c:Option Unit×Nat) (st':SortSt)=>∃rs l,c=(none,l)/\gj K kn a0 st' rs []) ?_ ?_ %[1,[],a0,rb,R0|.inl xp]) ?_)
 .intro x c O _ hx z;let(rs,rest,rfl,R,hpr):=z;let ln:=R.len
  walk_at"a"
  by_cases z:rs.flatten.length>=N
  .calc bA z ?_;obtain rfl:rest=[]:=ly.mp xo;show bo %[3,rs,_,rb|R]
  calc aY z ?_;let Ax:x<=rs.flatten.length:=by
   rcases hpr with y|y;.show y
   .rw[y,mr]at ln;lia
  let zs:=R.size;refine a8 (Wt hO R.kind R.keys (show rs.flatten.length+(N-rs.flatten.length)<=(arrOf O).size by grind) (fv xo) λD m g2 m1 m2 u2=>?_)
  walk_at"a"
  extract_lets -underBinder +onlyGivenNames nn jp
  let qn:nn=m:=rfl;refine Q_ (J:=λn:Nat=>jp () n) (C:=λn M=>SG O M rs.flatten.length (rs.flatten.length+(N-rs.flatten.length))/\lg K (arrOf M) rs.flatten.length n/\1<=n/\n<=N-rs.flatten.length) (λn M hc=>?_) (λhJ=>?_)
  .let(g3,u3,n1,n2):=hc;let(sg,z_,ls,us,R3):=R.seg g3 u3 xo
   walk_at"a"
   refine a8 (r_ ?_)
   walk_at"a"
   extract_lets -underBinder +onlyGivenNames jp2
   refine Q_ (J:=λ_:Unit=>jp2 ()) (C:=λ_ L=>∃j,gj K kn a0 L j (sg++z_)/\j.flatten.length=rs.flatten.length) (λ_ L hc=>?_) (λhJ=>?_)
   .let(j,B,l4):=hc
    walk_at"a"
    refine a8 (tT (bo %[1,j++[sg],z_,?_,%[B.kind,B.fail,B.keys,B.perm,?_,?_,λr hr=>?_|λr hr=>?_]|.inl ?_]))
    .rw[ve,ax];simp[ls,l4]
    .show (arrOf L).toList=_;rw[B.arr];simp
    .show gb 0 (j++[sg]) ((pendingOf L).push (rs.flatten.length,n,0)).toList;rw[mE];show gb.app B.pend %[by rw[l4];simp,ls.symm|trivial]
    .rcases a6.mp hr with y|y;.show B.up r y
     .rw[am.mp y];show us
    .rcases a6.mp hr with y|y;.show B.ne r y
     .rw[am.mp y];intro q;rw[q]at ls;simp at ls;lia
    .rw[ve,ax,lj,List.flatten_nil,ej,l4,ls];grind
   .cases hb:(pendingOf M).back? with
    | none=>
     walk_at"a"
     show hJ () M %[0,rs,R3|rb]
    | some v=>
     let(v1,v2,v3):=v
     walk_at"a"
     refine a8 (iE (fF (I:=λ(y:Nat) (c:Option Unit×Unit) (st':SortSt)=>c=(none,())/\∃j,gj K kn a0 st' j (sg++z_)/\j.flatten.length=rs.flatten.length)
      (Q:=λ(c:Option Unit×Unit) (st':SortSt)=>c=(none,())/\∃j,gj K kn a0 st' j (sg++z_)/\j.flatten.length=rs.flatten.length) ?_ ?_ %[8,rb,rs,R3|rb]) ?_)
     .intro y c L _ hy z;let(rfl,j,B,l4):=z;refine a8 (r_ ?_)
      conv=>arg 5;dsimp only
      let lp:(pendingOf L).size=j.length:=by rw[<-bq];show B.pend.len
      by_cases z4:(pendingOf L).size > 1
      .rw[if_pos z4];let(F,X,Y,rfl):=Z4 (show 2<=j.length by lia);let lF:(pendingOf L).size=F.length+2:=by rw[lp];simp
       rw[b6 (show (pendingOf L).size-2<(pendingOf L).size by simp_all)];generalize (pendingOf L)[(pendingOf L).size-2]=v;let(v4,v5,v6):=v
       walk_at"a"
       by_cases z5:v6<=(sortPriv% PySem.Builtin.power) N (2*v1+v2) (2*v1+v2+v2+n) N
       .calc bA z5 ?_;show bo %[8,rb,_,B|l4]
       .calc aY z5 ?_;calc a8 (xH hO (F:=F) (G:=[]) B (show F.length=(pendingOf L).size-2 by simp_all) λKz Z R5=>?_);calc aY xp ?_;let l5:=R5.len;let l6:=B.len;show bo %[8,rb,_,R5|xo]
      .rw[if_neg z4]
       walk_at"a"
       show bo %[8,rb,_,B|l4]
     .rintro c L hc;show hc
     .intro c L z;let(rfl,j,B,l4):=z
      walk_at"a"
      calc a8 (tT ?_);calc hJ () _ %[0,j,%[B.kind,B.fail,B.keys,B.perm,B.arr,?_,B.up|B.ne]|l4];calc B.pend.congr ?_;apply iA;intro t;rw[bb,bb,ck,ck];show Option.map _ ((pendingOf L).modify _ _)[t]?=_;rw[Array.getElem?_modify];split
      .cases(pendingOf L)[t]? <;> rfl
      .rfl
  .by_cases z2:m<(sortPriv% PySem.Builtin.minRun) N N 0
   .calc bA z2 ?_;refine a8 (wpS_lift (gT %[rb|?_]))
    walk_at"a"
    let z2':=g2.size;calc a8 (T7 hO (g2.kind.trans R.kind) (g2.keys R.keys) (by grind) (by grind) u2 λM g3 u3=>?_);refine aY xp ?_
    walk_at"a"
    refine hJ _ M %[%[g3.kind.trans g2.kind,g3.fail.trans g2.fail,g3.pend.trans g2.pend,g3.perm.trans g2.perm|λt ht=>(g3.out t (by grind)).trans (g2.out t ht)],u3,by calc ay (by assumption) ?_;lia|t7 _ _]
   .calc aY z2 ?_;show hJ m D %[g2,u2,m1|m2]
 .intro c O z;let(rs,rest,rfl,R,hpr):=z;let ln:=R.len;obtain rfl:rest=[]:=by
   rcases hpr with y|y;.show ly.mp xo
   .show y
  show%[3,rs,_,rb|R]
 .intro c O z;let(rs,l,rfl,R):=z
  walk_at"a"
  let ln:=R.len;rw[mr]at ln;let lr:=nD R.ne;refine a8 (iE (fF (I:=λ(x:Nat) (c:Option Unit×Unit) (st':SortSt)=>c=(none,())/\∃j,gj K kn a0 st' j []/\(j.length+x<=N\/j.length<=1))
   (Q:=λ(c:Option Unit×Unit) (st':SortSt)=>c=(none,())/\∃j,gj K kn a0 st' j []/\j.length<=1) ?_ ?_ %[8,rb,rs,R|.inl (by simp_all)]) ?_)
  .intro x c D _ hx z;let(rfl,j,R2,h2):=z
   walk_at"a"
   refine a8 (r_ ?_)
   walk_at"a"
   let lp:(pendingOf D).size=j.length:=by rw[<-bq];show R2.pend.len
   by_cases z:(pendingOf D).size<=1
   .calc bA z ?_;show bo %[8,rb,j,R2|xo]
   refine aY z ?_
   walk_at"a"
   let lp':(pendingOf D).size-2+1<j.length:=by simp_all +arith
   calc a8 (FW hO R2 ?_ λM rs3 R3 l3=>?_);.show acE (show (pendingOf D).size-2-1+1<j.length by lia) lp'
   .calc aY xp ?_;show bo %[8,rb,_,R3|xo]
  .intro c D z;let(rfl,j,R2,h2):=z;show%[8,rb,j,R2|xo]
  .intro c D z;let(rfl,j,R2,h2):=z;calc bo (h _ R2.fail R2.perm ?_);rw[R2.arr,ej]
   match j,h2,R2.up with| [],_,_=>show List.Pairwise.nil| [r],_,u=>simpa using u r xp
def Pa {K:PyProof.Rows.KeyKind}(hO:K.OneLt){vs:List Value}(M:s.heap.get? a=some (seqObj "list" vs.toArray n))(h0:KeysOf K (pairsOf vs))(J:∀D B rest,vs=D::B::rest->keyKind' (D::B::rest).toArray=pure oneType')(hz:vs.length<=1000)(h:∀st':SortSt,(arrOf st').Perm (pairsOf vs)->SortedToK K (arrOf st') (pairsOf vs).size->P (.done (.ret .none)) {s with heap:=sortedHeap s.heap a vs ((arrOf st').map (·.2))}):wpAny (model prog w) A (Builtin.«list.sort» %[[.ref a]|[]]) P E s:=by
 by_cases q:vs.length<64;.show list_sort_treeK hO M h0 J q h
 let ha:a<s.heap.objs.size:=a7 M;let Y:vs.length<=sizeLine:=av (aF hz);rw[list_sort_plain];calc aa (listItems_at M rb (aa (listUpdate_at M rb ?_ (by rw[bv];show Y) (b8 _))));obtain⟨e1,N⟩:∃e1,(s.heap.update a (Obj.mapSeq λ_=>#[])).get? a=some (seqObj "list" #[] e1):=%[_|get?_update_seq M (λ_=>#[])]
 calc aa (seqEpoch_at N rb (aa (vv (aa (qo (eD ?_) (b8 _))) (by show vs.length<=_;show Y))));let G:(((s.heap.update a (Obj.mapSeq λ_=>#[])).push (seqObj "tuple" vs.toArray 0)).push (seqObj "list" #[] 0)).get? a=some (seqObj "list" #[] e1):=by rw[o0 _ _ _ (by rw[size_push',qf];show a_ (fb ha)),o0 _ _ _ (by rw[qf];show a_ ha)];show N
 show wpAny (model prog w) A _ P E {s with heap:=((s.heap.update a (Obj.mapSeq λ_=>#[])).push (seqObj "tuple" vs.toArray 0)).push (seqObj "list" #[] 0)};dsimp only;let Z:¬vs.toArray.size<2:=by rw[bv];lia
 rw[if_neg Z,if_neg Z];obtain⟨D,B,rest,rfl⟩:∃D B rest,vs=D::B::rest:=by
  match vs,q with| [],q=>simp at q| [_],q=>simp at q| D::B::rest,_=>show%[10,D,B,rest|rb]
 rw[J _ _ _ rfl];calc aa (ae ?_);refine aa (fm (Lq (K:=K) (kn:=oneType') (iB.one hO) (st:=SortSt.mk' oneType' ((D::B::rest).toArray.zip (D::B::rest).toArray) #[] 7 none)
  (Q:=λ_ st'=>failedOf st'=none/\(arrOf st').toList.Perm (pairsOf (D::B::rest)).toList/\(arrOf st').toList.Pairwise (kL K)) rb rb rb h0 λst' a1 a2 a3=>%[a1,a2|a3]) ?_ λ_ _ e=>e)
 rintro⟨⟨⟩,st'⟩ s' ⟨rfl,hf,hp,hs⟩;let F:(arrOf st').Perm (pairsOf (D::B::rest)):=qq.mpr hp;dsimp only;refine aa (seqEpoch_at G rb (aa (listUpdate_at G rb ?_ (b8 _) (gz ?_))))
 .rw[hf];simp only[bne_self_eq_false,a9,if_false];calc ae (h st' F λi j L O=>?_);rw[<-F.size_eq]at O;rw[q_ O,q_ (show i<(arrOf st').size from ku L O)];show mC hs L O
 .show ay (kN ((Array.size_map ..).trans (F.size_eq.trans (pairsOf_size _)))) Y
def Pb (M:wpAny (model prog w) A.in1 (collect v) (λvs s1=>∃ss,StrsAre vs ss/\vs.length<=1000/\
   ∀(h':Heap) (q:List Value) (j:List Str) (e:Nat),(∀b o,s1.heap.get? b=some o->h'.get? b=some o)->h'.get? s1.heap.objs.size=some (seqObj "list" q.toArray e)->StrsAre q j->j.Perm ss->sortedS j=true->
    Q (.ref s1.heap.objs.size) {s1 with heap:=h' }) E s):wpAny (model prog w) A (call (.builtin "sorted") [v]) Q E s:=by
 calc qB kind_sorted plain_sorted entry_sorted (args_sorted1 _) ?_;unfold Builtin.«sorted»;calc aa (m:=checkCount "sorted" 1 1 _) (ae ?_);calc aa (bD M λvs s1 ⟨ss,B,hz,h⟩=>?_);calc aa (qo ?_ (av (aF hz)));let L:(s1.heap.push (seqObj "list" vs.toArray 0)).get? s1.heap.objs.size=some (seqObj "list" vs.toArray 0):=aw _ rfl;refine aa (eD (c9 slot_list_sort (s:={s1 with heap:=s1.heap.push (seqObj "list" vs.toArray 0)}) %[0,_,L|rb] entry_list_sort
  (Pa (s:={s1 with heap:=s1.heap.push (seqObj "list" vs.toArray 0)}) strKind_oneLt L B.keysOf (λN O rest e=>keyKind_strs (by rw[<-e];show B)) hz λst' hp hs=>%[0,_,rb|?_]) (args_list_sort _)))
 let(j,h1,G,J):=sorted_out_str B hp hs;let(e,F):=sortedHeap_at (vs:=vs) (out:=(arrOf st').map (·.2)) L;calc ae %[0,_,rb|h _ ((arrOf st').map (·.2)).toList j e (λb o z=>?_) (by rw[pT];show F) h1 G J];let D:b<s1.heap.objs.size:=a7 z;rw[sortedHeap_old (a_ D) (by rw[dE];show fb D)];show af _ z
end
end L2
namespace L2
open PySem PySem.Spec PyProof.Rows PySem.W
mutual
inductive pH (K:W.Frag) (H:Hp):Nat->PyData->V->Prop
 | non {n}:pH K H n .none .non
 | bl {n} (b:Bool):pH K H n (.bool b) (.bl b)
 | int {n} (i:Int):pH K H n (.int i) (.int i)
 | str {n} (l:List Nat) (h:∀c∈l,c<128):pH K H n (.str (S l)) (.str (S l))
 | tup {n a ds xs} (h:aV K H a xs) (hs:oG K H n ds xs):pH K H (n+1) (.tuple ds) (.ref a)
inductive oG (K:W.Frag) (H:Hp):Nat->List PyData->List V->Prop
 | nil {n}:oG K H n [] []
 | cons {n d ds x xs} (h:pH K H n d x) (hs:oG K H n ds xs):oG K H n (d::ds) (x::xs)
end
mutual
theorem pH.lay {K:W.Frag}:∀{n:Nat} {d:PyData} {x:V},pH K H n d x->d.canLay0=true/\d.depth<=n/\PyData.eqv d d=true
 | _,_,_,.non=>by simp[PyData.canLay0,PyData.depth,PyData.eqv]
 | _,_,_,.bl _=>by simp[PyData.canLay0,PyData.depth,PyData.eqv]
 | _,_,_,.int _=>by simp[PyData.canLay0,PyData.depth,PyData.eqv]
 | _,_,_,.str l h=>by simp only[PyData.canLay0,PyData.depth,PyData.eqv];show%[QV h,b8 _|xp]
 | _,_,_,.tup _ hs=>by simp only[PyData.canLay0,PyData.depth,PyData.eqv];have:=hs.lay;show%[this.1,hG this.2.1|this.2.2]
theorem oG.lay {K:W.Frag}:∀{n:Nat} {ds:List PyData} {xs:List V},oG K H n ds xs->PyData.canLayAll0 ds=true/\PyData.depthAll ds<=n/\PyData.eqvAll ds ds=true
 | _,_,_,.nil=>by simp[PyData.canLayAll0,PyData.depthAll,PyData.eqvAll]
 | _,_,_,.cons h hs=>by let a:=h.lay;let b:=hs.lay;simp only[PyData.canLayAll0,PyData.depthAll,PyData.eqvAll,dm];show%[%[a.1|b.1],Nat.max_le.mpr %[a.2.1|b.2.1],a.2.2|b.2.2]
end
mutual
theorem pH.fV {K:W.Frag}(st:∀a xs,aV K H a xs->aV K H' a xs):∀{n:Nat} {d:PyData} {x:V},pH K H n d x->pH K H' n d x
 | _,_,_,.non=>.non
 | _,_,_,.bl b=>.bl b
 | _,_,_,.int i=>.int i
 | _,_,_,.str l h=>.str l h
 | _,_,_,.tup h hs=>.tup (st _ _ h) (hs.fV st)
theorem oG.fV {K:W.Frag}(st:∀a xs,aV K H a xs->aV K H' a xs):∀{n:Nat} {ds:List PyData} {xs:List V},oG K H n ds xs->oG K H' n ds xs
 | _,_,_,.nil=>.nil
 | _,_,_,.cons h hs=>.cons (h.fV st) (hs.fV st)
end
section
variable {X:Cx}
variable {prog:Program}{w:World}
mutual
theorem pH.reads {ao:AC}{T:St}{H:Hp}{s:Shared}(I:aL X ao T H s):∀{n:Nat} {d:PyData} {x:V} {u:Value},pH X.K H n d x->bG x u->∃as,Reads s.heap u d as
 | _,_,_,u,.non,r=>by cases r;show%[[]|.none]
 | _,_,_,u,.bl b,r=>by cases r;show%[[]|.bool b]
 | _,_,_,u,.int i,r=>by let(t,rfl):=r;show%[[]|.int i t]
 | _,_,_,u,.str l h,r=>by let(t,rfl):=r;show%[[]|.str _ t]
 | _,_,_,u,.tup h hs,r=>by cases r;let(its,j,pl,_):=I.tuple h;let(as,q):=hs.reads I j;let(o,B,D,n,hd):=pl;show%[as|.tuple B D hd (by simpa using q)]
theorem oG.reads {ao:AC}{T:St}{H:Hp}{s:Shared}(I:aL X ao T H s):∀{n:Nat} {ds:List PyData} {xs:List V} {us:List Value},oG X.K H n ds xs->Vals xs us->∃as,ReadsAll s.heap us ds as
 | _,_,_,us,.nil,r=>by cases r;show%[[]|.nil]
 | _,_,_,us,.cons h hs,r=>by
  cases r with| cons q t=>let(as,a):=h.reads I q;let(bs,b):=hs.reads I t;show%[as++bs|.cons a b]
end
def Ra (K:W.Frag):List V->Hp->VK->Prop:=λxs H Q=>∃(a:Addr) (ws:AA),xs=[.ref a]/\aN K H a (Ts ws)/\ws.length<=1000/\
 ∀(p:Addr) (j:AA),H p=none->j.Perm ws->j.Pairwise (λa b=>decide (b<a)=false)->Q (.ref p) (upd H p (.lst (Ts j)))
def JD:d8 X (.builtin "sorted") (Ra X.K):=by
 walk_at"g";let(a,ws,rfl,hS,hz,q):=h;let(u,rfl,N):=vals1 r;cases N;let(its,M,pl,hz2):=I.list hS;let bM:its.length=ws.length:=by have:=M.length;simpa using this.symm
 let(o,ho,D,nn,F):=pl.isList;calc Pb (wpAny_collect_seq a (.inl rb) ho D F (λh' kk=>?_) (by rw[bv];show av (aF xo)));let I1:aL X ao T H {s with heap:=h' }:=I.kept (t':=s.toks) kk;calc%[2,_,uZ M,by simpa [bM] using hz|λh2 B j e k2 Y G vm O=>?_];let J:j=(j.map λy=>y.cps.toList).map S:=by rw[cn];calc(jn _).symm.trans (de λy _=>?_);show(Zz y).symm
 let Z:(j.map λy=>y.cps.toList).Perm ws:=by have:=vm.map λy:Str=>y.cps.toList;rw[cn]at this;let e:((λy:Str=>y.cps.toList) ∘ S)=id:=rfl;rw[e,jn]at this;show this
 let hv:Vals (Ts (j.map λy=>y.cps.toList)) B:=by have:=oF G;rw[J]at this;simpa [Ts,si] using this
 let L:(Ts (j.map λy=>y.cps.toList)).length<=sizeLine:=by rw[ab,Z.length_eq];show av (aF hz)
 show%[1,.ref h'.objs.size,_,I1.laid (o:=.lst _) (t':=s.toks) k2 (ah _) %[24,L,B,e,hv|Y],rb|q _ _ I1.fresh Z (yt j O)]
def FZ (K:W.Frag)(h:X.K=K:=by rfl):d8 X (.builtin "sorted") (Ra K):=by subst h;show JD
inductive vo (prog:Program) (w:World) (hp:Heap) (u:Nat):List Value->List Int->Nat->Prop
 | nil:vo prog w hp u [] [] 0
 | cons {v:Value} {x:Int} {d:Nat} {vs:List Value} {xs:List Int} {ds:Nat} (hv:∀(A:Around) (E:AB) (s:Shared) (Q:Int->Shared->Prop),A.units<=u->s.heap=hp->Q x {s with toks:=s.toks+d}->wpAny (model prog w) A (pyHash v) Q E s)
   (t:vo prog w hp u vs xs ds):vo prog w hp u (v::vs) (x::xs) (d+ds)
def Z5 {A:Around}{s:Shared}(M:A.units<cLine)(J:s.heap.get? a=some o)(N:o.cls=.type "tuple")(hd:o.data=.seq its n)(L:vo prog w s.heap (A.units+1) its.toList hs dr)(q:Q (reduceHash (Builtin.Tuple.tupleHashOf hs)) {s with toks:=s.toks+(dr+1)}):wpAny (model prog w) A (pyHash (.ref a)) Q E s:=by
 let B:s.TypeIs (.ref a) "tuple":=%[0,o,J|N]
 unfold pyHash
 first|unfold pyHashByItsType|skip
 first|refine aa (wpAny_cRoomFor_or (Or.inr M) ?_)|skip
 calc aa (on B o6.lookup ?_);rw[show (some (Value.builtin "tuple.__hash__")==some Value.none)=false from beq_builtin_none _];simp only[a9,if_false];calc aa (on B o6.lookup ?_);calc aa (wpAny_callSpecialIfBoundUnlessNone?_slot B o6 (c9 o6 B F.entry_tuple_hash ?_ (F.args_tuple_hash_1 _)));show wpAny _ _ (Builtin.Tuple.tupleItemsOf (Value.ref a) >>= _) _ _ s;calc aa (oq J hd (aa ?_));rw[<-rl];refine nE _ (λrest (b:Array Int) s1=>∃(left:List Int) (j D:Nat),hs=b.toList++left/\vo prog w s.heap (A.units+1) rest left D/\j+D=dr/\s1={s with toks:=s.toks+j}) _ ?_ ?_ _ _ %[29,hs,0,dr,rb,L,gv _|rb]
 .intro x rest b s1 z;let(left,j,D,e1,G,e2,rfl):=z;cases G with| @cons v h d vs xs ds hv t=>calc aa (hv _ _ _ _ (ah _) rb ?_);show ae %[29,xs,j+d,ds,by rw[e1];simp,t,xo|by simp[og]]
 .intro b s1 z;let(left,j,D,e1,G,e2,rfl):=z;cases G;let e1:hs=b.toList:=by simpa using e1
  let e2:j=dr:=e2;subst e1 e2;calc wpAny_ret_mkInt ?_;show wpAny _ _ (pyHashByItsType.reduced (Builtin.Tuple.tupleHashOf b.toList)) Q E _;unfold pyHashByItsType.reduced;unfold reduceHash at q;split
  .rename_i z;rw[if_pos z]at q;show ae (by simpa [og] using q)
  .rename_i z;rw[if_neg z]at q;show aa (gT (ae (by simpa [og] using q)))
inductive sE (prog:Program) (w:World) (hp:Heap) (u:Nat):List Value->List Value->Bool->Prop
 | nil:sE prog w hp u [] [] true
 | left {y:Value} {ys:List Value}:sE prog w hp u [] (y::ys) false
 | right {x:Value} {xs:List Value}:sE prog w hp u (x::xs) [] false
 | cons {x y:Value} {xs ys:List Value} {b c:Bool} (hv:∀(A:Around) (E:AB) (s:Shared) (Q:Bool->Shared->Prop),A.units<=u->s.heap=hp->Q b s->wpAny (model prog w) A (eqBool x y) Q E s)
   (t:b=true->sE prog w hp u xs ys c) (f:b=false->c=false):sE prog w hp u (x::xs) (y::ys) c
def acF {A:Around}{s:Shared}(ha:s.heap.get? a=some oa)(B:oa.data=.seq xs na)(L:s.heap.get? b=some ob)(J:ob.cls=.type "tuple")(G:ob.data=.seq ys nb)(M:sE prog w s.heap A.units xs.toList ys.toList c)(q:R (.done (.ret (.bool c))) s):wpAny (model prog w) A (Builtin.«tuple.__eq__» %[[.ref a,.ref b]|[]]) R E s:=by
 let D:s.TypeIs (.ref b) "tuple":=%[0,ob,L|J]
 show wpAny _ _ (isInstance (Value.ref b) (.type "tuple") >>= _) _ _ s;calc aa (ib D vz ?_);simp only[fE,a9,if_false];calc aa (oq ha B (aa (oq L G (aa ?_))));refine nE _ (λrest r s1=>r.1=none/\s1=s/\∃us vs,rest=List.zip us vs/\sE prog w s.heap A.units us vs c/\(us.length==vs.length)=(xs.size==ys.size)) _ ?_ ?_ _ _ %[21,rb,rb,_,_,rb,M|xp]
 .rintro⟨u,v⟩ rest r s1 ⟨j,rfl,us,vs,hz,hi,F⟩;cases hi with
  | nil=>simp at hz
  | left=>simp at hz
  | right=>simp at hz
  | @cons x y xs1 ys1 b1 _ hv ht hf=>
   simp only[List.zip_cons_cons,xh,Prod.mk.injEq]at hz;let((rfl,rfl),rfl):=hz;calc aa (hv _ _ _ _ (ah _) rb ?_);cases b1 with| true=>simp only[fE,a9,if_false];show ae %[21,rb,rb,xs1,ys1,rb,ht rb|by simpa using F]| false=>simp only[lT,if_true];rw[hf rfl]at q;show aa (ae (ae (ae q)))
 .rintro⟨r1,O⟩ s1 ⟨j,rfl,us,vs,hz,hi,F⟩;let j:r1=none:=j;subst j;let N:(xs.size==ys.size)=c:=by
   rw[<-F];cases hi with| nil=>rfl| left=>simp| right=>simp| cons=>simp at hz
  calc ae ?_;show R (.done (.ret (.bool (xs.size==ys.size)))) s1;rw[N];show q
def afl {A:Around}{s:Shared}(Y:A.units<cLine)(ha:s.heap.get? a=some oa)(D:oa.cls=.type "tuple")(J:oa.data=.seq xs na)(N:s.heap.get? b=some ob)(B:ob.cls=.type "tuple")(L:ob.data=.seq ys nb)(O:sE prog w s.heap (A.units+1) xs.toList ys.toList c)(M:a=b->c=true)(q:Q c s):wpAny (model prog w) A (eqBool (.ref a) (.ref b)) Q E s:=by
 let j:s.TypeIs (.ref a) "tuple":=%[0,oa,ha|D]
 let G:s.TypeIs (.ref b) "tuple":=%[0,ob,N|B]
 unfold eqBool
 try with_reducible refine eD ?_
 by_cases z:(Value.ref a==Value.ref b)=true
 .rw[if_pos z];let e:a=b:=by have:=eq_of_beq z;injection this
  rw[M e]at q;show aa (gT (ae q))
 .rw[if_neg z];show aa (wpAny_richCompare_same_room (op:=.Eq) j G F.slot_tuple_eq (c9 F.slot_tuple_eq j F.entry_tuple_eq (acF ha J N B L O ⟨2,_,rb,(λe=>nomatch e),eJ q⟩) (F.args_tuple_eq_2 _ _)) Y)
def Wv {s:Shared}(J:s.heap.get? a=some o)(N:o.cls=.type "tuple")(hd:o.data=.seq its n)(M:∀v∈its.toList,∀(G:Bool->Shared->Prop) (L:AB),G true s->wpAny (model prog w) A (eqIsQuiet d v) G L s)(q:Q true s):wpAny (model prog w) A (eqIsQuiet (d+1) (.ref a)) Q E s:=by
 let D:s.TypeIs (.ref a) "tuple":=%[0,o,J|N]
 unfold eqIsQuiet;calc aa (on D F.slot_tuple_eq.lookup ?_);show wpAny _ _ (isInstance (Value.ref a) (.type "tuple") >>= _) _ _ s;calc aa (ib D vz ?_);simp only[fE,a9,if_false];calc aa (ge J hd (aa ?_));show wpAny _ _ (forIn its _ _) _ _ s;rw[<-rl];refine nE _ (λrest r s1=>r.1=none/\s1=s/\∀v∈rest,v∈its.toList) _ ?_ ?_ _ _ %[rb,rb|λv hv=>hv]
 .intro v rest r s1 z;let(B,rfl,j):=z;calc aa (M v (j v aT) _ _ ?_);simp only[fE,a9,if_false];show ae %[rb,rb|λx hx=>j x (aS _ hx)]
 .rintro⟨r1,O⟩ s1 ⟨B,rfl,_⟩;let B:r1=none:=B;subst B;show ae q
end
structure fL (prog:Program)(w:World)(κ:Type) [DecidableEq κ] where
 is:Heap->κ->Value->Prop
 hash:κ->Int
 draws:κ->Nat
 deep:Nat
 inj:∀{h:Heap} {v:Value} {x y:κ},is h x v->is h y v->x=y
 keeps:∀{h h':Heap} {k:κ} {v:Value} {d:Addr} {o:Obj} {es ep},is h k v->h.get? d=some o->o.data=.dict es ep->Heap.SameBut d h h'->is h' k v
 pyHash:∀{A:Around} {E:AB} {s:Shared} {k:κ} {v:Value} {Q:Int->Shared->Prop},A.units+deep<cLine+1->is s.heap k v->Q (hash k) {s with toks:=s.toks+draws k}->wpAny (model prog w) A (PySem.pyHash v) Q E s
 eqBool:∀{A:Around} {E:AB} {s:Shared} {x y:κ} {u v:Value} {Q:Bool->Shared->Prop},A.units+deep<cLine+1->is s.heap x u->is s.heap y v->Q (decide (x=y)) s->wpAny (model prog w) A (PySem.eqBool u v) Q E s
 quiet:∀{A:Around} {E:AB} {s:Shared} {k:κ} {v:Value} {Q:Bool->Shared->Prop} (n:Nat),deep<=n->is s.heap k v->Q true s->wpAny (model prog w) A (eqIsQuiet n v) Q E s
noncomputable def pW {prog:Program}{w:World}{I:Type} [DecidableEq I] (knd:KeyKind prog w I):fL prog w I where
 is:=λ_ k v=>knd.is k v=true
 hash:=knd.hash
 draws:=λ_=>1
 deep:=0
 inj:=λh1 j=>knd.inj _ _ _ h1 j
 keeps:=λh _ _ _=>h
 pyHash:=λ_ h q=>knd.pyHash h q
 eqBool:=λ_ h1 j q=>knd.eqBool h1 j q
 quiet:=λn _ h q=>by rw[PySem.eqIsQuiet_byValue n (knd.byValue _ _ h)];show ae q
section
variable {prog:Program}{w:World}{I I1 I2:Type}[DecidableEq I][DecidableEq I1][DecidableEq I2]
def Ww {h h':Heap}(h1:h.get? a=some o1)(B:o1.data=.seq its n)(q:h.get? d=some o)(hd:o.data=.dict es ep)(hs:Heap.SameBut d h h'):h'.get? a=some o1:=by
 let j:a≠d:=by rintro rfl;rw[h1]at q;cases q;rw[B]at hd;cases hd
 show(hs.2 a j).trans h1
def jH (vk:fL prog w I)(h:Heap):List I->List Value->Prop
 | [],[]=>True
 | k::ks,v::vs=>vk.is h k v/\jH vk h ks vs
 | _,_=>False
theorem jH.inj {vk:fL prog w I}{h:Heap}:∀{x y:List I} {vs:List Value},jH vk h x vs->jH vk h y vs->x=y
 | [],[],[],_,_=>rfl
 | [],[],_::_,a,_=>a.elim
 | [],_::_,[],_,b=>b.elim
 | [],_::_,_::_,a,_=>a.elim
 | _::_,[],[],a,_=>a.elim
 | _::_,[],_::_,_,b=>b.elim
 | _::_,_::_,[],a,_=>a.elim
 | _::_,_::_,_::_,a,b=>by rw[vk.inj a.1 b.1,jH.inj a.2 b.2]
theorem jH.keeps {vk:fL prog w I}{h h':Heap}{d:Addr}{o:Obj}{es:Array DictEntry}{ep:Nat}(j:h.get? d=some o)(hd:o.data=.dict es ep)(hs:Heap.SameBut d h h'):∀{x:List I} {vs:List Value},jH vk h x vs->jH vk h' x vs
 | [],[],_=>trivial
 | _::_,_::_,a=>%[vk.keeps a.1 j hd hs|jH.keeps j hd hs a.2]
theorem jH.hashes {vk:fL prog w I}(j:u+vk.deep<cLine+1):∀{x:List I} {vs:List Value},jH vk h x vs->vo prog w h u vs (x.map vk.hash) (x.map vk.draws).sum
 | [],[],_=>.nil
 | _::_,_::_,a=>by rw[b9,b9,List.sum_cons];show .cons (λF D s' B ha hs q=>vk.pyHash xo (by rw[hs];show a.1) q) (jH.hashes j a.2)
theorem jH.eqs {vk:fL prog w I}(B:u+vk.deep<cLine+1):∀{x y:List I} {us vs:List Value},jH vk h x us->jH vk h y vs->sE prog w h u us vs (decide (x=y))
 | [],[],[],[],_,_=>.nil
 | [],_::_,[],_::_,_,_=>by simpa using sE.left
 | _::_,[],_::_,[],_,_=>by simpa using sE.right
 | p::x,q::y,_::_,_::_,a,b=>by
  refine .cons (b:=decide (p=q)) (λG F s' D ha hs j=>vk.eqBool xo (by rw[hs];show a.1) (by rw[hs];show b.1) j) (λe=>?_) λe=>?_
  .have:=jH.eqs B a.2 b.2;let e:=iL e
   rwa [show decide (p::x=q::y)=decide (x=y) from by simp[e]]
  .let e:=rn e;simp[e]
theorem jH.mem {vk:fL prog w I}{h:Heap}:∀{x:List I} {vs:List Value} {v:Value},jH vk h x vs->v∈vs->∃k,vk.is h k v
 | [],[],_,_,hv=>by simp at hv
 | [],_::_,_,a,_=>a.elim
 | _::_,[],_,a,_=>a.elim
 | _::_,_::_,v,a,hv=>by
  rcases bd.mp hv with e|e;.show%[_|by rw[e];show a.1]
  .show jH.mem a.2 e
noncomputable def tupK (vk:fL prog w I):fL prog w (List I) where
 is:=λh ks v=>∃(a:Addr) (o:Obj) (n:Nat) (its:Array Value),v=.ref a/\h.get? a=some o/\o.cls=.type "tuple"/\o.data=.seq its n/\jH vk h ks its.toList
 hash:=λks=>reduceHash (Builtin.Tuple.tupleHashOf (ks.map vk.hash))
 draws:=λks=>(ks.map vk.draws).sum+1
 deep:=vk.deep+1
 inj:=by rintro h v x y ⟨a,o,n,its,rfl,h1,_,D,F⟩ ⟨a',o',Y,its',e,j,_,B,G⟩;cases e;rw[h1]at j;cases j;rw[D]at B;injection B with e1 _;subst e1;show F.inj G
 keeps:=by intro h h' k v d o es ep z O hd hs;let(a,L,n,its,rfl,h1,J,D,F):=z;show%[25,a,L,n,its,rb,Ww h1 D O hd hs,J,D|F.keeps O hd hs]
 pyHash:=by intro A E s k v Q hu z q;let(a,L,n,its,rfl,h1,J,D,F):=z;show Z5 xo h1 J D (F.hashes xo) q
 eqBool:=by rintro A E s x y u v Q hu ⟨a,L,n,its,rfl,h1,J,D,F⟩ ⟨a',o1',Y,its',rfl,j,M,B,G⟩ q;calc afl (c:=decide (x=y)) xo h1 J D j M B (F.eqs xo G) ?_ q;rintro rfl;rw[h1]at j;cases j;rw[D]at B;injection B with e1 _;subst e1;show ap (F.inj G)
 quiet:=by
  intro A E s k v Q n hn z q;let(a,L,n1,its,rfl,h1,J,D,F):=z;obtain⟨m,rfl⟩:∃m,n=m+1:=%[n-1|xo]
  calc Wv h1 J D (λv hv Q' E' Z=>?_) q;let(k',N):=F.mem hv;show vk.quiet m (dQ hn) N Z
noncomputable def abF (vk:fL prog w I)(hd:vk.deep<=8):HeapKind prog w I where
 is:=λh k a=>vk.is h k (.ref a)
 hash:=vk.hash
 draws:=vk.draws
 room:=λA=>A.units+vk.deep<cLine+1
 inj:=λh1 j=>vk.inj h1 j
 keeps:=λh D hd hs=>vk.keeps h D hd hs
 pyHash:=λB h q=>vk.pyHash B h q
 eqBool:=λB h1 j q=>vk.eqBool B h1 j q
 quiet:=λh q=>vk.quiet 8 hd h q
end
structure Kd (P:Program)(w:World)(κ:Type) [DecidableEq κ] where
 vk:fL P w κ
 small:vk.deep<=8
 lies:Hp->Addr->κ->Prop
 ok:∀{H:Hp} {h:Heap} {b:Addr} {k:κ},gK P w H h->lies H b k->vk.is h k (.ref b)
section
variable {I:Type}[DecidableEq I]
def Mx:List (I×Addr×V)->List (I×Addr×Value)->Prop:=Paired λp q=>p.1=q.1/\p.2.1=q.2.1/\bG p.2.2 q.2.2
def T8 (hf:I->Int)(a:Addr)(ys:List (I×Addr×V)):Heap->Prop:=λh=>ys.length<=sizeLine/\(a==sysModules)=false/\(ys.map (·.1)).Nodup/\∃xs:List (I×Addr×Value),Mx ys xs/\
 ∃o es ep,h.get? a=some o/\o.ExactDict/\o.data=.dict es ep/\es.toList=xs.map (λx=>(%[hf x.1,.ref x.2.1|x.2.2]:DictEntry))
def MD (hf:I->Int)(a:Addr)(ys:List (I×Addr×V)):HO:=.ext (T8 hf a ys)
def Bw (ys:List (I×Addr×V))(k:I):Option V:=(ys.find? λy=>decide (y.1=k)).map (·.2.2)
theorem Mx.keys:∀{ys:List (I×Addr×V)} {xs:List (I×Addr×Value)},Mx ys xs->ys.map (·.1)=xs.map (·.1)
 | _,_,.nil=>rfl
 | _,_,.cons h t=>by rw[b9,b9,h.1,Mx.keys t]
def Mx.length {ys:List (I×Addr×V)}{xs:List (I×Addr×Value)}(h:Mx ys xs):ys.length=xs.length:=ke h
theorem Mx.val:∀{ys:List (I×Addr×V)} {xs:List (I×Addr×Value)} (k:I),Mx ys xs->kY (Bw ys k) ((atKey xs k).map (·.2))
 | _,_,_,.nil=>by simp[Bw,atKey,kY]
 | _,_,k,.cons (a:=p) (b:=q) h t=>by
  let B:=Mx.val k t;unfold Bw atKey at B ⊢;by_cases e:q.1=k
  .let j:p.1=k:=h.1.trans e;simp only[kQ,e,j,decide_true,qA];show h.2.2
  .let j:¬p.1=k:=λz=>e (h.1.symm.trans z)
   simpa only[kQ,e,j,decide_false] using B
theorem Mx.snoc {p:I×Addr×V}{q:I×Addr×Value}(h:p.1=q.1/\p.2.1=q.2.1/\bG p.2.2 q.2.2):∀{ys:List (I×Addr×V)} {xs:List (I×Addr×Value)},Mx ys xs->Mx (ys++[p]) (xs++[q])
 | _,_,.nil=>.cons h .nil
 | _,_,.cons a t=>.cons a (Mx.snoc h t)
theorem Mx.mem:∀{ys:List (I×Addr×V)} {xs:List (I×Addr×Value)} {q:I×Addr×Value},Mx ys xs->q∈xs->∃p∈ys,p.1=q.1/\p.2.1=q.2.1
 | _,_,_,.nil,m=>nomatch m
 | _,_,_,.cons h t,m=>by
  rcases bd.mp m with rfl|m;.show%[2,_,aT,h.1|h.2.1]
  .let(p,hp,e):=Mx.mem t m;show%[0,p,aS _ hp|e]
variable {P:Program}{w:World}{H:Hp}{h:Heap}{a:Addr}{hf:I->Int}{ys:List (I×Addr×V)}
def abG (ok:gK P w H h)(e:H a=some (MD hf a ys)):T8 hf a ys h:=(show cZ P w H h a (.ext _) from ok a _ e).1
def Wx (m:T8 hf a ys h):cZ P w H h a (MD hf a ys):=by let(z,y,n,xs,r,o,es,ep,h1,q,B,j):=m;show%[%[62,z,y,n,xs,r,o,es,ep,h1,q,B|j],%[o|h1]|λD F ⟨z,y,n,xs,r,o,es,ep,h1,q,B,j⟩ k=>%[62,z,y,n,xs,r,o,es,ep,k _ h1,q,B|j]]
def acG (j:Kd P w I)(ok:gK P w H h)(e:H a=some (MD j.vk.hash a ys))(hk:∀y∈ys,j.lies H y.2.1 y.1):ys.length<=sizeLine/\(a==sysModules)=false/\(ys.map (·.1)).Nodup/\∃xs,Mx ys xs/\h.DictOfH (abF j.vk j.small) a xs:=by let(z,y,n,xs,r,o,es,ep,h1,q,B,D):=abG ok e;calc%[62,z,y,n,xs,r,o,es,ep,h1,q,B|%[D,λx hx=>?_|by rw[<-r.keys];show n]];let(p,hp,e1,e2):=r.mem hx;have:=j.ok ok (hk p hp);rw[e1,e2]at this;show this
end
section
variable {X:Cx}{C:Type}[DecidableEq C]
def Wy {C:Type} [DecidableEq C] (hf:C->Int):TE:=λ_ H Q=>∀p,H p=none->Q (.ref p) (upd H p (MD hf p []))
def Z6 (hf:C->Int):QE X (.Dict [] [] pos) (Wy hf):=⟨λao s T H Q I h=>
 wpAny_Dict_empty %[1,.ref s.heap.objs.size,_,I.laid (a:=s.heap.objs.size) (o:=MD hf s.heap.objs.size []) (t':=s.toks) (λ_ _ q=>af _ q) (ah _)
  (Wx %[62,b8 _,beq_eq_false_iff_ne.mpr (kr (a_ I.big)),ng,[],.nil,_,#[],0,aw _ rb,%[rb,rb|rb],rb|rb]),rb|h _ (I.hok.fresh (ah _))]⟩
end
def S5:Nat->Nat
 | 0=>0
 | d+1=>5*S5 d+1
theorem Dv:∀d,5^d=4*S5 d+1
 | 0=>rfl
 | d+1=>by rw[ie,Dv d,S5];lia
theorem Ls (a):∀b,S5 (a+b)=5^a*S5 b+S5 a
 | 0=>by rw[S5,Nat.mul_zero,gv];rfl
 | b+1=>by
  show 5*S5 (a+b)+1=5^a*(5*S5 b+1)+S5 a;let h:=Dv a;rw[Ls a b,xj,xj,xk,h];let e:5*((4*S5 a+1)*S5 b)=(4*S5 a+1)*(5*S5 b):=by rw[<-ij,fc 5 (4*S5 a+1),ij]
  lia
def afm (e):S5 (e+e)=S5 e*(4*S5 e+2):=by
 rw[Ls,Dv];have:(4*S5 e+1)*S5 e+S5 e=S5 e*(4*S5 e+1)+S5 e:=by rw[fc]
 rw[this,<-Nat.mul_succ]
theorem Wz:∀d,S5 d%2=d%2
 | 0=>rfl
 | d+1=>by have:=Wz d;show (5*S5 d+1)%2=(d+1)%2;lia
def Z7 (h:2^(k+1) ∣ x*(4*y+2)):2^k ∣ x*(2*y+1):=by
 let(c,j):=h;calc%[c|?_];let e:x*(4*y+2)=2*(x*(2*y+1)):=by rw[show 4*y+2=2*(2*y+1) by lia,<-ij,fc x 2,ij]
 rw[e,ie,fc (2^k) 2,ij]at j;show Nat.eq_of_mul_eq_mul_left xt j
theorem Ga:∀{k x y:Nat},2^k ∣ x*(2*y+1)->2^k ∣ x
 | 0,x,_,_=>by rw[wy];show Nat.one_dvd x
 | k+1,x,y,h=>by
  let j:2 ∣ x*(2*y+1):=Nat.dvd_trans %[2^k|by rw[ie,fc]] h;let hx:x%2=0:=by have:=Nat.mod_eq_zero_of_dvd j;rw[Nat.mul_mod]at this;let q:(2*y+1)%2=1:=xp;rw[q,xk,Nat.mod_mod]at this;show this
  obtain⟨z,rfl⟩:∃z,x=2*z:=%[x/2|xo]
  rw[ie,fc (2^k) 2,ij]at h;have:=Nat.dvd_of_mul_dvd_mul_left xt h;rw[ie,fc (2^k) 2];show Nat.mul_dvd_mul_left 2 (Ga this)
theorem WD:∀{k d:Nat},2^k ∣ S5 d->2^k ∣ d
 | 0,d,_=>by rw[wy];show Nat.one_dvd d
 | k+1,d,h=>by
  let j:2 ∣ S5 d:=Nat.dvd_trans %[2^k|by rw[ie,fc]] h;let hd:d%2=0:=by rw[<-Wz d];show Nat.mod_eq_zero_of_dvd j
  obtain⟨e,rfl⟩:∃e,d=e+e:=%[d/2|xo]
  rw[afm]at h;have:=WD (Ga (Z7 h));rw[ie,fc (2^k) 2,show e+e=2*e by lia];show Nat.mul_dvd_mul_left 2 this
def qT (m:Nat):Nat->Nat->Nat
 | 0,x=>x
 | n+1,x=>qT m n ((x*5+1)%m)
theorem Rb (m):∀n x,qT m n x%m=(5^n*x+S5 n)%m
 | 0,x=>by rw[qT,wy,Nat.one_mul];rfl
 | n+1,x=>by
  rw[qT,Rb m n];let e1:5^(n+1)*x+S5 (n+1)=5^n*(x*5+1)+S5 n:=by rw[Ls n 1,xj,xk,ie,fc x 5,ij];show _+(5^n*1+S5 n)=_;lia
  rw[e1,Nat.add_mod,Nat.mul_mod,Nat.mod_mod,<-Nat.mul_mod,<-Nat.add_mod]
theorem Lw (hm:0<m):∀n x,x<m->qT m n x<m
 | 0,_,h=>h
 | n+1,_,_=>Lw hm n _ (ki _ hm)
theorem Rc (m):∀a b x,qT m (a+b) x=qT m b (qT m a x)
 | 0,b,x=>by rw[gv];rfl
 | a+1,b,x=>by rw[Nat.succ_add];show Rc m a b _
def Z8 (hx:x<2^k)(h:qT (2^k) d x=x):2^k ∣ d:=by
 let hm:=Rb (2^k) d x;rw[h,Dv]at hm;let e:(4*S5 d+1)*x+S5 d=x+S5 d*(2*(2*x)+1):=by rw[Nat.add_mul,Nat.one_mul,xj,xk,fc 4 (S5 d),ij,show 2*(2*x)=4*x by lia];lia
 rw[e]at hm;let hd:2^k ∣ S5 d*(2*(2*x)+1):=by have:=Nat.sub_mod_eq_zero_of_mod_eq hm.symm;rw[iq]at this;show Nat.dvd_of_mod_eq_zero this
 show WD (Ga hd)
def acH (hx:x<2^k)(ha:a<2^k)(q:b<2^k)(h:qT (2^k) a x=qT (2^k) b x):a=b:=by
 let j:∀a b,a<=b->b<2^k->qT (2^k) a x=qT (2^k) b x->a=b:=by intro a b B q h;let(d,rfl):=Nat.exists_eq_add_of_le B;rw[Rc]at h;let D:=Lw (Nat.two_pow_pos k) a x hx;have:=Z8 D h.symm;let hd:d=0:=Nat.eq_zero_of_dvd_of_lt this (ku (Nat.le_add_left _ _) q);lia
 rcases Nat.le_total a b with z|z;.show j a b z q h
 .show(j b a z ha h.symm).symm
def afn {l:List Nat}(nd:l.Nodup)(q:l.length=M)(hs:∀x∈l,x<M)(j:y<M):y∈l:=by
 apply eW;intro hn;have:=(gm.mpr %[hn|nd]).length_le_of_subset (l₂:=List.range M) λx hx=>by
  rcases bd.mp hx with e|e;.rw[e];show bz.mpr j
  .show bz.mpr (hs x e)
 rw[bP,dP]at this;lia
def acI (hx:x<2^k)(j:y<2^k):∃n,n<2^k/\qT (2^k) n x=y:=by
 let nd:((List.range (2^k)).map λn=>qT (2^k) n x).Nodup:=eA.mpr (sP.imp_of_mem λ{a b} ha hb hne z=>hne (acH hx (bz.mp ha) (bz.mp hb) z));have:=afn nd (by rw[ab,dP]) (λz hz=>by let(n,_,rfl):=aI.mp hz;show Lw (Nat.two_pow_pos k) n x hx) j
 let(n,hn,e):=aI.mp this;show%[0,n,bz.mp hn|e]
def jg (mask:Nat):Nat->Nat×Nat->Nat×Nat
 | 0,p=>p
 | n+1,p=>jg mask n (SetTable.leap mask p.1 p.2)
theorem Ik (mask):∀a b p,jg mask (a+b) p=jg mask b (jg mask a p)
 | 0,b,p=>by rw[gv];rfl
 | a+1,b,p=>by rw[Nat.succ_add];show Ik mask a b _
theorem Dw (mask):∀n p,(jg mask n p).2=p.2/32^n
 | 0,p=>by rw[jg,wy,Nat.div_one]
 | n+1,p=>by rw[jg,Dw mask n];show p.2/32/32^n=p.2/32^(n+1);rw[Nat.div_div_eq_div_mul,ie,fc 32]
theorem Lx:∀n p,p.1<=mask->(jg mask n p).1<=mask
 | 0,_,h=>h
 | n+1,p,_=>Lx n _ (dQ (ki _ (kR mask)))
theorem Dy (mask):∀n i,jg mask n (i,0)=(qT (mask+1) n i,0)
 | 0,i=>rfl
 | n+1,i=>by
  have:SetTable.leap mask i 0=((i*5+1)%(mask+1),0):=by unfold SetTable.leap;simp
  rw[jg,this,Dy mask n];rfl
def Il (hm:mask+1=2^k)(hi:i<=mask)(hp:p<2^64)(q:y<=mask):∃n,n<=mask+13/\(jg mask n (i,p)).1=y:=by
 let j:(jg mask 13 (i,p)).2=0:=by rw[Dw];show Nat.div_eq_of_lt (bt hp xt)
 let B:=Lx (mask:=mask) 13 (i,p) hi;let(n,hn,e):=acI (k:=k) (x:=(jg mask 13 (i,p)).1) (y:=y) xo xo;calc%[0,13+n,xo|?_];rw[Ik,show jg mask 13 (i,p)=((jg mask 13 (i,p)).1,0) from sK rb j,Dy,hm];show e
def stp (t:SetTable):Nat->SetTable.Probe->SetTable.Probe
 | 0,p=>p
 | s+1,p=>stp t s (t.advance p)
theorem vp (t):∀a b p,stp t (a+b) p=stp t b (stp t a p)
 | 0,b,p=>by rw[gv];rfl
 | a+1,b,p=>by rw[Nat.succ_add];show vp t a b _
def mJ (t:SetTable)(q:Nat×Nat)(d:Option Nat):SetTable.Probe:={j:=q.1,more:=SetTable.runEnd t.mask q.1-q.1,i:=q.1,perturb:=q.2,dummy:=d}
def afo (mask i):SetTable.runEnd mask i-i<=9:=by unfold SetTable.runEnd;split <;> simp
theorem Gb (t):∀(m:Nat) (p:SetTable.Probe),p.more=m->stp t (m+1) p=mJ t (SetTable.leap t.mask p.i p.perturb) p.dummy
 | 0,p,h=>by show t.advance p=_;unfold SetTable.advance mJ;rw[if_neg xo]
 | m+1,p,h=>by
  show stp t (m+1) (t.advance p)=_;let e:t.advance p={p with j:=p.j+1,more:=p.more-1}:=by unfold SetTable.advance;rw[if_pos xo]
  rw[e];show Gb t m _ (by show p.more-1=m;show gt xo)
theorem Im (t)(d):∀(n:Nat) (q:Nat×Nat),∃s,s<=10*n/\stp t s (mJ t q d)=mJ t (jg t.mask n q) d
 | 0,q=>%[0,0,ah _|rb]
 | n+1,q=>by let h1:=Gb t _ (mJ t q d) rfl;let(s,hs,e):=Im t d n (SetTable.leap t.mask q.1 q.2);let j:(mJ t q d).more<=9:=afo t.mask q.1;calc%[0,(mJ t q d).more+1+s,xo|?_];rw[vp,h1];show e
def WK (t:SetTable)(h):t.probeStart h=mJ t (SetTable.bits h%(t.mask+1),SetTable.bits h) none:=rfl
def Rf (h):SetTable.bits h<2^64:=by
 unfold SetTable.bits;let h1:=eT h (show (2^64:Int)≠0 by decide);let B:=dC h (show (0:Int)<2^64 by decide);let q:=Int.toNat_of_nonneg h1;let j:(((2:Nat)^64:Nat):Int)=(2^64:Int):=by decide
 simp_all
def acJ {t:SetTable}(hm:t.mask+1=2^k)(h)(j:y<=t.mask):∃s,s<=10*(t.mask+13)/\(stp t s (t.probeStart h)).j=y:=by let(n,hn,e):=Il (i:=SetTable.bits h%(t.mask+1)) (p:=SetTable.bits h) hm (dQ (ki _ (kR _))) (Rf h) j;let(s,hs,es):=Im t none n (SetTable.bits h%(t.mask+1),SetTable.bits h);calc%[0,s,xo|?_];rw[WK,es];show e
def Io (t:SetTable)(p:SetTable.Probe):(t.advance p).dummy=p.dummy:=by unfold SetTable.advance;split <;> rfl
theorem Rg (t : SetTable)(hs : Nat -> Int)(h)(hd : ∀j, t.slot j ≠ .dummy) : ∀(q : Nat) (p : SetTable.Probe), p.dummy = none -> (∃s, s<q /\ t.slot (stp t s p).j = .empty) ->
    ∃s, s<q /\ (∀s', s'<s -> ∃i, t.slot (stp t s' p).j = .live i /\ hs i ≠ h) /\
      ((t.slot (stp t s p).j = .empty /\ SetTable.probe.go t hs h q p = some (.empty (stp t s p).j none)) \/
       ∃i, t.slot (stp t s p).j = .live i /\ hs i = h /\ SetTable.probe.go t hs h q p = some (.candidate (stp t s p).j i (stp t (s+1) p)))
  | 0, _, _, ⟨_, h, _⟩ => absurd h (kS _)
  | q+1, p, hp, ⟨s, hs1, hs2⟩ => by
    cases e : t.slot p.j with
    | empty => show%[2,0, kR _, λs' z => absurd z (kS _)| .inl %[e| by unfold SetTable.probe.go; rw[e, hp]; rfl]]
    | dummy => show absurd e (hd _)
    | live i =>
      by_cases hh : hs i = h
      · refine%[2,0, kR _, λs' z => absurd z (kS _)| .inr %[2,i, e, hh| ?_]]
        unfold SetTable.probe.go;rw[e];simp only[hh, beq_self_eq_true, if_true];rfl
      · have hne : s ≠ 0 := by
          rintro rfl;have : t.slot p.j = .empty := hs2;rw[e]at this; cases this
        obtain⟨s1, rfl⟩ : ∃s1, s = s1+1 := %[s-1| by lia]
        obtain⟨r, F, B, D⟩ := Rg t hs h hd q (t.advance p) (by rw[Io]; show hp) %[0,s1, dQ hs1| hs2];have eg : SetTable.probe.go t hs h (q+1) p = SetTable.probe.go t hs h q (t.advance p) := by
          conv => lhs; unfold SetTable.probe.go
          rw[e];simp[hh]
        refine%[2,r+1, sL F, λs' z => ?_| ?_]
        · cases s' with| zero => show%[0,i, e| hh]| succ s' => show B s' xo
        · rw[eg]
          show D
def xJ (xs:List Nat):Prop:=xs.Pairwise (λa b=>a<b)
def xJ.at_ {xs:List Nat}(h:xJ xs){i j a b:Nat}(q:i<j)(ha:xs[i]?=some a)(D:xs[j]?=some b):a<b:=by let(h1,e1):=al.mp ha;let(B,e2):=al.mp D;have:=kK.mp h i j h1 B q;rw[e1,e2]at this;show this
structure Blw (xs:List Nat)(j k:Nat):Prop where
 le:k<=xs.length
 lo:∀(i a:Nat),i<k->xs[i]?=some a->a<j
 hi:∀(i a:Nat),k<=i->xs[i]?=some a->j<=a
theorem Bx {xs:Array Nat}{j:Nat}(hs:xJ xs.toList):∀(q lo hi:Nat),lo<=hi->hi<=xs.size->hi-lo<=q->(∀(i a:Nat),i<lo->xs.toList[i]?=some a->a<j)->(∀(i a:Nat),hi<=i->xs.toList[i]?=some a->j<=a)->Blw xs.toList j (SetTable.below.go xs j q lo hi)
 | 0,lo,hi,h1,h2,h3,h4,h5=>by
  have:lo=hi:=by rw[gd]at *;lia
  subst this;unfold SetTable.below.go;show%[by simpa using h2,h4|h5]
 | q+1,lo,hi,h1,h2,h3,h4,h5=>by
  unfold SetTable.below.go;by_cases z:lo<hi
  .rw[if_pos z];let hm:(lo+hi)/2<xs.size:=p_ xo;let D:xs.toList[(lo+hi)/2]?=some (xs.getD ((lo+hi)/2) j):=by
    rw[ck,b6 hm,fN,b6 hm];rfl
   by_cases c:xs.getD ((lo+hi)/2) j<j
   .simp only[c,if_true];calc Bx hs q _ _ (p_ xo) h2 (by simp_all;lia) (λi a B ha=>?_) h5;rcases eR i ((lo+hi)/2) with y|y;.have:=hs.at_ y ha D;show mh this c
    .have:i=(lo+hi)/2:=by lia
     rw[this,D]at ha;cases ha;show c
   .simp only[c,if_false];calc Bx hs q _ _ xo (av hm) (by simp_all;lia) h4 (λi a B ha=>?_);rcases eR ((lo+hi)/2) i with y|y;.have:=hs.at_ y D ha;lia
    .have:i=(lo+hi)/2:=tP y B;rw[this,D]at ha;cases ha;show lS c
  .rw[if_neg z];have:lo=hi:=by lia
   subst this;show%[by simpa using h2,h4|h5]
def BJ {xs:Array Nat}(hs:xJ xs.toList)(j):Blw xs.toList j (SetTable.below xs j):=
 Bx hs xs.size 0 xs.size (b8 _) (ah _) xo (λi a h=>absurd h (kS _)) (λi a h ha=>by have:=(al.mp ha).1;rw[bq]at this;lia)
def jP {t:SetTable}(hs:xJ t.place.toList):t.slot j=.live i↔t.place.toList[i]?=some j:=by
 let B:=BJ hs j;constructor
 .intro h;unfold SetTable.slot at h;dsimp only at h;split at h
  .rename_i e;cases h;rw[ck];show eq_of_beq e
  .split at h <;> cases h
 .intro h;let hi:SetTable.below t.place j=i:=by
   rcases sk (SetTable.below t.place j) i with z|z|z
   .let(q,_):=al.mp h;obtain⟨a,ha⟩:∃a,t.place.toList[SetTable.below t.place j]?=some a:=%[_|ag (mh z q)]
    let h1:=B.hi _ a (ah _) ha;let D:=hs.at_ z ha h;lia
   .show z
   .have:=B.lo i j z h;lia
  unfold SetTable.slot;dsimp only;rw[hi,<-ck,h];simp
def wD {t:SetTable}(hs:xJ t.place.toList)(hd:t.dummies=#[]):t.slot j=.empty↔j∉t.place.toList:=by
 constructor
 .intro h hm;let(i,hi):=io hm;rw[(jP hs).mpr hi]at h;cases h
 .intro h;cases e:t.slot j with
  | empty=>rfl
  | live i=>show absurd (aE ((jP hs).mp e)) h
  | dummy=>
   exfalso;unfold SetTable.slot at e;dsimp only at e;split at e;.cases e
   .split at e
    .rename_i z;unfold SetTable.has at z;rw[hd]at z;simp at z
    .cases e
def T9 {t:SetTable}(hs:xJ t.place.toList)(hd:t.dummies=#[])(j):t.slot j≠.dummy:=by
 intro e;by_cases h:j∈t.place.toList
 .let(i,hi):=io h;rw[(jP hs).mpr hi]at e;cases e
 .rw[(wD hs hd).mpr h]at e;cases e
def Z9 {t t':SetTable}(h:t.mask=t'.mask)(p:SetTable.Probe):t.advance p=t'.advance p:=by unfold SetTable.advance;rw[h]
theorem Ly {t t':SetTable}(h:t.mask=t'.mask):∀s p,stp t s p=stp t' s p
 | 0,_=>rfl
 | s+1,p=>by rw[stp,stp,Z9 h,Ly h s]
def T_ {t t':SetTable}(h:t.mask=t'.mask)(x):t.probeStart x=t'.probeStart x:=by unfold SetTable.probeStart;rw[h]
def fO (t:SetTable)(h:Int)(s:Nat):Nat:=(stp t s (t.probeStart h)).j
def Dz {t t':SetTable}(e:t.mask=t'.mask)(h)(s):fO t h s=fO t' h s:=by unfold fO;rw[T_ e,Ly e]
def Way (t:SetTable)(pl:List Nat)(h:Int)(j:Nat):Prop:=∃s,fO t h s=j/\∀s',s'<s->fO t h s'∈pl
structure jJ (t:SetTable)(hs:List Int):Prop where
 xK:xJ t.place.toList
 len:t.place.toList.length=hs.length
 Lz:t.dummies=#[]
 two:∃k,3<=k/\k<=13/\t.mask+1=2^k
 le:∀j∈t.place.toList,j<=t.mask
 few:hs.length<=t.mask
 way:∀(i j:Nat) (h:Int),hs[i]?=some h->t.place.toList[i]?=some j->Way t t.place.toList h j
def kj {I:Type}(xs:Array I)(p)(x:I):(SetTable.insertAt xs p x).toList=xs.toList.take p++x::xs.toList.drop p:=by unfold SetTable.insertAt;simp[ue,qS];show cx xp
def lH {I:Type}{l:List I}{p:Nat}{x:I}(hp:p<=l.length){i:Nat}{y:I}(h:(l.take p++x::l.drop p)[i]?=some y):(i<p/\l[i]?=some y)\/(i=p/\y=x)\/(p<i/\l[i-1]?=some y):=by
 let j:(l.take p).length=p:=by rw[bn];lia
 rcases sk i p with z|z|z
 .rw[fq (by simp[*]),ml,if_pos z]at h;show .inl %[z|h]
 .rw[d6 (by simp[*]),j,z,nB]at h;show .inr (.inl %[z|by simpa using h.symm])
 .rw[d6 xo,j,show i-p=(i-p-1)+1 by lia,se,kH,show p+(i-p-1)=i-1 by lia]at h;show .inr (.inr %[z|h])
def acK (hs:xJ xs)(B:Blw xs j p)(hn:j∉xs):xJ (xs.take p++j::xs.drop p):=by
 unfold xJ;rw[f7,kG];refine%[hs.sublist (sh p xs),%[λa ha=>?_|hs.sublist (iF p xs)]|λa ha b q=>?_]
 .let(i,hi):=io ha;rw[kH]at hi;let h1:=B.hi _ a xo hi;let D:a≠j:=λz=>hn (by rw[<-z];show aE hi);lia
 .let(i,hi):=io ha;rw[ml]at hi;split at hi
  .rename_i z;let h1:=B.lo i a z hi;rcases bd.mp q with e|e;.simp_all
   .let(m,hm):=io e;rw[kH]at hm;have:=B.hi _ b xo hm;show bt h1 this
  .cases hi
def Way.mono {t t':SetTable}(w:Way t pl h j)(e:t.mask=t'.mask)(hs:∀x∈pl,x∈pl'):Way t' pl' h j:=by let(s,h1,q):=w;show%[0,s,by rw[<-Dz e];show h1|λs' z=>by rw[<-Dz e];show hs _ (q s' z)]
def WL (t:SetTable)(j):(t.put j).1.place=SetTable.insertAt t.place (SetTable.below t.place j) j:=rfl
def jJ.put (I:jJ t hs)(F:j<=t.mask)(hn:j∉t.place.toList)(w:Way t t.place.toList h j)(hf:hs.length+1<=t.mask):jJ (t.put j).1 (hs.take (SetTable.below t.place j)++h::hs.drop (SetTable.below t.place j)):=by
 let B:=BJ I.xK j;let M:(t.put j).1.place.toList=t.place.toList.take (SetTable.below t.place j)++j::t.place.toList.drop (SetTable.below t.place j):=by rw[WL,kj]
 let mem:∀x∈t.place.toList,x∈(t.put j).1.place.toList:=λx hx=>by
  rw[M];rw[<-c_ (SetTable.below t.place j) t.place.toList]at hx;rcases a6.mp hx with z|z;.show mI _ z
  .show cS _ (aS _ z)
 let q:=B.le;let G:=I.len;refine%[by rw[M];show acK I.xK B hn,?_,?_,I.two,λx hx=>?_,?_|λi y g h1 D=>?_]
 .rw[M];simp only[ax,bn,bP,cz];simp_all
 .show (if SetTable.has t.dummies j=true then _ else t.dummies)=#[];rw[I.Lz];simp[SetTable.has]
 .rw[M]at hx;rcases a6.mp hx with z|z;.show I.le x (f6 z)
  .rcases bd.mp z with z|z;.rw[z];show F
   .show I.le x (ik z)
 .simp only[ax,bn,bP,cz];show _<=t.mask;simp_all +arith
 .rw[M]at D;rcases lH (by simp_all) h1 with⟨a,b⟩|⟨a,b⟩|⟨a,b⟩
  .rcases lH q D with⟨c,d⟩|⟨c,d⟩|⟨c,d⟩;.show(I.way i y g b d).mono rb mem
   .lia
   .lia
  .rcases lH q D with⟨c,d⟩|⟨c,d⟩|⟨c,d⟩;.lia
   .rw[b,d];show w.mono rb mem
   .lia
  .rcases lH q D with⟨c,d⟩|⟨c,d⟩|⟨c,d⟩;.lia
   .lia
   .show(I.way (i-1) y g b d).mono rb mem
section
variable {P:Program}{w:World}{T:Type}[DecidableEq T]
def j4 (vk:fL P w T):Prop:=∀{A:Around} {E:AB} {s:Shared} {k:T} {v:Value} {Q:Bool->Shared->Prop} (n:Nat),vk.deep<=n->vk.is s.heap k v->Q false s->wpAny (model P w) A (ofAClassStatement n v) Q E s
structure DG (vk:fL P w T)(h:Heap)(es:Array (Int×Value))(ks:List T):Prop where
 len:ks.length=es.toList.length
 at_:∀(i:Nat) e k,es.toList[i]?=some e->ks[i]?=some k->vk.is h k e.2/\e.1=vk.hash k/\∃b,e.2=.ref b
 nd:ks.Nodup
def jJ.fits {es:Array (Int×Value)}(I:jJ t (es.toList.map (·.1))):t.fits es.size=true:=by let h1:=I.len;let j:=I.few;rw[ab,bq]at h1 j;rw[bq]at h1;unfold SetTable.fits SetTable.fill;rw[I.Lz];simp;simp_all
def jJ.odd (I:jJ t hs):t.gaveWay=false:=by
 let(k,j,_,e):=I.two;obtain⟨m,rfl⟩:∃m,k=m+1:=%[k-1|xo]
 rw[ie]at e;unfold SetTable.gaveWay;have:t.mask%2=1:=by lia
 rw[this];rfl
def jJ.hole (I:jJ t hs)(h):∃s,s<=10*(t.mask+13)/\fO t h s∉t.place.toList:=by
 let h1:=I.len;let D:=I.few;have:∃y,y<=t.mask/\y∉t.place.toList:=by apply eW;intro hn;let j:∀y,y<=t.mask->y∈t.place.toList:=λy q=>eW λz=>hn %[0,y,q|z];have:=(sP (n:=t.mask+1)).length_le_of_subset (l₂:=t.place.toList) λy q=>j y (by have:=bz.mp q;show dQ this);rw[dP]at this;lia
 let(y,q,hn):=this;let(k,_,_,e):=I.two;let(s,hs,B):=acJ e h q;show%[0,s,hs|by unfold fO;rw[B];show hn]
def WQ (t)(h)(s):fO t h s<=t.mask:=by
 let q:∀s p,p.i<=t.mask->p.j+p.more<=t.mask->(stp t s p).j<=t.mask:=by
  intro s
  induction s with
  | zero=>intro p _ h;show p.j<=t.mask;lia
  | succ s ih=>
   intro p h1 B;show (stp t s (t.advance p)).j<=t.mask;unfold SetTable.advance;split;.show ih _ h1 (by show p.j+1+(p.more-1)<=t.mask;lia)
   .let j:(SetTable.leap t.mask p.i p.perturb).1<=t.mask:=dQ (ki _ (kR _));calc ih _ j ?_;show (SetTable.leap t.mask p.i p.perturb).1+(SetTable.runEnd t.mask (SetTable.leap t.mask p.i p.perturb).1-(SetTable.leap t.mask p.i p.perturb).1)<=t.mask;unfold SetTable.runEnd;split <;> simp_all
 let j:SetTable.bits h%(t.mask+1)<=t.mask:=dQ (ki _ (kR _));calc q s (t.probeStart h) j ?_;show SetTable.bits h%(t.mask+1)+(SetTable.runEnd t.mask (SetTable.bits h%(t.mask+1))-SetTable.bits h%(t.mask+1))<=t.mask;unfold SetTable.runEnd;split <;> simp_all
variable {vk:fL P w T}{A:Around}{E:AB}{s:Shared}
def acL (F:vk.deep<=8)(L:j4 vk){x:Value}{k:T}(hx:vk.is s.heap k x){j:List Value}(G:∀y∈j,∃B,vk.is s.heap B y){Q:Bool->Shared->Prop}(h:Q false s):wpAny (model P w) A (searchCouldBeSeen x j) Q E s:=by
 unfold searchCouldBeSeen;calc aa ?_;refine nE _ (λrest r s'=>s'=s/\r=(none,())/\∀y∈rest,∃B,vk.is s.heap B y) _ ?_ ?_ _ _ %[rb,rb|G]
 .intro y rest r s' z;let(rfl,rfl,J):=z;let(B,D):=J y aT;let q:∀z∈rest,∃B,vk.is s'.heap B z:=λz hz=>J z (aS _ hz);dsimp only
  split
  all_goals
   split;.show ae %[rb,rb|q]
   .calc aa (vk.quiet 8 F hx ?_);simp only[fE,a9,if_false];calc aa (vk.quiet 8 F D ?_);simp only[fE,a9,if_false];calc aa (L 8 F hx ?_);simp only[a9,if_false];calc aa (L 8 F D ?_);simp only[a9,if_false];show ae %[rb,rb|q]
 .intro r s' z;let(rfl,rfl,_):=z;show ae h
theorem Az (jh:vk.deep<=8)(nc:j4 vk)(hu:A.units+vk.deep<cLine+1)(ho:s.heap.get? a=some o)(hd:o.data=.set es ep t)(I:jJ t (es.toList.map (·.1)))(K:DG vk s.heap es ks)(hx:vk.is s.heap k x)(h1:k∈ks->Q (.there none) s)(h2:k∉ks->∀j,j<=t.mask->j∉t.place.toList->Way t t.place.toList (vk.hash k) j->Q (.free j false) s)(he:fO t (vk.hash k) e0∉t.place.toList)(hel:e0<=10*(t.mask+13)):∀(D r:Nat) (G:Option SetTable.Probe),e0-r<D->G.getD (t.probeStart (vk.hash k))=stp t r (t.probeStart (vk.hash k))->(∀Z,Z<r->fO t (vk.hash k) Z∈t.place.toList/\∀i:Nat,t.place.toList[i]?=some (fO t (vk.hash k) Z)->ks[i]?≠some k)->
   wpAny (model P w) A (setSearchFrom a x (vk.hash k) true D G) Q E s
 | 0,_,_,h,_,_=>absurd h (kS _)
 | D+1,r,G,hf,DK,hpre=>by
  let hre:r<=e0:=by
   rcases eR e0 r with z|z;.show absurd (hpre e0 z).1 he
   .show z
  unfold setSearchFrom;calc aa (fS ho hd I.fits ?_);dsimp only;rw[I.odd];simp only[a9,if_false];rw[DK];let hdm:(stp t r (t.probeStart (vk.hash k))).dummy=none:=by
   have:∀n p,(stp t n p).dummy=p.dummy:=by
    intro n
    induction n with| zero=>intro p;rfl| succ n ih=>intro p;rw[stp,ih,Io]
   rw[this];rfl
  let hw:∀n,(stp t n (stp t r (t.probeStart (vk.hash k)))).j=fO t (vk.hash k) (r+n):=λn=>by unfold fO;rw[vp]
  let(n,hn,hall,hend):=Rg t (λi=>(es[i]?.map (·.1)).getD 0) (vk.hash k) (T9 I.xK I.Lz) (10*SetTable.turns t.mask) _ hdm %[0,e0-r,by unfold SetTable.turns;show kq xo|by rw[hw,show r+(e0-r)=e0 from lI hre];show(wD I.xK I.Lz).mpr he];let yw:∀m,m<n->∃i:Nat,t.place.toList[i]?=some (fO t (vk.hash k) (r+m))/\(es[i]?.map (λe:Int×Value=>e.1)).getD 0≠vk.hash k:=λm hm=>by let(i,e1,e2):=hall m hm;rw[hw]at e1;show%[0,i,(jP I.xK).mp e1|e2]
  let ji:t.place.toList.length=ks.length:=by rw[I.len,ab,K.len]
  let hnot:∀m,m<r+n->∀i:Nat,t.place.toList[i]?=some (fO t (vk.hash k) m)->ks[i]?≠some k:=λm hm i hi hk=>by
   rcases eR m r with z|z;.show(hpre m z).2 i hi hk
   .let(i',e1,e2):=yw (m-r) (cp xo xo);rw[show r+(m-r)=m from lI z]at e1;let hii:i=i':=by
     let a1:=(jP I.xK).mpr hi;rw[(jP I.xK).mpr e1]at a1;cases a1;rfl
    subst hii;obtain⟨e,hes⟩:∃e,es.toList[i]?=some e:=%[_|ag (by rw[<-K.len,<-ji];show(al.mp hi).1)]
    have:=(K.at_ i e k hes hk).2.1;rw[<-ck,hes]at e2;show e2 this
  let j_:∀m,m<r+n->fO t (vk.hash k) m∈t.place.toList:=λm hm=>by
   rcases eR m r with z|z;.show(hpre m z).1
   .let(i',e1,_):=yw (m-r) xo;rw[show r+(m-r)=m by lia]at e1;show aE e1
  rw[hw]at hend;rcases hend with⟨J,L⟩|⟨i,J,hhash,L⟩
  .let M:=(wD I.xK I.Lz).mp J;split
   .rename_i met F;let q:SetTable.probe.go t (λi=>(es[i]?.map (·.1)).getD 0) (vk.hash k) (10*SetTable.turns t.mask) (stp t r (t.probeStart (vk.hash k)))=some met:=F;rw[L]at q;cases q;dsimp only;calc ae (h2 (λhk=>?_) _ (WQ t _ _) M %[0,r+n,rb|j_]);let(i0,hi0):=io hk;let N:=(al.mp hi0).1;obtain⟨j0,hj0⟩:∃j,t.place.toList[i0]?=some j:=%[_|ag (by simp[*])]
    obtain⟨e,hes⟩:∃e,es.toList[i0]?=some e:=%[_|ag (by rw[<-K.len];show N)]
    let hh:=(K.at_ i0 e k hes hi0).2.1;let(s0,w1,w2):=I.way i0 j0 (vk.hash k) (by rw[bb,hes,<-hh];rfl) hj0;rcases sk s0 (r+n) with z|z|z;.show hnot s0 z i0 (by rw[w1];show hj0) hi0
    .rw[z]at w1;show M (by rw[w1];show aE hj0)
    .show M (w2 _ z)
   .rename_i F;let q:SetTable.probe.go t (λi=>(es[i]?.map (·.1)).getD 0) (vk.hash k) (10*SetTable.turns t.mask) (stp t r (t.probeStart (vk.hash k)))=none:=by
     cases hq:SetTable.probe.go t (λi=>(es[i]?.map (·.1)).getD 0) (vk.hash k) (10*SetTable.turns t.mask) (stp t r (t.probeStart (vk.hash k))) with| none=>rfl| some m=>show absurd hq (F m)
    rw[L]at q;cases q
  .let O:=(jP I.xK).mp J;let N:=(al.mp O).1;obtain⟨e,hes⟩:∃e,es.toList[i]?=some e:=%[_|ag (by rw[<-K.len,<-ji];show N)]
   obtain⟨Y,hk'⟩:∃Y,ks[i]?=some Y:=%[_|ag (by rw[<-ji];show N)]
   let(hy,hh,b,hb):=K.at_ i e Y hes hk';let Ua:es[i]?=some e:=by rw[<-ck];show hes
   split
   .rename_i met F;let q:SetTable.probe.go t (λi=>(es[i]?.map (·.1)).getD 0) (vk.hash k) (10*SetTable.turns t.mask) (stp t r (t.probeStart (vk.hash k)))=some met:=F;rw[L]at q;cases q;dsimp only;let hsm:t.sameMemory t.moves t.mask=some true:=by unfold SetTable.sameMemory;simp
    let hr0:r≠e0:=by
     rintro rfl;rcases vy n with z|z
     .rw[z,t9]at O;show he (aE O)
     .let(i',e1,_):=yw 0 z;show he (aE e1)
    let tail:∀B:¬Y=k,wpAny (model P w) A (setSearchFrom a x (vk.hash k) true D (some (stp t (n+1) (stp t r (t.probeStart (vk.hash k)))))) Q E s:=λB=>
     Az jh nc hu ho hd I K hx h1 h2 he hel D (r+n+1) _ (by grind) (by rw[wE,<-vp,og]) λZ hr'=>by
      rcases eR Z (r+n) with z|z;.show%[j_ Z z|hnot Z z]
      .have:Z=r+n:=by lia
       subst this;calc%[aE O|λi2 hi2=>?_];let hii:i=i2:=by let a1:=(jP I.xK).mpr hi2;rw[J]at a1;cases a1;rfl
       rw[<-hii,hk'];show λz=>B (bg z)
    let hst:∀y∈List.map (λx=>x.snd) (Array.filter (λx=>x.fst==vk.hash k) es).toList,∃Y,vk.is s.heap Y y:=λy hy=>by
     let(e',he',rfl):=aI.mp hy;let hm:e'∈es.toList:=by have:=tz.mp he';rw[Array.mem_filter]at this;show tz.mpr this.1
     let(i3,hi3):=io hm;obtain⟨k3,hk3⟩:∃k3,ks[i3]?=some k3:=%[_|ag (by rw[K.len];show(al.mp hi3).1)]
     show%[k3|(K.at_ i3 e' k3 hi3 hk3).1]
    let(eh,ev):=e;let hb:ev=.ref b:=hb;subst hb;cases hl:t.led
    .simp only[lT,if_true];calc aa (acL jh nc hx hst ?_);simp only[a9,if_false];rw[Ua];dsimp only;calc aa (eD (vk.eqBool hu hy hx ?_));calc aa (fS ho hd I.fits ?_);dsimp only;by_cases B:Y=k
     .rw[ap B];show ae (h1 (B ▸ aE hk'))
     .rw[ai B];simp only[gx,a9,if_false];rw[hsm];simp only[if_true];rw[J];dsimp only;rw[Ua];dsimp only;calc aa (wpAny_isSame_ref_self ?_);show aa (ae (tail B))
    .simp only[fE,a9,if_false];rw[Ua];dsimp only;calc aa (eD (vk.eqBool hu hy hx ?_));calc aa (fS ho hd I.fits ?_);dsimp only;by_cases B:Y=k
     .rw[ap B];show ae (h1 (B ▸ aE hk'))
     .rw[ai B];simp only[gx,a9,if_false];rw[hsm];simp only[if_true];rw[J];dsimp only;rw[Ua];dsimp only;calc aa (wpAny_isSame_ref_self ?_);show aa (ae (tail B))
   .rename_i F;let q:SetTable.probe.go t (λi=>(es[i]?.map (·.1)).getD 0) (vk.hash k) (10*SetTable.turns t.mask) (stp t r (t.probeStart (vk.hash k)))=none:=by
     cases hq:SetTable.probe.go t (λi=>(es[i]?.map (·.1)).getD 0) (vk.hash k) (10*SetTable.turns t.mask) (stp t r (t.probeStart (vk.hash k))) with| none=>rfl| some m=>show absurd hq (F m)
    rw[L]at q;cases q
end
def tM (mask:Nat):SetTable:={mask:=mask,place:=#[],dummies:=#[],finger:=0,led:=false,moves:=0,plain:=false}
def Taken (ow:Array (Option Nat))(j:Nat):Prop:=(ow.getD j (some 0)).isNone=false
def afp (t:SetTable)(d):∀(q:Nat×Nat) (m:Nat),m<=SetTable.runEnd t.mask q.1-q.1->(stp t m (mJ t q d)).j=q.1+m:=by
 intro q m hm;let B:∀(m:Nat) (p:SetTable.Probe),m<=p.more->(stp t m p).j=p.j+m:=by
  intro m
  induction m with
  | zero=>intro p _;rfl
  | succ m ih=>
   intro p h;show (stp t m (t.advance p)).j=_;let e:t.advance p={p with j:=p.j+1,more:=p.more-1}:=by unfold SetTable.advance;rw[if_pos xo]
   rw[e,ih _ (by show m<=p.more-1;show we h)];show p.j+1+m=p.j+(m+1)
   lia
 show B m (mJ t q d) hm
theorem Ip (mask)(ow):∀(j:Nat) (q:Nat×Nat),(∃n,n<j/\¬Taken ow (jg mask n q).1)->
  ∃s,SetTable.layClean.free mask ow j q.1 q.2=some (stp (tM mask) s (mJ (tM mask) q none)).j/\¬Taken ow (stp (tM mask) s (mJ (tM mask) q none)).j/\∀s',s'<s->Taken ow (stp (tM mask) s' (mJ (tM mask) q none)).j
 | 0,_,⟨_,h,_⟩=>absurd h (kS _)
 | j+1,q,⟨n,hn,hfree⟩=>by
  let M:=afp (tM mask) none q;cases e:(List.range (SetTable.runEnd mask q.1+1-q.1)).find? λk=>(ow.getD (q.1+k) (some 0)).isNone with
  | some k=>
   let h1:=List.find?_some e;let O:=bz.mp (List.mem_of_find?_eq_some e);let hk:k<=SetTable.runEnd mask q.1-q.1:=fv xo;refine%[2,k,?_,?_|λs' G=>?_]
   .unfold SetTable.layClean.free;rw[e,M k hk]
   .rw[M k hk];unfold Taken;rw[h1];decide
   .rw[M s' (ay (av G) hk)];let(as,bs,Z,B):=(List.find?_eq_some_iff_append.mp e).2;let hm:s'∈as:=by
     have:(List.range (SetTable.runEnd mask q.1+1-q.1))[s']?=some s':=iX (mh G O);let J:(List.range (SetTable.runEnd mask q.1+1-q.1))[as.length]?=some k:=by rw[Z,d6 (ah _),nB];rfl
     let N:as.length<SetTable.runEnd mask q.1+1-q.1:=by have:=(al.mp J).1;rwa [dP]at this
     rw[iX N]at J;let hak:as.length=k:=bg J;rw[Z,fq (by simp_all)]at this;show aE this
    have:=B s' hm;unfold Taken;simpa using this
  | none=>
   let B:=List.find?_eq_none.mp e;let htk:∀m,m<=SetTable.runEnd mask q.1-q.1->q.1<=SetTable.runEnd mask q.1->Taken ow (q.1+m):=λm hm F=>by have:=B m (bz.mpr (Nat.lt_sub_of_add_lt xo));unfold Taken;show gL.mpr this
   let F:q.1<=SetTable.runEnd mask q.1:=by unfold SetTable.runEnd;split <;> lia
   let hn0:n≠0:=by rintro rfl;show hfree (htk 0 (b8 _) F)
   obtain⟨Y,rfl⟩:∃Y,n=Y+1:=%[n-1|xo]
   let(s,h1,O,h3):=Ip mask ow j (SetTable.leap mask q.1 q.2) %[0,Y,dQ hn|hfree];let L:=Gb (tM mask) _ (mJ (tM mask) q none) rfl;let D:∀m,stp (tM mask) ((mJ (tM mask) q none).more+1+m) (mJ (tM mask) q none)=stp (tM mask) m (mJ (tM mask) (SetTable.leap mask q.1 q.2) none):=λm=>by rw[vp,L];rfl
   refine%[2,(mJ (tM mask) q none).more+1+s,?_,?_|λs' G=>?_]
   .rw[D,<-h1]
    conv=>lhs;unfold SetTable.layClean.free
    rw[e]
   .rw[D];show O
   .rcases eR s' ((mJ (tM mask) q none).more+1) with z|z
    .let hm:s'<=SetTable.runEnd mask q.1-q.1:=dQ z;rw[M s' hm];show htk s' hm F
    .obtain⟨m,rfl⟩:∃m,s'=(mJ (tM mask) q none).more+1+m:=%[s'-((mJ (tM mask) q none).more+1)|by simp_all]
     rw[D];show h3 m (by simp_all)
structure Own (mask:Nat)(hs:List Int)(ow:Array (Option Nat))(pos:Nat->Nat):Prop where
 size:ow.size=mask+1
 le:∀i,i<hs.length->pos i<=mask
 at_:∀i,i<hs.length->ow[pos i]?=some (some i)
 only:∀j i:Nat,ow[j]?=some (some i)->i<hs.length/\j=pos i
 way:∀(i:Nat) h,hs[i]?=some h->∃s,fO (tM mask) h s=pos i/\∀s',s'<s->∃i',i'<hs.length/\fO (tM mask) h s'=pos i'
def yK {ow:Array (Option Nat)}(q:j<ow.size):Taken ow j↔∃i,ow[j]?=some (some i):=by
 unfold Taken;rw[fN,b6 q,wE];cases ow[j] with| none=>simp| some i=>simp
def Own.step (O:Own mask hs ow pos)(hm:mask+1=2^k)(hf:hs.length<=mask)(h):∃j,SetTable.layClean.free mask ow (SetTable.turns mask) (SetTable.bits h%(mask+1)) (SetTable.bits h)=some j/\Own mask (hs++[h]) (ow.setIfInBounds j (some hs.length)) λi=>if i=hs.length then j else pos i:=by
 let hinj:∀a b,a<hs.length->b<hs.length->pos a=pos b->a=b:=λa b ha hb e=>by let h1:=O.at_ a ha;rw[e,O.at_ b hb]at h1;show(bg (bg h1)).symm
 obtain⟨y,L,hny⟩:∃y,y<=mask/\∀i,i<hs.length->pos i≠y:=by apply eW;intro hn;let J:∀y,y<=mask->y∈(List.range hs.length).map pos:=λy L=>eW λz=>hn %[0,y,L|λi hi e=>z (aI.mpr %[0,i,bz.mpr hi|e])];have:=(sP (n:=mask+1)).length_le_of_subset (l₂:=(List.range hs.length).map pos) λy L=>J y (by have:=bz.mp L;show dQ this);rw[dP,ab,dP]at this;lia
 let N:SetTable.bits h%(mask+1)<=mask:=dQ (ki _ (kR _));let(n,hn,en):=Il hm N (Rf h) L;let hsz:=O.size;let(s,e1,e2,e3):=Ip mask ow (SetTable.turns mask) (SetTable.bits h%(mask+1),SetTable.bits h) %[0,n,by unfold SetTable.turns;lia|λz=>by rw[en,yK xo]at z;let(i,hi):=z;let(h1,Y):=O.only y i hi;show hny i h1 Y.symm]
 let fU:∀m,(stp (tM mask) m (mJ (tM mask) (SetTable.bits h%(mask+1),SetTable.bits h) none)).j=fO (tM mask) h m:=λm=>rfl;rw[fU]at e1 e2;calc%[0,_,e1|?_];let Z:fO (tM mask) h s<=mask:=by apply eW;intro z;apply e2;unfold Taken;rw[fN,l_ xo];rfl
 let F:∀i,i<hs.length->pos i≠fO (tM mask) h s:=λi hi e=>e2 ((yK xo).mpr %[i|by rw[<-e];show O.at_ i hi]);generalize hj:fO (tM mask) h s=j at *
 let B:∀m:Nat,(ow.setIfInBounds j (some hs.length))[m]?=if j=m then some (some hs.length) else ow[m]?:=λm=>by
  rw[Array.getElem?_setIfInBounds];split
  .rename_i z;simp;lia
  .rfl
 refine%[by rw[Array.size_setIfInBounds];show hsz,λi hi=>?_,λi hi=>?_,λm i q=>?_|λi g G=>?_]
 .split;.show Z
  .show O.le i (by rw[ax]at hi;simp at hi;lia)
 .rw[ax]at hi;simp at hi;rw[B];by_cases z:i=hs.length;.rw[if_pos z,if_pos rb,z]
  .rw[if_neg z,if_neg λy=>F i xo y.symm];show O.at_ i xo
 .rw[B]at q;rw[ax];simp only[bP,mr];split at q
  .rename_i z;have:hs.length=i:=by simpa using q
   subst this;show%[e_ _|by rw[if_pos rb,z]]
  .let(h1,Y):=O.only m i q;show%[fb h1|by rw[if_neg (a_ h1)];show Y]
 .rcases eR i hs.length with z|z
  .rw[fq z]at G;let(s2,w1,w2):=O.way i g G;calc%[0,s2,by rw[if_neg xo];show w1|λs' D=>?_];let(i',a1,a2):=w2 s' D;show%[0,i',by rw[ax];simp;show fb a1|by rw[if_neg xo];show a2]
  .let hi0:i=hs.length:=by
    have:=(al.mp G).1;rw[ax]at this;simp at this;lia
   subst hi0;rw[d6 (ah _),nB]at G;let G:h=g:=by simpa using G
   subst G;calc%[0,s,by rw[if_pos rfl];show hj|λs' D=>?_];let ht:=e3 s' D;rw[fU]at ht;let M:fO (tM mask) h s'<ow.size:=by
    have:fO (tM mask) h s'<=mask:=WQ (tM mask) h s'
    (simp[Nat.sub_sub];lia)
   let(i',hi'):=(yK M).mp ht;let(a1,a2):=O.only _ i' hi';show%[0,i',by rw[ax];simp;lia|by rw[if_neg xo];show a2]
noncomputable def Ub (mask:Nat)(q:Option (Array (Option Nat)×Nat))(h:Int):Option (Array (Option Nat)×Nat):=do
 let (owner,k) <- q
 let j <- SetTable.layClean.free mask owner (SetTable.turns mask) (SetTable.bits h%(mask+1)) (SetTable.bits h)
 pure (owner.setIfInBounds j (some k),k+1)
theorem LC (hm:mask+1=2^k):∀(hs pre:List Int) (ow:Array (Option Nat)) (pos:Nat->Nat),Own mask pre ow pos->pre.length+hs.length<=mask->
  ∃q pos',hs.foldl (Ub mask) (some (ow,pre.length))=some (q,(pre++hs).length)/\Own mask (pre++hs) q pos'
 | [],pre,ow,pos,O,_=>%[3,ow,pos,xp|by rw[ej];show O]
 | h::hs,pre,ow,pos,O,hl=>by
  rw[bP]at hl;let(j,e,D):=O.step hm xo h;let es:Ub mask (some (ow,pre.length)) h=some (ow.setIfInBounds j (some pre.length),(pre++[h]).length):=by unfold Ub;simp[e]
  let(q,pos',e2,B):=LC hm hs (pre++[h]) _ _ D (by rw[ax];simp;lia);calc%[3,q,pos',?_|?_];.rw[w_,es,e2];simp
  .rw[be]at B;show B
def acM (mask):Own mask [] (Array.replicate (mask+1) none) λ_=>0:=by calc%[xp,λi h=>by simp at h,λi h=>by simp at h,λj i h=>?_|λi h e=>by simp at e];rw[Array.getElem?_replicate]at h;split at h <;> simp at h
def Pg (hm:mask+1=2^k)(hs:Array Int)(j:hs.size<=mask):∃ow pos,SetTable.layClean mask hs=some ow/\Own mask hs.toList ow pos:=by
 let(ow,pos,e,O):=LC hm hs.toList [] _ _ (acM mask) (by simpa using j);calc%[3,ow,pos,?_|by simpa using O];have:SetTable.layClean mask hs=(hs.toList.foldl (Ub mask) (some (Array.replicate (mask+1) none,0))).map (·.1):=by rw[Array.foldl_toList];rfl
 rw[this,show (0:Nat)=([]:List Int).length from rb,e];rfl
def lq (mask:Nat)(ow:Array (Option Nat)):List (Nat×Nat):=(List.range (mask+1)).filterMap λj=>(ow.getD j none).map (j,·)
def nF (O:Own mask hs ow pos):(j,i)∈lq mask ow↔i<hs.length/\j=pos i:=by
 unfold lq;rw[md];constructor
 .intro z;let(q,B,e):=z;let D:q<ow.size:=by rw[O.size];show bz.mp B
  rw[fN,b6 D,wE]at e;cases hx:ow[q] with
  | none=>rw[hx]at e;cases e
  | some x=>rw[hx]at e;let e:(q,x)=(j,i):=bg e;cases e;show O.only j i (by rw[b6 D,hx])
 .rintro⟨hi,rfl⟩;calc%[0,pos i,bz.mpr (Nat.lt_succ_of_le (O.le i hi))|?_];rw[fN,O.at_ i hi];rfl
def LK (mask)(ow):xJ ((lq mask ow).map (·.1)):=by
 let B:∀l:List Nat,l.Pairwise (λa b=>a<b)->((l.filterMap λj=>(ow.getD j none).map (j,·)).map (·.1)).Sublist l:=by
  intro l _
  induction l with
  | nil=>show .slnil
  | cons j l q=>
   rename_i D;let q:=q (kG.mp D).2;rw[f_];cases ow.getD j none with| none=>show q.cons _| some x=>show q.cons_cons _
 show List.pairwise_lt_range.sublist (B _ List.pairwise_lt_range)
def WR (O:Own mask hs ow pos):((lq mask ow).map (·.2)).Perm (List.range hs.length):=by
 let q:((lq mask ow).map (·.1)).Nodup:=(LK mask ow).imp λh=>a_ h;let L:((lq mask ow).map (·.2)).Nodup:=by calc eA.mpr ((eA.mp q).imp_of_mem λ{a b} ha hb hne e=>hne ?_);let(_,h1):=(nF O (j:=a.1) (i:=a.2)).mp ha;let(_,B):=(nF O (j:=b.1) (i:=b.2)).mp hb;rw[h1,B,e]
 calc(List.perm_ext_iff_of_nodup L sP).mpr λi=>?_;rw[aI,bz];constructor
 .rintro⟨⟨j,i'⟩,hm,rfl⟩;show((nF O).mp hm).1
 .intro hi;show%[0,(pos i,i),(nF O).mpr %[hi|rb]|rb]
def acN (hm:mask+1=2^k)(Y:3<=k)(F:k<=13)(hs:Array Int)(N:hs.size<=mask)(finger moves)(led plain):∃t B,SetTable.laid mask finger moves led plain hs=some (t,B)/\t.mask=mask/\t.led=led/\t.plain=plain/\B.toList.Perm (List.range hs.size)/\jJ t (B.toList.map λi=>hs.toList.getD i 0):=by
 let(ow,pos,e,O):=Pg hm hs N;let hsz:hs.toList.length=hs.size:=bq;let q:=WR O;rw[hsz]at q;refine%[28,{mask:=mask,place:=((lq mask ow).map (·.1)).toArray,dummies:=#[],finger:=finger,led:=led,moves:=moves,plain:=plain},((lq mask ow).map (·.2)).toArray,?_,rb,rb,rb,by simpa using q|?_]
 .unfold SetTable.laid;rw[e];rfl
 .let bM:(lq mask ow).length=hs.size:=by have:=q.length_eq;rwa [ab,dP]at this
  refine%[by simpa using LK mask ow,xp,rb,%[2,k,Y,F|hm],λj L=>?_,by simpa [bM] using N|λi j h e1 e2=>?_]
  .let L:j∈(lq mask ow).map (·.1):=by simpa using L
   let((Z,i),D,rfl):=aI.mp L;let(M,G):=(nF O).mp D;show Z<=mask;rw[G];show O.le i M
  .let e2:((lq mask ow).map (·.1))[i]?=some j:=by simpa using e2
   let e1:(((lq mask ow).map (·.2)).map λi=>hs.toList.getD i 0)[i]?=some h:=by simpa using e1
   rw[bb]at e2;rw[bb,bb]at e1;cases hx:(lq mask ow)[i]? with
   | none=>rw[hx]at e2;cases e2
   | some x=>
    rw[hx]at e1 e2;let e2:x.1=j:=bg e2;let e1:hs.toList.getD x.2 0=h:=bg e1;let(M,G):=(nF O (j:=x.1) (i:=x.2)).mp (aE hx);let(s,w1,w2):=O.way x.2 h (by rw[<-e1,ar,ag M];rfl);refine Way.mono (t:=tM mask) (pl:=(lq mask ow).map (·.1)) %[0,s,w1.trans (G.symm.trans e2)|λs' J=>?_] rb λx hx=>by simpa using hx
    let(i',b1,b2):=w2 s' J;rw[b2];show aI.mpr %[0,_,(nF O).mpr %[b1|rb]|rb]
section
variable {P:Program}{w:World}{T:Type}[DecidableEq T]
def vq (vk:fL P w T):Prop:=∀{h h':Heap} {k:T} {v:Value} {d:Addr} {o:Obj},vk.is h k v->h.get? d=some o->(∀its n,o.data≠.seq its n)->Heap.SameBut d h h'->vk.is h' k v
def LR (vk:fL P w T):Prop:=∀{A:Around} {E:AB} {s:Shared} {k:T} {v:Value} {Q:Bool->Shared->Prop},vk.is s.heap k v->Q false s->wpAny (model P w) A (hashByValue 8 v) Q E s
variable {vk:fL P w T}{A:Around}{E:AB}{s:Shared}
def jJ.acO (I:jJ t hs):t.mask<=8191:=by let(k,_,h,e):=I.two;have:2^k<=2^13:=qh xt h;lia
def WT (G:vk.deep<=8)(D:j4 vk)(J:A.units+vk.deep<cLine+1)(L:s.heap.get? a=some o)(hd:o.data=.set es ep t)(I:jJ t (es.toList.map (·.1)))(K:DG vk s.heap es ks)(hx:vk.is s.heap k x)(h1:k∈ks->Q (.there none) s)(B:k∉ks->∀j,j<=t.mask->j∉t.place.toList->Way t t.place.toList (vk.hash k) j->Q (.free j false) s):wpAny (model P w) A (setSearch a x (vk.hash k) true) Q E s:=by let(N,q,F):=I.hole (vk.hash k);have:=I.acO;show Az G D J L hd I K hx h1 B F q 100000 0 none xo rb λM h=>absurd h (kS _)
def DG.put (K:DG vk h es ks)(kp:∀k v,vk.is h k v->vk.is h' k v)(hx:vk.is h k (.ref b))(hn:k∉ks)(hp:p<=es.toList.length):DG vk h' (SetTable.insertAt es p (vk.hash k,.ref b)) (ks.take p++k::ks.drop p):=by
 let M:=K.len;refine%[?_,λi e J h1 D=>?_|?_]
 .rw[kj];simp only[ax,bn,bP,cz];simp_all
 .rw[kj]at h1;rcases lH hp h1 with⟨L,b1⟩|⟨L,b1⟩|⟨L,b1⟩
  .rcases lH (by simp_all) D with⟨q,j⟩|⟨q,j⟩|⟨q,j⟩
   .let(F,G,B):=K.at_ i e J b1 j;show%[kp _ _ F,G|B]
   .lia
   .lia
  .rcases lH xo D with⟨q,j⟩|⟨q,j⟩|⟨q,j⟩;.lia
   .subst b1 j;show%[kp _ _ hx|%[16,rb,b|rb]]
   .lia
  .rcases lH xo D with⟨q,j⟩|⟨q,j⟩|⟨q,j⟩;.lia
   .lia
   .let(F,G,B):=K.at_ (i-1) e J b1 j;show%[kp _ _ F,G|B]
 .have:(ks.take p++k::ks.drop p).Perm (k::ks):=by
   calc List.perm_middle.trans (.cons _ ?_);rw[c_]
  show this.nodup_iff.mpr (gm.mpr %[hn|K.nd])
def Z_ (es:Array (Int×Value))(p:Nat)(h:Int)(x:Value):(SetTable.insertAt es p (h,x)).toList.map (·.1)=(es.toList.map (·.1)).take p++h::(es.toList.map (·.1)).drop p:=by rw[kj,bE,b9,List.map_take,List.map_drop]
def jJ.flag {t t':SetTable}(I:jJ t hs)(h1:t'.mask=t.mask)(q:t'.place=t.place)(B:t'.dummies=t.dummies):jJ t' hs:=by calc%[by rw[q];show I.xK,by rw[q];show I.len,by rw[B];show I.Lz,by rw[h1];show I.two,by rw[h1,q];show I.le,by rw[h1];show I.few|λi j h e1 e2=>?_];rw[q]at e2 ⊢;show(I.way i j h e1 e2).mono h1.symm λx hx=>hx
def Six (m:Nat):Prop:=m=7\/m=31\/m=127\/m=511\/m=2047\/m=8191
def acP (h:Six m):∃k,3<=k/\k<=13/\m+1=2^k:=by
 rcases h with rfl|rfl|rfl|rfl|rfl|rfl;.show%[2,3,xt,xt|rb]
 .show%[2,5,xt,xt|rb]
 .show%[2,7,xt,xt|rb]
 .show%[2,9,xt,xt|rb]
 .show%[2,11,xt,xt|rb]
 .show%[2,13,xt,xt|rb]
def aac (h:Six m)(h1:5*n<3*m)(j:3*m<=5*(n+1))(hn:n+1<=4000):Six (SetTable.sizeAbove (SetTable.grown (n+1))-1)/\n+1<=SetTable.sizeAbove (SetTable.grown (n+1))-1/\5*(n+1)<3*(SetTable.sizeAbove (SetTable.grown (n+1))-1)/\SetTable.sizeAbove (SetTable.grown (n+1))<=sizeLine:=by
 rcases h with rfl|rfl|rfl|rfl|rfl|rfl
 .obtain rfl:n=4:=by lia
  show%[.inr (.inl xt),xt,xt|xt]
 .obtain rfl:n=18:=by lia
  show%[.inr (.inr (.inl xt)),xt,xt|xt]
 .obtain rfl:n=76:=by lia
  show%[.inr (.inr (.inr (.inl xt))),xt,xt|xt]
 .obtain rfl:n=306:=by lia
  show%[.inr (.inr (.inr (.inr (.inl xt)))),xt,xt|xt]
 .obtain rfl:n=1228:=by lia
  show%[.inr (.inr (.inr (.inr (.inr xt)))),xt,xt|xt]
 .lia
theorem yL {C:Type}(xs:List C):∀(l:List Nat),(∀i∈l,i<xs.length)->∀m:Nat,(l.filterMap λi=>xs[i]?)[m]?=(l[m]?).bind λi=>xs[i]?
 | [],_,m=>by simp
 | i::l,h,m=>by
  let hi:=h i aT;rw[f_,ag hi];cases m with| zero=>simp[hi]| succ m=>simpa using yL xs l (λj q=>h j (aS _ q)) m
def aad {C:Type}(xs:List C):(List.range xs.length).filterMap (λi=>xs[i]?)=xs:=by
 apply iA;intro m;rw[yL xs _ λi hi=>bz.mp hi];by_cases h:m<xs.length;.rw[iX h];rfl
 .rw[eC (by simpa using h),eC (lS h)];rfl
theorem DN {C:Type}(xs:List C):∀(l:List Nat),(∀i∈l,i<xs.length)->(l.filterMap λi=>xs[i]?).length=l.length
 | [],_=>rfl
 | i::l,h=>by rw[f_,ag (h i aT),bP,bP,DN xs l λj q=>h j (aS _ q)]
def DG.perm (K:DG vk h es ks)(kp:∀k v,vk.is h k v->vk.is h' k v){j:Array Nat}(hp:j.toList.Perm (List.range es.size)):∃D,D.Perm ks/\DG vk h' (j.filterMap (es[·]?)) D/\(j.filterMap (es[·]?)).size=es.size/\(j.filterMap (es[·]?)).toList.map (·.1)=j.toList.map λi=>(es.toList.map (·.1)).getD i 0:=by
 let L:=K.len;let hsz:es.toList.length=es.size:=bq;let q:∀i∈j.toList,i<es.toList.length:=λi hi=>by rw[hsz];show bz.mp (hp.mem_iff.mp hi)
 let B:∀i∈j.toList,i<ks.length:=λi hi=>by rw[L];show q i hi
 let F:(j.filterMap (es[·]?)).toList=j.toList.filterMap λi=>es.toList[i]?:=by rw[Array.toList_filterMap];congr 1;funext i;rw[ck]
 let J:(j.toList.filterMap λi=>ks[i]?).Perm ks:=by have:=hp.filterMap λi=>ks[i]?;rw[<-hsz,<-L,aad]at this;show this
 let G:j.toList.length=es.size:=by rw[hp.length_eq,dP]
 calc%[11,j.toList.filterMap λi=>ks[i]?,J,%[?_,λi e k e1 e2=>?_|J.nodup_iff.mpr K.nd],?_|?_];.rw[F,DN _ _ q,DN _ _ B]
 .rw[F,yL _ _ q]at e1;rw[yL _ _ B]at e2;cases hi:j.toList[i]? with
  | none=>rw[hi]at e1;cases e1
  | some m=>rw[hi]at e1 e2;let(N,O,M):=K.at_ m e k e1 e2;show%[kp _ _ N,O|M]
 .rw[<-bq,F,DN _ _ q,G]
 .rw[F];apply iA;intro i;rw[bb,yL _ _ q,bb];cases hi:j.toList[i]? with| none=>rfl| some m=>have hm:=q m (aE hi);show ((es.toList[m]?).map (·.1))=some ((es.toList.map (·.1)).getD m 0);rw[ar,bb,ag hm];rfl
end
section
variable {P:Program}{w:World}{T:Type}[DecidableEq T]{vk:fL P w T}{A:Around}{E:AB}{s:Shared}
def qF (vk:fL P w T)(h:Heap)(a:Addr)(ks:List T):Prop:=∃es ep t,SetT w h a es ep t/\jJ t (es.toList.map (·.1))/\DG vk h es ks/\Six t.mask/\5*es.size<3*t.mask
def aae (I:jJ t hs):t.tooFull=decide (3*t.mask<=5*hs.length):=by let h1:=I.len;rw[bq]at h1;unfold SetTable.tooFull SetTable.fill;rw[I.Lz,h1];simp[fc]
def aaf (jh:vk.deep<=8)(nc:j4 vk)(kps:vq vk)(hbv:LR vk)(hu:A.units+vk.deep<cLine+1)(m:qF vk s.heap a ks)(hx:vk.is s.heap k (.ref b))(hz:ks.length+1<=4000)(q1:k∈ks->Q false s)(q2:k∉ks->∀h' J,Heap.SameBut a s.heap h'->qF vk h' a J->J.Perm (k::ks)->Q true {s with heap:=h' }):wpAny (model P w) A (setAddHashed a (.ref b) (vk.hash k)) Q E s:=by
 let(es,ep,t,(o,ho,hex,hd,hf,hb,hpl),I,K,S6,H5):=m;let hsz:es.toList.length=es.size:=bq;let kl:=K.len;let hds:∀its n,o.data≠.seq its n:=λits n z=>by rw[hd]at z;cases z
 unfold setAddHashed setAddHashedIn;calc eD (aa (fS ho hd hf ?_));dsimp only;let hbs:byScan (.ref b) es=false:=by unfold byScan Value.scannable;rfl
 rw[hbs];simp only[a9,if_false];calc aa (WT jh nc hu ho hd I K hx (λhk=>ae (q1 hk)) λhk j hj hn hw=>?_);dsimp only;calc aa (fS ho hd hf ?_);dsimp only;let B:=BJ I.xK j;let bM:=I.len;rw[ab]at bM;let few:=I.few;rw[ab]at few;let hp:SetTable.below t.place j<=es.toList.length:=by have:=B.le;simp_all
 let mle:7<=t.mask:=by rcases S6 with e|e|e|e|e|e <;> simp_all
 let I1:=I.put hj hn hw (by rw[ab,hsz];lia);let hn1:es.size+1<=4000:=xo;let M:(SetTable.insertAt es (SetTable.below t.place j) (vk.hash k,Value.ref b)).size=es.size+1:=by rw[<-bq,kj];simp only[ax,bn,bP,cz];grind
 let G:∀q:SetTable,q.mask=t.mask->q.place=(t.put j).1.place->q.dummies=(t.put j).1.dummies->q.led=t.led->q.plain=false->
   wpAny (model P w) A (storeSet a (SetTable.insertAt es (SetTable.below t.place j) (vk.hash k,Value.ref b)) q >>= λ_=>if (!false&&q.tooFull)=true then (setRelay a (SetTable.grown (es.size+1)) >>= λ_=>pure true) else pure true) Q E s:=by
  intro q c1 c2 c3 c4 c5;let I2:jJ q ((SetTable.insertAt es (SetTable.below t.place j) (vk.hash k,Value.ref b)).toList.map (·.1)):=by rw[Z_];show I1.flag c1 c2 c3
  calc aa (Dm (w:=w) %[42,o,ho,hex,hd,hf,hb|hpl] I2.fits c4 c5 (by rw[M];show es.size+1<4096;lia) λh1 O m1=>?_);let Ma:∀k v,vk.is s.heap k v->vk.is h1 k v:=λk v z=>kps z ho hds O;let K2:=K.put Ma hx hk hp;let pm:(ks.take (SetTable.below t.place j)++k::ks.drop (SetTable.below t.place j)).Perm (k::ks):=by calc List.perm_middle.trans (.cons _ ?_);rw[c_]
  let abH:=aae I2;rw[ab,bq,M,c1]at abH;rw[abH];by_cases D:3*t.mask<=5*(es.size+1)
  .rw[ap D];simp only[lT,Bool.and_self,if_true];let(g1,g2,g3,g4):=aac S6 H5 D hn1;let(o1,Y,ahE,N,hf1,hb1,ahF):=m1;let(kk,k3,k13,ek):=acP g1;let hz1:((SetTable.insertAt es (SetTable.below t.place j) (vk.hash k,Value.ref b)).map (·.1)).size=es.size+1:=by rw[Array.size_map,M]
   let(t3,F,el,f1,f2,f3,fp,I3):=acN ek k3 k13 ((SetTable.insertAt es (SetTable.below t.place j) (vk.hash k,Value.ref b)).map (·.1)) (by rw[hz1];show g2) q.finger (q.movedTo (SetTable.sizeAbove (SetTable.grown (es.size+1))-1)) q.led q.plain;let erl:q.relaid ((SetTable.insertAt es (SetTable.below t.place j) (vk.hash k,Value.ref b)).map (·.1)) (SetTable.grown (es.size+1))=some (t3,F):=el;calc aa ?_;unfold setRelay;calc aa (fS (s:={s with heap:=h1}) Y N hf1 ?_);dsimp only;rw[if_neg (Nat.not_lt.mpr g4),erl];rw[hz1,<-M]at fp;let(_,_,_,L,hh3):=K2.perm (λk v z=>z) fp;rw[sQ,<-hh3]at I3;calc aa ?_;show wpAny _ _ (if ((F.filterMap λi=>(SetTable.insertAt es (SetTable.below t.place j) (vk.hash k,Value.ref b))[i]?).size != (SetTable.insertAt es (SetTable.below t.place j) (vk.hash k,Value.ref b)).size)=true then _ else _) _ _ _;rw[L];simp only[bne_self_eq_false,a9,if_false];calc ae ?_;dsimp only;calc Dm (w:=w) (s:={s with heap:=h1}) %[42,o1,Y,ahE,N,hf1,hb1|ahF] I3.fits f2 (f3.trans c5) (by rw[L,M];show es.size+1<4096;lia) λh2 sb2 m2=>?_;let ahG:∀its n,o1.data≠.seq its n:=λits n z=>by rw[N]at z;cases z
   let(J,pk,K3,_,_):=K2.perm (h':=h2) (λk v z=>kps z Y ahG sb2) fp;show ae (q2 hk h2 J (O.trans sb2) %[15,_,_,t3,m2,I3,K3,by rw[f1];show g1|by rw[L,M,f1];show g3] (pk.trans pm))
  .rw[ai D];simp only[lT,gx,a9,if_false];show ae (q2 hk h1 _ O %[15,_,_,q,m1,I2,K2,by rw[c1];show S6|by rw[M,c1];show sN D] pm)
 let ahH:(t.put j).snd=SetTable.below t.place j:=rfl;rw[ahH];cases Z:(t.put j).1.plain with
 | true=>simp only[if_true];calc aa (hbv hx ?_);simp only[a9,if_false];show G _ rb rb rb rb rfl
 | false=>
  simp only[a9,if_false]
  first| show G _ rb rb rb rb Z| show aa (ae (G _ rb rb rb rb Z))
end
section
variable {P:Program}{w:World}{I I1 I2:Type}[DecidableEq I][DecidableEq I1][DecidableEq I2]
def acQ {s:Shared}(F:s.heap.get? a=some o)(M:o.cls=.type "tuple")(hd:o.data=.seq its n)(J:∀v∈its.toList,∀(D:Bool->Shared->Prop) (G:AB),D false s->wpAny (model P w) A (ofAClassStatement d v) D G s)(q:Q false s):wpAny (model P w) A (ofAClassStatement (d+1) (.ref a)) Q E s:=by
 let L:s.TypeIs (.ref a) "tuple":=%[0,o,F|M]
 unfold ofAClassStatement;calc aa (tJ L ?_);simp only[beq_self_eq_true,if_true];calc aa (ae ?_);simp only[fE,a9,if_false];calc aa (ge F hd (aa ?_));show wpAny _ _ (forIn its _ _) _ _ s;rw[<-rl];refine nE _ (λrest r s1=>r.1=none/\s1=s/\∀v∈rest,v∈its.toList) _ ?_ ?_ _ _ %[rb,rb|λv hv=>hv]
 .intro v rest r s1 z;let(B,rfl,j):=z;calc aa (J v (j v aT) _ _ ?_);simp only[a9,if_false];show ae %[rb,rb|λx hx=>j x (aS _ hx)]
 .rintro⟨r1,N⟩ s1 ⟨B,rfl,_⟩;let B:r1=none:=B;subst B;show ae q
def acR:j4 (pW (cX P w)):=by
 intro A E s k v Q n _ h q;rcases dD (show jz k v=true from h) with⟨i,t,rfl,rfl⟩|⟨x,t,rfl,rfl⟩
 .cases n <;> show ae q
 .cases n <;> show ae q
def WW {vk:fL P w I}(J:j4 vk):j4 (tupK vk):=by
 intro A E s k v Q n hn z q;let(a,N,Y,its,rfl,h1,G,B,F):=z;let hn:vk.deep+1<=n:=hn;obtain⟨m,rfl⟩:∃m,n=m+1:=%[n-1|xo]
 calc acQ h1 G B (λv hv O L D=>?_) q;let(M,j):=F.mem hv;show J m (dQ hn) j D
def WX {h h':Heap}(h1:h.get? a=some o1)(B:o1.data=.seq its n)(q:h.get? d=some o)(hd:∀its n,o.data≠.seq its n)(hs:Heap.SameBut d h h'):h'.get? a=some o1:=by
 let j:a≠d:=by rintro rfl;rw[h1]at q;cases q;show hd _ _ B
 show(hs.2 a j).trans h1
def acS:vq (pW (cX P w)):=λh _ _ _=>h
theorem Mf {vk:fL P w I}(j:vq vk){h h':Heap}{d:Addr}{o:Obj}(q:h.get? d=some o)(hd:∀its n,o.data≠.seq its n)(hs:Heap.SameBut d h h'):∀{x:List I} {vs:List Value},jH vk h x vs->jH vk h' x vs
 | [],[],_=>trivial
 | [],_::_,a=>a.elim
 | _::_,[],a=>a.elim
 | _::_,_::_,a=>%[j a.1 q hd hs|Mf j q hd hs a.2]
def WY {vk:fL P w I}(D:vq vk):vq (tupK vk):=by intro h h' k v d o z q hd hs;let(a,B,n,its,rfl,h1,G,j,F):=z;show%[25,a,B,n,its,rb,WX h1 j q hd hs,G,j|Mf D q hd hs F]
noncomputable def Uc (vk:fL P w I)(p:I->Prop):fL P w I where
 is:=λh k v=>vk.is h k v/\p k
 hash:=vk.hash
 draws:=vk.draws
 deep:=vk.deep
 inj:=λh1 j=>vk.inj h1.1 j.1
 keeps:=λh D hd hs=>%[vk.keeps h.1 D hd hs|h.2]
 pyHash:=λB h q=>vk.pyHash B h.1 q
 eqBool:=λB h1 j q=>vk.eqBool B h1.1 j.1 q
 quiet:=λn hn h q=>vk.quiet n hn h.1 q
def afq {vk:fL P w I}{p:I->Prop}(j:j4 vk):j4 (Uc vk p):=λn hn h q=>j n hn h.1 q
def afr {vk:fL P w I}{p:I->Prop}(j:vq vk):vq (Uc vk p):=λh q hd hs=>%[j h.1 q hd hs|h.2]
end
abbrev sH:=List (List Key)
def agT (k:sH):Prop:=k≠[]/\∀t∈k,∃(i j:Int) (x:Str),t=[Sum.inl i,Sum.inl j,Sum.inr x]
def yM (P:Program)(w:World):fL P w sH:=Uc (tupK (tupK (pW (cX P w)))) agT
section
variable {P:Program}{w:World}
def afs:j4 (yM P w):=afq (WW (WW acR))
def aft:vq (yM P w):=afr (WY (WY acS))
def Rh {s:Shared}(G:s.heap.get? a=some o)(M:o.cls=.type "tuple")(hd:o.data=.seq its n)(L:its.toList=pre++v::post)(B:∀x∈pre,∀(D:Bool->Shared->Prop) (F:AB),D true s->wpAny (model P w) A (hashByValue d x) D F s)(hv:∀(D:Bool->Shared->Prop) (F:AB),D false s->wpAny (model P w) A (hashByValue d v) D F s)(q:Q false s):wpAny (model P w) A (hashByValue (d+1) (.ref a)) Q E s:=by
 let J:s.TypeIs (.ref a) "tuple":=%[0,o,G|M]
 unfold hashByValue;calc aa (on J o6.lookup ?_);dsimp only;calc aa (ge G hd (aa ?_));show wpAny _ _ (forIn its _ _) _ _ s;rw[<-rl,L];refine nE _ (λrest r s1=>r.1=none/\s1=s/\∃p2,rest=p2++v::post/\∀x∈p2,x∈pre) _ ?_ ?_ _ _ %[14,rb,rb,pre,rb|λx hx=>hx]
 .intro x rest r s1 z;let(N,rfl,p2,e,j):=z;cases p2 with
  | nil=>have e:x::rest=v::post:=e;cases e;calc aa (hv _ _ ?_);simp only[lT,if_true];show ae (ae q)
  | cons y p2=>have e:x::rest=y::(p2++v::post):=e;cases e;calc aa (B _ (j _ aT) _ _ ?_);simp only[fE,a9,if_false];show ae %[14,rb,rb,p2,rb|λz hz=>j z (aS _ hz)]
 .intro r s1 z;let(_,rfl,p2,e,_):=z;cases p2 <;> cases e
def acT:LR (yM P w):=by
 rintro A E s k v Q ⟨⟨a,o,n,its,rfl,h1,hc,h2,N⟩,Y,L⟩ q;cases k with
 | nil=>show absurd rb Y
 | cons t k=>
  let(i,j,x,rfl):=L t aT;cases hi:its.toList with
  | nil=>rw[hi]at N;show N.elim
  | cons v vs=>
   rw[hi]at N;let((a2,o2,n2,D,rfl,g1,gc,g2,B),_):=N;let B:jH (pW (cX P w)) s.heap [Sum.inl i,Sum.inl j,Sum.inr x] D.toList:=B;obtain⟨J,F,G,e2,y1,y2,y3⟩:∃J F G,D.toList=[J,F,G]/\jz (Sum.inl i) J=true/\jz (Sum.inl j) F=true/\jz (Sum.inr x) G=true:=by
    cases e2:D.toList with
    | nil=>rw[e2]at B;show B.elim
    | cons J r1=>
     rw[e2]at B;cases r1 with
     | nil=>show B.2.elim
     | cons F r2=>
      cases r2 with
      | nil=>show B.2.2.elim
      | cons G r3=>
       cases r3 with| nil=>show%[29,J,F,G,rb,B.1,B.2.1|B.2.2.1]| cons u4 r4=>show B.2.2.2.elim
   let M:∀(z:Int) (u:Value),jz (Sum.inl z) u=true->∃t,u=.int z t:=λz u h=>by
    rcases dD h with⟨i',t,e,rfl⟩|⟨x',t,e,rfl⟩;.cases e;show%[t|rb]
    .cases e
   let O:∀(z:Str) (u:Value),jz (Sum.inr z) u=true->∃t,u=.str z t:=λz u h=>by
    rcases dD h with⟨i',t,e,rfl⟩|⟨x',t,e,rfl⟩;.cases e
    .cases e;show%[t|rb]
   let(Z,rfl):=M i J y1;let(t2,rfl):=M j F y2;let(t3,rfl):=O x G y3;calc Rh (d:=7) h1 hc h2 (pre:=[]) (v:=.ref a2) (post:=vs) hi (λz hz=>by simp at hz) (λQ' E' q'=>?_) q;calc Rh (d:=6) g1 gc g2 (pre:=[.int i Z,.int j t2]) (v:=.str x t3) (post:=[]) e2 (λz hz Q2 E2 q2=>?_) (λQ2 E2 q2=>ae q2) q';let hz:z=.int i Z\/z=.int j t2:=by simpa using hz
   rcases hz with rfl|rfl;.show ae q2
   .show ae q2
end
def gR (h h':Heap):Prop:=∀b o its n,h.get? b=some o->o.data=.seq its n->h'.get? b=some o
section
variable {P:Program}{w:World}{T:Type}[DecidableEq T]
def vA (vk:fL P w T):Prop:=∀{h h':Heap} {k:T} {v:Value},vk.is h k v->gR h h'->vk.is h' k v
def acU:vA (pW (cX P w)):=λh _=>h
theorem Mh {vk:fL P w T}(j:vA vk){h h':Heap}(hs:gR h h'):∀{x:List T} {vs:List Value},jH vk h x vs->jH vk h' x vs
 | [],[],_=>trivial
 | [],_::_,a=>a.elim
 | _::_,[],a=>a.elim
 | _::_,_::_,a=>%[j a.1 hs|Mh j hs a.2]
def W0 {vk:fL P w T}(B:vA vk):vA (tupK vk):=by intro h h' k v z hs;let(a,q,n,its,rfl,h1,F,j,D):=z;show%[25,a,q,n,its,rb,hs _ _ _ _ h1 j,F,j|Mh B hs D]
def afv {vk:fL P w T}{p:T->Prop}(j:vA vk):vA (Uc vk p):=λh hs=>%[j h.1 hs|h.2]
def afw:vA (yM P w):=afv (W0 (W0 acU))
def qF.mv {vk:fL P w T}(G:vA vk){h h':Heap}{ks:List T}(m:qF vk h a ks)(k:∀o,h.get? a=some o->h'.get? a=some o)(hs:gR h h'):qF vk h' a ks:=by let(es,ep,t,m1,I,K,B,J):=m;show%[15,es,ep,t,m1.mv k,I,%[K.len,λi e k h1 q=>by let(D,F,j):=K.at_ i e k h1 q;show%[G D hs,F|j]|K.nd],B|J]
def Ud (vk:fL P w T){h:Heap}(e:h.get? a=some {cls:=.type "set",dict:=none,data:=.set #[] 0 (.fresh 0 0 (!w.params.followText "set-order"))}):qF vk h a []:=by refine%[15,#[],0,_,⟨42,_,e,%[rb,rb|rb],rb,rb,by cases q:w.params.followText "set-order" <;> simp[SetTable.fresh,q],.inr rb⟩,%[List.Pairwise.nil,rb,rb,%[2,3,xt,xt|rb],λj B=>by simp[SetTable.fresh]at B,b8 _|λi j h e1=>by simp at e1],%[rb,λi e k h1=>by simp at h1|ng],.inl rb|(by decide:5*0<3*7)]
end
section
variable {prog:Program}{w:World}{T:Type}[DecidableEq T]{vk:fL prog w T}{A:Around}{I:Addr}{fp wr:List Addr}{n:Nat}{P:Nat->Value->Prop}{St:Nat->Heap->Prop}{R:Result->Shared->Prop}
def W2 (jh:vk.deep<=8)(nc:j4 vk)(kt:vA vk)(kps:vq vk)(hbv:LR vk)(hu:A.in1.units+vk.deep<cLine+1)(W:Walks prog w A.in1 I fp wr n P St)(S0)(Y:S0∉fp)(val:Nat->T)(h0)(N:∀i v,P i v->∃b,v=.ref b/\vk.is h0 (val i) v)(hwr:∀(i:Nat) (h:Heap) b o its m,St i h->b∈wr->h.get? b=some o->o.data≠.seq its m)(j:n<=3999):∀(k i:Nat) (s:Shared),n-i=k->i<=n->St i s.heap->gR h0 s.heap->(∃ks,ks.length<=i/\(∀x,x∈ks↔x∈(List.range i).map val)/\qF vk s.heap S0 ks)->
   (∀h' tk ks,(∀b o,b∉S0::wr->s.heap.get? b=some o->h'.get? b=some o)->ks.length<=n->(∀x,x∈ks↔x∈(List.range n).map val)->qF vk h' S0 ks->R (.ok (.ret .none)) {s with heap:=h',toks:=tk})->
   codeAny (model prog w) A (.builtin "set.update.loop" %[[.ref S0,.ref I]|[]]) R s:=by
 let hSw:S0∉wr:=λh=>Y (W.sub _ h);let sub:∀b,b∉S0::wr->b∉wr:=λb j h=>j (aS _ h);intro k
 induction k with
 | zero=>
  intro i s hk hi q hrs hS hR;let j_:i=n:=by grind
  subst j_;calc iS F.entry_set_update_loop ?_;rw[mM n9 _];show wpAny _ A.in1 (pyNext (.ref I) >>= _) _ _ s;calc aa (W.done s _ _ q λh' tk hm=>?_);show wpAny _ A.in1 (ret Value.none) _ _ _;let(ks,l1,l2,l3):=hS;let Z:gR s.heap h':=λb o its m e1 e2=>by
   by_cases z:b∈wr;.show absurd e2 (hwr _ s.heap b o its m q z e1)
   .show hm b o z e1
  show ae (hR h' tk ks (λb o j e=>hm b o (sub b j) e) l1 l2 (l3.mv kt (λo e=>hm S0 o hSw e) Z))
 | succ k ih=>
  intro i s hk hi q hrs hS hR;let L:i<n:=Nat.lt_of_sub_eq_succ hk;calc iS F.entry_set_update_loop ?_;rw[mM n9 _];show wpAny _ A.in1 (pyNext (.ref I) >>= _) _ _ s;calc aa (W.item i s _ _ L q λv h1 tk hP B hm=>?_);let(b0,rfl,hv0):=N i v hP;let(ks,l1,l2,l3):=hS;let st1:gR s.heap h1:=λb o its m e1 e2=>by
   by_cases z:b∈wr;.show absurd e2 (hwr _ s.heap b o its m q z e1)
   .show hm b o z e1
  let D:gR h0 h1:=λb o its m e1 e2=>st1 b o its m (hrs b o its m e1 e2) e2;let m1:=l3.mv kt (λo e=>hm S0 o hSw e) st1;let O:=kt hv0 D;show wpAny _ A.in1 (holding [Value.ref b0] (setAdd S0 (.ref b0)) >>= _) _ _ _;calc aa (eD ?_);unfold setAdd;calc eD ?_;calc aa (vk.pyHash (s:={s with heap:=h1,toks:=tk}) hu O ?_);refine aaf (s:={s with heap:=h1,toks:=tk+vk.draws (val i)}) jh nc kps hbv hu m1 O xo (λj_=>?_) λhni h2 ks2 sb m2 pm=>?_
  .refine ae %[plainId_quiet n9 _|ih (i+1) _ (gt xo) L B D %[2,ks,gz l1,λx=>?_|m1] λh3 J G M l4 l5 m3=>?_]
   .rw[fh,bE,a6,<-l2];show%[.inl|λz=>z.elim id λy=>by rw[show x=val i by simpa using y];show j_]
   .show hR h3 J G (λb o j e=>M b o j (hm b o (sub b j) e)) l4 l5 m3
  .let st2:gR h1 h2:=λb o its m e1 e2=>by
    by_cases z:b=S0
    .let(_,_,_,(o2,y1,_,y2,_),_):=m1;rw[z,y1]at e1;cases e1;rw[y2]at e2;cases e2
    .rw[sb.2 b z];show e1
   let rs2:gR h0 h2:=λb o its m e1 e2=>st2 b o its m (D b o its m e1 e2) e2;refine ae %[plainId_quiet n9 _|ih (i+1) _ xo L (W.frame _ h1 _ B λb j o e=>?_) rs2 %[2,ks2,by rw[pm.length_eq,bP];show hG l1,λx=>?_|m2] λh3 J G M l4 l5 m3=>?_]
   .show h2.get? b=some o;rw[sb.2 b (λh:b=S0=>Y (by rw[<-h];show j))];show e
   .rw[pm.mem_iff,bd,l2,fh,bE,a6,b9,mf,am];show Or.comm
   .calc hR h3 J G (λb o j e=>M b o j ?_) l4 l5 m3;show h2.get? b=some o;rw[sb.2 b (λh:b=S0=>j (by rw[h];show aT))];show hm b o (sub b j) e
end
section
variable {prog:Program}{w:World}{I:Type}[DecidableEq I]{vk:fL prog w I}{A:Around}{E:AB}{s:Shared}
def W3 (jh:vk.deep<=8)(nc:j4 vk)(kt:vA vk)(L:vq vk)(Y:LR vk)(hu:A.units+8+vk.deep<cLine)(hh:A.handled=none)(M:s.heap.IsList l items)(hS:qF vk s.heap S0 [])(N:S0≠l)(hlt:S0<s.heap.objs.size)(B:∀i v,items[i]?=some v->∃b,v=Value.ref b/\vk.is s.heap (val i) v)(Z:items.size<=3999)(q:∀h' tk ks,(∀b o,b≠S0->s.heap.get? b=some o->h'.get? b=some o)->ks.length<=items.size->(∀x,x∈ks↔x∈(List.range items.size).map val)->qF vk h' S0 ks->Q () {s with heap:=h',toks:=tk}):wpAny (model prog w) A (Builtin.Frozenset.updateFrom "set.__init__" S0 (.ref l)) Q E s:=by
 let(ol,hol,j,nl,G):=id M;let(ocls,odict,O,J):=ol;simp only at j G;subst j;subst G;let hsls:=F.sub_list_set;let hslf:=F.sub_list_frozenset;let hnd:(Value.type "list" == Value.type "dict")=false:=by decide
 unfold Builtin.Frozenset.updateFrom;generalize hPI:pyIter=PI
 wp_walk
 subst hPI;calc oI M ?_;calc aa (wpAny_runValue ?_);let hlS:l<s.heap.objs.size:=a7 hol;let D:l≠s.heap.objs.size:=a_ hlS;let DK:∀ob:Obj,gR s.heap (s.heap.push ob):=λob b o its m e _=>af _ e;refine W2 jh nc kt L Y ?_ (Walks.list (by simp[hh]) _ l D items) S0 (by simp only[bd,ic,or_false,not_or];show%[a_ hlt|N]) val s.heap B ?_ Z (items.size-0) 0 _ rb (b8 _)
  %[%[2,_,aw _ rb,rb|rb]|M.push _] (DK _) %[2,[],b8 _,λx=>by simp|hS.mv kt (λo e=>af _ e) (DK _)] λh' tk ks k l1 l2 m=>?_
 .show A.units+1+vk.deep<cLine+1;lia
 .rintro i h b o its m ⟨⟨o2,y1,_,y2⟩,_⟩ hbm e z;rw[am.mp hbm,y1]at e;cases e;rw[y2]at z;cases z
 .calc ae ?_;calc q h' tk ks (λb o Z e=>k b o ?_ (af _ e)) l1 l2 m;simp only[bd,ic,or_false,not_or];show%[Z|a_ (a7 e)]
end
section
variable {prog:Program}{w:World}{A:Around}{E:AB}{s:Shared}
def W4 {Φ:Heap->Prop}{Q:AB}(hh:A.handled=none)(hu:∀(D:Around) (Z:AB) (L:Unit->Shared->Prop) (h1:Heap),D.handled=none->D.units<=A.units+6->h1.objs.size=s.heap.objs.size+1->h1.get? s.heap.objs.size=some {cls:=.type "set",dict:=none,data:=.set #[] 0 (.fresh 0 0 (!w.params.followText "set-order"))}->(∀b o,s.heap.get? b=some o->h1.get? b=some o)->
   (∀h' tk,(∀b o,s.heap.get? b=some o->h'.get? b=some o)->Φ h'->L () {s with heap:=h',toks:=tk})->
   wpAny (model prog w) D (Builtin.Frozenset.updateFrom "set.__init__" s.heap.objs.size src) L Z {s with heap:=h1})
  (h:∀h' tk,(∀b o,s.heap.get? b=some o->h'.get? b=some o)->Φ h'->Q (.ref s.heap.objs.size) {s with heap:=h',toks:=tk}) :
  wpAny (model prog w) A (call (.type "set") [src]) Q E s:=by
 let(c,tl,M):=nI.mro;let B:=nI.made;let J:=nI.sub;calc wl (codeAny_of_tree ?_);show wpAny _ _ (callAny (.type "set") _) _ _ _;calc ae %[vE _ xz|iS F.entry_type_call ?_];rw[Around.under_plain (weight_type_call_type "set" [src] []) rfl];let h1:=nI.notType;let h2:=nI.canCreate;let hct:=F.typeCall_set_1 src
 repeat (any_goals (first|assumption|wp_step))
 calc kP (Jz src (E:=E) (Q₁:=λobj O=>obj=.ref s.heap.objs.size/\O={s with heap:=s.heap.push {cls:=.type "set",dict:=none,data:=.set #[] 0 (.fresh 0 0 (!w.params.followText "set-order"))} }) %[rb|rb]) λr O q=>?_;cases r with
 | error e=>show q
 | ok fl=>
  cases fl with
  | ret obj=>
   let(rfl,rfl):=q;let N:(s.heap.push {cls:=.type "set",dict:=none,data:=.set #[] 0 (.fresh 0 0 (!w.params.followText "set-order"))}).get? s.heap.objs.size=some {cls:=.type "set",dict:=none,data:=.set #[] 0 (.fresh 0 0 (!w.params.followText "set-order"))}:=aw _ rfl;let hT:Shared.TypeIs {s with heap:=s.heap.push {cls:=.type "set",dict:=none,data:=.set #[] 0 (.fresh 0 0 (!w.params.followText "set-order"))} } (.ref s.heap.objs.size) "set":=%[0,_,N|rb]
   let hli:=nI.init.lookup;let Y:=nI.init.bind (.ref s.heap.objs.size)
   repeat (any_goals (first|assumption|wp_step))
   refine kP (uj (R:=wants (λr G=>r=.none/\∃h' tk,G={s with heap:=h',toks:=tk}/\(∀b o,s.heap.get? b=some o->h'.get? b=some o)/\Φ h') E) nI.init.plain F.entry_set_init (check_set_init_1 hT ?_)) λr₂ G j=>?_
   .unfold Builtin.«set.__init__» noKeywords;generalize hU:Builtin.Frozenset.updateFrom=U
    wp_walk
    subst hU;calc hu _ _ _ _ (by simp[hh]) (show A.units+1+1<=A.units+6 by lia) (dE ..) N (λb o e=>af _ e) λh' tk k m=>?_;calc ae ?_;show%[30,rb,h',tk,rb,k|m]
   .cases r₂ with
    | error e=>show j
    | ok fl₂=>
     cases fl₂ with
     | ret r=>
      let(rfl,h',tk,rfl,k,m):=j
      repeat (any_goals (first|assumption|wp_step))
      show h _ _ k m
     | _=>show j.elim
  | _=>show q.elim
end
section
variable {prog:Program}{w:World}{I:Type}[DecidableEq I]{vk:fL prog w I}{A:Around}{E:AB}{s:Shared}
def W5 (jh:vk.deep<=8)(nc:j4 vk)(O:vA vk)(D:vq vk)(G:LR vk)(hu:A.units+14+vk.deep<cLine)(Y:A.handled=none)(N:s.heap.IsList l items)(j:∀i v,items[i]?=some v->∃b,v=Value.ref b/\vk.is s.heap (val i) v)(Z:items.size<=3999)(q:∀h' tk ks,(∀b o,s.heap.get? b=some o->h'.get? b=some o)->ks.length<=items.size->(∀x,x∈ks↔x∈(List.range items.size).map val)->qF vk h' s.heap.objs.size ks->Q (.ref s.heap.objs.size) {s with heap:=h',toks:=tk}):wpAny (model prog w) A (call (.type "set") [.ref l]) Q E s:=by
 let M:l<s.heap.objs.size:=by let(o,ho,_):=N;show a7 ho
 calc W4 (Φ:=λh'=>∃ks:List I,ks.length<=items.size/\(∀x,x∈ks↔x∈(List.range items.size).map val)/\qF vk h' s.heap.objs.size ks) Y (λA' E' Q' h1 L hu' s1 e1 B q1=>?_) λh' tk k ⟨ks,J,F,m⟩=>q h' tk ks k J F m;let rs:gR s.heap h1:=λb o its n e _=>B b o e;refine W3 (val:=val) (s:={s with heap:=h1}) jh nc O D G xo L (N.at λo e=>B _ o e) (Ud vk e1) (g9 M) (by show s.heap.objs.size<h1.objs.size;simp_all) (λi v hv=>?_) Z λh' tk ks k J F m=>?_
 .let(b,e,hi):=j i v hv;show%[0,b,e|O hi rs]
 .show q1 h' tk (λb o e=>k b o (a_ (a7 e)) (B b o e)) %[2,ks,J,F|m]
end
@[reducible] def oH (cf:Addr->List Nat) (as:List Addr):PyProof.Rows.KeyKind:={PyProof.Rows.strKind with keyOf:=λv=>match v with|.ref a=>if a∈as then some (cf a) else none|_=>none}
def wF {cf:Addr->List Nat}{as:List Addr}{v:Value}{k:List Nat}(h:(oH cf as).keyOf v=some k):∃a,v=.ref a/\a∈as/\k=cf a:=by
 cases v <;> first|(cases h;done)|skip;rename_i a;by_cases m:a∈as
 .have:(oH cf as).keyOf (.ref a)=some (cf a):=if_pos m;rw[this]at h;show%[2,a,rb,m|(bg h).symm]
 .have:(oH cf as).keyOf (.ref a)=none:=if_neg m;rw[this]at h;cases h
theorem wG:∀vs:List Value,vs.zip vs=vs.map λv=>(v,v)
 | []=>rfl
 | v::vs=>congrArg ((v,v) :: ·) (wG vs)
def Gd (m:a∈as):(oH cf as).keyOf (.ref a)=some (cf a):=if_pos m
section
variable {prog:Program}{w:World}{A:Around}{E:AB}{s:Shared}
def Mi {vs:List Value}(N:s.heap.get? a=some (seqObj "list" vs.toArray n))(hz:vs.length<=4000)(h0:KeysOf I (pairsOf vs))(hk:2<=vs.length->∀(h':Heap) (Q:SortKind->Shared->Prop),(∀b o,s.heap.get? b=some o->b≠a->h'.get? b=some o)->Q kn {s with heap:=h' }->wpAny (model prog w) A (keyKind' vs.toArray) Q E {s with heap:=h' })(hc:∀(h':Heap),(∀b o,s.heap.get? b=some o->b≠a->h'.get? b=some o)->iB prog w A {s with heap:=h' } I kn)(h:∀(h':Heap) (out:List Value),out.Perm vs->out.Pairwise (λx y=>I.kle ((I.keyOf x).getD I.dflt) ((I.keyOf y).getD I.dflt))->(∀b o,s.heap.get? b=some o->b≠a->h'.get? b=some o)->(∃e,h'.get? a=some (seqObj "list" out.toArray e))->P (.done (.ret .none)) {s with heap:=h' }):wpAny (model prog w) A (Builtin.«list.sort» %[[.ref a]|[]]) P E s:=by
 rw[list_sort_plain];let ha:a<s.heap.objs.size:=a7 N;let O:vs.length<=sizeLine:=ay hz xt;calc aa (listItems_at N rb ?_);calc aa (listUpdate_at N rb ?_ (by rw[bv];show O) (b8 _));obtain⟨e1,J⟩:∃e1,(s.heap.update a (Obj.mapSeq λ_=>#[])).get? a=some (seqObj "list" #[] e1):=%[_|get?_update_seq N (λ_=>#[])]
 calc aa (seqEpoch_at J rb ?_);calc aa (vv ?_ (by show vs.length<=_;show O));calc aa (qo ?_ (b8 _));calc eD ?_;let j:(((s.heap.update a (Obj.mapSeq λ_=>#[])).push (seqObj "tuple" vs.toArray 0)).push (seqObj "list" #[] 0)).get? a=some (seqObj "list" #[] e1):=by rw[o0 _ _ _ (by rw[size_push',qf];show a_ (fb ha)),o0 _ _ _ (by rw[qf];show a_ ha)];show J
 let L:∀b o,s.heap.get? b=some o->b≠a->(((s.heap.update a (Obj.mapSeq λ_=>(#[]:Array Value))).push (seqObj "tuple" vs.toArray 0)).push (seqObj "list" #[] 0)).get? b=some o:=λb o e M=>by calc af _ (af _ ?_);rw[vi _ _ _ _ M];show e
 show wpAny (model prog w) A _ P E {s with heap:=((s.heap.update a (Obj.mapSeq λ_=>#[])).push (seqObj "tuple" vs.toArray 0)).push (seqObj "list" #[] 0)};dsimp only;generalize ((s.heap.update a (Obj.mapSeq λ_=>(#[]:Array Value))).push (seqObj "tuple" vs.toArray 0)).push (seqObj "list" #[] 0)=DP at j L ⊢;let G:∀(out:Array Value),out.toList.Perm vs->out.toList.Pairwise (λx y=>I.kle ((I.keyOf x).getD I.dflt) ((I.keyOf y).getD I.dflt))->P (.done (.ret .none)) {s with heap:=DP.update a (Obj.mapSeq λ_=>out)}:=λout pp sp=>by
  calc h _ out.toList pp sp (λb o e M=>?_) ?_;.rw[vi _ _ _ _ M];show L b o e M
  .rw[pT];show%[_|get?_update_seq j λ_=>out]
 by_cases B:vs.toArray.size<2
 .let D:vs.length<2:=by rw[bv]at B;show B
  rw[if_pos B,if_pos B];calc aa (ae ?_);rw[StateT.run_pure];calc aa (ae ?_);dsimp only;let Y:(arrOf (SortSt.mk' general' (vs.toArray.zip vs.toArray) #[] 7 none)).map (·.2)=vs.toArray:=by let Z:(arrOf (SortSt.mk' general' (vs.toArray.zip vs.toArray) #[] 7 none))=vs.toArray.zip vs.toArray:=rfl;rw[Z];apply nt.mp;rw[sQ,wP,wG,cn];show jn _
  calc aa (seqEpoch_at j rb ?_);calc aa (listUpdate_at j rb ?_ (b8 _) (by rw[Y,bv];show gz O));simp only[bne_self_eq_false,a9,if_false];calc ae (G _ (by rw[Y]) ?_);rw[Y];show vs.Pairwise _;show(show ∀(R:Value->Value->Prop) (u:List Value),u.length<2->u.Pairwise R from λR u h=>by
   cases u with
   | nil=>show .nil
   | cons v r=>
    cases r with
    | nil=>show List.pairwise_singleton _ _
    | cons w r=>show absurd h (Nat.not_lt.mpr (Nat.le_add_left 2 r.length))) _ vs D
 .let D:2<=vs.length:=by rw[bv]at B;show lS B
  rw[if_neg B,if_neg B];calc aa (hk D DP _ L ?_);refine aa (fm (Lq (K:=I) (kn:=kn) (hc DP L) (st:=SortSt.mk' kn (vs.toArray.zip vs.toArray) #[] 7 none)
   (Q:=λ_ st'=>failedOf st'=none/\(arrOf st').toList.Perm (pairsOf vs).toList/\(arrOf st').toList.Pairwise (kL I)) rb rb rb h0 λst' a1 a2 a3=>%[a1,a2|a3]) ?_ λ_ _ e=>e)
  rintro⟨⟨⟩,st'⟩ s' ⟨rfl,hf,hp,hs⟩;dsimp only;let pv:(pairsOf vs).toList=vs.map λv=>(v,v):=by show (vs.toArray.zip vs.toArray).toList=_;rw[wP];show wG vs
  rw[pv]at hp;let hm:∀p∈(arrOf st').toList,p.1=p.2:=λp F=>by let(v,_,rfl):=aI.mp (hp.mem_iff.mp F);rfl
  let pm:((arrOf st').map (·.2)).toList.Perm vs:=by rw[sQ];have:=hp.map (·.2);rw[cn]at this;show this.trans (xi (jn _))
  let sm:((arrOf st').map (·.2)).toList.Pairwise (λx y=>I.kle ((I.keyOf x).getD I.dflt) ((I.keyOf y).getD I.dflt)):=by rw[sQ,eA];calc ii (λ{p q} F hqm hpq=>?_) hs;rw[<-hm p F,<-hm q hqm];show hpq
  refine aa (seqEpoch_at j rb (aa (listUpdate_at j rb ?_ (b8 _) (gz ?_))))
  .rw[hf];simp only[bne_self_eq_false,a9,if_false];show ae (G _ pm sm)
  .have:=pm.length_eq;rw[bq]at this;simp[*]
def Ir (F:wpAny (model prog w) A.in1 (collect v) (λvs s1=>∃(I:PyProof.Rows.KeyKind) (kn:SortKind),vs.length<=4000/\KeysOf I (pairsOf vs)/\
   (2<=vs.length->∀(h':Heap) (Q:SortKind->Shared->Prop) (E:AB),(∀b o,s1.heap.get? b=some o->h'.get? b=some o)->Q kn {s1 with heap:=h' }->wpAny (model prog w) A.in1.in1 (keyKind' vs.toArray) Q E {s1 with heap:=h' })/\
   (∀(h':Heap),(∀b o,s1.heap.get? b=some o->h'.get? b=some o)->iB prog w A.in1.in1 {s1 with heap:=h' } I kn)/\
   ∀(h':Heap) (out:List Value) (e:Nat),(∀b o,s1.heap.get? b=some o->h'.get? b=some o)->out.Perm vs->out.Pairwise (λx y=>I.kle ((I.keyOf x).getD I.dflt) ((I.keyOf y).getD I.dflt))->h'.get? s1.heap.objs.size=some (seqObj "list" out.toArray e)->
    Q (.ref s1.heap.objs.size) {s1 with heap:=h' }) E s):wpAny (model prog w) A (call (.builtin "sorted") [v]) Q E s:=by
 calc qB kind_sorted plain_sorted entry_sorted (args_sorted1 _) ?_;unfold Builtin.«sorted»;calc aa (m:=checkCount "sorted" 1 1 _) (ae ?_);calc aa (bD F λvs s1 ⟨I,kn,hz,M,hk,J,h⟩=>?_);calc aa (qo ?_ (ay hz xt));let L:(s1.heap.push (seqObj "list" vs.toArray 0)).get? s1.heap.objs.size=some (seqObj "list" vs.toArray 0):=aw _ rfl;let keep:∀b o,s1.heap.get? b=some o->(s1.heap.push (seqObj "list" vs.toArray 0)).get? b=some o:=λb o e=>af _ e;let nb:∀b o,s1.heap.get? b=some o->b≠s1.heap.objs.size:=λb o q=>a_ (a7 q);refine aa (eD (c9 slot_list_sort (s:={s1 with heap:=s1.heap.push (seqObj "list" vs.toArray 0)}) %[0,_,L|rb] entry_list_sort
  (Mi (s:={s1 with heap:=s1.heap.push (seqObj "list" vs.toArray 0)}) L hz M (λB h' D kp=>hk B h' D _ λb o e=>kp b o (keep b o e) (nb b o e)) (λh' kp=>J h' λb o e=>kp b o (keep b o e) (nb b o e)) λh' out G sp kp j=>%[0,_,rb|?_]) (args_list_sort _)))
 let(e,j):=j;show ae %[0,_,rb|h h' out e (λb o z=>kp b o (keep b o z) (nb b o z)) G sp j]
end
abbrev T3:=Nat×Nat×Nat
def lJ (t:T3):Dt:=.tup [.int t.1,.int t.2.1,.str [t.2.2]]
def yN (t:T3):Nat:=t.1*1000000+t.2.1*1000+t.2.2
def wH (ts:List T3):Dt:=.tup (ts.map lJ)
def jd (ts:List T3):List Nat:=ts.map yN
def pI (t:T3):Prop:=t.2.1<1000/\t.2.2<128
def acV (h:lJ t=lJ u):t=u:=by unfold lJ at h;injection h with h;injection h with h1 h2;injection h2 with h2 h3;injection h3 with h3 _;injection h1 with h1;injection h2 with h2;injection h3 with h3;injection h3 with h3 _;show sK (mB h1) (sK (mB h2) h3)
def Ri (q:pI t)(F:pI u)(h:yN t=yN u):t=u:=by let(a,b,c):=t;let(d,e,f):=u;let(h1,B):=q;let(D,j):=F;simp only[yN]at h h1 B D j;let e1:a=d:=xo;subst e1;let e2:b=e:=xo;subst e2;let e3:c=f:=xo;subst e3;rfl
theorem Mj:∀{ts us:List T3},(∀t∈ts,pI t)->(∀u∈us,pI u)->jd ts=jd us->ts=us
 | [],[],_,_,_=>rfl
 | [],_::_,_,_,h=>by cases h
 | _::_,[],_,_,h=>by cases h
 | t::ts,u::us,h1,h2,h=>by injection h with a b;rw[Ri (h1 _ aT) (h2 _ aT) a,Mj (λx hx=>h1 x (aS _ hx)) (λx hx=>h2 x (aS _ hx)) b]
section
variable {prog:Program}{w:World}{A:Around}{E:AB}{s:Shared}
def Kh (r:Reads h v (toP (lJ t)) as):∃(a:Addr) (o:Obj) (n:Nat) (F D B:Tok),v=.ref a/\h.get? a=some o/\o.cls=.type "tuple"/\o.data=.seq [Value.int t.1 F,Value.int t.2.1 D,Value.str (S [t.2.2]) B].toArray n:=by
 unfold lJ at r;simp only[toP,eE]at r;cases r with
 | @tuple a o vs n xs as ho hc hd ra=>
  cases q:vs.toList with
  | nil=>rw[q]at ra;cases ra
  | cons v1 r1=>
   rw[q]at ra;cases ra with
   | cons q1 ra=>
    cases q1 with
    | int i F=>
     cases ra with
     | cons q2 ra=>
      cases q2 with
      | int j D=>
       cases ra with
       | cons q3 ra=>
        cases q3 with| str x B=>cases ra;calc%[70,a,o,n,F,D,B,rb,ho,hc|?_];rw[hd];congr 1;rw[<-q]
def agU (hp:Reads s.heap p (toP (lJ t)) as)(hq:Reads s.heap q (toP (lJ u)) bs)(ht:pI t)(hu:pI u)(Y:t≠u)(Z:A.units<cLine)(h:Q (.bool (decide (yN t<yN u))) s):wpAny (model prog w) A (compareOp .Lt p q) Q E s:=by
 let(a,oa,na,t1,t2,N,rfl,ha,ca,da):=Kh hp;let(b,ob,nb,u1,u2,O,rfl,hb,cb,db):=Kh hq;let(x1,G,B):=t;let(L,J,j):=u;let(k1,k2):=ht;let(k3,k4):=hu;simp only[yN]at h k1 k2 k3 k4 da db;let Ta:s.TypeIs (.ref a) "tuple":=%[0,oa,ha|ca]
 let Tb:s.TypeIs (.ref b) "tuple":=%[0,ob,hb|cb]
 show wpAny _ _ (richCompare .Lt (.ref a) (.ref b)) Q E s;calc wpAny_richCompare_same_room (op:=.Lt) (T:="tuple") Ta Tb F.slot_tuple_lt (c9 F.slot_tuple_lt Ta F.entry_tuple_lt ?_ (F.args_tuple_lt_2 _ _)) Z;show wpAny _ _ (isInstance (.ref b) (.type "tuple") >>= _) _ _ s;calc aa (ib Tb isSubtype_tuple_tuple ?_);simp only[fE,a9,if_false];calc aa (oq ha da (aa (oq hb db (aa ?_))));rw[show ([Value.int (x1:Int) t1,Value.int (G:Int) t2,Value.str (S [B]) N]:List Value).toArray.toList.zip ([Value.int (L:Int) u1,Value.int (J:Int) u2,Value.str (S [j]) O]:List Value).toArray.toList=[(Value.int (x1:Int) t1,Value.int (L:Int) u1),(Value.int (G:Int) t2,Value.int (J:Int) u2),(Value.str (S [B]) N,Value.str (S [j]) O)] from rfl];let D:∀c:Bool,c=decide (x1*1000000+G*1000+B<L*1000000+J*1000+j)->Q (.bool c) s:=λc e=>by rw[e];show h
 rw[iP];calc aa ?_;dsimp only;calc aa (om _ _ _ _ prog w _ _ ?_);by_cases ex:x1=L
 .subst ex;simp only[beq_self_eq_true,fE,a9,if_false];calc ae ?_;dsimp only;rw[iP];calc aa ?_;dsimp only;calc aa (om _ _ _ _ prog w _ _ ?_);by_cases ey:G=J
  .subst ey;simp only[beq_self_eq_true,fE,a9,if_false];calc ae ?_;dsimp only;rw[iP];calc aa ?_;dsimp only;let ez:B≠j:=λe=>Y (by rw[e]);calc aa ((eqGives_str (S [B]) (S [j]) N O).at _ _ prog w _ _ ?_);let M:(S [B]==S [j])=false:=by
    apply beq_eq_false_iff_ne.mpr;intro e;show ez (by have:=vW e;injection this)
   simp only[M,lT,if_true];calc aa (gT (aa (lt_str ?_)));calc aa (ae (ae (ae (ae %[2,_,rb,xp|?_]))));calc D _ ?_;have:(S [B]).cps.toList<(S [j]).cps.toList↔B<j:=by show [B]<[j]↔_;simp[fR]
   by_cases z:B<j;.rw[ap (this.mpr z),ap (Nat.add_lt_add_left z _)]
   .rw[ai (λy=>z (this.mp y)),ai (by simp[*])]
  .let M:((G:Int)==(J:Int))=false:=by
    apply beq_eq_false_iff_ne.mpr;intro z;show ey xo
   simp only[M,lT,if_true];calc aa (gT (aa (lt_int ?_)));calc aa (ae (ae (ae (ae %[2,_,rb,xp|?_]))));calc D _ ?_;by_cases z:G<J;.rw[ap (ph gu z),ap xo]
   .rw[ai (by simp[*]),ai xo]
 .let M:((x1:Int)==(L:Int))=false:=by
   apply beq_eq_false_iff_ne.mpr;intro z;show ex xo
  simp only[M,lT,if_true];calc aa (gT (aa (lt_int ?_)));calc aa (ae (ae (ae (ae %[2,_,rb,xp|?_]))));calc D _ ?_;by_cases z:x1<L;.rw[ap xo,ap xo]
  .rw[ai xo,ai xo]
def W6 (t:T3)(h:pI t):(toP (lJ t)).canLay0=true/\(toP (lJ t)).depth<=1:=by
 let h1:gG (default:W.Frag) (λ_=>none) 0 (.str [t.2.2]) (.str (S [t.2.2])):=.str _ λc q=>by rw[am.mp q];show h.2
 let j:=h1.lay;constructor
 .unfold lJ;simp only[toP,eE,PyData.canLay0,PyData.canLayAll0];have:=j.1;simp only[toP]at this;simp[PyData.canLay0]at this ⊢;show this
 .unfold lJ;simp[toP,eE,PyData.depth,PyData.depthAll]
theorem Rj (D:A.units+2<cLine):∀(xs ys:List Value) (ts us:List T3) (i:Nat) {as bs:List Addr},ReadsAll s.heap xs (eE (ts.map lJ)) as->ReadsAll s.heap ys (eE (us.map lJ)) bs->(∀t∈ts,pI t)->(∀u∈us,pI u)->fin=decide (xs.length<ys.length)->Q (decide (jd ts<jd us)) s->KatLex prog w A false fin Q (xs.zip ys) i s
 | xs,ys,[],us,i,as,bs,rx,ry,_,_,hf,q=>by
  simp only[mf,eE]at rx;cases rx;calc kat_nil ?_;rw[hf];cases us with
  | nil=>simp only[mf,eE]at ry;cases ry;simpa [jd] using q
  | cons u us=>simp only[b9,eE]at ry;cases ry;simpa [jd] using q
 | xs,ys,t::ts,[],i,as,bs,rx,ry,_,_,hf,q=>by simp only[mf,eE]at ry;cases ry;rw[List.zip_nil_right];calc kat_nil ?_;rw[hf];simpa [jd] using q
 | xs,ys,t::ts,u::us,i,as,bs,rx,ry,h1,h2,hf,q=>by
  simp only[b9,eE]at rx ry;cases rx with
  | @cons v vs _ _ _ _ r1 r2=>
   cases ry with
   | @cons v' vs' _ _ _ _ r3 r4=>
    let j:=h1 t aT;let B:=h2 u aT;let J:=W6 t j;let G:=W6 u B;rw[List.zip_cons_cons];calc kat_cons (SeqAt.eqAt_reads _ _ A s _ _ _ _ r1 r3 J.1 G.1 (by have:=t7 (toP (lJ t)).depth (toP (lJ u)).depth;show av D) prog w _ _ ?_);by_cases e:t=u
    .subst e;rw[(Dh _ _).mpr rfl];calc kat_yes (Rj D vs vs' ts us (i+1) r2 r4 (λx hx=>h1 x (aS _ hx)) (λx hx=>h2 x (aS _ hx)) (by rw[hf];simp) ?_);have:decide (jd ts<jd us)=decide (jd (t::ts)<jd (t::us)):=nL.mpr (by simp[jd,fR]);rw[this];show q
    .let F:PyData.eqv (toP (lJ t)) (toP (lJ u))=false:=by
      cases z:PyData.eqv (toP (lJ t)) (toP (lJ u)) with| false=>rfl| true=>show absurd (acV ((Dh _ _).mp z)) e
     rw[F];calc kat_no (kat_one _ _ (agU r1 r3 j B e xo ?_));show Q _ s;have:decide (yN t<yN u)=decide (jd (t::ts)<jd (u::us)):=nL.mpr (by
      let ne:yN t≠yN u:=λz=>e (Ri j B z);simp[jd,fR,ne])
     rw[this];show q
def pX (r:Reads h v (toP (wH ts)) as):∃(a:Addr) (o:Obj) (vs:Array Value) (n:Nat) (bs:List Addr),v=.ref a/\h.get? a=some o/\o.cls=.type "tuple"/\o.data=.seq vs n/\ReadsAll h vs.toList (eE (ts.map lJ)) bs:=by
 unfold wH at r;simp only[toP]at r;cases r with| @tuple a o vs n xs as ho hc hd ra=>show%[38,a,o,vs,n,as,rb,ho,hc,hd|ra]
def mW (h:Heap)(j:Addr->List T3)(as:List Addr):Prop:=∀a∈as,(∃rs,Reads h (.ref a) (toP (wH (j a))) rs)/\j a≠[]/\∀t∈j a,pI t
def Rk (h:mW s.heap lf as)(N:A.units+2<cLine):iB prog w A s (oH (λa=>jd (lf a)) as) (tuples' false):=by intro E x y a b Q L J q;let(p,rfl,Y,rfl):=wF L;let(O,rfl,j,rfl):=wF J;let((rs,r),_,ok):=h p Y;let((rs',r'),_,D):=h O j;let(_,o,vs,n,bs,e1,ho,hc,hd,M):=pX r;let(_,o',vs',n',bs',e2,B,Z,F,G):=pX r';cases e1;cases e2;show kat_lt ho hd B F (Rj N _ _ _ _ 0 M G ok D xp q)
def Ml (h:mW s.heap lf as)(h0:0<as.length)(q:Q (tuples' false) s):wpAny (model prog w) A (keyKind' (as.map Value.ref).toArray) Q E s:=by
 let Z:∀(bs:List Addr),(∀b∈bs,b∈as)->∃fs,KatTups s.heap (bs.map Value.ref) fs/\fs.length=bs.length/\∀v∈fs,∃(c:Addr) (o:Obj),v=.ref c/\s.heap.get? c=some o/\o.cls=.type "tuple":=by
  intro bs
  induction bs with
  | nil=>show λ_=>%[2,[],trivial,rb|λv hv=>by simp at hv]
  | cons b bs ih=>
   intro Y;let(fs,F,O,L):=ih λx hx=>Y x (aS _ hx);let((rs,r),ne,ok):=h b (Y b aT);let(_,o,vs,n,cs,e1,M,N,hd,B):=pX r;cases e1;cases D:lf b with
   | nil=>show absurd D ne
   | cons t ts=>
    rw[D]at B;simp only[b9,eE]at B;cases j:vs.toList with
    | nil=>rw[j]at B;cases B
    | cons v1 vr=>
     rw[j]at B;cases B with
     | cons q1 _=>
      let(c,oc,nc,t1,t2,t3,rfl,J,G,_):=Kh q1;calc%[2,.ref c::fs,KatTups.cons M N hd (by rw[<-ck,j];rfl) F,by simp[O]|λv hv=>?_];rcases bd.mp hv with z|z;.show%[1,c,oc,z,J|G]
      .show L v z
 let(fs,F,O,L):=Z as λ_ h=>h;calc kat_kind (T:=.type "tuple") F xo (λv hv=>?_) xt q;let(c,o,rfl,M,N):=L v hv;rw[<-N];show(Looks.ld M).andThen .now
end
def mW.keeps {h h':Heap}(l:mW h lf as)(hk:∀b o,h.get? b=some o->h'.get? b=some o):mW h' lf as:=λa ha=>let %[%[rs|r]|x]:=l a ha;%[%[rs|PyProof.Rows.Reads.keeps hk r]|x]
def mW.sub (l:mW h lf as)(j:∀b∈bs,b∈as):mW h lf bs:=λa ha=>l a (j a ha)
def DQ (v:Value):Addr:=match v with|.ref a=>a|_=>0
def yO {as:List Addr}{out:List Value}(p:out.Perm (as.map Value.ref)):∃j:List Addr,out=j.map Value.ref/\j.Perm as:=by
 refine%[0,out.map DQ,?_|?_]
 .rw[cn];calc(jn _).symm.trans (de λv hv=>?_);let(a,_,rfl):=aI.mp (p.mem_iff.mp hv);rfl
 .have:=p.map DQ;rw[cn]at this;show this.trans (xi (jn _))
def Iu (h:∀v∈vs,∃a∈as,v=.ref a):KeysOf (oH cf as) (pairsOf vs):=λp hp=>by
 let hp:p∈vs.map λv=>(v,v):=by
  have:(pairsOf vs).toList=vs.map λv=>(v,v):=by show (vs.toArray.zip vs.toArray).toList=_;rw[wP];show wG vs
  rw[<-this];show hp
 let(v,hv,rfl):=aI.mp hp;let(a,ha,rfl):=h v hv;show%[cf a|Gd ha]
def Rm {cf:Addr->List Nat}{as j:List Addr}(hs:∀a∈j,a∈as)(h:(j.map Value.ref).Pairwise (λx y=>(oH cf as).kle (((oH cf as).keyOf x).getD (oH cf as).dflt) (((oH cf as).keyOf y).getD (oH cf as).dflt))):j.Pairwise (λa b=>decide (cf b<cf a)=false):=by rw[eA]at h;calc ii (λ{a b} ha hb hab=>?_) h;rw[Gd (hs a ha),Gd (hs b hb)]at hab;show hab
def sI (K:W.Frag)(H:Hp)(a:Addr)(ts:List T3):Prop:=gG K H 2 (wH ts) (.ref a)/\ts≠[]/\∀t∈ts,pI t
def sI.mv {K:W.Frag}{ts:List T3}(h:sI K H a ts)(s:aA H H'):sI K H' a ts:=%[h.1.mv s|h.2]
def Iw (j:List (List T3)):Prop:=j.Pairwise (λx y=>decide (jd y<jd x)=false)
section
variable {X:Cx}{ao:AC}{T:St}{H:Hp}{s:Shared}
def Ge (I:aL X ao T H s)(h:∀a∈as,sI X.K H a (lf a)):mW s.heap lf as:=λa ha=>%[(h a ha).1.reads I rb|(h a ha).2]
end
section
variable {X:Cx}
def Ph {s:Shared}{vs:List Value}(D:s.heap.get? l=some o)(F:o.cls=.type "tuple")(hd:o.data=.seq vs.toArray n)(hz:vs.length<=sizeLine)(q:Q vs {s with heap:=(s.heap.push (seqObj "list" #[] 0)).update s.heap.objs.size (Obj.mapSeq (· ++ vs.toArray))}):wpAny (model prog w) A (collect (.ref l)) Q E s:=by
 let h1:(s.heap.push (seqObj "list" #[] 0)).get? l=some o:=af _ D;let j:(s.heap.push (seqObj "list" #[] 0)).get? s.heap.objs.size=some (seqObj "list" #[] 0):=aw _ rfl;let B:(Value.type "tuple" == Value.type "tuple")=true:=by rfl
 unfold collect;calc aa (wpAny_runValue (iS entry_proto_collect' (aa (qo (ae %[vE _ xz|iS entry_list_iadd' ?_])))));show wpAny _ _ (Builtin.List.listExtendWith _ _ _) _ _ _;unfold Builtin.List.listExtendWith;calc aa (tJ (T:="tuple") %[0,o,h1|F] ?_);rw[if_pos (by rw[B];simp)];calc aa (listItems_at h1 hd (aa (listItems_at (xs:=#[]) (n:=0) j rb ?_)));rw[if_neg xp];calc aa (listUpdate_at (xs:=#[]) (n:=0) j rb (ae ?_) (b8 _) (by show (#[]++vs.toArray).size<=sizeLine+1;simp only[Array.size_append,bv,mr];lia));calc aa (wpAny_load (get?_update_seq j _) ?_);let e:((#[]:Array Value)++vs.toArray).toList=vs:=xp;show wpAny _ _ (pure _) Q E _;rw[e];show ae q
def A_ {ao:AC}{s:Shared}{R:St}{H:Hp}{Q:V->Hp->Prop}{L:Addr}{as:List Addr}{cf:Addr->List Nat}{kn:SortKind}(I:aL X ao R H s)(D:aN X.K H L (as.map V.ref)\/aV X.K H L (as.map V.ref))(hz:as.length<=4000)(hk:∀h':Heap,(∀b o,s.heap.get? b=some o->h'.get? b=some o)->2<=as.length->∀(Q:SortKind->Shared->Prop) (E:AB),Q kn {s with heap:=h' }->wpAny (model X.prog X.w) X.A.in1.in1 (keyKind' (as.map Value.ref).toArray) Q E {s with heap:=h' })(hc:∀h':Heap,(∀b o,s.heap.get? b=some o->h'.get? b=some o)->iB X.prog X.w X.A.in1.in1 {s with heap:=h' } (oH cf as) kn)(q:∀(p:Addr) (j:List Addr),H p=none->j.Perm as->j.Pairwise (λa b=>decide (cf b<cf a)=false)->Q (.ref p) (upd H p (.lst (j.map V.ref)))):wpAny (model X.prog X.w) X.A (call (.builtin "sorted") [.ref L]) (EP X ao R Q) X.xe s:=by
 let M:(as.map Value.ref).length=as.length:=ab _;let O:as.length<=sizeLine:=ay hz xt;refine Ir ((show ∀{Q:List Value->Shared->Prop},Q (as.map Value.ref) {s with heap:=(s.heap.push (seqObj "list" #[] 0)).update s.heap.objs.size (Obj.mapSeq (· ++ (as.map Value.ref).toArray))}->wpAny (model X.prog X.w) X.A.in1 (collect (.ref L)) Q X.xe s from λq=>?_) ?_)
 .rcases D with D|D
  .let(its,J,pl,_):=I.list D;cases ud J;show collect_list pl.isList q (by rw[M];show O)
  .let(its,J,(o,ho,F,no,G),_):=I.tuple D;cases ud J;show Ph ho F G (by rw[M];show O) q
 let hsz:((s.heap.push (seqObj "list" #[] 0)).update s.heap.objs.size (Obj.mapSeq (· ++ (as.map Value.ref).toArray))).objs.size=s.heap.objs.size+1:=by rw[qf,size_push']
 let keep:∀b o,s.heap.get? b=some o->((s.heap.push (seqObj "list" #[] 0)).update s.heap.objs.size (Obj.mapSeq (· ++ (as.map Value.ref).toArray))).get? b=some o:=λb o z=>by let B:b<s.heap.objs.size:=a7 z;rw[vi _ _ _ _ (a_ B),o0 _ _ _ (a_ B)];show z
 refine%[18,oH cf as,kn,by rw[M];show hz,Iu λv hv=>by let(a,ha,rfl):=aI.mp hv;show%[0,a,ha|rb],λh2 h' Q' E' kp q'=>?_,λh' kp=>?_|λh' out e kp pm up he=>?_]
 .rw[M]at h2;show hk h' (λb o z=>kp b o (keep b o z)) h2 _ _ q'
 .show hc h' λb o z=>kp b o (keep b o z)
 .let(j,rfl,Z):=yO pm;let hl2:(j.map V.ref).length<=sizeLine:=by rw[ab,Z.length_eq];show O
  let Y:=Rm (λa ha=>Z.mem_iff.mp ha) up;let N:h'.get? (s.heap.objs.size+1)=some (seqObj "list" (j.map Value.ref).toArray e):=by rw[<-hsz];show he
  calc%[1,.ref (s.heap.objs.size+1),_,I.laid (o:=.lst (j.map V.ref)) (t':=s.toks) (λb o z=>kp b o (keep b o z)) (du _) %[24,hl2,j.map Value.ref,e,uf _|N],?_|q _ j (I.hok.fresh (du _)) Z Y];show Value.ref _=_;rw[hsz]
def aag (K:W.Frag):List V->Hp->VK->Prop:=λxs H Q=>∃(L:Addr) (as:List Addr) (q:Addr->List T3),xs=[.ref L]/\aN K H L (as.map V.ref)/\as.length<=4000/\(∀a∈as,sI K H a (q a))/\
 ∀(p:Addr) (j:List Addr),H p=none->j.Perm as->Iw (j.map q)->Q (.ref p) (upd H p (.lst (j.map V.ref)))
def Gf (Z:X.A.units+64<cLine):d8 X (.builtin "sorted") (aag X.K):=by intro ao s R H xs us Q I r h;let(L,as,G,rfl,N,hz,M,q):=h;let(u,rfl,D):=vals1 r;cases D;let B:=Ge I M;calc A_ (cf:=λa=>jd (G a)) I (.inl N) hz (λh' kp F Y O J=>Ml (B.keeps kp) (av F) J) (λh' kp=>Rk (B.keeps kp) (show X.A.units+1+1+2<cLine by lia)) λp j hp pm up=>q p j hp pm ?_;unfold Iw;rw[eA];show up
def W7 (K:W.Frag):List V->Hp->VK->Prop:=λxs H Q=>∃(L:Addr) (as:List Addr) (cf:Addr->Nat),xs=[.ref L]/\(aN K H L (as.map V.ref)\/aV K H L (as.map V.ref))/\as.length<64/\(∀a∈as,afb H cf a)/\(as.map cf).Nodup/\
 ∀(p:Addr) (j:List Addr),H p=none->j.Perm as->(j.map cf).Pairwise (·<·)->Q (.ref p) (upd H p (.lst (j.map V.ref)))
def xM:d8 X (.builtin "sorted") (W7 X.K):=by
 intro ao s R H xs us Q I r h;let(L,as,cf,rfl,hS,h64,Y,hnd,q):=h;let(u,rfl,ru):=vals1 r;cases ru;let tup:∀a∈as,∃(x y:Nat) (M N:Tok) (o:Obj) (n:Nat) (rest:List Value),s.heap.get? a=some o/\o.cls=.type "tuple"/\o.data=.seq (Value.int x M::Value.int y N::rest).toArray n/\y<1000/\cf a=x*1000+y/\(rest=[]\/∃z O,rest=[Value.str z O]):=λa hm=>by
  let(x,y,rest,e,hy,hcf,hrest):=Y _ hm;let(_,tv,rtv,o,ho,hc,n,hd):=e.ok I.hok;cases rtv with
  | cons r1 rr=>
   cases rr with
   | cons r2 rr=>
    let(M,rfl):=r1;let(N,rfl):=r2;calc%[64,x,y,M,N,o,n,_,ho,hc,hd,hy,hcf|?_];rcases hrest with rfl|⟨z,rfl⟩;.cases rr;show .inl rfl
    .cases rr with| cons r3 rr=>cases rr;let(O,rfl):=r3;show .inr %[6,z,O|rb]
 let inj:∀a b,a∈as->b∈as->cf a=cf b->a=b:=λa b ha hb e=>by
  let(i,hi,rfl):=cK.mp ha;let(j,hj,rfl):=cK.mp hb;let pwi:=kK.mp hnd;rcases sk i j with z|z|z;.show absurd e (by have:=pwi i j (by simpa using hi) (by simpa using hj) z;simpa using this)
  .subst z;rfl
  .show absurd e.symm (by have:=pwi j i (by simpa using hj) (by simpa using hi) z;simpa using this)
 refine A_ (cf:=λa=>[cf a]) (kn:=tuples' true) I hS xo ?_ ?_ ?_
 .intro h' kp h2 Q' E' hQ;let kt:∀(bs:List Addr),(∀b∈bs,b∈as)->∃fs,KatTups h' (bs.map Value.ref) fs/\fs.length=bs.length/\∀v∈fs,∃(x:Int) (t:Tok),v=.int x t:=by
   intro bs
   induction bs with
   | nil=>show λ_=>%[2,[],trivial,rb|λv hv=>by simp at hv]
   | cons b bs ih=>
    intro hb;let(fs,k1,k2,k3):=ih λx hx=>hb x (aS _ hx);let(x,y,M,N,o,n,rest,ho,hc,hd,_):=tup b (hb b aT);show%[2,.int x M::fs,KatTups.cons (kp _ _ ho) hc hd rb k1,by simp[k2]|λv hv=>by
     rcases bd.mp hv with z|z;.show%[6,_,_|z]
     .show k3 v z]
  let(fs,k1,k2,k3):=kt as λ_ h=>h;show kat_kind (s:={s with heap:=h' }) (T:=.type "int") k1 xo (λv hv=>by let(x,t,rfl):=k3 v hv;show Looks.of_pure rb) xt hQ
 .intro h' kp E x y a b C ka kb hC;let(p,rfl,mp,rfl):=wF ka;let(p',rfl,mp',rfl):=wF kb;let(x1,B,M,N,o1,n1,r1,ho1,hc1,hd1,hy1,afx,hr1):=tup p mp;let(D,F,O,t4,o2,n2,r2,Z,hc2,G,hy2,afy,hr2):=tup p' mp';let J:C (decide (x1*1000+B<D*1000+F)) {s with heap:=h' }:=by
   let e:decide (x1*1000+B<D*1000+F)=decide ([cf p]<[cf p']):=nL.mpr (by rw[afx,afy,fR];simp);rw[e];show hC
  calc kat_lt (s:={s with heap:=h' }) (kp _ _ ho1) hd1 (kp _ _ Z) G ?_;rw[show (Value.int (x1:Int) M::Value.int (B:Int) N::r1).toArray.toList.zip (Value.int (D:Int) O::Value.int (F:Int) t4::r2).toArray.toList=(Value.int (x1:Int) M,Value.int (D:Int) O)::(Value.int (B:Int) N,Value.int (F:Int) t4)::r1.zip r2 from rfl];calc kat_cons (om _ _ _ _ X.prog X.w _ _ ?_);refine kat_go (λe=>kat_yes ?_) (λe=>kat_no ?_)
  .let ex:x1=D:=by have:((x1:Int)==(D:Int))=true:=e;have:=eq_of_beq this;lia
   calc kat_cons (om _ _ _ _ X.prog X.w _ _ ?_);refine kat_go (λe=>kat_yes ?_) (λe=>kat_no ?_)
   .let ey:B=F:=by have:((B:Int)==(F:Int))=true:=e;have:=eq_of_beq this;lia
    let eij:p=p':=inj p p' mp mp' (by rw[afx,afy,ex,ey]);subst eij;let eo:o1=o2:=by rw[ho1]at Z;show bg Z
    subst eo;rw[hd1]at G;let er:r1=r2:=by injection G with G _;have:=congrArg Array.toList G;simp at this;show this.2.2
    subst er;let fl:decide ((Value.int (x1:Int) M::Value.int (B:Int) N::r1).toArray.size<(Value.int (D:Int) O::Value.int (F:Int) t4::r1).toArray.size)=decide (x1*1000+B<D*1000+F):=by rw[ex,ey];simp
    rcases hr1 with rfl|⟨z,t5,rfl⟩;.show kat_nil (by rw[fl];show J)
    .calc kat_cons (SeqAt.EqAt.same _ X.prog X.w _ _ ?_);show kat_yes (kat_nil (by rw[fl];show J))
   .let ey:B≠F:=λz=>by have:((B:Int)==(F:Int))=false:=e;simp[z]at this
    calc kat_one _ _ (lt_int ?_);show C (decide ((B:Int)<(F:Int))) _;rw[show decide ((B:Int)<(F:Int))=decide (x1*1000+B<D*1000+F) by rw[ex];simp];show J
  .let ex:x1≠D:=λz=>by have:((x1:Int)==(D:Int))=false:=e;simp[z]at this
   show wpAny _ _ (oneLt' true _ _) _ _ _;calc oneLt_int ?_;rw[show decide ((x1:Int)<(D:Int))=decide (x1*1000+B<D*1000+F) by
    by_cases z:x1<D;.rw[ap (ph gu z),ap xo]
    .rw[ai (by simp[*]),ai xo]]
   show J
 .intro p as' hp pm up;calc q p as' hp pm ?_;let hnd':=(pm.map cf).nodup_iff.mpr hnd;rw[eA];calc(up.and (eA.mp hnd')).imp λ{a b} h=>?_;let h1:=rn h.1;rw[fR]at h1;let h2:=h.2;have:¬cf b<cf a:=λz=>h1 (.inl z);show Nat.lt_of_le_of_ne (Iff.mp Nat.not_lt this) h2
def pJ (w:World)(a:Addr)(bs:List Addr):Heap->Prop:=λh=>∃es ep t,SetT w h a es ep t/\es.toList.map (·.2)=bs.map Value.ref
def pJ.ext (m:pJ w a bs h):cZ P w H h a (.ext (pJ w a bs)):=by
 refine%[m,?_|λh1 q m1 k=>?_]
 .let(es,ep,t,(o,j,_),_):=m;show%[o|j]
 .let(es,ep,t,m2,e):=m1;show%[41,es,ep,t,m2.mv k|e]
def Pj (w:World)(K:W.Frag):List V->Hp->VK->Prop:=λxs H Q=>∃(p:Addr) (bs:List Addr) (B:Addr->List T3),xs=[.ref p]/\H p=some (.ext (pJ w p bs))/\bs.length<=4000/\(∀a∈bs,sI K H a (B a))/\
 ∀(q:Addr) (j:List Addr),H q=none->j.Perm bs->Iw (j.map B)->Q (.ref q) (upd H q (.lst (j.map V.ref)))
def Aj (hc:X.calm=true)(hu:X.A.units+64<cLine):d8 X (.builtin "sorted") (Pj X.w X.K):=by
 intro ao s R H xs us Q I r h;let(p,bs,M,rfl,hd,hn,hl,q):=h;let(u,rfl,ru):=vals1 r;cases ru;let((es,ep,t,m,O),_,_):=(show cZ X.prog X.w H s.heap p (.ext (pJ X.w p bs)) from I.hok _ _ hd)
 let la:=Ge I hl;let hes:es.size=bs.length:=by have:=congrArg List.length O;rw[ab,ab,bq]at this;show this
 let yG:bs.length<=sizeLine:=ay hn xt;calc cj (Ir (O7 (A:=X.A.in1) (I.ok.hd hc) m xo λh1 tk d acc N pm=>?_));rw[O]at pm;let(as,rfl,F):=yO pm;let Y:(as.map Value.ref).length=as.length:=ab _;let B:=F.length_eq;let D:mW h1 M as:=(la.sub λb hb=>F.mem_iff.mp hb).keeps N;refine%[18,oH (λa=>jd (M a)) as,tuples' false,by rw[Y,B];show hn,Iu λv hv=>by let(a,ha,rfl):=aI.mp hv;show%[0,a,ha|rb],λL h' Q' E' kp q'=>?_,λh' kp=>?_|λh' out e kp pm up he ht=>?_]
 .rw[Y]at L;show Ml (D.keeps kp) (av L) q'
 .show Rk (D.keeps kp) (show X.A.units+1+1+2<cLine by lia)
 .let(j,rfl,Z):=yO pm;let J:(j.map V.ref).length<=sizeLine:=by rw[ab,Z.length_eq,B];show yG
  let G:=Rm (λa ha=>Z.mem_iff.mp ha) up;let I1:aL X ao R H {s with heap:=h1,toks:=tk,drawn:=d}:=(I.kept (t':=tk) N).agQ d;calc%[1,.ref h1.objs.size,_,I1.laid (o:=.lst (j.map V.ref)) (t':=tk) kp (ah _) %[24,J,j.map Value.ref,e,uf _|he],rb|q _ j I1.fresh (Z.trans F) ?_];unfold Iw;rw[eA];show G
end
section
variable {P:Program}{w:World}{I:Type}[DecidableEq I]
noncomputable def W8 (vk:fL P w I)(p:I->Value->Prop):fL P w I where
 is:=λh k v=>vk.is h k v/\p k v
 hash:=vk.hash
 draws:=vk.draws
 deep:=vk.deep
 inj:=λh1 j=>vk.inj h1.1 j.1
 keeps:=λh D hd hs=>%[vk.keeps h.1 D hd hs|h.2]
 pyHash:=λB h q=>vk.pyHash B h.1 q
 eqBool:=λB h1 j q=>vk.eqBool B h1.1 j.1 q
 quiet:=λn hn h q=>vk.quiet n hn h.1 q
def agV {vk:fL P w I}{p:I->Value->Prop}(j:j4 vk):j4 (W8 vk p):=λn hn h q=>j n hn h.1 q
def agW {vk:fL P w I}{p:I->Value->Prop}(j:vq vk):vq (W8 vk p):=λh q hd hs=>%[j h.1 q hd hs|h.2]
def agX {vk:fL P w I}{p:I->Value->Prop}(j:vA vk):vA (W8 vk p):=λh hs=>%[j h.1 hs|h.2]
def agY {vk:fL P w I}{p:I->Value->Prop}(j:LR vk):LR (W8 vk p):=λh q=>j h.1 q
end
def iC (ts:List T3):sH:=ts.map λt=>[Sum.inl (t.1:Int),Sum.inl (t.2.1:Int),Sum.inr (S [t.2.2])]
theorem wI:∀{ts us:List T3},iC ts=iC us->ts=us
 | [],[],_=>rfl
 | [],_::_,h=>by cases h
 | _::_,[],h=>by cases h
 | t::ts,u::us,h=>by injection h with a b;injection a with a1 a2;injection a2 with a2 j;injection j with j _;injection a1 with a1;injection a2 with a2;injection j with j;let j:=vW j;injection j with j _;rw[wI b,show t=u from sK (mB a1) (sK (mB a2) j)]
section
variable {P:Program}{w:World}
variable {X:Cx}
def Aa:(pW (cX P w)).is h (Sum.inl i) (Value.int i t):=by let e:jz (Sum.inl i) (Value.int i t)=true:=Hr i t;show e
def Rn:(pW (cX P w)).is h (Sum.inr x) (Value.str x t):=by let e:jz (Sum.inr x) (Value.str x t)=true:=Hs x t;show e
theorem Ro:∀{ts:List T3} {vs:List Value} {as:List Addr},ReadsAll h vs (eE (ts.map lJ)) as->jH (tupK (pW (cX P w))) h (iC ts) vs
 | [],vs,as,r=>by simp only[mf,eE]at r;cases r;trivial
 | t::ts,vs,as,r=>by
  simp only[b9,eE]at r;cases r with| cons r1 r2=>let(a,o,n,F,D,B,rfl,q,j,hd):=Kh r1;show%[%[a,o,n,_,rb,q,j,hd,Aa,Aa,Rn|trivial]|Ro r2]
def afz (r:Reads h v (toP (wH ts)) as)(j:ts≠[]):(yM P w).is h (iC ts) v:=by let(a,o,vs,n,bs,rfl,B,F,hd,D):=pX r;calc%[%[25,a,o,n,vs,rb,B,F,hd|Ro D],λz=>j (vj.mp z)|λt q=>?_];let(u,_,rfl):=aI.mp q;show%[10,_,_,_|rb]
def acW (w:World)(K:W.Frag):List V->Hp->VK->Prop:=λxs H Q=>∃(L:Addr) (as:List Addr) (j:Addr->List T3),xs=[.ref L]/\aN K H L (as.map V.ref)/\as.length<=3999/\(∀a∈as,sI K H a (j a))/\
 ∀(p:Addr) (bs:List Addr),H p=none->(∀b∈bs,b∈as)->(bs.map j).Nodup->(∀a∈as,j a∈bs.map j)->Q (.ref p) (upd H p (.ext (pJ w p bs)))
def Pk (hc:X.calm=true)(hu:X.A.units+64<cLine):d8 X (.type "set") (acW X.w X.K):=by
 walk_at"g";let(L,as,j,rfl,hS,hz,hl,q):=h;let(u,rfl,ru):=vals1 r;cases ru;let(its,rv,pl,_):=I.list hS;let J:=ud rv;subst J;let la:=Ge I hl;let hsz:(as.map Value.ref).toArray.size=as.length:=xp;refine cj (W5 (vk:=W8 (yM X.prog X.w) λk v=>∃b∈as,v=.ref b/\k=iC (j b)) (val:=λi=>iC (j (as.getD i 0))) (show (2:Nat)<=8 by decide) (agV afs) (agX afw) (agW aft) (agY acT) (show X.A.units+14+2<cLine by lia) (I.ok.hd hc) pl.isList (λi v hv=>?_) (by rw[hsz];show hz) λh' tk ks kk hkl M m ht=>?_)
 .let hi:i<as.length:=by
   have:=(Array.getElem?_eq_some_iff.mp hv).1;simp_all
  let ev:v=.ref as[i]:=by
   have:(as.map Value.ref)[i]?=some v:=by simpa using hv
   rw[bb,ag hi]at this;show(bg this).symm
  let eg:as.getD i 0=as[i]:=by simp[hi]
  let((rs,rd),ne,_):=la as[i] (ba hi);calc%[0,as[i],ev|?_];rw[eg,ev];show%[35,afz rd ne,as[i],ba hi,rb|rb]
 .let(es,ep,t,m,ti,F,_,_):=m;let hv:∀(i:Nat) e k,es.toList[i]?=some e->ks[i]?=some k->∃b∈as,e.2=.ref b/\k=iC (j b):=λi e k h1 h2=>((F.at_ i e k h1 h2).1).2;let G:es.toList.map (·.2)=((es.toList.map (·.2)).map DQ).map Value.ref:=by
   rw[cn];calc(jn _).symm.trans (de λv Mp=>?_);let(e,he,rfl):=aI.mp Mp;let(i,hi,rfl):=cK.mp he;let(b,_,e2,_):=hv i _ (ks[i]'(by rw[F.len];show hi)) (ag hi) (ag _);rw[e2];rfl
  let D:ks=((es.toList.map (·.2)).map DQ).map λb=>iC (j b):=by
   apply sT;.simp[F.len]
   .intro i h1 h2;let hi:i<es.toList.length:=by rw[<-F.len];show h1
    let(b,_,e2,e3):=hv i _ _ (ag hi) (ag h1);rw[e3];simp only[wS];rw[e2];rfl
  generalize (es.toList.map (·.2)).map DQ=bs at G D;let Z:∀b∈bs,b∈as:=λb O=>by
   let(i,hi,rfl):=cK.mp O;let B:i<es.toList.length:=by have:=congrArg List.length G;rw[ab,ab]at this;simp[*]
   let(b',Y,e2,_):=hv i _ (ks[i]'(by rw[F.len];show B)) (ag B) (ag _);have:(es.toList.map (·.2))[i]?=some (.ref bs[i]):=by rw[G];simp[hi]
   rw[bb,ag B]at this;have:es.toList[i].2=.ref bs[i]:=bg this;rw[e2]at this;cases this;show Y
  let nd:(bs.map j).Nodup:=by
   have:=F.nd;rw[D]at this;let e:(bs.map λb=>iC (j b))=(bs.map j).map iC:=by rw[cn];rfl
   rw[e]at this;show List.Pairwise.of_map iC (λa b N z=>N (by rw[z])) this
  calc%[1,.ref s.heap.objs.size,_,I.laid (o:=.ext (pJ X.w s.heap.objs.size bs)) (t':=tk) kk (ah _) (pJ.ext %[41,es,ep,t,m|G]),rb|q _ bs I.fresh Z nd λa ha=>?_];let(i,hi,rfl):=cK.mp ha;have:iC (j as[i])∈ks:=(M _).mpr (aI.mpr %[0,i,by rw[hsz];show bz.mpr hi|by simp[hi]]);rw[D]at this;let(b,O,e):=aI.mp this;rw[<-wI e];show aI.mpr %[0,b,O|rb]
end
end L2
namespace L2
open PySem PySem.Spec PyProof.Rows PySem.Builtin PySem.Builtin.Str
def vB (x y z:Str)(t u v c:Tok)(hf:((occurrences x y 0 x.length 1).isEmpty||(y.length==0&&z.length==0))=false->
   (u==0||v==0)=false/\(u==v)=false/\(y==z)=false/\tooLong (x.length+(occurrences x y 0 x.length 1).length*z.length)=false) :
  Gives («str.replace» %[[.str x t,.str y u,.str z v,.int 1 c]|[]]) (if ((occurrences x y 0 x.length 1).isEmpty||(y.length==0&&z.length==0))=true then .val (.str x t) else .str (glued z (partsBetween x (occurrences x y 0 x.length 1) y.length))):=by
 show Gives (if ((occurrences x y 0 x.length 1).isEmpty||(y.length==0&&z.length==0))=true then (rule "str.replace.nothing" >>= λ_=>ret (.str x t)) else
     (isSame (.str y u) (.str z v) >>= λsame=>if same=true then (rule "str.replace.old-is-new" >>= λ_=>ret (.str x t)) else if tooLong (x.length+(occurrences x y 0 x.length 1).length*z.length)=true then unsupported "str.replace:memory" else retStr (glued z (partsBetween x (occurrences x y 0 x.length 1) y.length)))) _
 cases D:((occurrences x y 0 x.length 1).isEmpty||(y.length==0&&z.length==0))
 .let(F,j,q,B):=hf D;rw[isSame_str_other y z u v F j q,B];show .of_eq rfl
 .show .rule (.of_eq rb)
end L2
namespace L2
open PySem PySem.Spec PyProof.Rows
def Good (u:Value)(n:Nat):Prop:=∃x t,u=.str x t/\0<t/\t<n
def GP (X:Cx)(ao:AC)(I:St)(Q:VK)(u:Value)(s':Shared):Prop:=∃v H',aL X ao I H' s'/\bG v u/\Good u s'.toks/\Q v H'
structure GE (X:Cx)(e:Expr)(t:TE):Prop where
 out:∀(ao:AC) (s:Shared) (σ:St) (H:Hp) (Q:VK),aL X ao σ H s->t σ H Q->wpAny (model X.prog X.w) X.A (eval e X.env) (GP X ao σ Q) X.xe s
section
variable {X:Cx}
def abI (ha:QE X a ta)(hs:Fq (.Constant (.int i) j p)):GE X (.Subscript a (.Constant (.int i) j p) pos) (qO aeO ta (tC (.int i))):=by
 calc⟨λao s T H Q I h=>?_⟩;calc Subscript_ (bD (ha.out ao s T H _ I h) λv s1 ⟨x,H1,I1,r1,q1⟩=>q0 ?_);let(z,i',c,rfl,G,hz,B,q):=q1;cases G;let(t,rfl):=r1;let(N,h1,D,M,J,L):=zN B;let F:z.cps.toList.length=z.length:=by simp[Str.length]
 rw[F]at h1 J L;let hn:=rK;let I2:=I1.tok (s1.toks+1);show tail_any (typeIs_str _ z t) slot_str_getitem.lookup (getItem_str (c:=c) (by
  let e1:decide (i < -(2^63:Int))=false:=ai xo;let e2:decide (i>=2^63)=false:=ai xo;rw[e1,e2,qi]) (by rw[h1];simpa using D) %[4,.str ⟨#[c]⟩,H1,I2.tok _,%[_|rb],%[1,_,_,rb,kR _|e_ _]|q]) (hs _ _)
def tUp (K:W.Frag)(to:TE):TE:=λT H Q=>to T H λx H1=>∃c:Nat,x=.str (S [c])/\c<128/\Q (.str (S [up1 c])) H1
def agZ {apos cpos:Pos}(J:GE X o to)(D:attributeBase o "upper" X.env (eval o X.env)=eval o X.env:=by rfl)(B:(apos.endLine==cpos.line)=true:=by rfl):GE X (.Call (.Attribute o "upper" apos) [] [] cpos) (tUp X.K to):=by
 calc⟨λao s T H Q I h=>?_⟩;calc wpAny_Call_method0_late D B (bD (J.out ao s T H _ I h) λv s1 G=>?_);let(x,H1,I1,r1,O,c,e,M,q):=G;subst e;let(t,rfl):=r1;let(_,t',Y,L,N):=O;refine⟨28,"str","str.upper",bu,sv,sC,typeIs_str s1 _ t,λ_ e=>(nomatch e),oz rb (PySem.evalArgs_none ?_)⟩
 .let j:Builtin.Str.tooLong (Txt.upper (S [c])).length=false:=fit_upper (by rw[jV];show ay (show 1<=1000 by decide) xt);calc call_gives F.slot_str_upper (typeIs_str s1 _ t) F.entry_str_upper (F.args_str_upper_1 _) (gives_str_upper (S [c]) t j) %[fit_le j|?_];let e:Txt.upper (S [c])=S ([c].map up1):=by rw[upper_ascii (x:=S [c]) (λd hd=>by rw[am.mp hd];show M)];simp[S]
  show%[4,.str (S [up1 c]),H1,I1.tok _,%[s1.toks|congrArg (λz=>Value.str z s1.toks) e],%[1,_,s1.toks,rb,mh L N|e_ _]|q]
end
theorem Mq:∀{l:List Nat} {c i:Nat},l[i]?=some c->(∀k,k<i->l[k]?≠some c)->l.take i++l.drop (i+1)=l.erase c
 | [],_,_,h,_=>by simp at h
 | d::l,c,0,h,_=>by
  have:d=c:=by simpa using h
  subst this;simp
 | d::l,c,i+1,h,hk=>by let hd:d≠c:=λe=>hk 0 xo (by simp[e]);let q:=Mq (l:=l) (c:=c) (i:=i) (by simpa using h) (λk j=>by have:=hk (k+1) (sL j);simpa using this);rw[List.erase_cons_tail (by simpa using hd),<-q];simp
open Builtin.Str in
def Mr (l)(c)(h:c∈l):∃i,occurrences (S l) (S [c]) 0 (S l).length 1=[i]/\glued (S []) (partsBetween (S l) [i] (S [c]).length)=S (l.erase c):=by
 let hn:(S l).length=l.length:=jV l;rcases StrLaws.occ_head (S l) (S [c]) 1 (ah 1) with⟨q,hk⟩|⟨i,r,q,hi,hk⟩
 .let(i,hi):=kC.mp h;show absurd ((gE (S l) c i).mpr hi) (hk i)
 .let B:=StrLaws.occ_length_le (S l) (S [c]) 0 (S l).length 1;rw[q]at B;have:r=[]:=uu (by rw[bP]at B;lia);subst this;let e1:l[i]?=some c:=(gE (S l) c i).mp hi;let e2:∀k,k<i->l[k]?≠some c:=λk j z=>hk k j ((gE (S l) c k).mpr z);calc%[0,i,q|?_];let D:i<l.length:=(al.mp e1).1;let e3:partsBetween (S l) [i] (S [c]).length=[strSub (S l) 0 i,strSub (S l) (i+(S [c]).length) (S l).length]:=rfl;rw[e3,Ke,Ke,hn,show (S [c]).length=1 from rb,r8,cy,<-Mq e1 e2];show (⟨(S (l.take i)).cps++(S []).cps++(S (l.drop (i+1))).cps⟩:Str)=_;unfold S;congr 1;apply nt.mp;simp
def dh (c:Nat):Nat:=if 65<=c/\c<=90 then 63 else c
def afA (a b:Nat):(!decide ([b]<[a]))=decide (a<=b):=by
 by_cases h:a<=b;.rw[ap h,ai (by simp[fR];show h)];rfl
 .rw[ai h,ap (by simp[fR];show sN h)];rfl
structure DR (P:Program)(w:World)(K:W.Frag)(mg:Str->Option Value)(base:Heap)(f:Addr)(fd:FuncData):Prop where
 run:∀(A:Around) (outer:List Env) (s:Shared) (H:Hp) (args:Args) (c:Nat) (t:Tok),dG 1 A->vQ P w K mg base A outer s H->BindsTo s fd args ([("sign":Str)].zip [Value.str (S [c]) t])->0<t->t<s.toks->
  codeAny (model P w) A (.call (.ref f) args) (λr s'=>∃u,r=.ok (.ret u)/\CE outer P w H s (λv H'=>v=.str (S [dh c])/\H'=H) u s'/\Good u s'.toks) s
def acX {K:W.Frag}{mg:Str->Option Value}{st:Stmt}{x1 x2 x3:Str}{j1 j3 j5:_}(F:gO K "tile_of" "tile_of" st f fd)(O:aU ["sign"] ["sign"] (aH st))(B:(aH st).names.lookup ("sign":Str)=some .local)(hb:cO st=[.Return (some (.IfExp (.Compare (.Constant (.str x1) j1 p1) [.LtE,.LtE] [.Name "sign" p2,.Constant (.str x3) j3 p3] p4) (.Constant (.str x2) j5 p5) (.Name "sign" p6) p7)) p8])(h1:x1=S [65])(h2:x2=S [63])(h3:x3=S [90]):DR P w K mg base f fd:=by
 subst h1 h2 h3;let(oc,od,kV,doc,pm,an,bh,ct,osl,rfl,lk,hcd):=F.ex;calc⟨λA outer s H args c t hr N hbd t0 t1=>?_⟩;let KX:K.In s.heap:=N.mod.xu.keeps λb o e=>(N.bs b o e).1;let lim:s.heap.NoLimit:=N.mod.nolimit.keeps λb o e=>(N.bs b o e).1;let G:∀y∈[("sign":Str)].zip [Value.str (S [c]) t],(aH st).names.lookup y.1=some .local\/((aH st).names.lookup y.1=some .cell/\((cellsFrom (s.heap.objs.size+1) (aH st).names []).lookup y.1).isSome=true):=λ⟨n,v⟩ hy=>by let hn:n="sign":=am.mp (tI hy).1;subst hn;show .inl B
 calc tf hr.depth (KX _ _ lk) rb O.co O.gen rb (vx KX hcd) (hbd _ _ _ _ ?_);calc cj (wpAny_newFunctionEnv_cells O.kind G λenv he s1 x ht=>?_);subst he;calc%[lim.keeps x.toInCall.keep|codeAny_func ?_];let I:aL (oh fZ P w K mg base ["sign"] "tile_of" (aH st) f bh A outer s H E0) [] (start ["sign"] [.str (S [c])]) H s1:=yh O hr.hd N rb (.cons %[t|rb] .nil) x ht
 let hm:bindL (envOfC "tile_of" (aH st) s.heap.objs.size f bh).kindOf ([("sign":Str)].zip [Value.str (S [c]) t]) (λ_=>none) "sign"=some (Value.str (S [c]) t):=yg (i:=0) (P:=["sign"]) (vs:=[Value.str (S [c]) t]) xt rb rb B
 let hns:s1.heap.Ns s.heap.objs.size (bindL (envOfC "tile_of" (aH st) s.heap.objs.size f bh).kindOf ([("sign":Str)].zip [Value.str (S [c]) t]) (λ_=>none)):=x.toInCall.ns;show wpAny _ _ (execs (cO st) _) _ _ s1;rw[hb];let M:t<s1.toks:=bt t1 ht;let nm:∀(tk:Nat) (p:Pos) (Q:AB) (E:AB),Q (.str (S [c]) t) {s1 with toks:=tk}->
   wpAny (model P w) (A.deeper (envOfC "tile_of" (aH st) s.heap.objs.size f bh)) (eval (.Name "sign" p) (envOfC "tile_of" (aH st) s.heap.objs.size f bh)) Q E {s1 with toks:=tk}:=λtk p Q E q=>
  rX (tw O.kind B hns hm q) xt
 let L:∀(j:Nat) (y:Tok) (d:Nat),d=dh c->0<y->y<j->s1.toks<=j->∃u,(Except.ok (Flow.ret (.str (S [d]) y)):Result)=.ok (.ret u)/\CE outer P w H s (λv H'=>v=.str (S [dh c])/\H'=H) u {s1 with toks:=j }/\Good u j:=λj y d hd a2 a3 a4=>by let J:=I.tok j;subst hd;show%[0,_,rb|%[30,%[63,.str (S [dh c]),H,J.os,J.bare,J.base,J.hok,%[y|rb],%[rb|rb],J.gh|J.tk],_,y,rb,a2|a3]]
 calc np (wpAny_Return_some (wpAny_IfExp (isTrue_chain (g6 (test_link (nm _ _ _ _ (xm (eJ ?_))))))));let D:∀a:Nat,(S [a]).cps.toList=[a]:=λa=>rfl;rw[D,D,afA];by_cases Y:65<=c
 .rw[ap Y];calc ite_tt (test_last (g6 (xm (eJ ?_))));rw[D,D,afA];by_cases Z:c<=90
  .rw[ap Z];calc ite_tt (g6 ?_);show L (s1.toks+1+1+1) (s1.toks+1+1) 63 (if_pos %[Y|Z]).symm (kR _) (e_ _) xo
  .rw[ai Z];show ite_ff (nm _ _ _ _ (L (s1.toks+1+1) t c (if_neg λz=>Z z.2).symm t0 (bt M (Nat.le_add_right s1.toks 2)) xo))
 .rw[ai Y];show ite_ff (ite_ff (nm _ _ _ _ (L (s1.toks+1) t c (if_neg λz=>Y z.1).symm t0 (bt M (du _)) xo)))
section
variable {X:Cx}{ao:AC}{C:St}{H:Hp}{s:Shared}
variable {prog:Program}{w:World}{A:Around}{E:AB}
def Ue (X:Cx)(s:Shared)(x:Str)(u:Value):Prop:=∃m,s.heap.Ns X.env.locals m/\Look X.env s.heap m x u
def sJ {E:AB}{x:Str}{u:Value}{pos:Pos}{Q:AB}(I:aL X ao C H s)(h:Ue X s x u)(q:Q u s)(hd:(x==("__debug__":Str))=false:=by decide)(B:(x==("__classdict__":Str))=false:=by decide):wpAny (model X.prog X.w) X.A (eval (.Name x pos) X.env) Q E s:=by
 let(m,hn,l):=h;rcases l with⟨hk,hm⟩|⟨hk,c,D,j⟩;.show rX (tw I.ok.kind hk hn hm q) hd
 .rcases hk with hk|hk;.show rX (wpAny_loadName_cell I.ok.kind hk D j q) hd
  .show rX (wpAny_loadName_free I.ok.kind hk D j q B) hd
def uH (ir is it il : Nat)(tb : TS)(c : Nat) : TS := λD C H => ∃l : List Nat, (((C.set is (some (.str (S [c])))).set it (some (.str (S [dh c])))))[ir]? = some (some (.str (S l))) /\ l.length <= 1000 /\
  (if dh c ∈ l then tb {nx := D.nx, rt := D.rt} (((C.set is (some (.str (S [c])))).set it (some (.str (S [dh c])))).set il (some (.str (S (l.erase (dh c)))))) H
   else D.nx ((C.set is (some (.str (S [c])))).set it (some (.str (S [dh c])))) H)
def ahK (ir is it il:Nat)(J B:TE)(tb:TS):TS:=λD C H=>J C H λx1 H1=>B C H1 λF G=>∃q j:Nat,x1=.str (S [q])/\F=.str (S [j])/\
 uH ir is it il tb q {nx:=uH ir is it il tb j D,rt:=D.rt} C G
structure Ug (X:Cx)(ir is it il:Nat)(f:Addr)(fd:FuncData):Prop where
 nd:X.N.Nodup
 r:X.N[ir]?=some "rack"
 s:X.N[is]?=some "sign"
 t:X.N[it]?=some "tile"
 l:X.N[il]?=some "left"
 vr:Vo X.env.scope "rack"
 vs:Loc X.env.scope "sign"
 vt:Loc X.env.scope "tile"
 vl:Loc X.env.scope "left"
 fs:X.fn "sign"=true
 ft:X.fn "tile"=true
 fl:X.fn "left"=true
 T:DR X.prog X.w X.K X.mg X.base f fd
 b:cT X.K fd ["sign"] []
 m:X.mg "tile_of"=some (.ref f)
 k:W.keepIn X.K (.ref f)=true
 g:Gl X "tile_of"
 rm:dG 1 X.A
abbrev Gg (x0 : Str)(j0 j1 : Nat)(Iz IK pk2 IV IW Rp Rq Rr I_ Ja uI wJ wK wL uJ yP Gi : Pos)(rest : List Stmt) : List Stmt :=[.Assign [.Name "tile" Iz] (.Call (.Name "tile_of" IK) [.Name "sign" pk2] [] IV) IW,
   .If (.Compare (.Name "tile" Rp) [.In] [.Name "rack" Rq] Rr) (.Assign [.Name "left" I_] (.Call (.Attribute (.Name "rack" Ja) "replace" uI) [.Name "tile" wJ, .Constant (.str x0) j0 wK, .Constant (.int 1) j1 wL] [] uJ) yP::rest) [] Gi]
def W9 (Y:Ug X ir is it il f fd)(I:aL X ao C H s):wpAny (model X.prog X.w) X.A (assign (.Name "sign" p1) X.env (.str (S [c]) t)) (λ_ s2=>aL X ao (C.set is (some (.str (S [c])))) H s2/\Ue X s2 "sign" (.str (S [c]) t)/\s.toks<=s2.toks) X.xe s:=cj (sf (tZ I Y.nd Y.s Y.vs (v:=.str (S [c])) %[t|rb] (λs' q _ ex j=>%[q,ex|j]) (.inl Y.fs)))
def aah {ir is it il:Nat}{c:Nat}{t:Tok}{x0:Str}{j0 j1:Nat}{Iz IK G IV IW Rp Rq Rr I_ Ja uI wJ wK Z uJ yP Gi:Pos}{rest:List Stmt}{D:Ends}(Y:Ug X ir is it il f fd)(O:x0=S [])(hl1:(uI.endLine==uJ.line)=true)(hs1:swapsWith (.Call (.Name "tile_of" IK) [.Name "sign" G] [] IV) (some (.Name "tile" Iz)) IW.line X.env=pure false)(hs2:swapsWith (.Call (.Attribute (.Name "rack" Ja) "replace" uI) [.Name "tile" wJ,.Constant (.str x0) j0 wK,.Constant (.int 1) j1 Z] [] uJ) (some (.Name "left" I_)) yP.line X.env=pure false)(j:rR X rest tb)(I:aL X ao (C.set is (some (.str (S [c])))) H s)(ex:Ue X s "sign" (.str (S [c]) t))(t0:0<t)(t1:t<s.toks)(q:uH ir is it il tb c D C H):wpAny (model X.prog X.w) X.A (execs (Gg x0 j0 j1 Iz IK G IV IW Rp Rq Rr I_ Ja uI wJ wK Z uJ yP Gi rest) X.env) (SP X ao {nx:=D.nx,rt:=D.rt}) X.xe s:=by
 subst O;let(l,hl,hz,q):=q;calc np (v_ (me (zK I Y.g Y.m ?_ xt)) hs1);calc rc (h₀:=X.base) I.ok.mod.xu Y.k (fT (sJ I ex (oP %[I.jD|?_]))) rb rfl;calc wl (kP (Y.T.run X.A X.stack s H %[[.str (S [c]) t]|[]] c t Y.rm I.env0 (Y.b s [.str (S [c]) t] I.jD rb) t0 t1) λr s1 hr=>?_);let(u,rfl,ce,y,B,hy,g0,g1):=hr;let(v,H1,I1,rv,ev,eH):=I.after ce;subst ev eH hy;let(y2,ey):=rv;injection ey with ey1 ey2;subst ey1 ey2;calc cj (tZ I1 Y.nd Y.t Y.vt (v:=.str (S [dh c])) %[B|rb] (λs2 I2 _ J ht=>?_) (.inl Y.ft));let g2:B<s2.toks:=bt g1 ht;let(m,hn,hlm):=id I2.loc;let(ur,(N,er),lr):=hlm ir "rack" _ Y.r hl Y.vr;subst er;let L:Ue X s2 "rack" (.str (S l) N):=%[0,m,hn|lr]
 calc np (wpAny_If (wpAny_isTrue_Compare1 (sJ I2 J (sJ I2 L (in_str (eJ ?_)))) (by with_unfolding_all rfl)));let ein:(!(Builtin.Str.occurrences (S l) (S [dh c]) 0 (S l).length 1).isEmpty)=decide (dh c∈l):=by let e:=StrLaws.found_one (S l) (dh c);rw[aby]at e;rw[show (S [dh c])=(⟨#[dh c]⟩:Str) from rb,e]
 rw[ein];by_cases M:dh c∈l
 .rw[if_pos M]at q;rw[ap M];calc ite_tt (np (v_ (wpAny_Call_method_late rb rb hl1 rb (sJ I2 L ?_)) hs2));calc⟨28,"str","str.replace",bu,rq,rL,typeIs_str s2 _ N,λ_ e=>(nomatch e),?_⟩;calc oz rb (Calls.evalArgs_plain ?_);show wpAny _ _ (spliced ((false,eval (.Name "tile" wJ) X.env)::(false,eval (.Constant (.str (S [])) j0 wK) X.env)::(false,eval (.Constant (.int 1) j1 Z) X.env)::[])) _ _ _;calc fT (sJ I2 J (fT (g6 (fT (q0 (oP ?_))))));let(i,ho,yQ):=Mr l (dh c) M;refine call_gives F.slot_str_replace (typeIs_str _ _ N) F.entry_str_replace (F.args_str_replace_4 _ _ _ _) (vB (S l) (S [dh c]) (S []) N B s2.toks _ λ_=>%[?_,?_,?_|?_]) ?_
  .have:B≠0:=g9 g0;have:s2.toks≠0:=g9 (mh g0 g2);simp[*]
  .have:B≠s2.toks:=a_ g2;simpa using this
  .rfl
  .rw[ho];unfold Builtin.Str.tooLong;rw[jV,show (S []).length=0 from rb,Nat.mul_zero,t9];show ai (by have:=aF (n:=l.length) hz;lia)
  rw[ho];let e0:(([i]:List Nat).isEmpty||((S [dh c]).length==0&&(S []).length==0))=false:=rfl;rw[if_neg (by rw[e0];decide),yQ];calc%[?_|?_];.rw[jV];show ay mP (av (aF xo))
  .let I3:=I2.tok (s2.toks+1+1+1);calc vO I3 Y.nd Y.l Y.vl (v:=.str (S (l.erase (dh c)))) %[_|rb] (λs3 I4=>?_) (.inl Y.fl);calc bD (j.out ao s3 _ _ {nx:=D.nx,rt:=D.rt} I4 q) λfl s4 z=>?_;cases fl with| next=>show iN z| ret v=>show z| brk=>show z| cont=>show z
 .rw[if_neg M]at q;rw[ai M];show ite_ff (iN (iN %[3,_,_,I2|q]))
def afB {ir is it il:Nat}{x0:Str}{j0 j1:Nat}{Iz IK pk2 IV IW Rp Rq Rr I_ Ja uI wJ wK wL uJ yP Gi:Pos}{rest:List Stmt}{e1 e2:Expr}{kt:_}(Y:Ug X ir is it il f fd)(hx0:x0=S [])(hp:PassesOwn (model X.prog X.w) X.A X.env X.xe)(hcm:X.calm=true)(g1:GE X e1 t1)(g2:GE X e2 t2)(hl1:(uI.endLine==uJ.line)=true)(hs1:swapsWith (.Call (.Name "tile_of" IK) [.Name "sign" pk2] [] IV) (some (.Name "tile" Iz)) IW.line X.env=pure false)(hs2:swapsWith (.Call (.Attribute (.Name "rack" Ja) "replace" uI) [.Name "tile" wJ,.Constant (.str x0) j0 wK,.Constant (.int 1) j1 wL] [] uJ) (some (.Name "left" I_)) yP.line X.env=pure false)(hst:starEach [e1,e2] X.env=[(false,eval e1 X.env),(false,eval e2 X.env)])(hs:∀x,foldedSetIterable (.Tuple [e1,e2] kt p2) X.env x=pure x)(hrest:rR X rest tb):QS X (.For (.Name "sign" p1) (.Tuple [e1,e2] kt p2) (Gg x0 j0 j1 Iz IK pk2 IV IW Rp Rq Rr I_ Ja uI wJ wK wL uJ yP Gi rest) [] pos) (ahK ir is it il t1 t2 tb):=by
 calc⟨λao s C H D I h=>?_⟩;calc wpAny_For (uC ?_) hs;rw[hst];show wpAny _ _ (spliced ((false,eval e1 X.env)::(false,eval e2 X.env)::[])) _ _ s;calc fT (bD (g1.out ao s C H _ I h) λu1 s1 ⟨v1,H1,I1,r1,gd1,q1⟩=>fT (cj (fm (g2.out ao s1 C H1 _ I1 q1) (λu2 s2 ⟨v2,H2,I2,r2,gd2,q2⟩ ht=>oP %[show 2<=sizeLine by decide|?_]) λ_ _ z _=>z)));let(L,J,ev1,ev2,q):=q2;subst ev1 ev2;let(j,rfl):=r1;let(B,rfl):=r2;let(_,_,eg,a0,a1):=gd1;injection eg with eg1 eg2;subst eg1 eg2;let(_,_,eg,b0,b1):=gd2;injection eg with eg1 eg2;subst eg1 eg2;let a2:j<s2.toks:=bt a1 ht;let I3:aL X ao C H2 {s2 with heap:=s2.heap.push {cls:=.type "tuple",data:=.seq [Value.str (S [L]) j,Value.str (S [J]) B].toArray} }:=I2.kept (t':=s2.toks) λb o e=>af _ e;let qR:(s2.heap.push {cls:=.type "tuple",data:=.seq [Value.str (S [L]) j,Value.str (S [J]) B].toArray}).get? s2.heap.objs.size=some {cls:=.type "tuple",data:=.seq [Value.str (S [L]) j,Value.str (S [J]) B].toArray}:=aw _ rfl;let fa3:lE X ao H2 s2.heap.objs.size:=I2.nu (ah _) (I2.hok.fresh (ah _));let hT:∀h:Heap,h.get? s2.heap.objs.size=some {cls:=.type "tuple",data:=.seq [Value.str (S [L]) j,Value.str (S [J]) B].toArray}->h.IsTuple s2.heap.objs.size [Value.str (S [L]) j,Value.str (S [J]) B].toArray:=λh e=>%[40,_,e,rb,_|rb]
 calc oj (hT _ qR) ?_;generalize hob:({cls:=.type "tuple",data:=.seq [Value.str (S [L]) j,Value.str (S [J]) B].toArray}:Obj)=Jb at I3 qR hT ⊢;generalize ha:s2.heap.objs.size=a at I3 qR fa3 hT ⊢;generalize hs3:({s2 with heap:=s2.heap.push Jb}:Shared)=s3 at I3 ⊢;let ht3:s3.toks=s2.toks:=by rw[<-hs3]
 let aai:s3.heap.get? a=some Jb:=by rw[<-hs3];show qR
 let fit:lE X ao H2 s3.heap.objs.size:=I3.nu (ah _) (I3.hok.fresh (ah _));let nia:s3.heap.objs.size≠a:=λz=>by rw[<-z]at aai;show absurd (a7 aai) (lv _)
 refine(let S3:Nat->St->Hp->Prop:=λn G H'=>match n with| 0=>D.nx G H'| 1=>uH ir is it il tb J D G H'| _=>uH ir is it il tb L {nx:=uH ir is it il tb J D,rt:=D.rt} G H';?_)
 refine(let fp:List Addr:=[s3.heap.objs.size,a];?_)
 let N:∀{H':Hp},(∀b∈fp,H' b=none)->∀b∈fp,lE X ao H' b:=λhn b F=>%[hn b F|by
  rcases bd.mp F with z|z;.rw[z];show fit.2
  .rw[am.mp z];show fa3.2]
 refine uA (λn s'=>n<=2/\∃G H',aL X ao G H' s'/\s'.heap.IsTupleIter s3.heap.objs.size a (2-n)/\s'.heap.get? a=some Jb/\(∀b∈fp,H' b=none)/\s2.toks<=s'.toks/\S3 n G H') ?_ 2
  %[16,ah _,C|%[42,H2,I3.kept (t':=s3.toks) λb o e=>af _ e,%[2,_,aw _ rb,rb|rb],af _ aai,λb F=>by
   rcases bd.mp F with z|z;.rw[z];show fit.1
   .rw[am.mp z];show fa3.1,by show s2.toks<=s3.toks;lia|q]]
 intro n s4 z;let(hn,C4,H4,I4,eY,Z,QD,tk4,q4):=z;let hf:=N QD s3.heap.objs.size (by simp[fp]);let(f0,f1,f2,f3,f4,f5):=hf;let one:∀(k:Nat) (c:Nat) (tk:Tok) (D':Ends),n=k+1->[Value.str (S [L]) j,Value.str (S [J]) B].toArray[2-n]?=some (Value.str (S [c]) tk)->0<tk->tk<s2.toks->D'.rt=D.rt->(∀G H',D'.nx G H'->S3 k G H')->uH ir is it il tb c D' C4 H4->
   wpAny (model X.prog X.w) X.A (pyNext (.ref s3.heap.objs.size)) (λr s₁=>match r with
   | none=>wpAny (model X.prog X.w) X.A (execs [] X.env) (λf M=>SP X ao D f M) (notedBy (model X.prog X.w) X.A X.env λe s'=>cameBackBy (model X.prog X.w) X.A X.env X.xe e s') s₁
   | some v=>wpAny (model X.prog X.w) X.A (letOwnedTupleGo (.Name "sign" p1) (.ref s3.heap.objs.size) v) (λ_ s₁'=>
     wpAny (model X.prog X.w) X.A (assign (.Name "sign" p1) X.env v) (λ_ s₂=>wpAny (model X.prog X.w) X.A (execs (Gg x0 j0 j1 Iz IK pk2 IV IW Rp Rq Rr I_ Ja uI wJ wK wL uJ yP Gi rest) X.env) (λf M=>match f with
      | .next|.cont=>∃m,m<n/\(m<=2/\∃G H',aL X ao G H' M/\M.heap.IsTupleIter s3.heap.objs.size a (2-m)/\M.heap.get? a=some Jb/\(∀b∈fp,H' b=none)/\s2.toks<=M.toks/\S3 m G H')
      | .brk=>SP X ao D .next M
      | .ret v=>SP X ao D (.ret v) M) (notedBy (model X.prog X.w) X.A X.env λe s'=>cameBackBy (model X.prog X.w) X.A X.env X.xe e s') s₂) (notedBy (model X.prog X.w) X.A X.env λe s'=>cameBackBy (model X.prog X.w) X.A X.env X.xe e s') s₁') (notedBy (model X.prog X.w) X.A X.env λe s'=>cameBackBy (model X.prog X.w) X.A X.env X.xe e s') s₁) (notedBy (model X.prog X.w) X.A X.env λe s'=>cameBackBy (model X.prog X.w) X.A X.env X.xe e s') s4:=by
  intro k c tk D' hk hit k0 k1 hrt hnx hq;calc ee hp (cj (wpAny_pyNext_tuple_item eY (hT _ Z) (x:=Value.str (S [c]) tk) hit λh' st' sb Rt=>?_));let I5:aL X ao C4 H4 {s4 with heap:=h' }:=I4.turned (t':=s4.toks) (λb o F e=>(sb.2 b F).trans e) f0 f1 f3 f4 f5;let(o5,e5,c5,d5):=id st';let O:h'.get? a=some Jb:=(sb.2 a (kr nia)).trans Z;calc ee hp (zL (s:={s4 with heap:=h' }) e5 c5 d5 xt ?_);let I5':=I5.pinned (N QD) (λb F=>by
   rcases bd.mp F with z|z;.rw[z];show%[0,o5,e5|λv z=>by rw[d5]at z;cases z]
   .rw[am.mp z];show%[0,Jb,O|λv z=>by rw[<-hob]at z;cases z])
  calc ee hp (bD (W9 Y I5' (t:=tk) (c:=c) (p1:=p1)) λ_ s6 zz=>?_);let(I6,ex6,t6):=zz;calc ee hp (cj (fm (aah Y hx0 hl1 hs1 hs2 hrest I6 ex6 k0 (show tk<s6.toks from bt (bt k1 tk4) t6) hq) (λf s7 q7 ht7=>?_) λ_ _ z _=>z));cases f with
  | next=>
   let(C7,H7,I7,n7):=q7;let pn:∀b o,b∈fp->h'.get? b=some o->s7.heap.get? b=some o/\H7 b=none:=λb o F e=>by have:=I7.pin (b,o) (cS _ (cS _ (lW F e)));show%[this.1|this.2.1]
   let mi:s3.heap.objs.size∈fp:=aT;let ma:a∈fp:=aS _ (am.mpr rb);refine%[2,k,by simp_all,xo|%[28,C7,H7,I7.jm,?_,(pn a Jb ma O).1,λb F=>?_,ay tk4 (ay t6 ht7)|hnx _ _ n7]]
   .let e2:2-k=2-n+1:=gt xo;rw[e2];show st'.at λo e=>(pn _ o mi e).1
   .rcases bd.mp F with z|z;.rw[z];show(pn _ o5 mi e5).2
    .rw[am.mp z];show(pn a Jb ma O).2
  | cont=>let(_,_,_,z):=q7;show z.elim
  | brk=>let(_,_,_,z):=q7;show z.elim
  | ret v=>let(x7,C7,H7,I7,r7,q7):=q7;show%[46,x7,C7,H7,I7.jm,r7|hrt ▸ q7]
 rcases(show n=0\/n=1\/n=2 by lia) with e|e|e
 .subst e;calc ee hp (wpAny_pyNext_tuple_end (I4.ok.hd hcm) eY (hT _ Z) xp λh' eb=>?_);show iN %[3,C4,H4,I4.turned (t':=s4.toks) (λb o F e=>eb b o F e) f0 f1 f3 f4 f5|q4]
 .subst e;show one 0 J B D rb xp b0 b1 rb (λ_ _ z=>z) q4
 .subst e;show one 1 L j {nx:=uH ir is it il tb J D,rt:=D.rt} rb xp a0 a2 rb (λ_ _ z=>z) q4
open Classical in
def afC (M:X.A.units+64<cLine):fJ X (compareOp .In) (afc X.K false):=by intro ao s C H x y v u Q I J L h;let(n,d,es,hn,hd,B,q):=h;let(as,F):=hd.reads I J;let(bs,j):=B.reads I L;let G:=hd.lay;let D:=B.lay;rw[toP]at j;simp only[toP,PyData.canLay0,PyData.depth]at D;calc SeqAt.in_tuple_reads j F D.1 G.1 (by have:=wq (PyData.depthAll (eE es)) (toP d).depth;lia) %[1,.bl _,H,I,rb|?_];rw[Fz];show q
def acY {X:Cx}(K:W.Frag)(j:X.A.units+64<cLine)(h:X.K=K:=by rfl):fJ X (compareOp .In) (afc K false):=by subst h;show afC j
def JF (x k):checkTypeCall "enumerate" %[[x]|[(Str.ofString "start",k)]]=pure ():=by kernel_rfl
def Ms (x k):checkBuiltinCall "enumerate.__new__" %[[.type "enumerate",x]|[(Str.ofString "start",k)]]=pure ():=by kernel_rfl
def JG (o x k):argsOk "object.__init__" %[[o,x]|[(Str.ofString "start",k)]]:=by first|show .of_eq xy|show xy|trivial
def ag0 (x:Str)(t:Tok)(k:Nat)(tk:Tok)(hk:k<1000):Meets (Builtin.«enumerate.__new__» %[[.type "enumerate",.str x t]|[(Str.ofString "start",.int (k:Int) tk)]]) (λ_ R s=>
   R (.ok (.ret (.ref (s.heap.push {cls:=.type (strIterType x),data:=.fields #[.str x t,.int 0 0]}).objs.size)))
    {s with heap:=(s.heap.push {cls:=.type (strIterType x),data:=.fields #[.str x t,.int 0 0]}).push {cls:=.type "enumerate",data:=.fields #[.none,.bool false,.ref s.heap.objs.size,rawInt k,.none,.none]} }):=
 .of_wp λprog w A R s h=>by
  let(hp,g,d,B,os):=s;let q:=sub_enumerate;let j:Builtin.SmallTypes.fitsIndex (k:Int)=true:=by unfold Builtin.SmallTypes.fitsIndex;simp only[dm,eK];lia
  let e1:Builtin.SmallTypes.indexObject "enumerate.__new__" (Value.int (k:Int) tk)=pure (Value.int (k:Int) tk):=by kernel_rfl
  let e2:asInt? (Value.int (k:Int) tk)=pure (some (k:Int)):=by kernel_rfl
  wp_walk
  refine wpAny_stack_any λst=>ae ?_
  split
  .rename_i c _ _ _ _ _;cases(c==Value.type "enumerate")
   .walk_at"h"
    (case e=>kernel_rfl)
    simp only[e1,pure_bind,e2,j,fE,a9,if_false]
    wp_walk using oQ
    show%[0,_,rb|h]
   .walk_at"h"
    (case e=>kernel_rfl)
    simp only[e1,pure_bind,e2,j,fE,a9,if_false]
    wp_walk using oQ
    show%[0,_,rb|h]
  .walk_at"h"
   (case e=>kernel_rfl)
   simp only[e1,pure_bind,e2,j,fE,a9,if_false]
   wp_walk using oQ
   show%[0,_,rb|h]
def Gj (B:typeLookup (.type T) "__init__"=pure (some (.builtin "object.__init__")))(hm:Bind.madeBy (.type T)=pure (some newId))(j:(some newId != some "object.__new__")=true):Meets (Builtin.«object.__init__» %[[self,a]|kw]) (λ_ R s=>s.TypeIs self T/\R (.ok (.ret .none)) s):=by
 calc Meets.of_wp λprog w A R s hs=>?_;let(D,q):=hs
 repeat (any_goals (first|assumption|wp_step))
 show%[0,_,rb|q]
def Pn {T q j:String}{Bn Bi:Builtin}{D:List (Str×Value)}{S:PySem.Spec}{Q Q₁:AB}(ft:TypeCalled T q j)(hct:checkTypeCall T %[args|D]=pure ())(hcn:checkBuiltinCall q %[.type T::args|D]=pure ())(N:entryFor table q=some Bn)(B:entryFor table j=some Bi)(g:Meets (Bn %[.type T::args|D]) S)(h:S A.in1 (wants Q₁ E) s)(G:∀obj L,Q₁ obj L->L.TypeIs obj T/\argsOk j %[obj::args|D]/\∃Z,Meets (Bi %[obj::args|D]) Z/\Z A.in1 (wants (λr s₂=>r=.none/\Q obj s₂) E) L):wpAny (model prog w) A (call (.type T) args D) Q E s:=by
 let(c,tl,hmro):=ft.mro;let Y:=ft.made;let hsub:=ft.sub;calc wl (codeAny_of_tree ?_);show wpAny _ _ (callAny (.type T) _) _ _ _;calc ae %[vE _ xz|iS F.entry_type_call ?_];rw[Around.under_plain (weight_type_call_type T args D) (units_type_call_type T args D)];let h1:=ft.notType;let h2:=ft.canCreate
 repeat (any_goals (first|assumption|wp_step))
 calc kP (uj ft.plain N (mS hcn (g prog w A.in1 _ s h))) λr L M=>?_;cases r with
 | error e=>show M
 | ok fl=>
  cases fl with
  | ret obj=>
   let(hT,hok,Z,gi,O):=G _ _ M;let hli:=ft.init.lookup;let hbi:=ft.init.bind obj
   repeat (any_goals (first|assumption|wp_step))
   calc kP (uj ft.init.plain B (ft.init.check _ _ _ _ _ _ _ _ hT hok (gi prog w A.in1 _ L O))) λr₂ s₂ J=>?_;cases r₂ with
   | error e=>show J
   | ok fl₂=>
    cases fl₂ with
    | ret r=>
     let(rfl,hq):=J
     repeat (any_goals (first|assumption|wp_step))
    | _=>show J.elim
  | _=>show M.elim
def Pq {x:Str}{t tk:Tok}{k:Nat}(hk:k<1000){Q:AB}(h:∀h',IsEnum h' (s.heap.objs.size+1) s.heap.objs.size k .none->h'.IsStrIter s.heap.objs.size (strIterType x) x t 0->h'.objs.size=s.heap.objs.size+2->
   (∀b o,s.heap.get? b=some o->h'.get? b=some o)->Q (.ref (s.heap.objs.size+1)) {s with heap:=h' }) :
  wpAny (model prog w) A (call (.type "enumerate") [.str x t] [(Str.ofString "start",.int (k:Int) tk)]) Q E s:=by
 refine Pn (Q₁:=λobj B=>B.TypeIs obj "enumerate"/\Q obj B) rh (JF _ _) (Ms _ _) F.entry_enumerate_new F.entry_object_init (ag0 x t k tk hk) ?_
  λobj _ q=>%[q.1,JG obj _ _,_,Gj rh.init.lookup rh.made xt,q.1,rb|q.2]
 let hz:(s.heap.push {cls:=.type (strIterType x),data:=.fields #[.str x t,.int 0 0]}).objs.size=s.heap.objs.size+1:=dE ..;show _/\_;rw[hz];let j:IsEnum ((s.heap.push {cls:=.type (strIterType x),data:=.fields #[.str x t,.int 0 0]}).push
   {cls:=.type "enumerate",data:=.fields #[.none,.bool false,.ref s.heap.objs.size,rawInt k,.none,.none]}) (s.heap.objs.size+1) s.heap.objs.size k .none:=by
  have:=aw (s.heap.push {cls:=.type (strIterType x),data:=.fields #[.str x t,.int 0 0]})
   (o:={cls:=.type "enumerate",data:=.fields #[.none,.bool false,.ref s.heap.objs.size,rawInt k,.none,.none]}) rfl
  rw[hz]at this;show this
 refine%[%[0,_,j|rb]|h _ j %[2,_,af _ (aw _ rb),rb|rb] (by rw[dE,hz]) λb o y=>af _ (af _ y)]
def Mt {M:Model}{E:AB}{env:Env}{T:String}{e:Expr}{rest:List Expr}{kws:List Keyword}{Q:AB}(h:wpAny M A (spliced (backTo pos (starEach (e::rest) env))) (λvs B=>wpAny M A (evalAll ((backToKw pos (keywordEach kws env)).map (·.2)))
   (λkvs F=>wpAny M A (call (.type T) vs (((backToKw pos (keywordEach kws env)).filterMap (·.1)).zip kvs)) Q E F) E B) E s)
  (G:backTo pos (starEach (e::rest) env)=(false,eval e env)::backTo pos (starEach rest env):=by rfl)
  (j:(backTo pos (starEach (e::rest) env)).any (·.1)=false:=by rfl)
  (q:(backToKw pos (keywordEach kws env)).all (·.1.isSome)=true:=by rfl)
  (D:(backToKw pos (keywordEach kws env)).any (·.1.isNone)=false:=by rfl) :
  wpAny M A (callWith pos (.type T) [] (backTo pos (starEach (e::rest) env)) (backToKw pos (keywordEach kws env))) Q E s:=by
 unfold callWith;rw[G]at h j ⊢;calc aa (eD (fm (evalArgs_kwB (f:=.type T) (Q:=λa B=>wpAny M A (call (.type T) ([]++a.pos) a.kw) Q E B) q h) (λa B J=>aa (sF ?_)) λ_ _ x=>x));simp only[j,D,qi];calc aa (ae ?_);show aa (fm J (λr F L=>aa (eD (wpAny_point (ae L)))) λ_ _ x=>x)
end
def afD (ta tk:TE):TI:=λI H R=>ta I H λx H1=>tk I H1 λy j=>∃(l:List Nat) (k:Nat),[x]=[V.str (S l)]/\[y]=[V.int (k:Int)]/\k<1000/\R (yE l k) j
section
variable {X:Cx}{elts:List Expr}{x1:Nat}{tp:Pos}
def aaj {a e:Expr}{ta tk:TE}{p pos kpos:Pos}(hg:Gl X "enumerate")(hm:X.mg "enumerate"=none)(ha:QE X a ta)(hk:QE X e tk)(hs:starEach [a] X.env=(false,eval a X.env)::starEach [] X.env:=by rfl)(M:backTo pos (starEach [a] X.env)=(false,eval a X.env)::backTo pos (starEach [] X.env):=by rfl)(D:(backTo pos (starEach [a] X.env)).any (·.1)=false:=by rfl)(j:(backToKw pos (keywordEach [%[some (Str.ofString "start"),e|kpos]] X.env)).all (·.1.isSome)=true:=by rfl)(G:(backToKw pos (keywordEach [%[some (Str.ofString "start"),e|kpos]] X.env)).any (·.1.isNone)=false:=by rfl)(N:(backToKw pos (keywordEach [%[some (Str.ofString "start"),e|kpos]] X.env)).filterMap (·.1)=[Str.ofString "start"]:=by rfl):QI X (.Tuple elts x1 tp) (.Call (.Name "enumerate" p) [a] [%[some (Str.ofString "start"),e|kpos]] pos) (afD ta tk):=⟨by
 intro ao s T H R I h;calc me (qg I hg hm boot_enumerate ?_ xt xt);let pa:=(ak ha au hs).out;let pk:=ab8 (nm:=some (Str.ofString "start")) (kpos:=kpos) hk.out aeI;calc Mt (bD (pa pos ao s T H (λvs H1=>tk T H1 λy B=>∃(l:List Nat) (k:Nat),vs=[V.str (S l)]/\[y]=[V.int (k:Int)]/\k<1000/\R (yE l k) B) I ?_) λus s1 ⟨vs,H1,I1,r1,q1⟩=>?_) M D j G;.show h
 .refine bD (pk pos ao s1 T H1 (λY B=>∃(l:List Nat) (k:Nat),vs=[V.str (S l)]/\Y=[V.int (k:Int)]/\k<1000/\R (yE l k) B) I1 ?_) λws s2 ⟨Y,B,I2,Z,q2⟩=>?_
  .show q1
  .let(l,k,rfl,rfl,L,q):=q2;let(u,rfl,t,rfl):=vals1 r1;let(u2,rfl,t2,rfl):=vals1 Z;rw[N];let F:strIterType (S l)="str_ascii_iterator"\/strIterType (S l)="str_iterator":=by unfold strIterType;split <;> simp
   calc Pq L λh' O J hsz hk=>oT O ?_;calc%[12,s2.heap.objs.size+1,[s2.heap.objs.size+1,s2.heap.objs.size],_,_,B,rb,I2.kept (t':=s2.toks) hk,Dl F l k t s2.heap.objs.size _,%[wt _,b8 _,%[_|O]|J],λb hb=>?_|q];rcases bd.mp hb with z|z
   .rw[z];show I2.nu (du _) (I2.hok.fresh (du _))
   .rw[am.mp z];show I2.nu (ah _) (I2.hok.fresh (ah _))⟩
end
def W_ {l:List Nat}{k:Nat}{g:TG}{tb:TS}{D:Ends}{I:St}{H:Hp}(j:Nat->St->Hp->Prop)(G:j 0 I H)(hs:∀i c I H T,l[i]?=some c->j i I H->H T=none->g (.ref T) I (upd H T (.tup [.int ((k+i:Nat):Int),.str (S [c])])) λI2 B=>tb {D with nx:=j (i+1),ct:=j (i+1),bk:=D.nx} I2 B)(hd:∀I H,j l.length I H->D.nx I H):Fj (yE l k) g tb D I H:=SX l.length j G (λi I H h p=>%[h|λx H' y=>by let(T,c,q,rfl,F,rfl):=y;show hs i c I _ T F p q]) λI H p=>%[ah _|hd I H p]
end L2
namespace L2
open PySem PySem.Spec PyProof.Rows PySem.W
section
variable {prog:Program}{w:World}{A:Around}{E:AB}{s:Shared}{z ti to u v a:Addr}{i:Nat}{f:Array Value}{x y m n:Value}
def Xa {nv:Nat}{PV:Nat->Value->Prop}{O:Nat->Heap->Prop}(Z:Draws prog w A v [v] nv PV O){Q:AB}(D:ZA z ti to u v a a)(hz:IsZip s.heap z ti to .none)(hi:IsPair s.heap ti (.ref u) (.ref v))(ho:IsPair s.heap to m n)(hu:s.heap.IsListIter u a i)(hv:O i s.heap)(ha:s.heap.IsList a f)(hx:f[i]?=some x)(hlt:i<nv)(q:∀y h' tk,PV i y->IsZip h' z ti to (rawInt s.heap.objs.size)->IsPair h' to x y->h'.IsListIter u a (i+1)->O (i+1) h'->IsPair h' s.heap.objs.size x y->
   (∀c o,c≠z->c≠to->c≠u->c≠v->s.heap.get? c=some o->h'.get? c=some o)->Q (.ref s.heap.objs.size) {s with heap:=h',toks:=tk}) :
  wpAny (model prog w) A (Builtin.«zip.__next__» %[[.ref z]|[]]) (λfin s'=>∃r,fin=.done (.ret r)/\Q r s') E s:=by
 show wpAny _ _ (field (.ref z) 2 >>= _) _ _ _;walk_at"i";calc aa ?_;unfold Builtin.SmallTypes.ownedTupleIsFree;calc aa (f8 hz rb (x:=.none) rb (ae ?_));simp only[if_true];calc aa (gT (aa (f8 hz rb (x:=.ref to) rb (aa (ox hz xp λg1 z1 F=>?_)))));replace z1:IsZip g1 z ti to .ellipsis:=z1;calc aa ?_;simp only[wx,List.zipIdx_nil,iP,xl];calc aa (aa (wpAny_onRaise ?_));show wpAny _ _ (Builtin.SmallTypes.nextOf (.ref u) >>= _) _ _ _;calc aa (wpAny_nextOf_list_item (hu.at λo e=>F.extBut _ o D.q3 e) (Heap.IsList.at ha λo e=>F.extBut _ o D.p2 e) hx λg2 u2 G=>ae ?_);let o2:IsPair g2 to m n:=G.extBut _ _ D.q8 (F.extBut _ _ D.q2 ho);calc aa (ge o2 rb (aa (wpAny_updateSeq_pair o2 λg3 o3 M=>?_)));replace o3:IsPair g3 to x n:=o3;calc aa (wpAny_letGo (ae ?_));calc aa (aa (wpAny_onRaise ?_));show wpAny _ _ (Builtin.SmallTypes.nextOf (.ref v) >>= _) _ _ _;calc aa (Z.item i _ _ _ hlt (Z.frame _ _ _ hv λc N o e=>by rw[am.mp N]at e ⊢;show M.extBut _ o D.q9.symm (G.extBut _ o D.p1.symm (F.extBut _ o D.q4 e))) λy g4 tk hpy v4 J=>ae ?_);let o4:IsPair g4 to x n:=J.extBut _ _ D.q9 o3;calc aa (ge o4 rb (aa (wpAny_updateSeq_pair o4 λj o5 L=>?_)));replace o5:IsPair j to x y:=o5;calc aa (wpAny_letGo (ae (ae ?_)));calc aa (ge o5 rb (aa (vv ?_)));let sz:j.objs.size=s.heap.objs.size:=by rw[L.1,J.1,M.1,G.1,F.1]
 let z5:IsZip j z ti to .ellipsis:=L.extBut _ _ D.q2.symm (J.extBut _ _ D.q4.symm (M.extBut _ _ D.q2.symm (G.extBut _ _ D.q3.symm z1)));let kk:∀c o,c≠z->c≠to->c≠u->c≠v->s.heap.get? c=some o->j.get? c=some o:=λc o B c2 c3 c4 e=>L.extBut _ _ c2 (J.extBut _ _ c4 (M.extBut _ _ c2 (G.extBut _ _ c3 (F.extBut _ _ B e))));let u5:j.IsListIter u a (i+1):=u2.at λo e=>L.extBut _ o D.q8.symm (J.extBut _ o D.p1 (M.extBut _ o D.q8.symm e));let v5:O (i+1) j:=Z.frame _ _ _ v4 λc N o e=>by rw[am.mp N]at e ⊢;show L.extBut _ o D.q9.symm e
 let lz:z<j.objs.size:=a7 z5;show wpAny _ _ (Builtin.SmallTypes.ownedTupleHandOut (.ref z) (.ref j.objs.size) >>= _) _ _ _;calc aa ?_;unfold Builtin.SmallTypes.ownedTupleHandOut;let z6:IsZip (j.push {cls:=.type "tuple",data:=.seq #[x,y]}) z ti to .ellipsis:=af _ z5;calc aa (ox z6 xp λg7 z7 k7=>?_);replace z7:IsZip g7 z ti to (rawInt j.objs.size):=z7;refine ox z7 xp λg8 Y k8=>?_
 replace Y:IsZip g8 z ti to (rawInt j.objs.size):=Y;let up:∀c o,c≠z->j.get? c=some o->g8.get? c=some o:=λc o B e=>k8.extBut _ _ B (k7.extBut _ _ B (af _ e));let t8:IsPair g8 j.objs.size x y:=k8.extBut _ _ (g9 lz) (k7.extBut _ _ (g9 lz) (aw _ rb));rw[sz]at Y t8;calc ae %[0,_,rb|?_];show Q (.ref j.objs.size) _;rw[sz];show q y g8 tk hpy Y (up _ _ D.q2 o5) (u5.at λo e=>up _ o D.q3 e) (Z.frame _ _ _ v5 λc N o e=>by rw[am.mp N]at e ⊢;show up _ o D.q4 e) t8 λc o B c2 c3 c4 e=>up c o B (kk c o B c2 c3 c4 e)
def aak (N:A.handled=none)(D:ZA z ti to u v a a)(hz:IsZip s.heap z ti to .none)(hi:IsPair s.heap ti (.ref u) (.ref v))(O:s.heap.IsListIter u a i)(ha:s.heap.IsList a f)(hx:f[i]?=none)(q:∀h' e,(∀c o,c≠z->c≠to->c≠u->c≠v->s.heap.get? c=some o->h'.get? c=some o)->(∃o,h'.get? e=some o/\o.cls=.type "StopIteration")->E (.ref e) {s with heap:=h' }):wpAny (model prog w) A (Builtin.«zip.__next__» %[[.ref z]|[]]) Q E s:=by
 show wpAny _ _ (field (.ref z) 2 >>= _) _ _ _;walk_at"i";calc aa ?_;unfold Builtin.SmallTypes.ownedTupleIsFree;calc aa (f8 hz rb (x:=.none) rb (ae ?_));simp only[if_true];calc aa (gT (aa (f8 hz rb (x:=.ref to) rb (aa (ox hz xp λg1 B j=>?_)))));replace B:IsZip g1 z ti to .ellipsis:=B;calc aa ?_;simp only[wx,List.zipIdx_nil,iP,xl];calc aa (aa (wpAny_onRaise ?_));show wpAny _ _ (Builtin.SmallTypes.nextOf (.ref u) >>= _) _ _ _;calc aa (wpAny_nextOf_list_end N (O.at λo e=>j.extBut _ o D.q3 e) (Heap.IsList.at ha λo e=>j.extBut _ o D.p2 e) hx λZ e F M=>?_);let(oe,e1,e2):=M;let J:IsZip Z z ti to .ellipsis:=F _ _ D.q3.symm B;let ez:e≠z:=λt=>by subst t;rw[J]at e1;cases e1;simp at e2
 show ox J xp λg3 _ G=>q g3 e (λc o L _ Y _ t=>G.extBut _ _ L (F _ _ Y (j.extBut _ _ L t))) %[0,oe,G.extBut _ _ ez e1|e2]
abbrev zm2 (h:Heap)(a:Addr)(x:Str)(t:Tok):Heap:=(zl1 h a).push {cls:=.type (strIterType x),data:=.fields #[.str x t,.int 0 0]}
abbrev zm3 (h:Heap)(a:Addr)(x:Str)(t:Tok):Heap:=(zm2 h a x t).push {cls:=.type "tuple",data:=.seq #[.ref h.objs.size,.ref (zl1 h a).objs.size]}
abbrev zm4 (h:Heap)(a:Addr)(x:Str)(t:Tok):Heap:=(zm3 h a x t).push {cls:=.type "tuple",data:=.seq #[.none,.none]}
abbrev Ru (h:Heap)(a:Addr)(x:Str)(t:Tok):Heap:=(zm4 h a x t).push {cls:=.type "zip",data:=.fields #[.none,.bool false,.bool false,.ref (zm2 h a x t).objs.size,.ref (zm3 h a x t).objs.size]}
def acZ (a)(x)(t:Tok)(f):Meets (Builtin.«zip.__new__» %[[.type "zip",.ref a,.str x t]|[]]) (λ_ R s=>s.heap.IsList a f/\R (.ok (.ret (.ref (zm4 s.heap a x t).objs.size))) {s with heap:=Ru s.heap a x t}):=
 .of_wp λprog w A R s h=>by
  let(hp,q,d,tk,os):=s;let(h1,h):=h;let j:=sub_zip;let B:Heap.IsList (Shared.heap %[hp,q,d,tk|os]) a f:=h1
  wp_walk using oI B,oQ
  show%[0,_,rb|h]
def ahL {x:Str}(ha:s.heap.IsList a f)(q:∀h',IsZip h' (s.heap.objs.size+4) (s.heap.objs.size+2) (s.heap.objs.size+3) .none->IsPair h' (s.heap.objs.size+2) (.ref s.heap.objs.size) (.ref (s.heap.objs.size+1))->IsPair h' (s.heap.objs.size+3) .none .none->
   h'.IsListIter s.heap.objs.size a 0->h'.IsStrIter (s.heap.objs.size+1) (strIterType x) x t 0->(∀c o,s.heap.get? c=some o->h'.get? c=some o)->Q (.ref (s.heap.objs.size+4)) {s with heap:=h' }) :
  wpAny (model prog w) A (call (.type "zip") [.ref a,.str x t]) Q E s:=by
 calc callType_new F.called_zip xt (F.typeCall_zip_2 _ _) (F.newCall_zip_2 _ _) (λobj=>F.args_object_init_3 obj _ _) F.entry_zip_new (acZ a x t f) %[ha|?_];let D:(zl1 s.heap a).objs.size=s.heap.objs.size+1:=dE ..;let B:(zm2 s.heap a x t).objs.size=s.heap.objs.size+2:=by rw[dE,D]
 let j:(zm3 s.heap a x t).objs.size=s.heap.objs.size+3:=by rw[dE,B]
 let G:(zm4 s.heap a x t).objs.size=s.heap.objs.size+4:=by rw[dE,j]
 let e5:(Ru s.heap a x t).get? (zm4 s.heap a x t).objs.size=some _:=aw _ rfl;let e4:(Ru s.heap a x t).get? (zm3 s.heap a x t).objs.size=some _:=af _ (aw _ rb);let e3:(Ru s.heap a x t).get? (zm2 s.heap a x t).objs.size=some _:=af _ (af _ (aw _ rb));let e2:(Ru s.heap a x t).get? (zl1 s.heap a).objs.size=some _:=af _ (af _ (af _ (aw _ rb)));let e1:(Ru s.heap a x t).get? s.heap.objs.size=some _:=af _ (af _ (af _ (af _ (aw _ rb))));show _/\_;rw[B,j,G]at e5;rw[D,B]at e3;rw[j]at e4;rw[D]at e2;rw[G];show%[%[0,_,e5|rb]|q _ e5 e3 e4 %[2,_,e1,rb|rb] %[2,_,e2,rb|rb] λc o t=>af _ (af _ (af _ (af _ (af _ t))))]
end
def Uh (K:W.Frag)(a:Addr)(l:List Nat):It:=%[λi H=>∃xs x,aN K H a xs/\xs[i]?=some x/\i<l.length,λi H t H'=>∃T x c,H T=none/\t=.ref T/\(∀xs,aN K H a xs->xs[i]?=some x)/\l[i]?=some c/\H'=upd H T (.tup [x,.str (S [c])])|λi H=>∃xs,aN K H a xs/\xs.length<=i]
def Xb {P:Program}{w:World}{K:W.Frag}{elts:List Expr}{x1:Nat}{pos:Pos}{z ti to u v a:Addr}{ty:String}(Z:ty="str_ascii_iterator"\/ty="str_iterator")(l:List Nat)(t:Tok)(D:ZA z ti to u v a a):Turn P w K (.Tuple elts x1 pos) (Uh K a l) [z,ti,to,u,v] z (λi h=>IsZip h z ti to .none/\IsPair h ti (.ref u) (.ref v)/\(∃m n,IsPair h to m n)/\h.IsListIter u a i/\h.IsStrIter v ty (S l) t i) where
 mem:=by simp
 obj:=λi h st c j=>by
  let(h1,B,(m,n,L),(o4,G,_,d4),(o5,J,_,d5)):=st;simp only[bd,ic,or_false]at j;rcases j with e|e|e|e|e <;> subst e
  .show%[0,_,h1|λv y=>by cases y]
  .show%[0,_,B|λv y=>by cases y]
  .show%[0,_,L|λv y=>by cases y]
  .show%[0,o4,G|λv y=>by rw[d4]at y;cases y]
  .show%[0,o5,J|λv y=>by rw[d5]at y;cases y]
 keep:=λi h h' st k=>by let(h1,B,(m,n,L),G,o,J,r):=st;show%[57,k z xp _ h1,k ti xp _ B,%[6,m,n|k to xp _ L],G.at λo e=>k u xp o e,o,k v xp o J|r]
 item:=by
  intro X hP hw hK j i ao s C H E I hf st hg;subst hP hw hK;let(h1,B,(m,n,L),G,J):=st;let(xs,x,q,hx,hil):=hg;let(fs,rf,pf,_):=I.list q;let(p,ep,rp):=rf.get hx;let lt:∀c∈[z,ti,to,u,v],c<s.heap.objs.size:=λc j=>by
   simp only[bd,ic,or_false]at j;rcases j with e|e|e|e|e <;> subst e
   .show a7 h1
   .show a7 B
   .show a7 L
   .let(o,e,_):=G;show a7 e
   .let(o,e,_):=J;show a7 e
  let N:s.TypeIs (.ref z) "zip":=%[0,_,h1|rb]
  let Y:X.A.in1.handled=none:=by simp[I.ok.hd j]
  let O:∀(DV:Draws X.prog X.w X.A.in1 v [v] (S l).cps.size (λi w=>∃c u,(S l).cps[i]?=some c/\w=.str ⟨#[c]⟩ u) (λi h=>h.IsStrIter v ty (S l) t i)),
    wpAny (model X.prog X.w) X.A (pyNext (.ref z)) (λr s1=>∃u1,r=some u1/\wpAny (model X.prog X.w) X.A (letOwnedTupleGo (.Tuple elts x1 pos) (.ref z) u1) (λ_ s2=>∃x H',aL X ao C H' s2/\bG x u1/\(Uh X.K a l).Hy i H x H'/\(IsZip s2.heap z ti to .none/\IsPair s2.heap ti (.ref u) (.ref v)/\(∃m n,IsPair s2.heap to m n)/\s2.heap.IsListIter u a (i+1)/\s2.heap.IsStrIter v ty (S l) t (i+1))/\∀b∈[z,ti,to,u,v],H' b=none) E s1) E s:=by
   intro DV;calc cj ?_;unfold pyNext;calc aa (kg (dL (name:=Str.ofString "__next__") N uk (c9 uk N F.entry_zip_next ?_ (F.args_zip_next_1 _))));refine Xa DV D h1 B L G J (show s.heap.IsList a fs.toArray from pf.isList) (x:=p) (by simpa using ep) (by simpa [S] using hil) λy h' tk hPy k1 k2 k3 k4 k5 k6=>ae λht=>?_
   replace ht:s.toks<=tk:=ht;let(c,ut,hcl,rfl):=hPy;calc%[0,_,rb|wpAny_letOwnedTupleGo_zip k1 λh2' e2 M=>?_];let up:∀c o,c∉[z,ti,to,u,v]->s.heap.get? c=some o->h2'.get? c=some o:=λc o j e=>by simp only[bd,ic,or_false,not_or]at j;show M.extBut _ _ j.1 (k6 c o j.1 j.2.2.1 j.2.2.2.1 j.2.2.2.2 e)
   let nz:s.heap.objs.size≠z:=g9 (lt z xp);let(I3,fr):=aL.agN (y:=.str (S [c])) (tk:=tk) I hf lt rp %[ut|rb] (M.extBut _ _ nz k5) up;let(o5,k4,r5):=k4;show%[18,.ref s.heap.objs.size,_,I3,rb,%[15,s.heap.objs.size,x,c,I.hok.fresh (ah _),rb,λzs hz=>by rw[I.Kw hz q];show hx,by simpa [S] using hcl|rb],
    %[57,e2,M.extBut _ _ D.q1 (k6 _ _ D.q1 D.q5 D.q6 D.q7 B),%[6,_,_|M.extBut _ _ D.q2 k2],k3.at λo e=>M.extBut _ o D.q3 e,o5,M.extBut _ _ D.q4 k4|r5]|fr]
  rcases Z with rfl|rfl;.show O (Draws.strAscii Y v (S l) t)
  .show O (Draws.strWide Y v (S l) t)
 done:=by
  intro X hP hw hK j i ao s C H E I hf st hg;subst hP hw hK;let(h1,B,(m,n,L),G,J):=st;let(xs,q,hl):=hg;let(fs,rf,pf,_):=I.list q;let bM:=rf.length;let Y:X.A.in1.handled=none:=by simp[I.ok.hd j]
  let N:s.TypeIs (.ref z) "zip":=%[0,_,h1|rb]
  unfold pyNext;calc aa (kg (dL (name:=Str.ofString "__next__") N uk (c9 uk N F.entry_zip_next ?_ (F.args_zip_next_1 _))));calc aak Y D h1 B G (show s.heap.IsList a fs.toArray from pf.isList) (by simp;simp_all) λh' e k zz=>?_;let(o,e1,e2):=zz;calc aa (ib (T:="StopIteration") (b:=true) %[0,o,e1|e2] isSubtype_stop ?_);calc ae %[rb|aL.FP (fp:=[z,ti,to,u,v]) (t':=s.toks) I (λc o j e=>?_) hf];simp only[bd,ic,or_false,not_or]at j;show k c o j.1 j.2.2.1 j.2.2.2.1 j.2.2.2.2 e
 self:=λA i s Q E st h=>wpAny_pyIter_zip st.1 h
section
variable {X:Cx}{elts:List Expr}{x1:Nat}{tp:Pos}
def ag1 (K:W.Frag)(ta:TA):TI:=λT H R=>ta T H λvs H1=>∃a l,vs=[.ref a,.str (S l)]/\(∃xs,aN K H1 a xs)/\R (Uh K a l) H1
def ac0 {a b:Expr}{ta:TA}{p pos:Pos}(hg:Gl X "zip")(hm:X.mg "zip"=none)(ha:QA X [a,b] ta)(hs:starEach [a,b] X.env=[(false,eval a X.env),(false,eval b X.env)]:=by rfl)(B:starEach [b] X.env=[(false,eval b X.env)]:=by rfl):QI X (.Tuple elts x1 tp) (.Call (.Name "zip" p) [a,b] [] pos) (ag1 X.K ta):=⟨by
 intro ao s T H R I h;calc Call_ (qg I hg hm Wk (iO (bD (ha.out pos ao s T H _ I h) λus s1 zz=>?_) (by rw[hs,B]) (by rw[B];rfl)));let(vs,H1,I1,r1,q1):=zz;let(a,l,e,(xs,J),q):=q1;subst e;cases r1 with
 | cons r rr=>
  cases rr with
  | cons r' rr=>
   cases rr;cases r;let(t,rfl):=r';let(fs,rf,O,_):=I1.list J;let L:a<s1.heap.objs.size:=by
    let(o,ho,_):=(show s1.heap.IsList a fs.toArray from O.isList)
    show a7 ho
   let G:strIterType (S l)="str_ascii_iterator"\/strIterType (S l)="str_iterator":=by unfold strIterType;split <;> simp
   calc ahL (show s1.heap.IsList a fs.toArray from O.isList) λh' M Z k3 k4 k5 kk=>wpAny_pyIter_zip M ?_;let D:ZA (s1.heap.objs.size+4) (s1.heap.objs.size+2) (s1.heap.objs.size+3) s1.heap.objs.size (s1.heap.objs.size+1) a a:=by
    let j:∀N a b:Nat,a<N->b<N->ZA (N+4) (N+2) (N+3) N (N+1) a b:=λN a b L lb=>by constructor <;> (show (_:Nat)≠_) <;> lia
    show j _ _ _ L L
   calc%[12,s1.heap.objs.size+4,[s1.heap.objs.size+4,s1.heap.objs.size+2,s1.heap.objs.size+3,s1.heap.objs.size,s1.heap.objs.size+1],_,_,H1,rb,I1.kept (t':=s1.toks) kk,Xb G l t D,%[M,Z,%[6,_,_|k3],k4|k5],λc Y=>?_|q];let F:s1.heap.objs.size<=c:=by
    simp only[bd,ic,or_false]at Y;let j:∀N c:Nat,(c=N+4\/c=N+2\/c=N+3\/c=N\/c=N+1)->N<=c:=λN c h=>by lia
    show j _ _ Y
   show I1.nu F (I1.hok.fresh F)⟩
end
def afE {K KT:W.Frag}{a:Addr}{xs:List V}{l:List Nat}{f:St->St}{tt:TT}(M:xs.length=l.length){D:Addr}{te:TE}{I:St}{H:Hp}{R:Hp->Prop}(j:Nat->List V->Hp->Prop)(J:j 0 [] (upd H D (.lst [])))(B:∀i ys H,i<=xs.length->j i ys H->aN K H a xs)(hs:∀i x c ys H T,xs[i]?=some x->l[i]?=some c->j i ys H->H T=none->uc xs.length i D (λv H Q=>∃a p q,v=.ref a/\aV KT H a [p,q]/\Q [some p,some q]) f I tt te (.ref T) (upd H T (.tup [x,.str (S [c])])) ys (j (i+1)))(hd:∀ys H,j xs.length ys H->R H):qC (Uh K a l) D H R (yp (λv H Q=>∃a p q,v=.ref a/\aV KT H a [p,q]/\Q [some p,some q]) f I tt te):=Bo xs.length j J (λi ys H h p=>%[%[1,xs,xs[i],B i ys H (av h) p,by simp[h]|M ▸ h]|λx H' y=>by let(T,x,c,F,rfl,hx,G,rfl):=y;show hs i x c ys H T (hx xs (B i ys H (av h) p)) G p F]) λys H p=>%[%[0,xs,B _ ys H (ah _) p|ah _]|hd ys H p]
section
variable {I:Type}[DecidableEq I]
noncomputable def sO (ys:List (I×Addr×V))(k:I)(b:Addr)(v:V):List (I×Addr×V):=if (Bw ys k).isSome=true then ys.map (λy=>if y.1=k then (y.1,y.2.1,v) else y) else ys++[(k,b,v)]
theorem Mx.putAt (h:bG v r):∀{ys:List (I×Addr×V)} {xs:List (I×Addr×Value)},Mx ys xs->Mx (ys.map λy=>if y.1=k then (y.1,y.2.1,v) else y) (xs.map (PySem.putAt k r))
 | _,_,.nil=>.nil
 | _,_,.cons (a:=p) (b:=q) hp t=>by
  calc .cons ?_ (Mx.putAt h t);unfold PySem.putAt;dsimp only;by_cases e:p.1=k
  .rw[if_pos e,if_pos (hp.1.symm.trans e)];show%[hp.1,hp.2.1|h]
  .rw[if_neg e,if_neg λz=>e (hp.1.trans z)];show hp
def Mx.put {ys:List (I×Addr×V)}{xs:List (I×Addr×Value)}{k:I}{v:V}(m:Mx ys xs)(h:bG v r):Mx (sO ys k b v) (storedH xs k b r):=by
 let j:=m.val k;unfold sO storedH;cases e1:Bw ys k with
 | none=>
  cases e2:atKey xs k with| none=>simp only[Option.isSome_none,a9,if_false];show m.snoc %[rb,rb|h]| some p=>rw[e1,e2]at j;show j.elim
 | some u=>
  cases e2:atKey xs k with| none=>rw[e1,e2]at j;show j.elim| some p=>simp only[Option.isSome_some,if_true];show m.putAt h
def Mu (ys:List (I×Addr×V))(k:I)(b)(v):(sO ys k b v).length<=ys.length+1:=by
 unfold sO;split;.rw[ab];lia
 .simp
def aal {ys:List (I×Addr×V)}{k:I}{v:V}:∀y∈sO ys k b v,(∃z∈ys,z.1=y.1/\z.2.1=y.2.1)\/(y.1=k/\y.2.1=b):=λy j=>by
 unfold sO at j;split at j
 .let(z,hz,e):=aI.mp j;calc .inl %[0,z,hz|?_];split at e <;> (subst e;show%[rb|rb])
 .rcases a6.mp j with h|h;.show .inl %[2,y,h,rb|rb]
  .rw[am.mp h];show .inr %[rb|rb]
def Xc (x:I):x∈(sO ys k b v).map (·.1)↔x∈ys.map (·.1)\/x=k:=by
 let hs:(Bw ys k).isSome=true↔k∈ys.map (·.1):=by
  unfold Bw;rw[wa,List.find?_isSome,aI];constructor;.intro z;let(y,h1,j):=z;show%[0,y,h1|iL j]
  .intro z;let(y,h1,j):=z;show%[0,y,h1|ap j]
 unfold sO;split
 .rename_i h;let e:(ys.map λy=>if y.1=k then (y.1,y.2.1,v) else y).map (·.1)=ys.map (·.1):=by
   rw[cn];calc de λy _=>?_;show (if y.1=k then (y.1,y.2.1,v) else y).1=y.1
   split <;> rfl
  rw[e];show%[.inl|λz=>z.elim id λe=>e ▸ hs.mp h]
 .rw[bE,a6];simp
end
section
variable {X:Cx}{C:Type}[DecidableEq C]
def abJ {C:Type} [DecidableEq C] (hf:C->Int)(lies:Hp->Addr->C->Prop)(td ty tv:TE):TS:=λD T H=>tv T H λv H1=>td T H1 λx q=>ty T q λy j=>∃a ys b k,x=.ref a/\j a=some (MD hf a ys)/\(∀y∈ys,lies j y.2.1 y.1)/\y=.ref b/\lies j b k/\ys.length<sizeLine/\
 D.nx T (upd j a (MD hf a (sO ys k b v)))
def ac1 (j:Kd X.prog X.w C){pos pos':Pos}(Z:X.A.units+1+j.vk.deep<cLine+1)(ho:QE X o td)(hi:QE X i ty)(hv:QE X value tv)(hs:swapsWith value (some (.Subscript o i pos')) pos.line X.env=pure false):QS X (.Assign [.Subscript o i pos'] value pos) (abJ j.vk.hash j.lies td ty tv):=⟨by
 intro ao s T H D I h;calc wpAny_Assign_Subscript (bD (hv.out ao s T H _ I h) λr s1 h1=>?_) hs;let(v,H1,I1,Y,q1):=h1;calc bD (ho.out ao s1 T H1 _ I1 q1) λu s2 O=>?_;let(x,H2,I2,rx,q2):=O;calc bD (hi.out ao s2 T H2 _ I2 q2) λiv s3 h3=>?_;let(y,H3,G,ry,a,ys,b,k,ex,L,hk,ey,hb,l,q3):=h3;subst ex ey;obtain rfl:u=Value.ref a:=rx;obtain rfl:iv=Value.ref b:=ry;let(hz,hd,hn,xs,q,N):=acG j G.hok L hk;calc wpAny_setItem_heap (knd:=abF j.vk j.small) Z (j.ok G.hok hb) N (λh' M B=>?_) (by rw[<-q.length];show hz);let F:=q.put (k:=k) (b:=b) Y;let(J,es,ep,p1,p2,p3,p4,_,p6):=M;refine%[3,T,_,Ft G (by rw[L];show True.intro) B %[J|p1] (Wx %[62,ay (Mu _ _ _ _) l,hd,by rw[F.keys];show p6,_,F,J,es,ep,p1,p2,p3|p4])|q3]⟩
def Xd {C:Type} [DecidableEq C] (hf:C->Int):List V->Hp->VK->Prop:=λxs H Q=>∃(a:Addr) (ys:List (C×Addr×V)),xs=[.ref a]/\H a=some (MD hf a ys)/\((ys.map (·.1)).Nodup->∀(p:Addr),H p=none->Q (.ref p) (upd H p (.lst (ys.map λy=>V.ref y.2.1))))
def ac2 {ys:List (C×Addr×V)}{xs:List (C×Addr×Value)}(m:Mx ys xs):(ys.map λy=>y.2.1)=xs.map λx=>x.2.1:=by
 induction m with| nil=>rfl| cons h t ih=>rw[b9,b9,h.2.1,ih]
def Ui (hf:C->Int)(hc:X.calm=true):d8 X (.type "list") (Xd hf):=by
 walk_at"g";let(a,ys,rfl,e,q):=h;let(u,rfl,M):=vals1 r;cases M;let(z,lo,nd,xs,F,o,es,ep,h1,O,h3,L):=abG I.hok e;let hsz:es.size=xs.length:=by rw[<-bq,L,ab]
 let bM:=F.length;calc cj (kdl_call (acw lo es ep) (I.ok.hd hc) %[2,o,h1,O|h3] (by rw[hsz,<-bM];show z) λh' tk D Z hk Y B ht=>?_);let ea:D.toList=(xs.map λx=>x.2.1).map Value.ref:=by
  apply iA;intro j;by_cases J:j<xs.length
  .let G:j<D.size:=by rw[B.1,hsz];show J
   let(z1,e1,e2):=B.2 j D[j] (by simp[G]);let e3:es.toList[j]?=some z1:=by rw[ck];show e1
   rw[L,bb,ag J]at e3;let e3:=bg e3;subst e3;rw[ck,b6 G,e2];simp[J]
  .rw[eC (by rw[bq,B.1,hsz];show lS J),eC (by simp;lia)]
 let N:(ys.map λy=>V.ref y.2.1)=(xs.map λx=>x.2.1).map V.ref:=by rw[<-ac2 F,cn];rfl
 refine%[1,.ref s.heap.objs.size,_,I.laid (o:=.lst (ys.map λy=>V.ref y.2.1)) (t':=tk) hk (ah _) %[24,by rw[ab];show z,D.toList,Z,by rw[ea,N];show uf _|by simpa using Y],rb|q nd _ (I.hok.fresh (ah _))]
end
def Mv (H:Hp)(b:Addr)(ts:List T3):Prop:=ts≠[]/\∃bs:List Addr,H b=some (.tup (bs.map V.ref))/\Paired (λ(p:Addr) (t:T3)=>H p=some (.tup [.int t.1,.int t.2.1,.str (S [t.2.2])])) bs ts
section
variable {P:Program}{w:World}{H:Hp}{h:Heap}
variable {X:Cx}
def ag2 (ok:gK P w H h){t:T3}(e:H p=some (.tup [.int t.1,.int t.2.1,.str (S [t.2.2])])):(tupK (pW (cX P w))).is h [Sum.inl (t.1:Int),Sum.inl (t.2.1:Int),Sum.inr (S [t.2.2])] (.ref p):=by
 let(_,its,r,o,h1,j,n,q):=(show cZ P w H h p (.tup _) from ok p _ e)
 cases r with
 | @cons _ u1 _ _ r1 r=>
  cases r with
  | @cons _ u2 _ _ r2 r=>
   cases r with| @cons _ u3 _ _ r3 r=>cases r;let(F,rfl):=r1;let(D,rfl):=r2;let(B,rfl):=r3;show%[p,o,n,_,rb,h1,j,q,Aa,Aa,Rn|trivial]
theorem Xe (ok:gK P w H h):∀{ps:List Addr} {ts:List T3} {us:List Value},Paired (λ(p:Addr) (t:T3)=>H p=some (.tup [.int t.1,.int t.2.1,.str (S [t.2.2])])) ps ts->Vals (ps.map V.ref) us->jH (tupK (pW (cX P w))) h (iC ts) us
 | _,_,_,.nil,.nil=>trivial
 | _,_,_,.cons e t,.cons r v=>by cases r;show%[ag2 ok e|Xe ok t v]
def afG (ok:gK P w H h)(m:Mv H b ts):(yM P w).is h (iC ts) (.ref b):=by
 let(ne,bs,e1,e2):=m;let(_,its,r,o,h1,q,n,B):=(show cZ P w H h b (.tup _) from ok b _ e1)
 calc%[%[25,b,o,n,its.toArray,rb,h1,q,B|by simpa using Xe ok e2 r],λz=>ne (vj.mp z)|λt j=>?_];let(u,_,rfl):=aI.mp j;show%[10,_,_,_|rb]
def pK (H:Hp)(b:Addr)(k:sH):Prop:=∃ts,k=iC ts/\Mv H b ts
def ag3 (P:Program)(w:World):Kd P w sH:=%[yM P w,(by decide:(2:Nat)<=8),pK|λok ⟨ts,e,m⟩=>e ▸ afG ok m]
def rA (w:World)(k:sH):Int:=reduceHash (Builtin.Tuple.tupleHashOf (k.map λq=>reduceHash (Builtin.Tuple.tupleHashOf (q.map (ad0 w)))))
def Xf (w)(hw:X.w=w:=by rfl):QE X (.Dict [] [] pos) (Wy (rA w)):=Z6 _
def Xg (w){pos pos':Pos}(q:X.A.units+64<cLine)(j:QE X o td)(hi:QE X i ty)(hv:QE X value tv)(hs:swapsWith value (some (.Subscript o i pos')) pos.line X.env=pure false)(hw:X.w=w:=by rfl):QS X (.Assign [.Subscript o i pos'] value pos) (abJ (rA w) pK td ty tv):=by subst hw;show ac1 (ag3 X.prog X.w) (show X.A.units+1+2<cLine+1 by lia) j hi hv hs
def Pr (w)(j:X.calm=true)(hw:X.w=w:=by rfl):d8 X (.type "list") (Xd (rA w)):=Ui _ j
end
end L2
namespace L2
open PySem PySem.Spec PyProof.Rows
def TkO (o:Obj)(x:Str)(t:Nat):Prop:=∃us n,o.data=.seq us n/\Value.str x t∈us
def aam (H:Hp)(x:Str)(t:Nat):Prop:=∃b o u,H b=some (.iY o u)/\TkO o x t
def qY.tok (h:qY o n)(k:TkO o x t):0<t/\t<n:=by let(us,m,e,z):=k;unfold qY at h;rw[e]at h;show h x t z
def aam.good {X:Cx}{ao:AC}{T:St}{H:Hp}{s:Shared}{x:Str}{t:Nat}(k:aam H x t)(I:aL X ao T H s):0<t/\t<s.toks:=by let(b,o,u,h,k):=k;show qY.tok (I.gh.2 b _ h) k
section
variable {X:Cx}{pos:Pos}
def tWk (t:TE):TE:=λT H Q=>t T H λv H1=>Q (uR v) H1
def Kl (h:QE X e t):QE X e (tWk t):=⟨λao s T H Q I q=>bD (h.out ao s T H _ I q) λv s1 ⟨x,H1,I1,r1,q1⟩=>%[1,uR x,H1,I1,r1.weak|q1]⟩
def ag4 (l:List Nat):TE:=λ_ H Q=>∀k,0<k->(∀x t,aam H x t->0<t/\t<k)->Q (.sx (S l) k) H
def ac3 (l){j}(q:y=S l):QE X (.Constant (.str y) j pos) (ag4 l):=⟨λao s T H Q I h=>by subst q;show g6 %[1,.sx (S l) s.toks,H,I.tok _,rb|h _ I.gh.1 λx t k=>k.good I]⟩
def Mw:rM X "str.replace" (λx vs H Q=>∃(l:List Nat) (c k B:Nat),x=.str (S l)/\vs=[.sx (S [c]) k,.sx (S []) B,.int 1]/\c∈l/\l.length<=1000/\0<k/\k<B/\Q (.str (S (l.erase c))) H):=by
 intro ao s T H x vs v us Q I Z j h;let(l,c,k,B,rfl,rfl,Y,N,L,D,q):=h;let(J,rfl):=Z;cases j with
 | cons r1 j=>
  cases j with
  | cons r2 j=>
   cases j with
   | cons r3 j=>
    cases j;cases r1;cases r2;let(t3,rfl):=r3;let(i,G,O):=Mr l c Y;refine call_gives F.slot_str_replace (typeIs_str _ _ J) F.entry_str_replace (F.args_str_replace_4 _ _ _ _) (vB (S l) (S [c]) (S []) J k B _ λ_=>%[?_,?_,?_|?_]) ?_
    .have:k≠0:=g9 L;have:B≠0:=g9 (mh L D);simp[*]
    .have:k≠B:=a_ D;simpa using this
    .rfl
    .rw[G];unfold Builtin.Str.tooLong;rw[jV,show (S []).length=0 from rb,Nat.mul_zero,t9];show ai (by have:=aF (n:=l.length) xo;lia)
    rw[G];let M:(([i]:List Nat).isEmpty||((S [c]).length==0&&(S []).length==0))=false:=rfl;rw[if_neg (by rw[M];decide),O];show%[30,by rw[jV];show av (aF (ay (mP) N)),.str (S (l.erase c)),H,I.tok _,%[_|rb]|q]
def ac4 {h:Heap}{its:List Value}(e:h.get? a=some o)(p:IsTup h a its.toArray):∃n,o.data=.seq its.toArray n:=by let(o',j,_,n,d):=p;rw[e]at j;cases j;show%[n|d]
def Xh (t:xY):TG:=λv T H Q=>∃a o p q x,v=.ref a/\H a=some (.iY o (.tup [p,q,.str x]))/\∀k,TkO o x k->t [p,q,.sx x k] T H Q
def aan {es:List Expr}{k:Nat}{t:xY}(F:X.calm=true)(h:Qm X es t)(hn:(assignEach es X.env).length=3:=by rfl)(B:(assignEach es X.env).findIdx? (·.1)=none:=by rfl):PG X (.Tuple es k pos) (Xh t):=by
 intro ao s T H v u Q I r hw;let(a,o,p,q,x,rfl,ha,hw):=hw;cases r;let(e,z,its,j,D):=(show cZ X.prog X.w H s.heap a (.iY o (.tup [p,q,.str x])) from I.hok a _ ha)
 let(n,hd):=ac4 e D;cases j with
 | cons r1 j=>
  cases j with
  | cons r2 j=>
   cases j with| cons r3 j=>cases j;let(tk,rfl):=r3;calc assign_Tuple_tuple (I.ok.hd F) D (by simp[hn]) B λh' hx=>?_;let I1:aL X ao T H {s with heap:=h' }:=I.kept (t':=s.toks) λb o e=>hx b o (a_ (a7 e)) e;show h ao _ T H [p,q,.sx x tk] _ Q I1 (.cons r1 (.cons r2 (.cons rb .nil))) (hw tk %[3,_,_,hd|xp])
def aao {es:List Expr}{k:Nat}{t:xY}(q:X.calm=true)(h:V_ X es t)(hn:(assignEach es X.env).length=3:=by rfl)(j:(assignEach es X.env).findIdx? (·.1)=none:=by rfl):QG X (.Tuple es k pos) (Xh t):=⟨aan q h.out hn j⟩
end
abbrev Cx.tkc (X:Cx)(n:Nat):Cx:={X with s₀:={X.s₀ with toks:=n} }
section
variable {X:Cx}{ao:AC}{C:St}{H:Hp}{s:Shared}{n:Nat}{pos:Pos}
def aL.tkc (I:aL X ao C H s)(h:n<=s.toks):aL (X.tkc n) ao C H s:=let ok:=I.ok
 %[%[ok.mod,ok.kind,ok.glob,ok.blt,ok.above,ok.inj,ok.has,ok.cab,ok.hd,ok.frames,ok.stk,ok.exf,ok.bs,ok.xW,ok.Bj,ok.Fe,ok.nW|ok.Cy],I.os,I.bare,I.base,I.loc,I.cell,I.free,I.lV,I.pin,I.hok,I.len,I.gh|h]
def aL.aap (I:aL (X.tkc n) ao C H s)(h:X.s₀.toks<=n):aL X ao C H s:=let ok:=I.ok
 %[%[ok.mod,ok.kind,ok.glob,ok.blt,ok.above,ok.inj,ok.has,ok.cab,ok.hd,ok.frames,ok.stk,ok.exf,ok.bs,ok.xW,ok.Bj,ok.Fe,ok.nW|ok.Cy],I.os,I.bare,I.base,I.loc,I.cell,I.free,I.lV,I.pin,I.hok,I.len,I.gh|ay h I.tk]
def ag5 (j:Nat)(tl:TE)(tb:Nat->TS):TS:=λD C H=>tl C H λv H1=>∃(l:List Nat) (q:Nat->St->Hp->Prop),v=.str (S l)/\(∀c∈l,c<128)/\q 0 C H1/\
 (∀i c C H k n,l[i]?=some c->q i C H->0<k->k<n->tb n {D with nx:=q (i+1),ct:=q (i+1),bk:=D.nx} (C.set j (some (.sx (S [c]) k))) H)/\∀C H,q l.length C H->D.nx C H
def ac5 {x:Str}{j:Nat}{iter:Expr}{N:List Stmt}{tl:TE}{tb:Nat->TS}{px:Pos}(hp:PassesOwn (model X.prog X.w) X.A X.env X.xe)(hc:X.calm=true)(hN:X.N.Nodup)(hj:X.N[j]?=some x)(hx:Loc X.env.scope x)(hl:QE X iter tl)(M:∀n,rR (X.tkc n) N (tb n))(hs:∀x,foldedSetIterable iter X.env x=pure x:=by intro _;rfl)(hf:X.fn x=true\/X.env.scope.names.lookup x=some .local:=by first|show .inl rfl|show .inr rfl|assumption):QS X (.For (.Name x px) iter N [] pos) (ag5 j tl tb):=⟨by
 intro ao s C H D I h;calc wpAny_For (bD (hl.out ao s C H _ I h) λv s1 zz=>?_) hs;let(xv,H1,I1,r1,l,Pv,e,ha,p0,step,fin):=zz;subst e;let(t,rfl):=r1;calc wpAny_pyIter_ascii (by simpa [S] using ha) ?_;let f2:lE X ao H1 s1.heap.objs.size:=I1.nu (ah _) (I1.hok.fresh (ah _));let T:=λtg=>K6 (P:=X.prog) (w:=X.w) (K:=X.K) (tg:=tg) (.inl rb) l t s1.heap.objs.size;let F:∀{H':Hp},H' s1.heap.objs.size=none->∀b∈[s1.heap.objs.size],lE X ao H' b:=λhn b M=>by rw[am.mp M];show%[hn|f2.2]
 let I2:aL X ao C H1 {s1 with heap:=s1.heap.push {cls:=.type "str_ascii_iterator",data:=.fields #[.str (S l) t,.int 0 0]} }:=I1.kept (t':=s1.toks) λb o e=>af _ e;refine uA (λm s'=>∃i C' H',m=l.length-i/\aL X ao C' H' s'/\(i<=l.length/\s'.heap.IsStrIter s1.heap.objs.size "str_ascii_iterator" (S l) t i)/\H' s1.heap.objs.size=none/\Pv i C' H') ?_ l.length
  %[15,0,C,H1,rb,I2,%[35,b8 _,_,aw _ rb,rb|rb],f2.1|p0]
 generalize s1.heap.objs.size=it at *
 intro _ Y z;let(i,C3,H3,rfl,I3,Z,Qo,p3):=z;by_cases q:i<l.length
 .let(f0,f1,_,f3,f4,f5):=F Qo it (am.mpr rb);calc ee hp (wpAny_pyNext_ascii_item Z.2 (c:=l[i]) (by simp[S,q]) λh' st' sb=>?_);let I4:aL X ao C3 H3 {Y with heap:=h',toks:=Y.toks+1}:=I3.turned (λb o M e=>(sb.2 b M).trans e) f0 f1 f3 f4 f5;let(o,e,c2,d2):=id st';calc ee hp (zL (s:={Y with heap:=h',toks:=Y.toks+1}) e c2 d2 xt ?_);let I5:=I4.pinned (F Qo) ((T (.Name x px)).obj (i+1) h' %[q|st']);calc ee hp (cj (sf (vO (v:=.sx (S [l[i]]) Y.toks) I5 hN hj hx rb (λs6 I6 ht=>?_) hf)));let O:=I6.tk;calc ee hp (bD ((M s6.toks).out _ s6 _ H3 _ (I6.tkc (ah _)) (step i l[i] C3 H3 Y.toks s6.toks (by simp[q]) p3 I3.gh.1 ht)) λf s7 q7=>?_);let B:∀{L:St} {G:Hp},aL (X.tkc s6.toks) (ao++uT [it] h') L G s7->Pv (i+1) L G->∃m,m<l.length-i/\∃i C' H',m=l.length-i/\aL X ao C' H' s7/\(i<=l.length/\s7.heap.IsStrIter it "str_ascii_iterator" (S l) t i)/\H' it=none/\Pv i C' H':=λ{L G} J n7=>by
   let pn:=λb M o e=>J.pin (b,o) (cS _ (cS _ (lW (fp:=[it]) (b:=b) M (o:=o) e)));show%[48,_,uv q (e_ i),i+1,L,G,rb,(J.aap O).jm,(T (.Name x px)).keep _ _ _ %[q|st'] λb M o e=>(pn b M o e).1,(pn it (am.mpr rb) o e).2.1|n7]
  cases f with
  | next=>let(L,G,J,n7):=q7;show B J n7
  | cont=>let(L,G,J,n7):=q7;show B J n7
  | brk=>let(L,G,J,q7):=q7;show%[3,L,G,(J.aap O).jm|q7]
  | ret v=>let(x7,L,G,J,r7,q7):=q7;show%[46,x7,L,G,(J.aap O).jm,r7|q7]
 .obtain rfl:i=l.length:=tP Z.1 (Nat.le_of_not_lt q);calc ee hp (bD ((T (.Name x px)).done X rb rb rb hc l.length ao Y C3 H3 X.xe I3 (F Qo) Z (ah _)) λr s4 ⟨hr,I4⟩=>?_);subst hr;show iN %[3,C3,H3,I4|fin _ _ p3]⟩
def afH (n:Nat)(t:TA):TE:=λC H Q=>t C H λvs H1=>∃i j x k,vs=[.int i,.int j,.sx x k]/\(0<k/\k<n)/\∀g o,H1 g=none->Q (.ref g) (upd H1 g (.iY o (.tup [.int i,.int j,.str x])))
def aaq {x1}(h:QA X es t):QE X (.Tuple es x1 pos) (afH X.s₀.toks t):=⟨by
 intro ao s C H Q I G;calc uC (bD (h.out pos ao s C H _ I G) λus s1 F=>?_);let(xs,H1,I1,r,i,j,x,k,e,(L,J),q):=F;subst e;cases r with
 | cons r1 r=>
  cases r with
  | cons r2 r=>
   cases r with
   | cons r3 r=>
    cases r;let(B,rfl):=r1;let(D,rfl):=r2;cases r3;calc%[zsz 3|?_];let hf:H1 s1.heap.objs.size=none:=I1.hok.fresh (ah _);refine%[1,.ref s1.heap.objs.size,_,I1.laid (o:=.iY {cls:=.type "tuple",data:=.seq [Value.int i B,.int j D,.str x k].toArray} (.tup [.int i,.int j,.str x])) (t':=s1.toks) (λb u e=>af _ e) (ah _)
     %[14,aw _ rb,zsz 3,[.int i B,.int j D,.str x k],.cons %[_|rb] (.cons %[_|rb] (.cons %[_|rb] .nil))|%[40,_,aw _ rb,rb,_|rb]] (ah _) ?_,rb|q _ _ hf]
    intro y z hz;simp at hz;let(rfl,rfl):=hz;show%[L|bt J I1.tk]⟩
def ag6 (l m:List Nat)(i:Int):TA:=λ_ H Q=>∀k,0<k->Q [.sx (S l) k,.sx (S m) (k+1),.int i] H
def ac6 (l m){j1 j2 j3}(j:y=S l)(hz:z=S m):QA X [.Constant (.str y) j1 p1,.Constant (.str z) j2 p2,.Constant (.int i) j3 p3] (ag6 l m i):=⟨by
 subst j hz;intro pos ao s C H Q I h;show wpAny _ _ (spliced ((false,eval (.Constant (.str (S l)) j1 p1) X.env)::(false,eval (.Constant (.str (S m)) j2 p2) X.env)::(false,eval (.Constant (.int i) j3 p3) X.env)::[])) _ _ _;calc fT (g6 (fT (g6 (fT (q0 (oP ?_))))));show%[1,[.sx (S l) s.toks,.sx (S m) (s.toks+1),.int i],H,I.tok (s.toks+1+1+1),.cons rb (.cons rb (.cons %[_|rb] .nil))|h s.toks I.gh.1]⟩
end
def Gk {X:Cx}(K:W.Frag)(h:X.K=K:=by rfl):d8 X (.builtin "sorted") (W7 K):=by subst h;show xM
noncomputable def mD (n:Nat):List Nat:=sliceRange (sliceBounds none none (some 7) n).1 (sliceBounds none none (some 7) n).2.1 (sliceBounds none none (some 7) n).2.2
def iM {I:Type}(xs:List I):List I:=(mD xs.length).filterMap (xs[·]?)
def Uj (h:n<=60)(j:8<=n):(mD n).take 2=[0,7]/\(mD n).length<=26:=(by decide +kernel:∀k:Fin 61,8<=k.val->(mD k.val).take 2=[0,7]/\(mD k.val).length<=26) %[n|xo] j
def DW {I:Type}{xs:List I}(h:xs.length<=60)(q:8<=xs.length):2<=(iM xs).length/\(iM xs).length<=26:=by let(h1,j):=Uj h q;unfold iM;calc%[?_|ay (List.length_filterMap_le _ _) j];rw[<-c_ 2 (mD xs.length),h1,List.filterMap_append,ax];simp only[f_,List.filterMap_nil,ag (show 0<xs.length by lia),ag (show 7<xs.length by lia),bP,mr];lia
def Uk {I:Type}{xs:List I}{x:I}(h:x∈iM xs):x∈xs:=by let(i,_,hi):=md.mp h;show aE hi
def Ul {I T:Type}(f:I->T)(xs:List I):iM (xs.map f)=(iM xs).map f:=by unfold iM;rw[ab,List.map_filterMap];congr 1;funext i;rw[bb]
def afI (K:W.Frag)(te q:TE):TE:=λI H Q=>te I H λx H1=>q I H1 λy j=>∃(a:Addr) (xs:List V),x=.ref a/\y=.int 7/\aN K j a xs/\xs.length<=60/\8<=xs.length/\
 ∀p:Addr,j p=none->Q (.ref p) (upd j p (.lst (iM xs)))
def aar {e st:Expr}(J:QE X e te)(B:QE X st QK):QE X (.Subscript e (.Slice none none (some st) p2) pos) (afI X.K te QK):=⟨by
 intro ao s T H Q I h;calc Subscript_ (bD (J.out ao s T H _ I h) λv s1 j=>?_);let(x,H1,I1,r1,q1):=j;calc wpAny_Slice ?_;rw[evalPart_none,evalPart_some];calc ae (ae (bD (B.out ao s1 T H1 _ I1 q1) λO s2 j=>?_));let(y,N,I2,L,a,xs,ex,Y,hS,M,h8,q):=j;subst ex Y;cases r1;let(G,rfl):=L;let F:aL X ao T N {s2 with heap:=s2.heap.push {cls:=.type "slice",data:=.fields #[.none,.none,.int 7 G]} }:=I2.kept (t':=s2.toks) λb ob z=>af _ z;show wpAny (model X.prog X.w) X.A (subscriptTail e (.Slice none none (some st) p2) (.ref a) (.ref s2.heap.objs.size)) (EP X ao T Q) X.xe {s2 with heap:=s2.heap.push {cls:=.type "slice",data:=.fields #[.none,.none,.int 7 G]} };let(its,r,pl,hz):=F.list hS;let Z:=r.length;calc tail_any (ops:=[.ref a,.ref s2.heap.objs.size]) pl.isList.typeIs slot_list_getitem.lookup ?_ (by with_unfolding_all rfl);calc wpAny_getItem_list_slice pl.isList (Heap.IsSliceOf.new ..) .none .none (.int 7 G) xp ?_ (by rw[bv] <;> lia);let hv:=yx r (mD xs.length);let D:slicePick its.toArray none none (some 7)=((mD xs.length).filterMap (its[·]?)).toArray:=by unfold slicePick;rw[bv,<-Z];unfold mD;simp
 rw[D];calc%[1,.ref _,_,F.laid (t':=s2.toks) (o:=.lst (iM xs)) (λb ob z=>af _ z) (ah _) ?_,rb|q _ (F.hok.fresh (ah _))];show%[24,ay (DW M h8).2 xt,_,0,hv|aw _ rb]⟩
end L2
namespace L2
open PySem
theorem eS {n:Nat}{P:List Value->Prop}(h:∀a us,us.length=n->P (a::us)):∀us,us.length=n+1->P us
 | a::us,e=>h a us (Nat.succ.inj e)
@[elab_as_elim] theorem e1 {P:List Value->Prop} (h:∀a,P [a]) (us:List Value) (j:us.length=1):P us:=eS (λa us e=>(by rw[uu e];show h a)) us j
@[elab_as_elim] theorem e2 {P:List Value->Prop} (h:∀a b,P [a,b]) (us:List Value) (j:us.length=2):P us:=eS (λa us e=>e1 (P:=λr=>P (a::r)) (h a) us e) us j
@[elab_as_elim] theorem e3 {P:List Value->Prop} (h:∀a b c,P [a,b,c]) (us:List Value) (j:us.length=3):P us:=eS (λa us e=>e2 (P:=λr=>P (a::r)) (h a) us e) us j
@[elab_as_elim] theorem e4 {P:List Value->Prop} (h:∀a b c d,P [a,b,c,d]) (us:List Value) (j:us.length=4):P us:=eS (λa us e=>e3 (P:=λr=>P (a::r)) (h a) us e) us j
@[elab_as_elim] theorem e5 {P:List Value->Prop} (h:∀a b c d e,P [a,b,c,d,e]) (us:List Value) (j:us.length=5):P us:=eS (λa us e=>e4 (P:=λr=>P (a::r)) (h a) us e) us j
end L2
namespace My
open PySem L2
def top (i:Nat):Stmt:=PySem.Challenge.pw_letterrack_k43_none_lacks.main.body.getD i (.Pass %[(0),(0),(0)|0])
noncomputable abbrev wM:Stmt:=top 6
def Pu:aU ["thing"] ["thing"] (aH wM):={}
noncomputable abbrev yR:Stmt:=top 7
def Um:aU ["thing"] ["thing"] (aH yR):={}
noncomputable abbrev uK:Stmt:=top 8
def Mz:aU ["sign"] ["sign"] (aH uK):={}
noncomputable abbrev yS:Stmt:=top 9
def Uo:aU ["sign"] ["sign"] (aH yS):={}
noncomputable abbrev oJ:Stmt:=top 10
def BL:aU ["laying"] ["laying"] (aH oJ):={}
noncomputable abbrev wN:Stmt:=top 15
def pY:aU ["thing","width"] ["thing"] (aH wN):={}
noncomputable abbrev wO:Stmt:=top 16
def Ba:aU ["thing"] ["thing"] (aH wO):={}
noncomputable abbrev uL:Stmt:=top 17
def yU:aU ["thing"] ["thing"] (aH uL):={}
noncomputable abbrev sS:Stmt:=top 18
def JH:aU ["rows","row","column"] ["rows","row","column"] (aH sS):={}
noncomputable abbrev qG:Stmt:=top 19
def Gm:aU ["rows","thing"] ["rows","thing"] (aH qG):={}
noncomputable abbrev wQ:Stmt:=top 20
def Px:aU ["rows","marks","begin"] ["rows","marks","begin"] (aH wQ):={}
noncomputable abbrev qH:Stmt:=top 21
def vC:aU ["rows","column"] ["rows","column"] (aH qH):={}
noncomputable abbrev qI:Stmt:=top 22
def vD:aU ["rows"] ["rows"] (aH qI):={}
noncomputable abbrev iQ:Stmt:=inClass (top 23) 0
def JK:aU ["self","rows","marks","begin"] ["self","rows","marks","begin"] (aH iQ):={}
noncomputable abbrev j6:Stmt:=inClass (top 23) 1
def Py:aU ["self","row","column"] ["self","row","column"] (aH j6):={}
noncomputable abbrev gk:Stmt:=inClass (top 23) 2
def sV:aU ["self"] ["self"] (aH gk):={}
noncomputable abbrev jt:Stmt:=inClass (top 23) 3
def jK:aU ["self","row","column","way","line","place","ahead","signs","first"] ["self","row","column","way"] (aH jt):={}
noncomputable abbrev gH:Stmt:=inClass (top 23) 4
def um:aU ["self","begin"] ["self"] (aH gH):={}
noncomputable abbrev iR:Stmt:=inClass (top 23) 5
def je:aU ["self","laying","lines","row","column","sign"] ["self","laying"] (aH iR):={}
noncomputable abbrev wR:Stmt:=top 26
def Pz:aU ["laying"] ["laying"] (aH wR):={}
noncomputable abbrev lK:Stmt:=top 27
def kZ:aU ["board","row","column","around"] ["board","row","column"] (aH lK):={}
noncomputable abbrev oK:Stmt:=top 30
def iT:aU ["board","book","row","column","way","run","place","ahead","behind"] ["board","book","row","column","way"] (aH oK):={}
noncomputable abbrev sW:Stmt:=top 31
def m8:aU ["board","cells","row","signs"] ["board"] (aH sW):={}
noncomputable abbrev Gn:Stmt:=top 32
def aas:aU ["board"] ["board"] (aH Gn):={}
noncomputable abbrev BP:Stmt:=top 34
def uo:aU ["board","word","cells","row"] ["board","word"] (aH BP):={}
noncomputable abbrev nG:Stmt:=top 35
def iw:aU ["board","row","column","word","triples","place","letter","sign"] ["board","row","column","word"] (aH nG):={}
noncomputable abbrev pL:Stmt:=top 36
def lu:aU ["board","book","fitting","row","column"] ["board","book"] (aH pL):={}
noncomputable abbrev qJ:Stmt:=top 37
def vG:aU ["triples","fitting","joining"] ["triples","fitting","joining"] (aH qJ):={}
noncomputable abbrev lM:Stmt:=top 38
def m9:aU ["letters","rack","texts","sign","tile","left"] ["letters","rack"] (aH lM):={}
noncomputable abbrev sX:Stmt:=top 39
def m_:aU ["triples","rack","cells","layings","signs"] ["triples","rack"] (aH sX):={}
noncomputable abbrev nH:Stmt:=top 40
def d7:aU ["board","book","rack","fitting","joining","layings","word","row","column","triples"] ["board","book","rack"] (aH nH):={}
noncomputable abbrev qK:Stmt:=top 41
def pN:aU ["board","book","rack","across","down"] ["board","book","rack"] (aH qK):={}
noncomputable abbrev yV:Stmt:=top 43
def DX:aU ["text"] ["text"] (aH yV):={}
noncomputable abbrev sY:Stmt:=top 44
def JL:aU ["text"] ["text"] (aH sY):={}
noncomputable abbrev ju:Stmt:=inClass (top 45) 0
def yW:aU ["self","words","word"] ["self","words"] (aH ju):={}
noncomputable abbrev iU:Stmt:=inClass (top 45) 1
def JM:aU ["self"] ["self"] (aH iU):={}
noncomputable abbrev j7:Stmt:=inClass (top 45) 2
def PB:aU ["self","text"] ["self","text"] (aH j7):={}
noncomputable abbrev yX:Stmt:=top 47
def Uq:aU ["_law_script","_law_k"] ["_law_script","_law_k"] (aH yX):={}
noncomputable abbrev MF:Stmt:=top 48
def ac7:aU ["_law_x"] ["_law_x"] (aH MF):={}
noncomputable abbrev Gp:Stmt:=top 49
def aat:aU ["_law_x"] ["_law_x"] (aH Gp):={}
noncomputable abbrev BR:Stmt:=top 50
def Jc:aU ["_law_script","_law_k","_law_cell"] ["_law_script","_law_k"] (aH BR):={}
noncomputable abbrev BW:Stmt:=top 51
def Jd:aU ["_law_script","_law_k","_law_base","_law_many","_law_left","_law_found","_law_x","_law_j"] ["_law_script","_law_k","_law_base","_law_many"] (aH BW):={}
noncomputable abbrev yZ:Stmt:=top 52
def mF:aU ["_law_script","_law_k","_law_letters_here","_law_row","_law_found","_law_digit"] ["_law_script","_law_k"] (aH yZ):={}
noncomputable abbrev Gq:Stmt:=top 53
def pP:aU ["_law_letters_here","_law_script","_law_start","_law_many","_law_found","_law_k","_law_row","_law_size_here"] ["_law_letters_here","_law_script","_law_start","_law_many"] (aH Gq):={}
noncomputable abbrev MJ:Stmt:=top 54
def ac8:aU ["_law_x"] ["_law_x"] (aH MJ):={}
noncomputable abbrev Gr:Stmt:=top 55
def ig:aU ["_law_letters_here","_law_script","_law_start","_law_x","_law_high","_law_wide","_law_rows","_law_marks","_law_k","_law_row","_law_digit","_law_sign"] ["_law_letters_here","_law_script","_law_start","_law_x"] (aH Gr):={}
noncomputable abbrev MN:Stmt:=top 56
def nQ:aU ["_law_letters_here","_law_script","_law_k","_law_most","_law_row","_law_many","_law_rack_here","_law_digit","_law_tile"] ["_law_letters_here","_law_script","_law_k","_law_most"] (aH MN):={}
noncomputable abbrev aau:Stmt:=top 57
def ag7:aU ["_law_rows","_law_row","_law_column"] ["_law_rows","_law_row","_law_column"] (aH aau):={}
noncomputable abbrev s_fresh:Stmt:=top 58
def sZ:aU ["_law_rows","_law_word","_law_row","_law_column","_law_way","_law_cells","_law_letter"] ["_law_rows","_law_word","_law_row","_law_column","_law_way"] (aH s_fresh):={}
noncomputable abbrev Gs:Stmt:=top 59
def lN:aU ["_law_rows","_law_row","_law_column","_law_way","_law_letter","_law_found","_law_k"] ["_law_rows","_law_row","_law_column","_law_way","_law_letter"] (aH Gs):={}
noncomputable abbrev BX:Stmt:=top 60
def nR:aU ["_law_rows","_law_begin","_law_cells","_law_row","_law_column","_law_letter","_law_beside"] ["_law_rows","_law_begin","_law_cells"] (aH BX):={}
noncomputable abbrev zf:Stmt:=top 61
def oM:aU ["_law_rows","_law_words_here","_law_cells","_law_way","_law_row","_law_column","_law_letter","_law_cross_here"] ["_law_rows","_law_words_here","_law_cells","_law_way"] (aH zf):={}
noncomputable abbrev zj:Stmt:=top 62
def iD:aU ["_law_cells","_law_rack_here","_law_found","_law_row","_law_column","_law_letter","_law_more","_law_laid","_law_left"] ["_law_cells","_law_rack_here"] (aH zj):={}
noncomputable abbrev Ur:Stmt:=top 63
def tu:aU ["_law_rows","_law_begin","_law_words_here","_law_rack_here","_law_found","_law_word","_law_place","_law_way","_law_cells","_law_laying"] ["_law_rows","_law_begin","_law_words_here","_law_rack_here"] (aH Ur):={}
noncomputable abbrev Gu:Stmt:=top 64
def pQ:aU ["_law_x","_law_letters_here","_law_some","_law_found","_law_one"] ["_law_x"] (aH Gu):={}
noncomputable abbrev Km:Stmt:=top 65
def jL:aU ["_law_script","_law_some","_law_x","_law_words_here","_law_board_here","_law_rack_here","_law_book","_law_found"] ["_law_script"] (aH Km):={}
section
variable {P:Program}{w:World}{K:W.Frag}{mg:Str->Option Value}{base:Heap}
def DY (c:Nat):Bool:=decide (97<=c)&&decide (c<=122)
def Je (c:Nat):Bool:=decide (65<=c)&&decide (c<=90)
def Jf (l:List Nat):Bool:=match l with|[c]=>DY c||Je c|_=>false
def Wu (a b:Nat):([a]<[b])↔a<b:=by simp[fR]
def Us (a b:Nat):(!decide ([a]<[b]))=decide (b<=a):=by
 by_cases h:a<b;.rw[ap ((Wu a b).mpr h),ai xo];rfl
 .rw[ai (λz=>h ((Wu a b).mp z)),ap (lS h)];rfl
def ag8 (K:W.Frag)(H:Hp)(x:V):Prop:=∃t,n6 K H x t/\W.kitOne K t (.type "str")=some false
def Xj (K:W.Frag):Sp:=λvs H Q _=>(∃x,vs=[x]/\ag8 K H x/\Q (.bl false) H)\/(∃l,vs=[.str (S l)]/\l.length<=1000/\Q (.bl (Jf l)) H)
def Ut (D:aQ K mg "is_sign" yR ["thing"])(N:mg "len"=none)(F:mg "str"=none)(M:mg "isinstance"=none):bF P w K mg base "is_sign" 1 ["thing"] (Xj K):=by
 refine D.dz Um (λf bh A outer s H vs Q E O h=>?_) (λvs H Q E h=>?_)
 .refine%[0,_,aD (cU (QW.qt (vX (kh (gP (aP jq xw M fA (ak aG (ak (pF (v:=.ty "str") xw F PyProof.Rows.boot_str rb) au)))))
     (rU (bW J6 (aP cV xw N bS (ak aG au)) aB (bY _))))) (aJ (aW jW)) b_)
   (aJ (aW (Tt (nA u9 u9 (bR [97] xz) aG (bR [122] xz))
    (lG (nA u9 u9 (bR [65] xz) aG (bR [90] xz))))))|?_]
  rcases h with⟨x,rfl,⟨t,ty,hk⟩,q⟩|⟨l,rfl,L,q⟩;.show%[58,_,rb,_,_,_,false,rb,ty,hk,_,rb|bV (bV q)]
  .let hz:l.length<=sizeLine:=av (aF L);calc%[58,_,rb,_,_,_,true,rb,.str _,xy,_,rb|bO %[9,_,rb,l,rb|%[14,hz,rb,_,rb|?_]]];by_cases h1:l.length=1
   .let(c,rfl):=List.length_eq_one_iff.mp h1;calc Tp rb ?_;calc%[22,_,rb,[97],[c],rb,rb,decide (97<=c),by rw[Us]|?_];let G:Q (.bl (DY c||Je c)) H:=q;let B:(Je c=(DY c||Je c))->xZ ZD ZD (tC (.str (S [65]))) (fH 0) (tC (.str (S [90]))) [some (.str (S [c]))] H Q:=λe=>by
     calc%[22,_,rb,[65],[c],rb,rb,decide (65<=c),by rw[Us]|?_];rw[<-e]at G;by_cases j:65<=c
     .rw[ap j];calc bV %[1,[c],[90],rb,rb|?_];rw[Us];simpa [Je,j] using G
     .rw[ai j];calc bO ?_;simpa [Je,j] using G
    by_cases j:97<=c
    .rw[ap j];calc bV %[19,[c],[122],rb,rb,_,rb|?_];rw[Us];by_cases J:c<=122
     .rw[ap J];calc bV ?_;simpa [DY,j,J] using G
     .rw[ai J];show bO (B (by simp[DY,j,J]))
    .rw[ai j];show bO %[0,_,rb|bO (B (by simp[DY,j]))]
   .let e:(!decide (V.int (l.length:Int)=V.int 1))=true:=by
     rw[ai];rfl;intro z;injection z with z;lia
    rw[e];let e2:Jf l=false:=by
     match l,h1 with| [],_=>rfl| [c],h=>show absurd rb h| _::_::_,_=>rfl
    rw[e2]at q;show bV q
 .rcases h with⟨x,rfl,_⟩|⟨x,rfl,_⟩ <;> rfl
def afJ (a b:V)(c:Int):∃v,k_ [a,b] (c%2)=some v/\(v=a\/v=b):=by
 rcases Int.emod_two_eq c with h|h;.show%[0,a,by rw[h];show aO (j:=0) rb|.inl rb]
 .show%[0,b,by rw[h];show aO (j:=1) rb|.inr rb]
def MP (K:W.Frag):Sp:=λvs H Q _=>∃(a:Addr) (ns:List Int) (k:Nat),vs=[.ref a,.int k]/\aN K H a (ns.map V.int)/\∀v:Int,Q (.int v) H
def Ab:Sp:=λvs H Q _=>∃x:Int,vs=[.int x]/\0<=x/\x<1099511627776/\∀y:Int,0<=y->y<2147483647->Q (.int y) H
def Uu (K:W.Frag):Sp:=λvs H Q _=>∃(a:Addr) (ns:List Int) (k:Nat),vs=[.ref a,.int k]/\aN K H a (ns.map V.int)/\k<=1000/\∀v:Int,Q (.int v) H
def Ac (K:W.Frag):Sp:=λvs H Q _=>∃(a:Addr) (ns:List Int) (k:Nat) (b:Int) (m:Nat),vs=[.ref a,.int k,.int b,.int m]/\aN K H a (ns.map V.int)/\k<=1000/\0<b/\b<1000000/\m<=100/\
 ∀(p:Addr) (ds:List Int) (H':Hp),aA H H'->H p=none->H' p=some (.lst (ds.map V.int))->ds.length=m->(∀d∈ds,0<=d/\d<b)->Q (.ref p) H'
def isLet (c:Nat):Prop:=97<=c/\c<=122
structure Uv (ls:List Nat):Prop where
 lo:2<=ls.length
 hi:ls.length<=26
 az:∀c∈ls,isLet c
structure lQ (w:List Nat):Prop where
 lo:2<=w.length
 hi:w.length<=9
 az:∀c∈w,isLet c
def Uw (D:aQ K mg "_law_cell_at" yX ["_law_script","_law_k"])(M:mg "len"=none):bF P w K mg base "_law_cell_at" 1 ["_law_script","_law_k"] (MP K):=by
 calc D.dz Uq (λf bh A outer s H vs Q E F h=>?_);let(a,ns,k,rfl,j,q):=h;calc%[0,_,aD (cU (bW t_ bx (aP cB xw M bS (ak aG au)) (bY _)) (aJ (aW (bH gq aG bx (λ_ _=>rfl)))) b_) (aJ (aW aB))|?_];calc%[0,_,rb|%[51,_,rb,a,_,rb,.inl j,_,_,rb,rb,_,rb|?_]];refine uF (λB=>?_) (λ_=>?_)
 .let hk:k<ns.length:=by
   have:=iL B;rw[ab]at this;simp_all
  show%[0,_,rb|%[7,_,rb,a,_,_,.int ns[k],rb,rb,j,aO (by simp[hk])|q _]]
 .show q _
def ac9 (D:aQ K mg "_law_next" MF ["_law_x"]):bF P w K mg base "_law_next" 1 ["_law_x"] Ab:=by calc D.dz ac7 (λf bh A outer s H vs Q E j h=>?_);let(x,rfl,B,h1,q):=h;calc%[0,_,aJ (aW (aK cA (aK cu (aK cu (aK fY aG aG) (aK fY aB aG)) aB) aB))|?_];calc%[26,_,rb,_,rb,_,_,rb,rb,.inl %[xo|xo]|%[20,_,rb,_,_,rb|%[21,rb,.inl %[xt|xt],_,_,rb,rb|%[1,_,_,rb,rb|%[4,_,_,rb,rb,(by show (0:Int)<2147483647;decide)|?_]]]]];show q _ (eT _ xt) (dC _ xt)
def aav (D:aQ K mg "_law_other" Gp ["_law_x"]):bF P w K mg base "_law_other" 1 ["_law_x"] Ab:=by calc D.dz aat (λf bh A outer s H vs Q E j h=>?_);let(x,rfl,B,h1,q):=h;calc%[0,_,aJ (aW (aK cA (aK cu (aK cu (aK fY aG aG) (aK fY aB aG)) aB) aB))|?_];calc%[26,_,rb,_,rb,_,_,rb,rb,.inl %[xo|xo]|%[20,_,rb,_,_,rb|%[21,rb,.inl %[xt|xt],_,_,rb,rb|%[1,_,_,rb,rb|%[4,_,_,rb,rb,(by show (0:Int)<2147483629;decide)|?_]]]]];show q _ (eT _ xt) (wT (dC _ xt) xt)
def Xk (D:aQ K mg "_law_number" BR ["_law_script","_law_k"])(J:bF P w K mg base "_law_cell_at" 1 ["_law_script","_law_k"] (MP K))(B:bF P w K mg base "_law_next" 1 ["_law_x"] Ab)(F:bF P w K mg base "_law_other" 1 ["_law_x"] Ab):bF P w K mg base "_law_number" 2 ["_law_script","_law_k"] (Uu K):=by
 calc D.dz Jc (λf bh A outer s H vs Q E j h=>?_);let(a,ns,k,rfl,G,hk,q):=h;refine%[0,_,aD (aR (i:=2) Jc.nd rb (Or.inl rb) (aX J j rb (ak aG (ak bx au))))
  (aD (cU (bW jA (aK cA bf aB) aB (bY _)) (aJ (aW (aK dj bf aB))) b_)
  (aJ (aW (aX F j rb (ak (aX B j rb (ak (aK cA (aK cu bf (aK fY (aK fY aB bx) bx)) aB) au)) au)))))|?_]
 calc%[9,_,rb,_,rb|%[46,a,ns,k,rb,G|λv=>?_]];calc%[54,_,rb,_,_,rb,rb,(by show (0:Int)<2;decide),rb,_,rb|?_];calc uF (λ_=>?_) (λ_=>?_);.show%[31,_,rb,_,_,rb,rb,%[xt|xt]|q _]
 .calc%[26,_,rb,_,rb,_,_,rb,rb,.inl %[xt|xt]|%[20,_,rb,_,_,rb|%[21,rb,.inr %[nN _|xo],_,_,rb,rb|%[4,_,_,rb,rb,(by show (0:Int)<2147483647;decide)|?_]]]];calc%[11,_,rb,eT _ xt,wT (dC _ xt) xt|λy h1 L=>?_];show%[11,y,rb,h1,xo|λz _ _=>q z]
def Xl (D:aQ K mg "_law_digits" BW ["_law_script","_law_k","_law_base","_law_many"])(afK:mg "range"=none)(D1:bF P w K mg base "_law_cell_at" 1 ["_law_script","_law_k"] (MP K))(D2:bF P w K mg base "_law_next" 1 ["_law_x"] Ab)(D3:bF P w K mg base "_law_other" 1 ["_law_x"] Ab)(D4:bF P w K mg base "_law_number" 2 ["_law_script","_law_k"] (Uu K)):bF P w K mg base "_law_digits" 3 ["_law_script","_law_k","_law_base","_law_many"] (Ac K):=by
 calc D.dz Jd ?_;intro f bh A outer s H vs Q E hr h;let(a,ns,k,b,m,rfl,hS,hk,B,hb1,hm,q):=h;let F:dG 1 _:=hr.mono xt;let nd:=Jd.nd;refine%[0,_,aD (aR (i:=4) nd rb (Or.inl rb) (aX D4 hr rb (ak aG (ak bx au))))
  (aD (aR (i:=5) nd rb (Or.inl rb) (dw au))
  (aD (aR (i:=6) nd rb (Or.inl rb) (aK cA cg aB))
  (aD (eU cq rb (jN rb afK (ak bI au)) (bQ (i:=7) nd rb (Or.inl rb))
   (aD (aR (i:=6) nd rb (Or.inl rb) (aX D3 F rb (ak (aX D2 F rb (ak (aK cu cM iz) au)) au)))
   (aD (gF (dU df fe ff iG cL
    (ak (aK cA (bH gq (dw (ak cg (ak cM au))) (aK cA (aX D1 F rb (ak aG (ak bx au))) aB) (λ_ _=>rfl)) bf) au)))
   (aJ (aR (i:=4) nd rb (Or.inl rb) (aK dj cg bf))))))
  (aJ (aW cL)))))|?_]
 calc%[0,_,rb|%[34,_,rb,a,ns,k,rb,hS,hk|λv=>?_]];calc%[zsz 0|λp hp=>?_];calc%[31,_,rb,_,_,rb,rb,(by show (0:Int)<2147483647;decide)|?_];refine%[44,_,rb,_,rb,nN _,xo|ql (n:=m) (lo:=0) (λi I G=>∃(J x:Int) (jv:Option V) (ds:List Int),I=[some (.ref a),some (.int k),some (.int b),some (.int m),some (.int J),some (.ref p),some (.int x),jv]/\aA H G/\
  G p=some (.lst (ds.map V.int))/\ds.length=i/\(∀d∈ds,0<=d/\d<b)/\0<=x/\x<2147483647)
  %[59,v,_,none,[],rb,aA.upd hp,aq,rb,λd hd=>by simp at hd,eT _ xt|dC _ xt] ?_ ?_]
 .intro i I G hi z;let(J,x,jv,ds,rfl,M,j,L,hd,N,Z):=z;calc%[27,_,rb,_,rb,_,_,rb,rb|?_];calc%[11,_,rb,xo,xo|λy h1 h2=>?_];calc%[11,y,rb,h1,xo|λz h3 h4=>?_];calc%[2,_,rb,.inl %[16,rb,_|aN.of j]|?_];calc%[13,_,rb,_,rb,zsz 2|λt ht=>?_];let s3:∀o,aA H (upd G t o):=λo=>M.bC (M.free ht);calc%[9,_,rb,_,rb|%[46,a,ns,k,rb,(s3 _).seq hS|λcv=>?_]];let(u,hu,hu2):=afJ (.int J) (.int z) cv;obtain⟨c,rfl⟩:∃c,u=.int c:=by rcases hu2 with e|e <;> show%[_|e]
  calc%[4,_,_,rb,rb,(by show (0:Int)<2;decide)|%[25,t,_,_,_,rb,rb,aN.of aq,hu|%[31,_,rb,_,_,rb,rb,B|?_]]];let O:p≠t:=bN j ht;calc%[15,p,_,_,rb,rb,(by rw[aZ O];show j),(by rw[ab,L];show aF xo)|?_];calc%[26,_,rb,_,rb,_,_,rb,rb,%[B|xo]|?_];calc%[59,J/b,z,_,ds++[c%b],rb,(s3 _).bC hp,?_,by simp[L],?_,h3|h4];.rw[aq];simp
  .intro d Y;rcases a6.mp Y with e|e;.show hd d e
   .rw[am.mp e];show%[eT _ xo|dC _ B]
 .intro I G z;let(J,x,jv,ds,rfl,M,j,L,hd,N,Z):=z;show%[0,_,rb|q p ds G M hp j L hd]
def abK (d):k_ AL (d%26)=some (97+(d%26).toNat):=by let j:0<=d%26:=eT _ xt;let h1:d%26<26:=dC _ xt;let e:d%26=(((d%26).toNat:Nat):Int):=xo;rw[e];calc aO ?_;let q:((d%26).toNat:Int).toNat<26:=xo;simp only[AL,bb,ci];rw[iX xo];rfl
theorem M4:∀(F:List Nat) (L:List Nat),L.Nodup->F.length<L.length->∃x∈L,x∉F
 | [],L,_,h=>by
  cases L with| nil=>simp at h| cons x r=>show%[0,x,aT|xp]
 | c::F,L,nd,h=>by
  let D:F.length<(L.erase c).length:=by rw[List.length_erase];simp only[bP]at h;split <;> lia
  let(x,h1,q):=M4 F (L.erase c) (nd.erase c) D;let(B,j):=nd.mem_erase_iff.mp h1;show%[0,x,j|λz=>by rcases bd.mp z with e|e;show B e;show q e]
def aaw (F:List Nat)(h:F.length<26)(d:Int):∃j:Nat,(97+((d+j)%26).toNat)∉F:=by let(x,h1,q):=M4 F ((List.range 26).map (97 + ·)) xt (by simpa using h);let(c,D,rfl):=aI.mp h1;let B:c<26:=bz.mp D;calc%[((c-d)%26).toNat|?_];let e:((d+(((c-d)%26).toNat:Nat))%26).toNat=c:=xo;rw[e];show q
def Gv {ds:List Int}(h1:a<=b)(j:b<=ds.length):(jT (ds.map V.int) (some (a:Int)) (some (b:Int))).length=b-a:=by unfold jT;rw[HT.rD,HT.rD,bn,cz,ab];grind
def ni (l:List Nat):(l.map λc=>[c]).flatten=l:=by
 induction l with| nil=>rfl| cons c r ih=>rw[b9,lj,ih];rfl
def ag9:∀c∈AL,isLet c:=λc j=>by let(k,hk,rfl):=aI.mp j;have:=bz.mp hk;show%[xo|xo]
def uq (c:Nat):Prop:=Jf [c]=true
def uq.lt (h:uq c):c<128:=by unfold uq Jf DY Je at h;simp at h;lia
def Xm (h:isLet c):uq c:=by simp[uq,Jf,DY,h.1,h.2]
def Xn (h:isLet c):uq (c-32):=by let h1:=h.1;let j:=h.2;simp[uq,Jf,DY,Je];lia
abbrev ones (cs:List Nat):List (List Nat):=cs.map λc=>[c]
structure Blk (r w:Nat)(ls:AA):Prop where
 len:ls.length=r
 iZ:∀l∈ls,l.length=w
def MK:List Nat:=[46,50,51,52,98,99,100]
def zm (c:Nat):Prop:=c=46\/uq c
def mkC (c:Nat):Prop:=c∈MK
structure uw (r w:Nat)(aj aM:AA)(i j:Nat):Prop where
 r1:1<=r
 r9:r<=9
 w1:1<=w
 w9:w<=9
 br:Blk r w aj
 bm:Blk r w aM
 cr:∀l∈aj,∀c∈l,zm c
 cm:∀l∈aM,∀c∈l,mkC c
 bi:i<r
 bj:j<w
def kW (ls)(l):Ts ls++[V.str (S l)]=Ts (ls++[l]):=by simp[Ts]
def jQ (cs)(c):ones cs++[[c]]=ones (cs++[c]):=by simp[ones]
def ac_ (c)(fs):inV (.str (S [c])) (Ts (ones fs))=decide (c∈fs):=by
 unfold inV
 induction fs with
 | nil=>rfl
 | cons a r ih=>
  show (qQ (.str (S [a])) (.str (S [c]))||(Ts (ones r)).any λy=>qQ y (.str (S [c])))=_;rw[ih];by_cases h:a=c
  .subst h;have:qQ (.str (S [a])) (.str (S [a]))=true:=by simp[qQ]
   rw[this];simp
  .let h':¬c=a:=λz=>h z.symm
   let j:¬S [a]=S [c]:=λz=>h (by have:=vW z;injection this);have:qQ (.str (S [a])) (.str (S [c]))=false:=by simp[qQ,j]
   rw[this];simp[h']
def Xo (fs):(Ts (ones fs)).all qZ=true:=by rw[gr];intro v hv;let(l,_,rfl):=aI.mp hv;rfl
def Xp (K:W.Frag):Sp:=λvs H Q _=>∃(a:Addr) (ns:List Int) (k:Nat),vs=[.ref a,.int k]/\aN K H a (ns.map V.int)/\k<=1000/\
 ∀(p:Addr) (ls:List Nat) (H':Hp),aA H H'->H' p=some (.lst (Ts (ones ls)))->Uv ls->Q (.ref p) H'
def Ux (D:aQ K mg "_law_letters" yZ ["_law_script","_law_k"])(kE:mg "list"=none)(jw:bF P w K mg base "_law_digits" 3 ["_law_script","_law_k","_law_base","_law_many"] (Ac K)):bF P w K mg base "_law_letters" 4 ["_law_script","_law_k"] (Xp K):=by
 calc D.dz mF ?_;walk_at"b";let(a,ns,k,rfl,hS,hk,q):=h;calc%[0,_,(aD (aR (i:=2) mF.nd rb (Or.inl rb) (bR AL xz)) (aD (aR (i:=3) mF.nd rb (Or.inl rb) (aX jw hr.mono rb (ak aG (ak bx (ak aB (ak aB au)))))) (aD (cU (bW jA (aK cA (bH gq bI aB (λ_ _=>rfl)) aB) aB (bY _)) (aJ (aW (cY (Dj rb) xw kE oC (ak bf au)))) b_) (aD (aR (i:=4) mF.nd rb (Or.inl rb) (dw au)) (aD (eU cq rb (cG (jr zO bI (gZ aB) (gZ (aK cu aB (aK cA (aK dj (bH gq bI aB (λ_ _=>rfl)) aB) aB))))) (bQ (i:=5) mF.nd rb (Or.inl rb)) (aD (Bp cq (bW VR (bH rQ bf (aK cA cL aB) (λ_ _=>rfl)) cg rb) (aJ (aR (i:=5) mF.nd rb (Or.inl rb) (aK cu cL aB)))) (aJ (gF (dU df fe ff iG cg (ak (bH rQ bf (aK cA cL aB) (λ_ _=>rfl)) au)))))) (aJ (aW cg)))))))|?_];let L:AL.length<=sizeLine:=by decide
 calc%[9,_,rb,_,rb|%[49,a,ns,k,208,5,rb,hS,hk,xt,xt,xt|λp ds H1 Y hp hp1 hl hd=>?_]];let h0:=hd ds[0] (ba _);let at0:k_ (ds.map V.int) 0=some (.int ds[0]):=aO (j:=0) (by simp[hl]);calc%[7,_,rb,p,_,0,_,rb,rb,aN.of hp1,at0|%[6,_,_|%[57,rb,rb,(by show (0:Int)<8;decide),rb,_,rb|?_]]];calc uF (λ_=>?_) (λ_=>?_);.show%[13,_,rb,AL,rb,xt|λp2 B=>q p2 AL _ (Y.bC (Y.free B)) aq %[xt,xt|ag9]]
 .calc%[zsz 0|λF hF=>?_];let B:upd H1 F (.lst []) p=some (.lst (ds.map V.int)):=aA.upd hF _ _ hp1;let O:aA H (upd H1 F (.lst [])):=Y.bC (Y.free hF);calc%[9,_,rb,_,rb|%[7,_,rb,p,_,0,_,rb,rb,aN.of B,at0|%[3,_,_,rb|%[21,rb,%[xt|xt],_,_,rb,rb|%[30,(by show (0:Int)<3;decide),_,_,rb,rb|%[17,_,rb,p,_,rb,aN.of B|λt ht=>?_]]]]]];obtain⟨r,hr1,hr2⟩:∃r:Nat,(3:Int)+ds[0]/8%3=((3+r:Nat):Int)/\r<3:=%[0,(ds[0]/8%3).toNat,by simp_all;lia|by grind]
  rw[hr1];let Ax:(jT (ds.map V.int) (some (1:Nat)) (some ((3+r:Nat):Int))).length=2+r:=by rw[Gv xo (by grind)];lia
  generalize M:jT (ds.map V.int) (some 1) (some ((3+r:Nat):Int))=xs;let aax:xs.length=2+r:=by rw[<-M];show Ax
  let Xq:∀v∈xs,∃d:Int,v=.int d:=λv hv=>by rw[<-M]at hv;let(d,_,e):=Br hv;show%[d|e]
  let N:F≠t:=λz=>by rw[<-z,aq]at ht;cases ht
  refine%[2,t,rb,%[_|aN.of aq]|fX (K:=K) (a:=t) (xs:=xs) (λi I G=>∃(dv:Option V) (fs:List Nat),I=[some (.ref a),some (.int k),some (.str (S AL)),some (.ref p),some (.ref F),dv]/\aA H G/\G t=some (.lst xs)/\G F=some (.lst (Ts (ones fs)))/\fs.length=i/\∀c∈fs,isLet c)
   %[28,none,[],rb,O.bC (O.free ht),aq,by rw[aZ N,aq];rfl,rb|λc hc=>by simp at hc] (λi I G _ ⟨_,_,_,_,h2,_⟩=>aN.of h2) ?_ ?_]
  .intro i y I G hi z;let(dv,fs,rfl,D_,h2,Z,hfl,J):=z;let hil:i<xs.length:=(al.mp hi).1;let(d,rfl):=Xq y (aE hi);let(j0,hj0):=aaw fs (by grind) d;calc%[λm I' H'=>H'=G/\∃(e:Int),I'=[some (.ref a),some (.int k),some (.str (S AL)),some (.ref p),some (.ref F),some (.int e)]/\∃j:Nat,j<=m/\(97+((e+j)%26).toNat)∉fs,%[23,j0,rb,d,rb,j0,ah _|hj0]|?_];intro m I' H' z;let(rfl,e,rfl,j,hjm,hj):=z;calc%[26,_,rb,_,rb,_,_,rb,rb,(by show (0:Int)<26;decide)|%[15,AL,_,_,rb,rb,L,abK e|%[54,_,rb,F,_,rb,.inl (aN.of Z),rb,Xo fs,_,rb|?_]]];simp only[a9,if_false];rw[ac_];refine uF (λhc=>?_) (λhc=>?_)
   .let j_:(97+(e%26).toNat)∈fs:=iL hc;let hj1:j≠0:=λz=>by subst z;simp at hj;show hj j_
    refine%[0,λI2 H3=>H3=H'/\I2=[some (.ref a),some (.int k),some (.str (S AL)),some (.ref p),some (.ref F),some (.int (e+1))],?_|?_]
    .rintro I2 H3 ⟨rfl,rfl⟩;calc%[2,m-1,cp xo xo,rb|%[9,e+1,rb,j-1,ui hjm _|?_]];have:(e+1+((j-1:Nat):Int))=e+(j:Int):=by lia
     rw[this];show hj
    .show%[31,_,rb,_,_,rb,rb,rb|rb]
   .let ahN:t≠F:=N.symm;calc%[2,_,rb,.inl %[16,rb,_|aN.of Z]|%[26,_,rb,_,rb,_,_,rb,rb,(by show (0:Int)<26;decide)|%[15,AL,_,_,rb,rb,L,abK e|%[15,F,_,_,rb,rb,Z,by rw[ab,ab];show aF (by grind)|?_]]]];calc%[28,_,fs++[97+(e%26).toNat],rb,D_.bC (Y.free hF),by rw[aZ ahN];show h2,by rw[aq,kW,jQ],by simp[hfl]|λc hc'=>?_];rcases a6.mp hc' with z|z;.show J c z
    .rw[am.mp z];let h1:e%26<26:=dC _ xt;show%[xo|by grind]
  .intro I G z;let(dv,fs,rfl,D_,h2,Z,hfl,J):=z;show%[0,_,rb|q F fs G D_ Z %[by simp[*],by grind|J]]
def Xr:Sp:=λvs H Q _=>∃c:Int,vs=[.int c]/\∀(p:Addr) (r k:Nat) (H':Hp),aA H H'->H p=none->H' p=some (.tup [.int r,.int k])->1<=r->r<=9->1<=k->k<=9->(c%8=3->(r:Int)=1+c/8%9/\(k:Int)=1+c/72%9)->Q (.ref p) H'
def ada (D:aQ K mg "_law_size" MJ ["_law_x"]):bF P w K mg base "_law_size" 1 ["_law_x"] Xr:=by
 calc D.dz ac8 (λf bh A outer s H vs Q E G h=>?_);let(c,rfl,q):=h;calc%[0,_,(aD (cU (bW jA (aK cA aG aB) aB (bY _)) (aJ (aW (cW (ak (aK cu aB (aK cA (aK dj aG aB) aB)) (ak (aK cu aB (aK cA (aK dj aG aB) aB)) au))))) b_) (aJ (aW (cW (ak (aK cu aB (aK cA (aK dj aG aB) aB)) (ak (aK cu aB (aK cA (aK dj aG aB) aB)) au))))))|?_];let j:∀(a b:Int),0<=a->a<9->0<=b->b<9->(c%8=3->a=c/8%9/\b=c/72%9)->∀p,H p=none->Q (.ref p) (upd H p (.tup [.int (1+a),.int (1+b)])):=λa b h1 F J L B p hp=>q p (1+a).toNat (1+b).toNat _ (aA.upd hp) hp (by rw[aq,show ((1+a).toNat:Int)=1+a by lia,show ((1+b).toNat:Int)=1+b by lia]) xo xo xo xo λh=>%[by rw[<-(B h).1];lia|by rw[<-(B h).2];lia]
 calc%[54,_,rb,_,_,rb,rb,(by show (0:Int)<8;decide),rb,_,rb|?_];refine uF (λ_=>?_) (λhz=>?_)
 .calc%[20,_,rb,_,_,rb|%[21,rb,%[xt|xt],_,_,rb,rb|%[30,(by show (0:Int)<9;decide),_,_,rb,rb|%[31,_,rb,_,_,rb,rb,%[xt|xt]|%[4,_,_,rb,rb,(by show (0:Int)<9;decide)|%[4,_,_,rb,rb,zsz 2|λp hp=>?_]]]]]];show j _ _ (eT _ xt) (dC _ xt) (eT _ xt) (dC _ xt) (λ_=>%[rb|rb]) p hp
 .calc%[20,_,rb,_,_,rb|%[21,rb,%[xt|xt],_,_,rb,rb|%[30,(by show (0:Int)<4;decide),_,_,rb,rb|%[31,_,rb,_,_,rb,rb,%[xt|xt]|%[4,_,_,rb,rb,(by show (0:Int)<5;decide)|%[4,_,_,rb,rb,zsz 2|λp hp=>?_]]]]]];show j _ _ (eT _ xt) (wT (dC _ xt) xt) (eT _ xt) (wT (dC _ xt) xt) (λh=>absurd (ap (congrArg V.int h)) hz) p hp
def M5:Sp:=λvs H Q _=>∃l:List Nat,vs=[.str (S l)]/\lQ l/\∀H',aA H H'->Q (.bl true) H'
def afL (h:isLet c):decide ([c]<[97])=false/\decide ([122]<[c])=false:=by
 let j:∀a b:Nat,([a]<[b])↔a<b:=λa b=>by simp[fR]
 constructor;.rw[ai];rw[j];have:=h.1;lia
 .rw[ai];rw[j];have:=h.2;lia
def Uy (D:aQ K mg "is_word" yV ["text"])(O:mg "len"=none)(B:mg "all"=none):bF P w K mg base "is_word" 1 ["text"] M5:=by
 calc D.dz DX ?_;intro f bh A outer s H vs Q E hr h;let(l,rfl,hw,q):=h;let h1:=hw.lo;let Z:=hw.hi;let hz:l.length<=sizeLine:=av (aF xo);refine%[0,_,aJ (aW (oE (nA lZ lZ aB (aP cV xw O bS (ak aG au)) aB)
  (lG (aP (nC rb) xw B xz (ak (fB rb (eG.of DX.nd xy) (yu aG) (λ_ _ _ _ _=>cI)
   (λ_ _ _ _ _=>nA u9 u9 (bR [97] xz) aG (bR [122] xz))) au)))))|?_]
 calc%[71,_,rb,l,rb,hz,_,_,rb,rb,true,(by simp;lia)|?_];calc bV %[19,_,_,rb,rb,true,(by simp;lia)|?_];calc bV ?_;refine%[9,_,rb,l,rb|λL M=>vY (λi ys F=>ys=(List.replicate i true).map V.bl/\F L=some (.lst ys)/\aA H F) %[rb,aq|aA.upd M] ?_ ?_]
 .intro i c ys F hi z;let(rfl,j,G):=z;let J:i<l.length:=(al.mp hi).1;let(Y,N):=afL (hw.az c (aE hi));calc%[22,_,rb,[97],[c],rb,rb,true,by rw[Y];rfl|bV %[18,[c],[122],rb,rb,j,?_|dZ.mk J %[?_,aq|G.bC M]]];.rw[ab,eL];show aF xo
  .rw[N,List.replicate_succ',bE];rfl
 .intro ys F z;let(rfl,j,G):=z;calc%[1,L,List.replicate l.length true,rb,aN.of j|?_];let e:(List.replicate l.length true).all id=true:=xp;rw[e];show q F G
def Rv:Sp:=λvs H Q _=>∃l:List Nat,vs=[.str (S l)]/\lQ l/\∀H',aA H H'->Q .non H'
def JN (D:aQ K mg "check_word" sY ["text"])(B:bF P w K mg base "is_word" 1 ["text"] M5):bF P w K mg base "check_word" 2 ["text"] Rv:=by calc D.dz JL (λf bh A outer s H vs Q E j h=>?_);let(l,rfl,hw,q):=h;calc%[0,_,aJ (cU (kh (gP (aX B j rb (ak aG au)))) H_ b_)|?_];calc%[13,_,rb,l,rb,hw|λH1 s1=>%[0,true,rb|?_]];show bO (q H1 s1)
structure pR (K:W.Frag)(C:Addr):Prop where
 cl:Cls K C
 nh:mO K C "held"
def lR (ws:AA):List (Key×V):=ws.map λl=>(gQ l,V.bl true)
def M6 (ws):(lR ws).map (·.1)=ws.map gQ:=by unfold lR;rw[cn];rfl
def aay (h:gQ a=gQ b):a=b:=vW (Sum.inr.inj h)
def Gw (ws)(l):fQ (lR ws) (gQ l)=if l∈ws then some (.bl true) else none:=by
 induction ws with
 | nil=>simp[lR,fQ]
 | cons a r ih=>
  by_cases e:a=l
  .subst e;have:fQ (lR (a::r)) (gQ a)=some (.bl true):=g_ (p:=(gQ a,V.bl true)) rfl;rw[this];simp
  .have:fQ (lR (a::r)) (gQ l)=fQ (lR r) (gQ l):=h_ (p:=(gQ a,V.bl true)) λz=>e (aay z)
   rw[this,ih];let j:¬l=a:=λz=>e z.symm;simp[j]
def adb (h:l∈ws):putK (lR ws) (gQ l) (.bl true)=lR ws:=by
 let j:((lR ws).any λB=>decide (B.1=gQ l))=true:=by rw[pB,Gw,if_pos h];rfl
 unfold putK;rw[if_pos j];calc(de λB q=>?_).trans (jn _);let(a,_,rfl):=aI.mp q;by_cases e:gQ a=gQ l;.simp[e]
 .simp[e]
def ade (h:l∉ws):putK (lR ws) (gQ l) (.bl true)=lR (ws++[l]):=by rw[Zr _ (by rw[Gw,if_neg h])];simp[lR]
structure mX (C:Addr)(H:Hp)(p d:Addr)(ws:AA):Prop where
 ob:∃dx,H p=some (.ins C dx [("held",.ref d)])
 dc:H d=some (.dK (lR ws))
 nd:ws.Nodup
 az:∀l∈ws,lQ l
def tD (ws:AA)(l:List Nat):List (List Nat):=if l∈ws then ws else ws++[l]
def BZ (ws)(l):putK (lR ws) (gQ l) (.bl true)=lR (tD ws l):=by
 unfold tD;split;.rename_i h;show adb h
 .rename_i h;show ade h
def Gx {ws:AA}(h:ws.Nodup):(tD ws l).Nodup:=by
 unfold tD;split;.show h
 .rename_i j;show Qz h j
def B_:x∈tD ws l↔x∈ws\/x=l:=by
 unfold tD;split;.rename_i h;show%[.inl|λz=>z.elim id λe=>e ▸ h]
 .simp
def Ca (ws)(l):(tD ws l).length<=ws.length+1:=by
 unfold tD;split;.lia
 .simp
def aha (K:W.Frag)(H:Hp)(a:Addr)(ls:AA):Prop:=aN K H a (Ts ls)\/aV K H a (Ts ls)
def Xu (K:W.Frag)(C:Addr):Sp:=λvs H Q _=>∃(p dx a:Addr) (ls:AA),vs=[.ref p,.ref a]/\H p=some (.ins C dx [])/\aha K H a ls/\(∀l∈ls,lQ l)/\ls.length<=200/\
 ∀(d:Addr) (ws:AA) (H':Hp),H d=none->mX C H' p d ws->(∀x,x∈ws↔x∈ls)->ws.length<=ls.length->(∀b o,H b=some o->b≠p->H' b=some o)->Q .non H'
def adf (F:gO K "__init__" "Book.__init__" ju f fd)(T:pR K C)(D1:bF P w K mg base "check_word" 2 ["text"] Rv):eZ P w K mg base fZ 3 f fd ["self","words"] (Xu K C):=by
 calc F.dz yW ?_;intro bh A outer s H vs Q E hr h;let(p,dx,a,ls,rfl,hp,Z,hW,hn,k):=h;let hu:=CW hr;let nd:=yW.nd;refine%[0,_,aD (Df aG K4 rb) (aJ (eU cq rb ((cG bx).or (mR bx)) (bQ (i:=2) nd rb (Or.inl rb))
  (aD (gF (aX D1 hr rb (ak bf au))) (aJ (Fv hu (eV aG rb) bf jW rb)))))|?_]
 intro d hd;let M:p≠d:=bN hp hd;calc%[0,_,rb|%[36,p,C,dx,[],rb,(by rw[aZ M];show hp),T.cl,T.nh,(by show 0<1000;decide)|?_]];let Y:upd (upd H d (HO.dK [])) p (HO.ins C dx (jE "held" (V.ref d) [])) p=some (.ins C dx [("held",.ref d)]):=aq;let N:upd (upd H d (HO.dK [])) p (HO.ins C dx (jE "held" (V.ref d) [])) d=some (.dK (lR [])):=by rw[aZ M.symm,aq];rfl
 let Ma:∀b o,H b=some o->b≠p->upd (upd H d (HO.dK [])) p (HO.ins C dx (jE "held" (V.ref d) [])) b=some o:=λb o e hb=>by rw[aZ hb,aZ (bN e hd)];show e
 generalize upd (upd H d (HO.dK [])) p (HO.ins C dx (jE "held" (V.ref d) []))=H1 at Y N Ma ⊢;let npl:∀o,H p=some o->(∀ys,o≠.lst ys)/\∀u ys,o≠.iY u (.lst ys):=λo e=>by rw[hp]at e;cases e;show⟨λ_ z=>(nomatch z),λ_ _ z=>(nomatch z)⟩
 let npt:∀o,H p=some o->(∀ys,o≠.tup ys)/\∀u ys,o≠.iY u (.tup ys):=λo e=>by rw[hp]at e;cases e;show⟨λ_ z=>(nomatch z),λ_ _ z=>(nomatch z)⟩
 rcases Z with Z|Z
 .refine .inl %[13,_,rb,a,rb,%[_|Z.keep Ma npl]|fX (K:=K) (a:=a) (xs:=Ts ls) (λi I q=>∃(v2:Option V) (ws:AA),I=[some (.ref p),some (.ref a),v2]/\q p=some (.ins C dx [("held",.ref d)])/\q d=some (.dK (lR ws))/\ws.Nodup/\
   (∀x,x∈ws↔x∈ls.take i)/\ws.length<=i/\∀b o,H b=some o->b≠p->q b=some o) %[32,none,[],rb,Y,N,ng,λx=>by simp,ah _|Ma] (λi I q _ ⟨_,_,_,_,_,_,_,_,kp⟩=>Z.keep kp npl) ?_ ?_]
  .intro i y I q hi z;let(v2,ws,rfl,j,D,B,hm,J,kp):=z;rw[bb]at hi;let(l,G,e):=fz.mp hi;subst e;walk_at"j";calc%[32,_,tD ws l,rb,by rw[aZ M];show L _ _ j,by rw[aq,BZ],Gx B,λx=>?_,ay (Ca _ _) (hG J)|λb o e hb=>?_];.rw[B_,hm,bX,G];simp
   .rw[aZ (bN e hd)];show L _ _ (kp b o e hb)
  .intro I q z;let(v2,ws,rfl,j,D,B,hm,J,kp):=z;rw[ab]at hm J;rw[cy]at hm;show k d ws q hd %[%[dx|j],D,B|λl J=>hW l ((hm l).mp J)] hm J kp
 .refine .inr %[13,_,rb,a,rb,%[_|Z.keep Ma npt]|Fl (K:=K) (a:=a) (xs:=Ts ls) (λi I q=>∃(v2:Option V) (ws:AA),I=[some (.ref p),some (.ref a),v2]/\q p=some (.ins C dx [("held",.ref d)])/\q d=some (.dK (lR ws))/\ws.Nodup/\
   (∀x,x∈ws↔x∈ls.take i)/\ws.length<=i/\∀b o,H b=some o->b≠p->q b=some o) %[32,none,[],rb,Y,N,ng,λx=>by simp,ah _|Ma] (λi I q _ ⟨_,_,_,_,_,_,_,_,kp⟩=>Z.keep kp npt) ?_ ?_]
  .intro i y I q hi z;let(v2,ws,rfl,j,D,B,hm,J,kp):=z;rw[bb]at hi;let(l,G,e):=fz.mp hi;subst e;walk_at"j";calc%[32,_,tD ws l,rb,by rw[aZ M];show L _ _ j,by rw[aq,BZ],Gx B,λx=>?_,ay (Ca _ _) xo|λb o e hb=>?_];.rw[B_,hm,bX,G];simp
   .rw[aZ (bN e hd)];show L _ _ (kp b o e hb)
  .intro I q z;let(v2,ws,rfl,j,D,B,hm,J,kp):=z;rw[ab]at hm J;rw[cy]at hm;show k d ws q hd %[%[dx|j],D,B|λl J=>hW l ((hm l).mp J)] hm J kp
def Uz (C:Addr):Sp:=λvs H Q _=>∃(p d:Addr) (ws:AA) (l:List Nat),vs=[.ref p,.str (S l)]/\mX C H p d ws/\Q (.bl (decide (l∈ws))) H
def afM (F:gO K "has" "Book.has" j7 f fd)(T:pR K C):eZ P w K mg base fZ 1 f fd ["self","text"] (Uz C):=by
 calc F.dz PB (λbh A outer s H vs Q E D h=>?_);let(p,d,ws,l,rfl,B,q):=h;let j:=CW D;let((dx,hp),hd,_,_):=id B;calc%[0,_,aJ (aW (ae4 (ae3 j bx (eV aG rb))))|?_];calc%[9,_,rb,_,rb|%[38,p,C,dx,_,_,rb,hp,T.cl,T.nh|%[30,rb,d,_,rb,rP.k (k:=gQ l) hd|?_]]];rw[Gw];by_cases h:l∈ws;.rw[if_pos h];simpa [h] using q
 .rw[if_neg h];simpa [h] using q
def afN (ws:AA):Prop:=ws.Pairwise (λa b=>decide (b<a)=false)
def Rw (C:Addr):Sp:=λvs H Q _=>∃(p d:Addr) (ws:AA),vs=[.ref p]/\mX C H p d ws/\ws.length<64/\
 ∀(t:Addr) (us:AA) (H':Hp),aA H H'->H t=none->H' t=some (.tup (Ts us))->us.Perm ws->afN us->Q (.ref t) H'
def aaz (F:gO K "words" "Book.words" iU f fd)(T:pR K C)(G:mg "sorted"=none)(j:mg "tuple"=none):eZ P w K mg base fZ 1 f fd ["self"] (Rw C):=by calc F.dz JM (λbh A outer s H vs Q E L h=>?_);let(p,d,ws,rfl,B,D,q):=h;let((dx,hp),hd,_,_):=id B;calc%[0,_,aJ (aW (cY dR xw j di (ak (aP (K7 rb) xw G gf (ak (eV aG rb) au)) au)))|?_];calc%[0,_,rb|%[12,p,C,dx,_,_,rb,hp,T.cl,T.nh,rb|%[15,d,_,ws,rb,hd,M6 ws,D|λt us J pm rs=>?_]]];calc%[3,t,_,rb|.inl %[aN.of aq|λv hv=>?_]];let s1:aA H (upd H t (.lst (Ts us))):=aA.upd J;show q v us _ (s1.bC (s1.free hv)) (s1.free hv) aq pm rs
def afO {a b:List Nat}(h1:¬a<b)(j:a≠b):b<a:=by
 by_cases h:b<a;.show h
 .show absurd (List.le_antisymm (List.not_lt.mp h) (List.not_lt.mp h1)) j
def afP (x)(ws):inV (.str (S x)) (Ts ws)=decide (x∈ws):=by
 unfold inV
 induction ws with
 | nil=>simp[Ts]
 | cons y ws ih=>
  let e:qQ (.str (S y)) (.str (S x))=decide (y=x):=by
   show decide (S y=S x)=_;by_cases h:y=x;.rw[h];simp
   .let j:S y≠S x:=λe=>h (vW e)
    simp[h,j]
  show (qQ (.str (S y)) (.str (S x))||(Ts ws).any _)=_;rw[e,ih];by_cases h:y=x;.simp[h]
  .let j:¬x=y:=λe=>h e.symm
   simp[h,j]
def mX.same (B:mX C H p d ws)(s:aA H H'):mX C H' p d ws:=%[let %[dx|e]:=B.ob;%[dx|s _ _ e],s _ _ B.dc,B.nd|B.az]
def M7 (K:W.Frag):Sp:=λvs H Q _=>∃(p a:Addr) (ls:List Nat) (ns:List Int) (st m:Nat),vs=[.ref p,.ref a,.int st,.int m]/\H p=some (.lst (Ts (ones ls)))/\Uv ls/\aN K H a (ns.map V.int)/\st+m<=1000/\m<=60/\
 ∀(t:Addr) (ws:AA) (H':Hp),aA H H'->H' t=some (.lst (Ts ws))->ws.Nodup->(∀l∈ws,lQ l)->afN ws->ws.length<=m->Q (.ref t) H'
def PJ (D:aQ K mg "_law_words" Gq ["_law_letters_here","_law_script","_law_start","_law_many"])(bw:mg "len"=none)(eF:mg "range"=none)(dJ:mg "sorted"=none)(kE:mg "list"=none)(jw:bF P w K mg base "_law_digits" 3 ["_law_script","_law_k","_law_base","_law_many"] (Ac K)):bF P w K mg base "_law_words" 4 ["_law_letters_here","_law_script","_law_start","_law_many"] (M7 K):=by
 calc D.dz pP ?_;walk_at"b";let(p,a,ls,ns,st,m,rfl,hp,hA,hS,hst,hm,q):=h;let hu:=CW hr;let hlo:(Ts (ones ls)).length=ls.length:=by rw[ab,ab]
 calc%[0,_,(aD (aR (i:=4) pP.nd rb (Or.inl rb) K4) (aD (eU cq rb (jN xw eF (ak bI au)) (bQ (i:=5) pP.nd rb (Or.inl rb)) (aD (aR (i:=6) pP.nd rb (Or.inl rb) (aX jw hr.mono rb (ak bx (ak (aK cu bf cL) (ak aB (ak aB au)))))) (aD (aR (i:=7) pP.nd rb (Or.inl rb) (bH gq (dw (ak aB (ak aB (ak aB (ak aB (ak aB (ak aB (ak aB (ak (aK cu aB (aK cA (aK dj (bH gq cM aB (λ_ _=>rfl)) aB) aB)) au))))))))) (aK cA (bH gq cM aB (λ_ _=>rfl)) aB) (λ_ _=>rfl))) (aJ (Fv hu cg (dU bu eP eQ pD (bR [] xz) (ak (fB rb (eG.of pP.nd xy) (cG (jr zO cM (gZ aB) (gZ (aK cu aB iz)))) (λ_ _ _ _ _=>cI) (λ_ _ _ _ _=>(bH (K9 K) bx (aK cA (aK dj aG aB) (aP (qD K) xw bw bS (ak bx au))) (λ_ _=>rfl)))) au)) jW rb))))) (aJ (aW (aP Le xw dJ gf (ak (cY (TQ rb) xw kE oC (ak cg au)) au))))))|?_];intro d hd;calc%[44,_,rb,_,rb,nN _,xo|?_];rw[ci];refine ql (lo:=0) (n:=m) (λi I H2=>∃(v5 v6 v7:Option V) (ws:AA),I=[some (.ref p),some (.ref a),some (.int st),some (.int m),some (.ref d),v5,v6,v7]/\aA H H2/\H2 d=some (.dK (lR ws))/\ws.Nodup/\(∀l∈ws,lQ l)/\ws.length<=i)
  %[36,none,none,none,[],rb,aA.upd hd,aq,ng,λl h=>by simp at h|ah _] ?_ ?_
 .intro i I H2 hi z;let(v5,v6,v7,ws,rfl,sm,N,LQ,G,O):=z;let e0:(st:Int)+(0+(i:Int))=((st+i:Nat):Int):=xo;calc%[0,_,rb|%[27,_,rb,_,rb,_,_,rb,rb|%[49,a,ns,st+i,520,10,by show [V.ref a,V.int ((st:Int)+(0+(i:Int))),V.int 520,V.int 10]=_;rw[e0];rfl,sm.seq hS,xo,xt,xt,xt|λpr ds H3 s3 ahO M hl hdd=>?_]]];let at0:k_ (ds.map V.int) 0=some (.int ds[0]):=aO (j:=0) (by simp[hl]);let h0:=hdd ds[0] (ba _);calc%[7,_,rb,pr,_,0,_,rb,rb,aN.of M,at0|%[4,_,_,rb,rb,%[xt|xt]|%[4,_,_,rb,rb,(by show (0:Int)<8;decide)|%[4,_,_,rb,rb,zsz 8|λt ht=>?_]]]];obtain⟨z,hz1,hz2,hz3⟩:∃z:Nat,k_ [V.int 2,V.int 2,V.int 3,V.int 3,V.int 3,V.int 4,V.int 4,V.int (2+ds[0]/8%8)] (ds[0]%8)=some (.int z)/\2<=z/\z<=9:=by
   let hm:ds[0]%8=0\/ds[0]%8=1\/ds[0]%8=2\/ds[0]%8=3\/ds[0]%8=4\/ds[0]%8=5\/ds[0]%8=6\/ds[0]%8=7:=xo;rcases hm with e|e|e|e|e|e|e|e <;> rw[e]
   .show%[2,2,aO (j:=0) rb,xt|xt]
   .show%[2,2,aO (j:=1) rb,xt|xt]
   .show%[2,3,aO (j:=2) rb,xt|xt]
   .show%[2,3,aO (j:=3) rb,xt|xt]
   .show%[2,3,aO (j:=4) rb,xt|xt]
   .show%[2,4,aO (j:=5) rb,xt|xt]
   .show%[2,4,aO (j:=6) rb,xt|xt]
   .calc%[2,(2+ds[0]/8%8).toNat,?_,by grind|by grind];let e2:(2+ds[0]/8%8)=(((2+ds[0]/8%8).toNat:Nat):Int):=by grind
    rw[<-e2];show aO (j:=7) rfl
  let hT:upd H3 t (.lst [V.int 2,V.int 2,V.int 3,V.int 3,V.int 3,V.int 4,V.int 4,V.int (2+ds[0]/8%8)]) t=some _:=aq;let s1:aA H3 (upd H3 t (.lst [V.int 2,V.int 2,V.int 3,V.int 3,V.int 3,V.int 4,V.int 4,V.int (2+ds[0]/8%8)])):=aA.upd ht;generalize upd H3 t (.lst [V.int 2,V.int 2,V.int 3,V.int 3,V.int 3,V.int 4,V.int 4,V.int (2+ds[0]/8%8)])=H4 at hT s1 ⊢;calc%[7,_,rb,pr,_,0,_,rb,rb,aN.of (s1 _ _ M),at0|%[4,_,_,rb,rb,(by show (0:Int)<8;decide)|%[25,t,_,_,_,rb,rb,aN.of hT,hz1|?_]]];let Bb:aA H H4:=(sm.trans s3).trans s1;calc%[39,_,rb,rb,_,rb|%[27,_,rb,_,rb,_,_,rb,rb|%[17,_,rb,pr,_,rb,aN.of (s1 _ _ M)|λu hu'=>?_]]];let e1:(1:Int)+(z:Int)=((1+z:Nat):Int):=rfl;rw[e1];let Ax:(jT (ds.map V.int) (some (1:Nat)) (some ((1+z:Nat):Int))).length=z:=by rw[Gv xo xo];lia
  generalize hxs:jT (ds.map V.int) (some 1) (some ((1+z:Nat):Int))=xs;let aax:xs.length=z:=by rw[<-hxs];show Ax
  let Xq:∀v∈xs,∃d:Int,v=.int d:=λv hv=>by rw[<-hxs]at hv;let(d,hd,e):=Br hv;show%[d|e]
  let sU:∀o,aA H4 (upd H4 u o):=λo=>aA.upd hu';refine%[2,u,rb,%[_|aN.of aq]|λL Y=>jf (K:=K) (a:=u) (xs:=xs) (λi ys Z=>∃F:List Nat,ys=Ts (F.map λc=>[c])/\F.length=i/\(∀c∈F,c∈ls)/\Z L=some (.lst ys)/\Z u=some (.lst xs)/\aA H4 Z)
   %[42,[],rb,rb,λc hc=>by simp at hc,aq,by rw[aZ (bN aq Y)];show aq|(sU _).bC ((sU _).free Y)] (λi ys Z _ ⟨_,_,_,_,_,h2,_⟩=>aN.of h2) ?_ ?_]
  .intro i y ys Z hi z;let(F,rfl,hcl,J,B,hu2,D_):=z;let hil:i<xs.length:=(al.mp hi).1;let(d,rfl):=Xq y (aE hi);let hlp:(0:Int)<(ls.length:Int):=by have:=hA.lo;lia
   obtain⟨j,hj1,hj2⟩:∃j:Nat,d/20%(ls.length:Int)=(j:Int)/\j<ls.length:=by let h1:0<=d/20%(ls.length:Int):=eT _ xo;let h2:d/20%(ls.length:Int)<ls.length:=dC _ hlp;show%[0,(d/20%(ls.length:Int)).toNat,xo|by simp_all]
   let Xv:=D_ _ _ (Bb _ _ hp);calc%[26,_,rb,_,rb,_,_,rb,rb,%[xt|xt]|%[17,_,rb,p,_,rb,.inl (aN.of Xv)|%[4,_,_,rb,rb,by rw[hlo];show hlp|%[59,p,_,_,.str (S [ls[j]]),rb,rb,aN.of Xv,?_,B,?_|?_]]]];.rw[hlo,hj1];show aO (by simp[Ts,ones,hj2])
   .show (Ts (F.map λc=>[c])).length<sizeLine;rw[ab,ab];show aF xo
   .refine dZ.mk hil %[42,F++[ls[j]],by simp[Ts],by simp[hcl],λc hc=>?_,aq,?_|λb o e=>?_]
    .rcases a6.mp hc with e|e;.show J c e
     .rw[am.mp e];show ba _
    .rw[aZ (bN aq Y)];show hu2
    .rw[aZ (bN ((sU _) b o e) Y)];show D_ b o e
  .intro ys Z z;let(F,rfl,hcl,J,B,hu2,D_):=z;calc%[18,L,F.map λc=>[c],rb,rb,aN.of B,by rw[ni];lia|?_];rw[ni];let hd5:=D_ _ _ (s1 _ _ (s3 _ _ N));let hW:lQ F:=%[by simp[*],xo|λc hc=>hA.az c (J c hc)]
   calc%[1,d,_,rb,uE.k (k:=gQ F) hd5 (by rw[lR,ab];show aF xo)|?_];calc%[36,_,_,_,tD ws F,rb,(Bb.trans D_).bC hd,by rw[aq,BZ],Gx LQ,λl hl=>?_|ay (Ca _ _) (hG O)];rcases B_.mp hl with e|e;.show G l e
   .rw[e];show hW
 .intro I H2 z;let(v5,v6,v7,ws,rfl,sm,N,LQ,G,O):=z;calc%[48,_,rb,d,_,ws,rb,N,M6 ws,xo|λL Y=>?_];let s3:aA H (upd H2 L (.lst (Ts ws))):=sm.bC (sm.free Y);calc%[4,L,ws,rb,aN.of aq,xo|λL2 ws' B pm pw=>?_];show q L2 ws' _ (s3.bC (s3.free B)) aq (pm.nodup_iff.mpr LQ) (λl hl=>G l (pm.mem_iff.mp hl)) pw (by rw[pm.length_eq];show O)
def Rx:Sp:=λvs H Q _=>∃i:Int,vs=[.int i]/\Q (.bl true) H
def PL (D:aQ K mg "is_whole" wM ["thing"])(B:mg "int"=none)(M:mg "bool"=none)(j:mg "isinstance"=none):bF P w K mg base "is_whole" 1 ["thing"] Rx:=by calc D.dz Pu (λf bh A outer s H vs Q E F h=>?_);let(i,rfl,q):=h;calc%[0,_,(aJ (aW (oE (aP jq xw j fA (ak aG (ak (pF (v:=.ty "int") xw B pE rb) au))) (lG (ae2 (aP jq xw j fA (ak aG (ak (pF (v:=.ty "bool") xw M PyProof.Rows.boot_bool rb) au))))))))|?_];show%[58,_,rb,_,_,_,true,rb,.int _,xy,true,rb|bV %[58,_,rb,_,_,_,false,rb,.int _,xy,false,rb|q]]
def jB {ls:AA}{i:Nat}{l:List Nat}(h:ls[i]?=some l):(Ts ls)[i]?=some (.str (S l)):=by simp[Ts,h]
def kI {ls:AA}{i:Nat}{x:V}(h:(Ts ls)[i]?=some x):∃l,ls[i]?=some l/\x=.str (S l):=by rw[bb]at h;let(l,h1,j):=fz.mp h;show%[0,l,h1|j.symm]
def Ad (n):((List.replicate n true).all id)=true:=by simp
def wU (n):(List.replicate n true).map V.bl++[V.bl true]=(List.replicate (n+1) true).map V.bl:=by rw[List.replicate_succ',bE];rfl
def Gy:Sp:=λvs H Q _=>∃(p:Addr) (ls:AA) (r w:Nat),vs=[.ref p]/\H p=some (.tup (Ts ls))/\Blk r w ls/\1<=r/\r<=9/\1<=w/\w<=9/\∀H',aA H H'->Q (.bl true) H'
def PN (D:aQ K mg "is_block" wN ["thing"])(Z:mg "len"=none)(bU:mg "tuple"=none)(Ko:mg "str"=none)(jk:mg "all"=none)(cR:mg "isinstance"=none)(Ea:∃t,mg "MOST"=some (.int 9 t)):bF P w K mg base "is_block" 1 ["thing"] Gy:=by
 calc D.dz pY ?_;walk_at"b";let(p,ls,r,w,rfl,hp,Y,r1,r9,w1,w9,q):=h;let ji:(Ts ls).length=r:=by rw[ab,Y.len]
 let h0:0<ls.length:=by rw[Y.len];show r1
 calc%[0,_,(aD (cU (QW.qt (vX (kh (gP (aP jq xw cR fA (ak aG (ak (pF (v:=.ty "tuple") xw bU di rb) au))))) (rU (kh (rT lZ lZ aB (aP cB xw Z bS (ak aG au)) (Tw xw Ea)))))) (aJ (aW jW)) b_) (aD (cU (kh (gP (aP (nC rb) xw jk nP (ak (fB rb (eG.of pY.nd xy) (mR aG) (λ_ _ _ _ _=>cI) (λ_ _ _ _ _=>(aP (K_ K) xw cR fA (ak aG (ak (pF (v:=.ty "str") xw Ko PyProof.Rows.boot_str rb) au))))) au)))) (aJ (aW jW)) b_) (aD (aR (i:=1) pY.nd rb (Or.inr rb) (aP cV xw Z bS (ak (bH dO aG aB (λ_ _=>rfl)) au))) (aJ (aW (oE (nA lZ lZ aB bx (Tw xw Ea)) (lG (aP (nC rb) xw jk nP (ak (fB rb (eG.of pY.nd xy) (mR aG) (λ_ _ _ _ _=>cI) (λ_ _ _ _ _=>(gW jA (aP cV xw Z bS (ak aG au)) bf (bY _)))) au)))))))))|?_];calc%[58,_,rb,_,_,_,true,rb,.tup hp,xy,_,rb|bO ?_];calc%[51,_,rb,p,_,rb,.inr (aV.of hp),_,_,rb,rb,true,by rw[ji];simp;lia|bV %[19,_,_,rb,rb,true,by rw[ji];simp;lia|bO ?_]];refine%[13,_,rb,p,rb,%[_|aV.of hp]|λL hL=>wg (xs:=Ts ls) (λi ys N=>ys=(List.replicate i true).map V.bl/\N L=some (.lst ys)/\aA H N) %[rb,aq|aA.upd hL] (λi ys N _ h=>aV.of (h.2.2 _ _ hp)) ?_ ?_]
 .intro i x ys N hi z;let(rfl,B,F):=z;let(l,hl,rfl):=kI hi;let M:i<(Ts ls).length:=(al.mp hi).1;refine%[0,_,rb|%[36,_,_,_,true,rb,.str _,xy,B,by rw[ab,eL];show aF xo|dZ.mk M %[wU i,aq|F.bC hL]]]
 .intro ys N z;let(rfl,B,F):=z;calc%[1,L,_,rb,aN.of B|?_];rw[Ad];calc%[0,_,rb|bO ?_];let J:ls[0].length=w:=Y.iZ _ (ba _);let hz:ls[0].length<=sizeLine:=av (aF xo);calc%[7,_,rb,p,_,_,.str (S ls[0]),rb,rb,aV.of (F _ _ hp),aO (j:=0) (jB (by simp[h0]))|%[2,_,rb,hz|?_]];calc%[22,_,rb,_,_,rb,rb,true,by rw[J];simp;lia|bV %[19,_,_,rb,rb,true,by rw[J];simp;lia|bV ?_]];refine%[13,_,rb,p,rb,%[_|aV.of (F _ _ hp)]|λL2 vH=>wg (xs:=Ts ls) (λi ys O=>ys=(List.replicate i true).map V.bl/\O L2=some (.lst ys)/\aA H O) %[rb,aq|F.bC (F.free vH)] (λi ys N _ h=>aV.of (h.2.2 _ _ hp)) ?_ ?_]
  .intro i x ys O hi z;let(rfl,jR,G):=z;let(l,hl,rfl):=kI hi;let M:i<(Ts ls).length:=(al.mp hi).1;let Ry:l.length=w:=Y.iZ _ (aE hl);calc%[13,_,rb,_,rb,av (aF xo)|%[5,_,rb,rb,jR,by rw[ab,eL];show aF xo|dZ.mk M %[?_,aq|G.bC (F.free vH)]]];rw[Ry,J,ap rfl];show wU i
  .intro ys O z;let(rfl,jR,G):=z;calc%[1,L2,_,rb,aN.of jR|?_];rw[Ad];show q O G
def nD {r w:Nat}{ls:AA}(h:Blk r w ls):ls.flatten.length=r*w:=by
 rw[List.length_flatten];have:ls.map List.length=List.replicate r w:=by rw[<-h.len,List.eq_replicate_iff];show%[xp|λb q=>by let(l,j,rfl):=aI.mp q;show h.iZ l j]
 rw[this,List.sum_replicate_nat]
def Xw:Sp:=λvs H Q _=>∃(p:Addr) (ls:AA) (r w:Nat),vs=[.ref p]/\H p=some (.tup (Ts ls))/\Blk r w ls/\1<=r/\r<=9/\1<=w/\w<=9/\(∀l∈ls,∀c∈l,zm c)/\∀H',aA H H'->Q (.bl true) H'
def PX (D:aQ K mg "are_rows" wO ["thing"])(jk:mg "all"=none)(d9:∃t,mg "FREE"=some (.str (S [46]) t))(wV:bF P w K mg base "is_block" 1 ["thing"] Gy)(Xx:bF P w K mg base "is_sign" 1 ["thing"] (Xj K)):bF P w K mg base "are_rows" 2 ["thing"] Xw:=by
 calc D.dz Ba (λf bh A outer s H vs Q E O h=>?_);let(p,ls,r,w,rfl,hp,Z,r1,r9,w1,w9,hc,q):=h;let hrw:r*w<=81:=ip r9 w9;let hfl:=nD Z;calc%[0,_,(aJ (aW (oE (aX wV O.mono rb (ak aG au)) (lG (aP (nC rb) xw jk nP (ak (fB rb (eG.of Ba.nd xy) (yu (dU bu eP eQ vZ (bR [] xz) (ak aG au))) (λ_ _ _ _ _=>cI) (λ_ _ _ _ _=>(Tt (gW uW aG (mj xw d9) (bY _)) (lG (aX Xx O.mono rb (ak aG au)))))) au))))))|?_];calc%[0,_,rb|%[45,p,ls,r,w,rb,hp,Z,r1,r9,w1,w9|λH1 s1=>%[0,true,rb|bV ?_]]];calc%[rb|%[54,_,rb,p,ls,rb,rb,aV.of (s1 _ _ hp),xo,_,rb|λL Y=>?_]];refine vY (λi ys j=>ys=(List.replicate i true).map V.bl/\j L=some (.lst ys)/\aA H j) %[rb,aq|s1.bC (s1.free Y)] ?_ ?_
 .intro i c ys j hi z;let(rfl,B,J):=z;let M:i<ls.flatten.length:=(al.mp hi).1;let(l,hl,G):=s_.mp (aE hi);let F:j L=some (.lst ((List.replicate i true).map V.bl))/\((List.replicate i true).map V.bl).length<sizeLine/\dZ ls.flatten.length i ((List.replicate i true).map V.bl++[V.bl true]=(List.replicate (i+1) true).map V.bl/\upd j L (.lst ((List.replicate i true).map V.bl++[V.bl true])) L=some (.lst ((List.replicate i true).map V.bl++[V.bl true]))/\aA H (upd j L (.lst ((List.replicate i true).map V.bl++[V.bl true])))):=
   %[B,by rw[ab,eL];show aF xo|dZ.mk M %[wU i,aq|J.bC (s1.free Y)]]
  calc%[22,_,rb,[c],[46],rb,rb,_,rb|?_];rcases hc l hl c G with e|e
  .subst e;rw[ap rfl];show bV F
  .by_cases N:[c]=[46]
   .rw[ap N];show bV F
   .rw[ai N];calc bO %[0,_,rb|.inr %[2,[c],rb,by show 1<=1000;decide|?_]];rw[show Jf [c]=true from e];show F
 .intro ys j z;let(rfl,B,J):=z;calc%[1,L,_,rb,aN.of B|?_];rw[Ad];show q j J
def Rz:Sp:=λvs H Q _=>∃(p:Addr) (ls:AA) (r w:Nat),vs=[.ref p]/\H p=some (.tup (Ts ls))/\Blk r w ls/\1<=r/\r<=9/\1<=w/\w<=9/\(∀l∈ls,∀c∈l,mkC c)/\∀H',aA H H'->Q (.bl true) H'
def M9 (D:aQ K mg "are_marks" uL ["thing"])(jk:mg "all"=none)(Gz:∃t,mg "MARKS"=some (.str (S MK) t))(wV:bF P w K mg base "is_block" 1 ["thing"] Gy):bF P w K mg base "are_marks" 2 ["thing"] Rz:=by
 calc D.dz yU ?_;walk_at"b";let(p,ls,r,w,rfl,hp,N,r1,r9,w1,w9,hc,q):=h;let O:r*w<=81:=ip r9 w9;let Z:=nD N;calc%[0,_,(aJ (aW (oE (aX wV hr.mono rb (ak aG au)) (lG (aP (nC rb) xw jk nP (ak (fB rb (eG.of yU.nd xy) (yu (dU bu eP eQ vZ (bR [] xz) (ak aG au))) (λ_ _ _ _ _=>cI) (λ_ _ _ _ _=>(gW Dd aG (mj xw Gz) rb))) au))))))|?_];calc%[0,_,rb|%[45,p,ls,r,w,rb,hp,N,r1,r9,w1,w9|λH1 s1=>%[0,true,rb|bV ?_]]];calc%[rb|%[54,_,rb,p,ls,rb,rb,aV.of (s1 _ _ hp),xo,_,rb|λL M=>?_]];refine vY (λi ys B=>ys=(List.replicate i true).map V.bl/\B L=some (.lst ys)/\aA H B) %[rb,aq|s1.bC (s1.free M)] ?_ ?_
 .intro i c ys B hi z;let(rfl,j,G):=z;let J:i<ls.flatten.length:=(al.mp hi).1;let(l,Y,F):=s_.mp (aE hi);calc%[0,_,rb|%[18,c,MK,rb,rb,j,by rw[ab,eL];show aF xo|dZ.mk J %[?_,aq|G.bC (s1.free M)]]];rw[ap (show c∈MK from hc l Y c F)];show wU i
 .intro ys B z;let(rfl,j,G):=z;calc%[1,L,_,rb,aN.of j|?_];rw[Ad];show q B G
def Cd (K:W.Frag):Sp:=λvs H Q _=>∃(p:Addr) (ls:AA) (r w:Nat) (i j:Int),vs=[.ref p,.int i,.int j]/\aV K H p (Ts ls)/\Blk r w ls/\1<=r/\r<=9/\w<=9/\Q (.bl (decide (0<=i/\i<r/\0<=j/\j<w))) H
def JQ (D:aQ K mg "is_cell_of" sS ["rows","row","column"])(L:mg "len"=none)(N:bF P w K mg base "is_whole" 1 ["thing"] Rx):bF P w K mg base "is_cell_of" 2 ["rows","row","column"] (Cd K):=by
 calc D.dz JH (λf bh A outer s H vs Q E M h=>?_);let(p,ls,r,w,i,j,rfl,hp,G,r1,r9,w9,q):=h;let O:(Ts ls).length=r:=by rw[ab,G.len]
 let Y:0<ls.length:=by rw[G.len];lia
 let J:ls[0].length=w:=G.iZ _ (ba _);calc%[0,_,(aD (cU (QW.qt (vX (kh (gP (aX N M.mono rb (ak bx au)))) (rU (kh (gP (aX N M.mono rb (ak bf au))))))) (aJ (aW jW)) b_) (aJ (aW (oE (nA lZ t_ aB bx (aP cB xw L bS (ak aG au))) (lG (nA lZ t_ aB bf (aP cV xw L bS (ak (bH dO aG aB (λ_ _=>rfl)) au))))))))|?_];calc%[23,_,rb,i,rb,_,rb|bO %[23,_,rb,j,rb,_,rb|bO ?_]];calc%[22,_,rb,_,_,rb,rb,_,rb|?_];by_cases h1:0<=i
 .rw[ap h1];calc bV %[51,_,rb,p,_,rb,.inr hp,_,_,rb,rb,_,rb|?_];rw[O];by_cases B:i<(r:Int)
  .rw[ap B];calc bV %[22,_,rb,_,_,rb,rb,_,rb|?_];by_cases F:0<=j
   .rw[ap F];calc bV %[7,_,rb,p,_,_,.str (S ls[0]),rb,rb,hp,aO (j:=0) (jB (by simp[Y]))|%[0,_,rb|%[30,av (aF xo),_,_,rb,rb|?_]]];rw[J];simpa [h1,B,F] using q
   .rw[ai F];calc bO ?_;simpa [h1,B,F] using q
  .rw[ai B];calc bO ?_;simpa [h1,B] using q
 .rw[ai h1];calc bO %[0,_,rb|bO ?_];simpa [h1] using q
def RB (K:W.Frag):Sp:=λvs H Q _=>∃(p b:Addr) (ls:AA) (r w:Nat) (i j:Nat),vs=[.ref p,.ref b]/\H p=some (.tup (Ts ls))/\H b=some (.tup [.int i,.int j])/\Blk r w ls/\1<=r/\r<=9/\w<=9/\i<r/\j<w/\Q (.bl true) H
def GC (D:aQ K mg "is_begin_of" qG ["rows","thing"])(G:mg "len"=none)(M:mg "tuple"=none)(N:mg "isinstance"=none)(J:bF P w K mg base "is_cell_of" 2 ["rows","row","column"] (Cd K)):bF P w K mg base "is_begin_of" 3 ["rows","thing"] (RB K):=by calc D.dz Gm (λf bh A outer s H vs Q E L h=>?_);let(p,b,ls,r,w,i,j,rfl,hp,B,F,r1,r9,w9,hi,O,q):=h;calc%[0,_,(aJ (aW (oE (aP jq xw N fA (ak bx (ak (pF (v:=.ty "tuple") xw M di rb) au))) (oE (gW jA (aP cB xw G bS (ak bx au)) aB (bY _)) (lG (aX J L.mono rb (ak aG (ak (bH dO bx aB (λ_ _=>rfl)) (ak (bH dO bx aB (λ_ _=>rfl)) au)))))))))|?_];calc%[58,_,rb,_,_,_,true,rb,.tup B,xy,true,rb|bV ?_];calc%[20,_,rb,b,_,rb|%[14,.inr (aV.of B),rb,true,rb|bV ?_]];calc%[0,_,rb|%[7,_,rb,b,_,_,.int i,rb,rb,aV.of B,aO (j:=0) rb|%[7,_,rb,b,_,_,.int j,rb,rb,aV.of B,aO (j:=1) rb|?_]]];calc%[33,p,ls,r,w,i,j,rb,aV.of hp,F,r1,r9,w9|?_];rw[ap %[xo,ph gu hi,xo|xo]];show q
def RD:Sp:=λvs H Q _=>∃(pr pm pb:Addr) (r w:Nat) (aj aM:AA) (i j:Nat),vs=[.ref pr,.ref pm,.ref pb]/\H pr=some (.tup (Ts aj))/\H pm=some (.tup (Ts aM))/\H pb=some (.tup [.int i,.int j])/\uw r w aj aM i j/\∀H',aA H H'->Q (.bl true) H'
def P0 (D:aQ K mg "is_board" wQ ["rows","marks","begin"])(J:mg "len"=none)(Z:bF P w K mg base "are_rows" 2 ["thing"] Xw)(P_:bF P w K mg base "are_marks" 2 ["thing"] Rz)(Y:bF P w K mg base "is_begin_of" 3 ["rows","thing"] (RB K)):bF P w K mg base "is_board" 4 ["rows","marks","begin"] RD:=by
 calc D.dz Px (λf bh A outer s H vs Q E M h=>?_);let(pr,pm,pb,r,w,aj,aM,i,j,rfl,G,hm,hb,B,q):=h;let l1:(Ts aj).length=r:=by rw[ab,B.br.len]
 let l2:(Ts aM).length=r:=by rw[ab,B.bm.len]
 let h0:0<aj.length:=by rw[B.br.len];show B.r1
 let L:0<aM.length:=by rw[B.bm.len];show B.r1
 let O:aj[0].length=w:=B.br.iZ _ (ba _);let N:aM[0].length=w:=B.bm.iZ _ (ba _);let w9:=B.w9;calc%[0,_,(aD (cU (QW.qt (vX (kh (gP (aX Z M.mono rb (ak aG au)))) (rU (kh (gP (aX P_ M.mono rb (ak bx au))))))) (aJ (aW jW)) b_) (aD (cU (QW.qt (vX (bW J6 (aP cB xw J bS (ak bx au)) (aP cB xw J bS (ak aG au)) (bY _)) (rU (bW J6 (aP cV xw J bS (ak (bH dO bx aB (λ_ _=>rfl)) au)) (aP cV xw J bS (ak (bH dO aG aB (λ_ _=>rfl)) au)) (bY _))))) (aJ (aW jW)) b_) (aJ (aW (aX Y M.mono rb (ak aG (ak bf au)))))))|?_];calc%[0,_,rb|%[72,pr,aj,r,w,rb,G,B.br,B.r1,B.r9,B.w1,B.w9,B.cr|λH1 s1=>%[0,_,rb|bO ?_]]];calc%[0,_,rb|%[72,pm,aM,r,w,rb,s1 _ _ hm,B.bm,B.r1,B.r9,B.w1,B.w9,B.cm|λH2 s2=>%[0,_,rb|bO ?_]]];let F:=s1.trans s2;calc%[17,_,rb,pm,_,rb,.inr (aV.of (F _ _ hm))|%[20,_,rb,pr,_,rb|%[14,.inr (aV.of (F _ _ G)),rb,_,rb|?_]]];calc Tp (by rw[l1,l2]) ?_;calc%[7,_,rb,pm,_,_,.str (S aM[0]),rb,rb,aV.of (F _ _ hm),aO (j:=0) (jB (by simp[L]))|%[2,_,rb,av (aF xo)|%[7,_,rb,pr,_,_,.str (S aj[0]),rb,rb,aV.of (F _ _ G),aO (j:=0) (jB (by simp[h0]))|%[0,_,rb|%[14,av (aF xo),rb,_,rb|?_]]]]];calc Tp (by rw[O,N]) ?_;calc%[0,_,rb|%[65,_,rb,pr,pb,aj,r,w,i,j,rb,F _ _ G|%[F _ _ hb,B.br,B.r1,B.r9,B.w9,B.bi,B.bj|?_]]];show q H2 F
structure fM (K:W.Frag)(C:Addr):Prop where
 cl:Cls K C
 nr:mO K C "rows"
 nm:mO K C "marks"
 nb:mO K C "begin"
structure dX (C:Addr)(H:Hp)(p:Addr)(r w:Nat)(aj aM:AA)(i j:Nat):Prop where
 ex:∃dx pr pm pb,H p=some (.ins C dx [("rows",.ref pr),("marks",.ref pm),("begin",.ref pb)])/\H pr=some (.tup (Ts aj))/\H pm=some (.tup (Ts aM))/\H pb=some (.tup [.int i,.int j])
 ok:uw r w aj aM i j
def dX.mv {r w:Nat}{aj aM:AA}{i j:Nat}(B:dX C H p r w aj aM i j)(s:aA H H'):dX C H' p r w aj aM i j:=by let((dx,pr,pm,pb,a,b,c,d),o):=B;show%[%[55,dx,pr,pm,pb,s _ _ a,s _ _ b,s _ _ c|s _ _ d]|o]
def Ae (C:Addr):Sp:=λvs H Q _=>∃(p dx pr pm pb:Addr) (r w:Nat) (aj aM:AA) (i j:Nat),vs=[.ref p,.ref pr,.ref pm,.ref pb]/\H p=some (.ins C dx [])/\H pr=some (.tup (Ts aj))/\H pm=some (.tup (Ts aM))/\H pb=some (.tup [.int i,.int j])/\uw r w aj aM i j/\
 ∀H',(∀b o,H b=some o->b≠p->H' b=some o)->H' p=some (.ins C dx [("rows",.ref pr),("marks",.ref pm),("begin",.ref pb)])->Q .non H'
def JT (F:gO K "__init__" "Board.__init__" iQ f fd)(T:fM K C)(J:bF P w K mg base "is_board" 4 ["rows","marks","begin"] RD):eZ P w K mg base fZ 5 f fd ["self","rows","marks","begin"] (Ae C):=by
 calc F.dz JK (λbh A outer s H vs Q E L h=>?_);let(p,dx,pr,pm,pb,r,w,aj,aM,i,j,rfl,hp,G,hm,M,B,q):=h;calc%[0,_,(aD (cU (kh (gP (aX J L.mono rb (ak bx (ak bf (ak bI au)))))) H_ b_) (aD (Df aG bx rb) (aD (Df aG bf rb) (aJ (Df aG bI rb)))))|?_];calc%[23,_,rb,_,rb,_,rb|%[6,pr,pm|%[64,pb,r,w,aj,aM,i,j,rb,G,hm,M,B|λH1 s1=>%[0,_,rb|bO ?_]]]];calc%[66,_,rb,_,rb,p,C,dx,_,rb,s1 _ _ hp,T.cl,T.nr,by show 0<1000;decide|?_];calc%[66,_,rb,_,rb,p,C,dx,_,rb,aq,T.cl,T.nm,by show 1<1000;decide|?_];calc%[66,_,rb,_,rb,p,C,dx,_,rb,aq,T.cl,T.nb,by show 2<1000;decide|?_];calc q _ (λb o e D=>?_) ?_;.rw[aZ D,aZ D,aZ D];show s1 _ _ e
 .show aq
def atC (aj:AA)(r w:Nat)(i j:Int):Nat:=if 0<=i/\i<r/\0<=j/\j<w then (aj.getD i.toNat []).getD j.toNat 0 else 46
def aaA (C:Addr):Sp:=λvs H Q _=>∃(p:Addr) (r w:Nat) (aj aM:AA) (bi bj:Nat) (i j:Int),vs=[.ref p,.int i,.int j]/\dX C H p r w aj aM bi bj/\Q (.str (S [atC aj r w i j])) H
def ahb (F:gO K "at" "Board.at" j6 f fd)(T:fM K C)(N:∃t,mg "FREE"=some (.str (S [46]) t))(L:bF P w K mg base "is_cell_of" 2 ["rows","row","column"] (Cd K)):eZ P w K mg base fZ 3 f fd ["self","row","column"] (aaA C):=by
 calc F.dz Py (λbh A outer s H vs Q E M h=>?_);let(p,r,w,aj,aM,bi,bj,i,j,rfl,B,q):=h;let((dx,pr,pm,pb,hp,G,hm,Y),O):=B;let w9:=O.w9;calc%[0,_,(aJ (aW (rW (gP (aX L M.mono rb (ak (eV aG rb) (ak bx (ak bf au))))) (bH rQ (bH dO (eV aG rb) bx (λ_ _=>rfl)) bf (λ_ _=>rfl)) (mj xw N))))|?_];calc%[0,_,rb|%[12,p,C,dx,_,_,rb,hp,T.cl,T.nr,rb|%[9,_,rb,_,rb|%[43,pr,aj,r,w,i,j,rb,aV.of G,O.br,O.r1,O.r9|%[8,O.w9,_,rb|?_]]]]];by_cases h:0<=i/\i<r/\0<=j/\j<w
 .rw[ap h];let e:atC aj r w i j=(aj.getD i.toNat []).getD j.toNat 0:=if_pos h;rw[e]at q;obtain⟨i,rfl⟩:∃k:Nat,i=k:=%[i.toNat|xo]
  obtain⟨j,rfl⟩:∃k:Nat,j=k:=%[j.toNat|xo]
  rw[ci,ci]at q;let hi:i<aj.length:=by rw[O.br.len];simp_all
  let D:aj[i]?=some (aj.getD i []):=by rw[ar,ag hi];rfl
  let hw:(aj.getD i []).length=w:=O.br.iZ _ (aE D);let J:(aj.getD i [])[j]?=some ((aj.getD i []).getD j 0):=by rw[ar (l:=aj.getD i []),ag (by simp_all)];rfl
  refine bV %[0,_,rb|%[12,p,C,dx,_,_,rb,hp,T.cl,T.nr,rb|%[7,_,rb,pr,_,_,_,rb,rb,aV.of G,aO (jB D)|%[48,_,rb,_,_,_,rb,rb,av (aF xo),aO J|q]]]]
 .rw[ai h];let e:atC aj r w i j=46:=if_neg h;rw[e]at q;show bO q
def isFree (aj:AA):Bool:=aj.flatten.all λc=>decide ([c]=[46])
def Xy (C:Addr):Sp:=λvs H Q _=>∃(p:Addr) (r w:Nat) (aj aM:AA) (bi bj:Nat),vs=[.ref p]/\dX C H p r w aj aM bi bj/\∀H',aA H H'->Q (.bl (isFree aj)) H'
def UL (F:gO K "is_free" "Board.is_free" gk f fd)(T:fM K C)(jk:mg "all"=none)(d9:∃t,mg "FREE"=some (.str (S [46]) t)):eZ P w K mg base fZ 1 f fd ["self"] (Xy C):=by
 calc F.dz sV ?_;intro bh A outer s H vs Q E hr h;let(p,r,w,aj,aM,bi,bj,rfl,B,q):=h;let((dx,pr,pm,pb,hp,J,hm,hb),O):=B;let Y:r*w<=81:=ip O.r9 O.w9;let Z:=nD O.br;calc%[0,_,(aJ (aW (aP (nC rb) xw jk nP (ak (fB rb (eG.of sV.nd xy) (yu (dU bu eP eQ vZ (bR [] xz) (ak (eV aG rb) au))) (λ_ _ _ _ _=>cI) (λ_ _ _ _ _=>(gW uW aG (mj xw d9) (bY _)))) au))))|?_];calc%[8,rb,_,rb|%[38,p,C,dx,_,_,rb,hp,T.cl,T.nr|%[30,rb,pr,aj,rb,rb|%[14,aV.of J,xo,_,rb|λL N=>?_]]]];refine vY (λi ys D=>ys=((aj.flatten.take i).map λc=>decide ([c]=[46])).map V.bl/\D L=some (.lst ys)/\aA H D) %[rb,aq|aA.upd N] ?_ ?_
 .intro i c ys D hi z;let(rfl,j,G):=z;let M:i<aj.flatten.length:=(al.mp hi).1;calc%[0,_,rb|%[18,[c],[46],rb,rb,j,?_|dZ.mk M %[?_,aq|G.bC N]]];.rw[ab,ab,bn];show aF xo
  .rw[bX,hi];simp
 .intro ys D z;let(rfl,j,G):=z;rw[cy]at j;calc%[1,L,_,rb,aN.of j|?_];let e:((aj.flatten.map λc=>decide ([c]=[46])).all id)=isFree aj:=by
   unfold isFree;rw[List.all_map];rfl
  rw[e];show q D G
def j8 (aj:AA)(j:Nat):List Nat:=aj.map λl=>l.getD j 0
def lineOf (aj:AA)(i j:Nat)(way:Int):List Nat:=if way=0 then aj.getD i [] else j8 aj j
def placeOf (i j:Nat)(way:Int):Nat:=if way=0 then j else i
def UW:Sp:=λvs H Q _=>∃(p:Addr) (aj:AA) (r w j:Nat),vs=[.ref p,.int j]/\H p=some (.tup (Ts aj))/\Blk r w aj/\r<=9/\w<=9/\j<w/\∀H',aA H H'->Q (.str (S (j8 aj j))) H'
def GD (D:aQ K mg "column_text" qH ["rows","column"]):bF P w K mg base "column_text" 1 ["rows","column"] UW:=by
 calc D.dz vC (λf bh A outer s H vs Q E Z h=>?_);let(p,aj,r,w,j,rfl,hp,G,r9,w9,hj,q):=h;calc%[0,_,(aJ (aW (dU bu eP eQ pD (bR [] xz) (ak (fB rb (eG.of vC.nd xy) (mR aG) (λ_ _ _ _ _=>cI) (λ_ _ _ _ _=>(bH rQ aG bf (λ_ _=>rfl)))) au))))|?_];let Y:(Ts aj).length=r:=by rw[ab,G.len]
 refine%[16,rb,_|%[35,rb,p,rb,%[_|aV.of hp]|λL O=>wg (xs:=Ts aj) (λi ys F=>ys=Ts (ones ((aj.take i).map λl=>l.getD j 0))/\F L=some (.lst ys)/\aA H F) %[rb,aq|aA.upd O] (λi ys F _ h=>aV.of (h.2.2 _ _ hp)) ?_ ?_]]
 .intro i x ys F hi z;let(rfl,B,J):=z;let(l,N,rfl):=kI hi;let M:i<(Ts aj).length:=(al.mp hi).1;let Ry:l.length=w:=G.iZ _ (aE N);calc%[0,_,rb|%[67,_,rb,l,_,l.getD j 0,rb,rb,av (aF xo),?_,B,?_|dZ.mk M %[?_,aq|J.bC O]]];.show aO (by rw[ar,ag (by simp_all)];rfl)
  .rw[ab,ab,ab,bn];show aF (by grind)
  .rw[kW,jQ,bX,N];simp
 .intro ys F z;let(rfl,B,J):=z;rw[Y,<-G.len,cy]at B;calc%[18,L,_,rb,rb,aN.of B,?_|?_];.rw[ni,ab,G.len];lia
  .rw[ni];show q F J
def mG {r w:Nat}{aj:AA}(q:Blk r w aj){i j:Nat}(hi:i<r){way:Int}:(lineOf aj i j way).length=if way=0 then w else r:=by
 unfold lineOf;by_cases h:way=0
 .rw[if_pos h,if_pos h,ar,ag (by rw[q.len];show hi)];show q.iZ _ (ba _)
 .rw[if_neg h,if_neg h];unfold j8;rw[ab,q.len]
def qx (l):(dF l).length<=l.length:=by unfold dF;rw[List.length_reverse];show ay (pM _).length_le (by rw[List.length_reverse];show ah _)
def ux (l):(fD l).length<=l.length:=(pM _).length_le
noncomputable def M_ (i j:Nat)(way:Int)(l:List Nat):List V:=if way=0 then [.int i,.int ((j:Int)-(dF (l.take j)).length),.str (S (dF (l.take j)++fD (l.drop j)))] else [.int ((i:Int)-(dF (l.take i)).length),.int j,.str (S (dF (l.take i)++fD (l.drop i)))]
def abL (C:Addr):Sp:=λvs H Q _=>∃(p:Addr) (r w:Nat) (aj aM:AA) (bi bj i j:Nat) (way:Int),vs=[.ref p,.int i,.int j,.int way]/\dX C H p r w aj aM bi bj/\i<r/\j<w/\(way=0\/way=1)/\
 ∀(t:Addr) (H':Hp),aA H H'->H t=none->H' t=some (.tup (M_ i j way (lineOf aj i j way)))->Q (.ref t) H'
def afQ (F:gO K "run" "Board.run" jt f fd)(T:fM K C)(bw:mg "len"=none)(d9:∃t,mg "FREE"=some (.str (S [46]) t))(qL:bF P w K mg base "column_text" 1 ["rows","column"] UW):eZ P w K mg base fZ 2 f fd ["self","row","column","way"] (abL C):=by
 calc F.dz jK ?_;intro bh A outer s H vs Q E hr h;let(p,r,w,aj,aM,bi,bj,i,j,way,rfl,B,hi,hj,fU,q):=h;let((dx,pr,pm,pb,hp,Y,hm,hb),O):=B;let r9:=O.r9;let w9:=O.w9;calc%[0,_,(aD (aR (i:=4) jK.nd rb (Or.inl rb) (rW (bW jA bI aB (bY _)) (bH dO (eV aG rb) bx (λ_ _=>rfl)) (aX qL hr.mono rb (ak (eV aG rb) (ak bf au))))) (aD (aR (i:=5) jK.nd rb (Or.inl rb) (rW (bW jA bI aB (bY _)) bf bx)) (aD (aR (i:=6) jK.nd rb (Or.inl rb) (bH dO (dU bu PySem.F.slot_str_rpartition PySem.F.type_str_rpartition ZK (jr K1 cg rF (gZ cL)) (ak (mj xw d9) au)) aB (λ_ _=>rfl))) (aD (aR (i:=7) jK.nd rb (Or.inl rb) (aK iI cM (bH dO (dU bu PySem.F.slot_str_partition PySem.F.type_str_partition acu (jr K1 cg (gZ cL) rF) (ak (mj xw d9) au)) aB (λ_ _=>rfl)))) (aD (aR (i:=8) jK.nd rb (Or.inl rb) (aK fK cL (aP cV xw bw bS (ak cM au)))) (aJ (aW (rW (bW jA bI aB (bY _)) (cW (ak bx (ak jX (ak iz au)))) (cW (ak jX (ak bf (ak iz au))))))))))))|?_];let J:aj[i]?=some (aj.getD i []):=by rw[ar,ag (by rw[O.br.len];show hi)];rfl
 rcases fU with rfl|rfl
 .let L:(lineOf aj i j 0).length=w:=mG O.br hi;let el:aj.getD i []=lineOf aj i j 0:=rfl;rw[el]at J;let hz:∀l:List Nat,l.length<=100->l.length<=sizeLine:=λl h=>av (aF xo);calc%[39,_,rb,rb,_,rb|bV ?_];calc%[0,_,rb|%[12,p,C,dx,_,_,rb,hp,T.cl,T.nr,rb|%[7,_,rb,pr,_,_,_,rb,rb,aV.of Y,aO (jB J)|?_]]];generalize hL:lineOf aj i j 0=l at L J ⊢;calc%[39,_,rb,rb,_,rb|bV %[0,_,rb|?_]];calc%[9,_,rb,_,rb|%[44,_,rb,l,rb,hz _ xo,rb|?_]];rw[Lb];calc%[11,_,rb,rb,by rw[bn];grind|λp1 Z b1 G=>?_];calc%[25,p1,_,_,_,rb,rb,aV.of aq,aO (j:=2) rb|?_];let s1:aA H (upd H p1 (.tup [.str Z,.str b1,.str (S (dF (l.take j)))])):=aA.upd G;generalize upd H p1 (.tup [.str Z,.str b1,.str (S (dF (l.take j)))])=H1 at s1 ⊢;let t1:=qx (l.take j);let t2:=ux (l.drop j);rw[bn]at t1;rw[cz]at t2;calc%[23,_,rb,_,rb,_,rb|%[44,_,rb,l,rb,hz _ xo,rb|?_]];rw[wk];calc%[11,_,rb,rb,by rw[cz];show ay (wn _ _) xo|λp2 b2 N D=>?_];calc%[25,p2,_,_,_,rb,rb,aV.of aq,aO (j:=0) rb|%[4,_,_,rb,rb,av (aF (by grind))|?_]];let s2:=s1.bC (o:=HO.tup [.str (S (fD (l.drop j))),.str b2,.str N]) (s1.free D);generalize upd H1 p2 (HO.tup [.str (S (fD (l.drop j))),.str b2,.str N])=H2 at s2 ⊢;calc%[23,_,rb,_,rb,_,rb|%[30,hz _ xo,_,_,rb,rb|?_]];calc%[39,_,rb,rb,_,rb|bV ?_];calc%[50,_,rb,_,rb,_,rb,zsz 3|λt M=>?_];show q t _ (s2.bC (s2.free M)) (s2.free M) (by rw[aq,hL];rfl)
 .let L:(lineOf aj i j 1).length=r:=mG O.br hi;let el:j8 aj j=lineOf aj i j 1:=rfl;let hz:∀l:List Nat,l.length<=100->l.length<=sizeLine:=λl h=>av (aF xo);calc%[39,_,rb,rb,_,rb|bO ?_];calc%[0,_,rb|%[38,p,C,dx,_,_,rb,hp,T.cl,T.nr|%[8,rb,_,rb|%[49,pr,aj,r,w,j,rb,Y,O.br,r9,w9,hj|λH0 s0=>?_]]]];rw[el];generalize hL:lineOf aj i j 1=l at L ⊢;calc%[39,_,rb,rb,_,rb|bO %[0,_,rb|?_]];calc%[9,_,rb,_,rb|%[44,_,rb,l,rb,hz _ xo,rb|?_]];rw[Lb];calc%[11,_,rb,rb,by rw[bn];lia|λp1 Z b1 G=>?_];calc%[25,p1,_,_,_,rb,rb,aV.of aq,aO (j:=2) rb|?_];let s1:aA H (upd H0 p1 (.tup [.str Z,.str b1,.str (S (dF (l.take i)))])):=s0.bC (s0.free G);generalize upd H0 p1 (.tup [.str Z,.str b1,.str (S (dF (l.take i)))])=H1 at s1 ⊢;let t1:=qx (l.take i);let t2:=ux (l.drop i);rw[bn]at t1;rw[cz]at t2;calc%[23,_,rb,_,rb,_,rb|%[44,_,rb,l,rb,hz _ xo,rb|?_]];rw[wk];calc%[11,_,rb,rb,by rw[cz];lia|λp2 b2 N D=>?_];calc%[25,p2,_,_,_,rb,rb,aV.of aq,aO (j:=0) rb|%[4,_,_,rb,rb,av (aF xo)|?_]];let s2:=s1.bC (o:=HO.tup [.str (S (fD (l.drop i))),.str b2,.str N]) (s1.free D);generalize upd H1 p2 (HO.tup [.str (S (fD (l.drop i))),.str b2,.str N])=H2 at s2 ⊢;calc%[23,_,rb,_,rb,_,rb|%[30,hz _ xo,_,_,rb,rb|?_]];calc%[39,_,rb,rb,_,rb|bO ?_];calc%[50,_,rb,_,rb,_,rb,zsz 3|λt M=>?_];show q t _ (s2.bC (s2.free M)) (s2.free M) (by rw[aq,hL];rfl)
abbrev bB:=Nat×Nat×Nat
def rk (t:bB):Nat:=t.1*1000+t.2.1
def sw (t:bB):bB:=(t.2.1,t.1,t.2.2)
def zp (t:bB):Prop:=t.1<9/\t.2.1<9/\t.2.2<128
def tG (H:Hp)(a:Addr)(t:bB):Prop:=H a=some (.tup [.int t.1,.int t.2.1,.str (S [t.2.2])])
def tO (H:Hp)(a:Addr):bB:=match H a with| some (.tup [.int x,.int y,.str z])=>(x.toNat,y.toNat,z.cps.toList.headD 0)| _=>(0,0,0)
def Ec (h:tG H a t):tO H a=t:=by unfold tO;rw[show H a=_ from h];rfl
structure dM (H:Hp)(as:List Addr)(ts:List bB):Prop where
 at_:∀a∈as,tG H a (tO H a)
 eq:as.map (tO H)=ts
def dM.fV (k:∀a xs,H a=some (.tup xs)->H' a=some (.tup xs))(h:dM H as ts):dM H' as ts:=by let e:∀a∈as,tO H' a=tO H a:=λa ha=>Ec (k a _ (h.at_ a ha));show%[λa ha=>by rw[e a ha];show k a _ (h.at_ a ha)|by rw[<-h.eq];show de e]
def dM.mv (k:aA H H')(h:dM H as ts):dM H' as ts:=h.fV λa xs e=>k a _ e
def cH (j:H M=some (.lst ys)):∀a xs,H a=some (.tup xs)->upd H M (.lst zs) a=some (.tup xs):=λa xs e=>by
 let ne:a≠M:=λz=>by rw[z,j]at e;cases e
 rw[aZ ne];show e
def dM.snoc (h:dM H as ts)(ha:tG H a t):dM H (as++[a]) (ts++[t]):=by
 calc%[λb j=>?_|by rw[bE,h.eq,oy,Ec ha]];rcases a6.mp j with z|z;.show h.at_ b z
 .rw[am.mp z,Ec ha];show ha
def dM.nil:dM H [] []:=%[λa h=>by simp at h|rb]
def dM.len (h:dM H as ts):as.length=ts.length:=by rw[<-h.eq,ab]
def dM.get (h:dM H as ts)(hi:i<as.length):∃t,ts[i]?=some t/\tG H as[i] t:=%[0,tO H as[i],by rw[<-h.eq];simp[hi]|h.at_ _ (ba _)]
def dM.perm {as j:List Addr}(h:dM H as ts)(p:j.Perm as):dM H j (j.map (tO H))/\(j.map (tO H)).Perm ts:=%[%[λa ha=>h.at_ a (p.mem_iff.mp ha)|rb]|by rw[<-h.eq];show p.map _]
def bL (aj:AA)(w:Nat):List (List Nat):=(List.range w).map (j8 aj)
def Ce {r w:Nat}{aj:AA}(h:Blk r w aj):Blk w r (bL aj w):=
 %[by unfold bL;rw[ab,dP]|λl q=>by let(j,_,rfl):=aI.mp q;unfold j8;rw[ab,h.len]]
def wW {r w:Nat}{aj:AA}(h:Blk r w aj){B:Nat->Prop}(hp:∀l∈aj,∀c∈l,B c):∀l∈bL aj w,∀c∈l,B c:=λl J c G=>by let(j,D,rfl):=aI.mp J;let D:=bz.mp D;let(F,q,rfl):=aI.mp G;let hw:=h.iZ F q;rw[ar,ag (by simp_all)];show hp F q _ (ba _)
def Jh {r w:Nat}{aj:AA}(h:Blk r w aj):bL (bL aj w) r=aj:=by
 apply sT;.unfold bL;rw[ab,dP,h.len]
 .intro i h1 B;let hw:=h.iZ aj[i] (ba _);rw[show (bL (bL aj w) r)[i]=j8 (bL aj w) i by simp[bL]];unfold j8 bL;rw[cn];apply sT;.rw[ab,dP,hw]
  .intro j D q;rw[wS,List.getElem_range];show (aj.map λl=>l.getD j 0).getD i 0=aj[i][j];rw[ar,ag (by rw[ab];show B),wS];show (aj[i]).getD j 0=_;rw[ar,ag q];rfl
def Nb {r w:Nat}{aj aM:AA}{bi bj:Nat}(B:uw r w aj aM bi bj):uw w r (bL aj w) (bL aM w) bj bi:=%[B.w1,B.w9,B.r1,B.r9,Ce B.br,Ce B.bm,wW B.br B.cr,wW B.bm B.cm,B.bj|B.bi]
def setAt (R:AA)(i j z:Nat):List (List Nat):=R.set i ((R.getD i []).set j z)
def fP (R:AA)(ts:List bB):List (List Nat):=ts.foldl (λR t=>setAt R t.1 t.2.1 t.2.2) R
def RG {r w:Nat}{R:AA}(h:Blk r w R){i j z:Nat}(hi:i<r):Blk r w (setAt R i j z):=by
 calc%[by unfold setAt;rw[qr,h.len]|λl q=>?_];rcases qV q with y|y;.show h.iZ l y
 .rw[y,qr,ar,ag (by rw[h.len];show hi)];show h.iZ _ (ba _)
def adh {r w:Nat}{R:AA}(h:Blk r w R){i j z:Nat}(hi:i<r){q:Nat->Prop}(hp:∀l∈R,∀c∈l,q c)(hz:q z):∀l∈setAt R i j z,∀c∈l,q c:=λl D c B=>by
 rcases qV D with y|y;.show hp l y c B
 .rw[y]at B;rcases qV B with u|u
  .rw[ar,ag (by rw[h.len];show hi)]at u;show hp _ (ba _) c u
  .rw[u];show hz
def inB (r w:Nat)(t:bB):Prop:=t.1<r/\t.2.1<w/\uq t.2.2
theorem Cg {r w:Nat}:∀{ts:List bB} {R:AA},Blk r w R->(∀t∈ts,inB r w t)->Blk r w (fP R ts)
 | [],_,h,_=>h
 | t::ts,_,h,k=>Cg (ts:=ts) (RG h (k t aT).1) λx hx=>k x (aS _ hx)
theorem Nf {r w:Nat}:∀{ts:List bB} {R:AA},Blk r w R->(∀t∈ts,inB r w t)->(∀l∈R,∀c∈l,zm c)->∀l∈fP R ts,∀c∈l,zm c
 | [],_,_,_,g=>g
 | t::ts,_,h,k,g=>Nf (ts:=ts) (RG h (k t aT).1) (λx hx=>k x (aS _ hx)) (adh h (k t aT).1 g (.inr (k t aT).2.2))
def aaB {r w:Nat}{aj aM:AA}{bi bj:Nat}(B:uw r w aj aM bi bj)(k:∀t∈ts,inB r w t):uw r w (fP aj ts) aM bi bj:=%[B.r1,B.r9,B.w1,B.w9,Cg B.br k,B.bm,Nf B.br k B.cr,B.cm,B.bi|B.bj]
def Xz (R)(ts:List bB)(t:bB):fP R (ts++[t])=setAt (fP R ts) t.1 t.2.1 t.2.2:=by unfold fP;rw[List.foldl_append];rfl
structure gJ (H0 H:Hp)(ps:List Addr)(R:AA):Prop where
 len:ps.length=R.length
 nd:ps.Nodup
 fr:∀p∈ps,H0 p=none
 at_:∀(i:Nat) (h:i<ps.length),H ps[i]=some (.lst (Ts (ones (R.getD i []))))
def gJ.mv (h:gJ H0 H ps R)(k:∀p∈ps,H' p=H p):gJ H0 H' ps R:=%[h.len,h.nd,h.fr|λi hi=>by rw[k _ (ba _)];show h.at_ i hi]
def gJ.mvS (h:gJ H0 H ps R)(k:aA H H'):gJ H0 H' ps R:=%[h.len,h.nd,h.fr|λi hi=>k _ _ (h.at_ i hi)]
def gJ.snoc (h:gJ H0 H ps R)(hn:p∉ps)(q:H0 p=none)(hp:H p=some (.lst (Ts (ones l)))):gJ H0 H (ps++[p]) (R++[l]):=by
 refine%[by simp[h.len],?_,λx hx=>?_|λi hi=>?_]
 .rw[List.nodup_append];calc%[h.nd,xp|λa ha b j=>?_];rw[am.mp j];show λz=>hn (z ▸ ha)
 .rcases a6.mp hx with z|z;.show h.fr x z
  .rw[am.mp z];show q
 .by_cases c:i<ps.length;.rw[List.getElem_append_left c,h.at_ i c,ar,ar,fq (by rw[<-h.len];show c)]
  .let e:i=ps.length:=by simp at hi;lia
   subst e;rw[List.getElem_append_right (ah _)];simp only[nB,List.getElem_singleton];rw[hp,ar,d6 (by rw[h.len];show ah _),h.len];simp
def gJ.set (h:gJ H0 H ps R)(hi:i<ps.length):gJ H0 (upd H ps[i] (.lst ((Ts (ones (R.getD i []))).set j (.str (S [z]))))) ps (setAt R i j z):=by
 let e:(Ts (ones (R.getD i []))).set j (.str (S [z]))=Ts (ones ((R.getD i []).set j z)):=by show List.set (((R.getD i []).map λc=>[c]).map λl=>V.str (S l)) j (V.str (S [z]))=((List.set (R.getD i []) j z).map λc=>[c]).map λl=>V.str (S l);rw[List.map_set,List.map_set]
 rw[e];calc%[by unfold setAt;rw[qr];show h.len,h.nd,h.fr|λk hk=>?_];by_cases c:k=i
 .subst c;rw[aq];unfold setAt;rw[ar (l:=R.set _ _),sq (by rw[<-h.len];show hi)];rfl
 .rw[aZ (λz=>c ((List.getElem_inj h.nd).mp z)),h.at_ k hk];unfold setAt;rw[ar (l:=R.set _ _),tq (λz=>c z.symm),<-ar]
def afR:Sp:=λvs H Q _=>∃(p:Addr) (aj:AA) (r w:Nat),vs=[.ref p]/\H p=some (.tup (Ts aj))/\Blk r w aj/\1<=r/\r<=9/\w<=9/\∀(j:Addr) (H':Hp),aA H H'->H' j=some (.tup (Ts (bL aj w)))->Q (.ref j) H'
def GF (D:aQ K mg "turned_rows" qI ["rows"])(bw:mg "len"=none)(Y:mg "range"=none)(bU:mg "tuple"=none)(Z:bF P w K mg base "column_text" 1 ["rows","column"] UW):bF P w K mg base "turned_rows" 2 ["rows"] afR:=by
 calc D.dz vD ?_;walk_at"b";let(p,aj,r,w,rfl,hp,G,r1,r9,w9,q):=h;calc%[0,_,(aJ (aW (cY dR xw bU di (ak (fB rb (eG.of vD.nd xy) (jN xw Y (ak (aP cV xw bw bS (ak (bH dO aG aB (λ_ _=>rfl)) au)) au)) (λ_ _ _ _ _=>cI) (λ_ _ _ _ _=>(aX Z hr.mono rb (ak bx (ak aG au))))) au))))|?_];let h0:0<aj.length:=by rw[G.len];show r1
 let N:aj[0].length=w:=G.iZ _ (ba _);calc%[7,_,rb,p,_,_,.str (S aj[0]),rb,rb,aV.of hp,aO (j:=0) (jB (by simp[h0]))|%[2,_,rb,av (aF xo)|%[11,_,rb,nN _,xo|?_]]];intro M L;rw[ci,N];refine Dc (lo:=0) (n:=w) (λi ys F=>ys=Ts ((List.range i).map (j8 aj))/\F M=some (.lst ys)/\aA H F) %[rb,aq|aA.upd L] ?_ ?_
 .intro i ys F hi z;let(rfl,O,B):=z;calc%[9,_,rb,_,rb|%[49,p,aj,r,w,i,by rw[w8];rfl,B _ _ hp,G,r9,w9,hi|λH3 J=>%[J _ _ O,?_|dZ.mk hi %[?_,aq|(B.trans J).bC L]]]];.rw[ab,ab,dP];show aF xo
  .rw[kW,fh,bE];rfl
 .intro ys F z;let(rfl,O,B):=z;calc%[3,M,_,rb|.inl %[aN.of O|λl hl=>?_]];show q l _ (B.bC (B.free hl)) aq
def Ng (C:Addr):Sp:=λvs H Q _=>∃(p:Addr) (r w:Nat) (aj aM:AA) (bi bj:Nat),vs=[.ref p]/\dX C H p r w aj aM bi bj/\∀(j:Addr) (H':Hp),aA H H'->dX C H' j w r (bL aj w) (bL aM w) bj bi->Q (.ref j) H'
def XC (F:gO K "turned" "Board.turned" gH f fd)(T:fM K C)(tH:mg "Board"=some (.ref C))(vI:Mk K C f0)(vJ:eZ P w K mg base fZ 5 f0 oN ["self","rows","marks","begin"] (Ae C))(vK:cT K oN ["self","rows","marks","begin"] [])(xP:bF P w K mg base "turned_rows" 2 ["rows"] afR):eZ P w K mg base fZ 8 f fd ["self"] (Ng C):=by
 calc F.dz um ?_;intro bh A outer s H vs Q E hr h;let(p,r,w,aj,aM,bi,bj,rfl,BA,q):=h;let((dx,pr,pm,pb,hx,hpr,hpm,G),B):=BA;calc%[0,_,(aD (aR (i:=1) um.nd rb (Or.inl rb) (cW (ak (bH dO (eV aG rb) aB (λ_ _=>rfl)) (ak (bH dO (eV aG rb) aB (λ_ _=>rfl)) au)))) (aJ (aW (zT vI vJ hr.mono rb tH vK .nil jU (ak (aX xP hr.mono rb (ak (eV aG rb) au)) (ak (aX xP hr.mono rb (ak (eV aG rb) au)) (ak bx au)))))))|?_];calc%[0,_,rb|%[12,p,C,dx,_,_,rb,hx,T.cl,T.nb,rb|%[25,pb,_,_,.int bj,rb,rb,aV.of G,aO (j:=1) rb|?_]]];calc%[0,_,rb|%[12,p,C,dx,_,_,rb,hx,T.cl,T.nb,rb|%[36,pb,_,_,.int bi,rb,rb,aV.of G,aO (j:=0) rb,zsz 2|λb hb=>?_]]];let s1:aA H (upd H b (.tup [.int bj,.int bi])):=aA.upd hb;calc%[0,_,rb|%[12,p,C,dx,_,_,rb,s1 _ _ hx,T.cl,T.nr,rb|%[59,pr,aj,r,w,rb,s1 _ _ hpr,B.br,B.r1,B.r9,B.w9|λp1 H1 t1 h1=>?_]]];let s2:=s1.trans t1;calc%[0,_,rb|%[12,p,C,dx,_,_,rb,s2 _ _ hx,T.cl,T.nm,rb|%[59,pm,aM,r,w,rb,s2 _ _ hpm,B.bm,B.r1,B.r9,B.w9|λp2 N O h2=>?_]]];let s3:=s2.trans O;calc%[0,_,rb|λx L nx Y nex=>?_];let M:aA N (upd (upd N L (HO.own x)) x (HO.ins C L [])):=λb o e=>by rw[aZ (bN e nx),aZ (bN e Y)];show e
 let D:N b=some (.tup [.int bj,.int bi]):=O _ _ (t1 _ _ aq);calc%[6,x,L|%[10,p1,p2,b|%[33,w,r,bL aj w,bL aM w,bj,bi,rb,aq,M _ _ (O _ _ h1),M _ _ h2,M _ _ D,Nb B|λH3 kp Z=>%[rb|?_]]]];let J:aA N H3:=λb o e=>kp b o (M b o e) (bN e nx);show q x H3 (s3.trans J) %[%[55,L,p1,p2,b,Z,J _ _ (O _ _ h1),J _ _ h2|J _ _ D]|Nb B]
def XD (C:Addr):Sp:=λvs H Q _=>∃(p t:Addr) (as:List Addr) (ts:List bB) (r w:Nat) (aj aM:AA) (bi bj:Nat),vs=[.ref p,.ref t]/\dX C H p r w aj aM bi bj/\H t=some (.tup (as.map V.ref))/\dM H as ts/\(∀t∈ts,inB r w t)/\
 ∀(j:Addr) (H':Hp),aA H H'->dX C H' j r w (fP aj ts) aM bi bj->Q (.ref j) H'
def adi (F:gO K "laid" "Board.laid" iR f fd)(T:fM K C)(kE:mg "list"=none)(bU:mg "tuple"=none)(tH:mg "Board"=some (.ref C))(vI:Mk K C f0)(vJ:eZ P w K mg base fZ 5 f0 oN ["self","rows","marks","begin"] (Ae C))(vK:cT K oN ["self","rows","marks","begin"] []):eZ P w K mg base fZ 8 f fd ["self","laying"] (XD C):=by
 calc F.dz je ?_;intro bh A outer s H vs Q E hr h;let(p,t,as,ts,r,w,aj,aM,bi,bj,rfl,BA,ht,hL,j_,q):=h;let((dx,pr,pm,pb,hx,hpr,hpm,hpb),B):=BA;let r9:=B.r9;let w9:=B.w9;let Y:=B.br;calc%[0,_,(aD (FN (ix:=2) (ns:=["row"]) je.nd rb (Or.inl rb) rb (gU.of ["self","laying","lines",".3","column","sign"] [3] xy) (mR (eV aG rb)) (λ_ _ _ _ _=>(rE (show (["row","self","laying","lines",".3","column","sign"]:List Str).Nodup by decide +kernel) rb xw)) (λ_ _ _ _ _=>cI) (λ_ _ _ _ _=>(cY (Dj rb) xw kE oC (ak aG au)))) (aD (eU cq rb (mR bx) (oA rb (cJ (bQ (i:=3) je.nd rb (Or.inl rb)) (cJ (bQ (i:=4) je.nd rb (Or.inl rb)) (cJ (bQ (i:=5) je.nd rb (Or.inl rb)) kO)))) (aJ (Wb cL (ae8 (bH gq bf bI (λ_ _=>rfl)) cg set_list)))) (aJ (aW (zT vI vJ hr.mono rb tH vK .nil jU (ak (cY dR xw bU di (ak (fB rb (eG.of je.nd xy) (cG bf) (λ_ _ _ _ _=>cI) (λ_ _ _ _ _=>(Wf K bu eP eQ (ZJ K) (bR [] xz) (ak aG au)))) au)) (ak (eV aG rb) (ak (eV aG rb) au))))))))|?_];refine%[0,_,rb|%[38,p,C,dx,_,_,rb,hx,T.cl,T.nr|%[35,rb,pr,rb,%[_|aV.of hpr]|λM hM=>TF (f:=gC [3] 0) (tt:=iK) (xs:=Ts aj) (λi ys H2=>∃ps:List Addr,ys=ps.map V.ref/\H2 M=some (.lst ys)/\aA H H2/\gJ H H2 ps (aj.take i)/\M∉ps)
  %[5,[],rb,aq,aA.upd hM,%[xp,ng,λp h=>by simp at h|λi h=>by simp at h]|xp] (λi ys H2 _ h=>by let(_,_,_,G,_):=h;show aV.of (G _ _ hpr)) ?_ ?_]]]
 .intro i x ys H2 hi z;let(ps,rfl,xO,G,xQ,nM):=z;let(l,hl,rfl):=kI hi;let hil:i<(Ts aj).length:=(al.mp hi).1;let Ry:l.length=w:=Y.iZ _ (aE hl);let ji:(Ts aj).length=r:=by rw[ab,Y.len]
  let hpl:ps.length<=9:=by rw[xQ.len,bn,Y.len];lia
  calc abB %[13,_,rb,l,rb,xo|λc hc=>?_];let ncM:M≠c:=λz=>by rw[<-z,xO]at hc;cases hc
  let ncp:c∉ps:=λz=>by let(k,hk,e):=cK.mp z;have:=xQ.at_ k hk;rw[e,hc]at this;cases this
  refine%[by rw[aZ ncM];show xO,by rw[ab];show aF xo|dZ.mk hil %[5,ps++[c],xp,aq,(G.bC (G.free hc)).bC hM,?_|?_]]
  .rw[show aj.take (i+1)=aj.take i++[l] by rw[bX,hl];rfl];calc gJ.mv ((xQ.mvS (aA.upd hc)).snoc ncp (G.free hc) aq) λy hy=>aZ λz=>?_;rcases a6.mp hy with u|u
   .show nM (z ▸ u)
   .show ncM (z.symm.trans (am.mp u))
  .intro z;rcases a6.mp z with u|u;.show nM u
   .show ncM (am.mp u)
 .intro ys H2 z;let(ps,rfl,xO,G,xQ,nM):=z;rw[cx (by rw[ab];show ah _)]at xQ;refine%[13,_,rb,t,rb,%[_|aV.of (G _ _ ht)]|Fl (K:=K) (a:=t) (xs:=as.map V.ref) (λi I H3=>∃v3 v4 v5:Option V,I=[some (.ref p),some (.ref t),some (.ref M),v3,v4,v5]/\aA H H3/\H3 M=some (.lst (ps.map V.ref))/\gJ H H3 ps (fP aj (ts.take i)))
   %[29,none,none,none,rb,G,xO|xQ] (λi I H3 _ h=>by let(_,_,_,_,G,_):=h;show aV.of (G _ _ ht)) ?_ ?_]
  .intro i x I H3 j z;let(v3,v4,v5,rfl,D,XF,J):=z;rw[bb]at j;let hi:i<as.length:=by
    rcases eR i as.length with z|z;.show z
    .rw[eC z]at j;cases j
   rw[ag hi]at j;let j:V.ref as[i]=x:=bg j;subst j;let(u,eu,hU):=hL.get hi;let hum:=aE eu;let(u1,u2,u3):=j_ u hum;let hb3:Blk r w (fP aj (ts.take i)):=Cg Y λy hy=>j_ y (f6 hy);let hpl:ps.length=r:=by rw[J.len,hb3.len]
   let hps:u.1<ps.length:=by simp_all
   calc%[1,as[i],_,rb,aV.of (D _ _ hU)|%[16,rb,_|%[20,_,rb,_,_,rb|%[1,_,_,rb,rb|?_]]]];refine%[9,_,rb,_,rb|%[7,_,rb,M,_,_,.ref ps[u.1],rb,rb,aN.of XF,aO (by simp[hps])|%[7,_,rb,ps[u.1],_,_,u.2.1,rb,rb,J.at_ u.1 hps,?_|?_]]]
   .have:((fP aj (ts.take i)).getD u.1 []).length=w:=by
     rw[ar,ag (by rw[hb3.len];show u1)];show hb3.iZ _ (ba _)
    unfold HJ;rw[ab,ab,this,if_pos xo,if_pos (ph gu u2)];congr 1
   .refine%[29,_,_,_,rb,D.bC (J.fr _ (ba _)),?_|?_]
    .let ne:M≠ps[u.1]:=λz=>nM (by rw[z];show ba _)
     rw[aZ ne];show XF
    .rw[show fP aj (ts.take (i+1))=setAt (fP aj (ts.take i)) u.1 u.2.1 u.2.2 by rw[bX,eu];show Xz _ _ _];show J.set hps
  .intro I H3 z;let(v3,v4,v5,rfl,D,XF,J):=z;rw[cx (by rw[ab,hL.len];show ah _)]at J;let B':=aaB B j_;let hpl:ps.length=r:=by rw[J.len,B'.br.len]
   refine%[13,_,rb,M,rb,%[_|aN.of XF]|λN hN=>jf (xs:=ps.map V.ref) (λi ys Z=>ys=Ts ((fP aj ts).take i)/\Z N=some (.lst ys)/\aA H3 Z) %[rb,aq|aA.upd hN] (λi ys Z _ h=>aN.of (h.2.2 _ _ XF)) ?_ ?_]
   .intro i x ys Z hi z;let(rfl,O,Nh):=z;rw[bb]at hi;let L:i<ps.length:=by
     rcases eR i ps.length with z|z;.show z
     .rw[eC z]at hi;cases hi
    rw[ag L]at hi;let hi:V.ref ps[i]=x:=bg hi;subst hi;let hri:i<(fP aj ts).length:=by rw[<-J.len];show L
    let hg:(fP aj ts).getD i []=(fP aj ts)[i]:=by rw[ar,ag hri];rfl
    let hw:(fP aj ts)[i].length=w:=B'.br.iZ _ (ba _);let hat:=J.at_ i L;rw[hg]at hat;calc%[8,rb,_,rb|%[32,ps[i],ones (fP aj ts)[i],rb,rb,aN.of (Nh _ _ hat),by rw[ni,hw];lia,O,?_|dZ.mk (by rw[ab];show L) %[?_,aq|Nh.bC hN]]];.rw[ab,bn];show aF (by grind)
    .rw[ni,kW,bX,ag hri];rfl
   .intro ys Z z;let(rfl,O,Nh):=z;rw[cx (by rw[ab,J.len];show ah _)]at O;calc%[3,N,_,rb|.inl %[aN.of O|λl hl=>?_]];let s5:=(D.trans Nh).bC (o:=.tup (Ts (fP aj ts))) ((D.trans Nh).free hl);calc%[0,_,rb|%[38,p,C,dx,_,_,rb,s5 _ _ hx,T.cl,T.nm|%[8,rb,_,rb|%[12,p,C,dx,_,_,rb,s5 _ _ hx,T.cl,T.nb,rb|λx dy nx ndx nex=>?_]]]];let s6:aA (upd Z l (.tup (Ts (fP aj ts)))) (upd (upd (upd Z l (.tup (Ts (fP aj ts)))) dy (HO.own x)) x (HO.ins C dy [])):=λb o e=>by rw[aZ (bN e nx),aZ (bN e ndx)];show e
    calc%[6,x,dy|%[10,l,pm,pb|%[33,r,w,fP aj ts,aM,bi,bj,rb,aq,s6 _ _ aq,s6 _ _ (s5 _ _ hpm),s6 _ _ (s5 _ _ hpb),B'|λH5 kp hx5=>%[rb|?_]]]];let s7:aA (upd Z l (.tup (Ts (fP aj ts)))) H5:=λb o e=>kp b o (s6 b o e) (bN e nx);show q x H5 (s5.trans s7) %[%[55,dy,l,pm,pb,hx5,s7 _ _ aq,s7 _ _ (s5 _ _ hpm)|s7 _ _ (s5 _ _ hpb)]|B']
def aaC {l:List Nat}(h1:low<=k)(hk:k<=l.length)(q:∀m,low<=m->m<k->l[m]?≠some 46)(B:low=0\/l[low-1]?=some 46):dF (l.take k)=(l.take k).drop low:=by
 rcases B with e|e
 .subst e;rw[r8];calc yD λhm=>?_;let(m,hm):=kC.mp hm;let j:m<(l.take k).length:=(al.mp hm).1;rw[bn]at j;show q m xo (by simp_all) (by rw[ml,if_pos xo]at hm;show hm)
 .by_cases D:low=0
  .subst D;rw[r8];calc yD λhm=>?_;let(m,hm):=kC.mp hm;let j:m<(l.take k).length:=(al.mp hm).1;rw[bn]at j;show q m xo xo (by rw[ml,if_pos xo]at hm;show hm)
  .have:=La (l:=l.take k) (i:=low-1) (by rw[ml,if_pos (cp xo xo)];show e) (λm hm z=>by
    let j:m<(l.take k).length:=(al.mp z).1;rw[bn]at j;rw[ml,if_pos xo]at z;show q m xo xo z)
   rw[this,show low-1+1=low by lia]
def XH {l:List Nat}(h1:k<=high)(hk:high<=l.length)(q:∀m,k<=m->m<high->l[m]?≠some 46)(B:high=l.length\/l[high]?=some 46):fD (l.drop k)=(l.drop k).take (high-k):=by
 rcases B with e|e
 .rw[cx (by rw[cz];lia)];calc yC λhm=>?_;let(m,hm):=kC.mp hm;let j:m<(l.drop k).length:=(al.mp hm).1;rw[cz]at j;rw[kH]at hm;show q (k+m) xo xo hm
 .refine wj (by rw[kH,show k+(high-k)=high from lI h1];show e) λm hm z=>?_
  rw[kH]at z;show q (k+m) xo xo z
def tK (l:List Nat)(m:Int):Nat:=if 0<=m/\m<l.length then l.getD m.toNat 0 else 46
def rH {l:List Nat}(h:m<l.length):tK l (m:Int)=l[m]:=by unfold tK;rw[if_pos %[xo|ph gu h],ci,ar,ag h];rfl
def Ni {l:List Nat}{m:Int}(h:¬(0<=m/\m<l.length)):tK l m=46:=if_neg h
def RJ {r w:Nat}{aj:AA}(B:Blk r w aj){i j:Nat}(hi:i<r)(F:j<w){way:Int}(hw:way=0\/way=1)(t:Int):atC aj r w ((i:Int)+t*way) ((j:Int)+t*(1-way))=tK (lineOf aj i j way) ((placeOf i j way:Nat)+t):=by
 let q:=mG B hi (j:=j) (way:=way);rcases hw with rfl|rfl
 .rw[if_pos rfl]at q;unfold atC tK;rw[q];let e1:(i:Int)+t*0=i:=xo;let e2:(j:Int)+t*(1-0)=j+t:=xo;rw[e1,e2];show (if _ then _ else _)=(if 0<=(j:Int)+t/\(j:Int)+t<w then _ else _)
  by_cases h:0<=(j:Int)+t/\(j:Int)+t<w;.rw[if_pos h,if_pos %[xo,ph gu hi,h.1|h.2],ci];rfl
  .rw[if_neg h,if_neg (λz=>h %[z.2.2.1|z.2.2.2])]
 .rw[if_neg xt]at q;unfold atC tK;rw[q];let e1:(i:Int)+t*1=i+t:=xo;let e2:(j:Int)+t*(1-1)=j:=xo;rw[e1,e2];show (if _ then _ else _)=(if 0<=(i:Int)+t/\(i:Int)+t<r then _ else _)
  by_cases h:0<=(i:Int)+t/\(i:Int)+t<r
  .rw[if_pos h,if_pos %[h.1,h.2,xo|xo],ci];show (aj.getD ((i:Int)+t).toNat []).getD j 0=(aj.map λl=>l.getD j 0).getD ((i:Int)+t).toNat 0;let D:((i:Int)+t).toNat<aj.length:=by rw[B.len];simp_all
   rw[ar (l:=aj),ar (l:=aj.map λl=>l.getD j 0),bb,ag D];rfl
  .rw[if_neg h,if_neg (λz=>h %[z.1|z.2.1])]
def ahc {r w:Nat}{aj:AA}(q:Blk r w aj){i j:Nat}(hi:i<r)(B:j<w){way:Int}(hw:way=0\/way=1)(t:Int):atC aj r w ((i:Int)-t*way) ((j:Int)-t*(1-way))=tK (lineOf aj i j way) ((placeOf i j way:Nat)-t):=by have:=RJ q hi B hw (-t);rw[show (i:Int) + -t*way=(i:Int)-t*way by rw[Int.neg_mul];rfl,show (j:Int) + -t*(1-way)=(j:Int)-t*(1-way) by rw[Int.neg_mul];rfl,show ((placeOf i j way:Nat):Int) + -t=(placeOf i j way:Nat)-t by rfl]at this;show this
def dI (l:List Nat)(k c:Nat):List Nat:=(dF (l.take k)).map PyProof.Rows.lo1++c::(fD (l.drop (k+1))).map PyProof.Rows.lo1
def Kp (K:W.Frag):Sp:=λvs H Q _=>∃(p:Addr) (aj:AA) (r w:Nat) (i j:Int),vs=[.ref p,.int i,.int j]/\aV K H p (Ts aj)/\Blk r w aj/\1<=r/\r<=9/\w<=9/\Q (.str (S [atC aj r w i j])) H
def XJ (D:aQ K mg "_law_at" aau ["_law_rows","_law_row","_law_column"])(O:mg "len"=none):bF P w K mg base "_law_at" 1 ["_law_rows","_law_row","_law_column"] (Kp K):=by
 calc D.dz ag7 ?_;walk_at"b";let(p,aj,r,w,i,j,rfl,hp,F,r1,r9,w9,q):=h;let Y:(Ts aj).length=r:=by rw[ab,F.len]
 let Z:0<aj.length:=by rw[F.len];lia
 let N:aj[0].length=w:=F.iZ _ (ba _);calc%[0,_,(aD (cU (QW.qt (Dg (rT lZ t_ aB bx (aP cB xw O bS (ak aG au))) (zR (rT lZ t_ aB bf (aP cV xw O bS (ak (bH dO aG aB (λ_ _=>rfl)) au)))))) (aJ (aW (bH rQ (bH dO aG bx (λ_ _=>rfl)) bf (λ_ _=>rfl)))) b_) (aJ (aW (bR [46] xz))))|?_];let out:¬(0<=i/\i<r/\0<=j/\j<w)->Q (.str (S [46])) H:=λz=>by let e:atC aj r w i j=46:=if_neg z;rw[e]at q;show q
 calc%[22,_,rb,_,_,rb,rb,_,rb|?_];by_cases h1:0<=i
 .rw[ap h1];calc bV %[51,_,rb,p,_,rb,.inr hp,_,_,rb,rb,_,rb|?_];rw[Y];by_cases G:i<(r:Int)
  .rw[ap G];calc bV %[22,_,rb,_,_,rb,rb,_,rb|?_];by_cases J:0<=j
   .rw[ap J];calc bV %[7,_,rb,p,_,_,.str (S aj[0]),rb,rb,hp,aO (j:=0) (jB (by simp[Z]))|%[2,_,rb,av (aF xo)|%[19,_,_,rb,rb,_,rb|?_]]];rw[N];by_cases L:j<(w:Int)
    .rw[ap L];let e:atC aj r w i j=(aj.getD i.toNat []).getD j.toNat 0:=if_pos %[h1,G,J|L];rw[e]at q;obtain⟨i,rfl⟩:∃k:Nat,i=k:=%[i.toNat|xo]
     obtain⟨j,rfl⟩:∃k:Nat,j=k:=%[j.toNat|xo]
     rw[ci,ci]at q;let hi:i<aj.length:=by rw[F.len];lia
     let B:aj[i]?=some (aj.getD i []):=by rw[ar,ag hi];rfl
     let hw:(aj.getD i []).length=w:=F.iZ _ (aE B);let M:(aj.getD i [])[j]?=some ((aj.getD i []).getD j 0):=by rw[ar (l:=aj.getD i []),ag xo];rfl
     show bV %[0,_,rb|%[7,_,rb,p,_,_,_,rb,rb,hp,aO (jB B)|%[48,_,rb,_,_,_,rb,rb,av (aF xo),aO M|q]]]
    .rw[ai L];show bO (out λz=>L z.2.2.2)
   .rw[ai J];show bO %[0,_,rb|bO (out λz=>J z.2.2.1)]
  .rw[ai G];show bO (bO (out λz=>G z.2.1))
 .rw[ai h1];show bO %[0,_,rb|bO (bO (out λz=>h1 z.1))]
def RK {r w:Nat}{aj:AA}(cr:∀l∈aj,∀c∈l,zm c){i j:Nat}{way:Int}(F:Blk r w aj)(G:j<w):∀c∈lineOf aj i j way,zm c:=λc q=>by
 unfold lineOf at q;split at q
 .rw[ar]at q;cases e:aj[i]? with| none=>rw[e]at q;simp at q| some l=>rw[e]at q;show cr l (aE e) c q
 .let(l,D,rfl):=aI.mp q;let B:j<l.length:=by rw[F.iZ l D];show G
  rw[ar,ag B];show cr l D _ (ba _)
def Kq (h:zm c):c<128:=by
 rcases h with e|e;.rw[e];decide
 .show e.lt
def RL:Sp:=λvs H Q _=>∃(p:Addr) (aj:AA) (r w i j c:Nat) (way:Int),vs=[.ref p,.int i,.int j,.int way,.str (S [c])]/\H p=some (.tup (Ts aj))/\Blk r w aj/\1<=r/\r<=9/\w<=9/\(∀l∈aj,∀c∈l,zm c)/\i<r/\j<w/\(way=0\/way=1)/\
 Q (.str (S (dI (lineOf aj i j way) (placeOf i j way) c))) H
def aaD (D:aQ K mg "_law_cross" Gs ["_law_rows","_law_row","_law_column","_law_way","_law_letter"])(qM:bF P w K mg base "_law_at" 1 ["_law_rows","_law_row","_law_column"] (Kp K)):bF P w K mg base "_law_cross" 2 ["_law_rows","_law_row","_law_column","_law_way","_law_letter"] RL:=by
 calc D.dz lN ?_;walk_at"b";let(p,aj,r,w,i,j,c,way,rfl,hp,L,r1,r9,w9,cr,hi,hj,B,q):=h;let O:=mG L hi (j:=j) (way:=way);let hk:placeOf i j way<(lineOf aj i j way).length:=by rw[O];unfold placeOf;split <;> assumption
 let hl9:(lineOf aj i j way).length<=9:=by rw[O];split <;> assumption
 let J:=ahc L hi hj B;let G:=RJ L hi hj B;let RM:=RK cr (i:=i) (way:=way) L hj;let N:∀m,tK (lineOf aj i j way) m<128:=λm=>by
  unfold tK;split
  .rename_i h;rw[ar,ag xo];show Kq (RM _ (ba _))
  .decide
 generalize lineOf aj i j way=l at hk hl9 J G N q;generalize placeOf i j way=k at hk J G q;clear O RM;let hz:∀n,n<=100->n<=sizeLine:=λn h=>av (aF xo);calc%[0,_,(aD (aR (i:=5) lN.nd rb (Or.inl rb) cg) (aD (aR (i:=6) lN.nd rb (Or.inl rb) aB) (aD (qu (Bp cq (bW mQ (aX qM hr.mono rb (ak aG (ak (aK fK bx (aK fY cM bI)) (ak (aK fK bf (aK fY cM (aK fK aB bI))) au)))) (bR [46] xz) (bY _)) (aD (aR (i:=5) lN.nd rb (Or.inl rb) (aK iI (qp bu jI jS u_ (aX qM hr.mono rb (ak aG (ak (aK fK bx (aK fY cM bI)) (ak (aK fK bf (aK fY cM (aK fK aB bI))) au))))) cL)) (aJ (aR (i:=6) lN.nd rb (Or.inl rb) (aK cu cM aB)))))) (aD (aR (i:=6) lN.nd rb (Or.inl rb) aB) (aD (qu (Bp cq (bW mQ (aX qM hr.mono rb (ak aG (ak (aK cu bx (aK fY cM bI)) (ak (aK cu bf (aK fY cM (aK fK aB bI))) au)))) (bR [46] xz) (bY _)) (aD (aR (i:=5) lN.nd rb (Or.inl rb) (aK iI cL (qp bu jI jS u_ (aX qM hr.mono rb (ak aG (ak (aK cu bx (aK fY cM bI)) (ak (aK cu bf (aK fY cM (aK fK aB bI))) au))))))) (aJ (aR (i:=6) lN.nd rb (Or.inl rb) (aK cu cM aB)))))) (aJ (aW cL)))))))|?_];let hS:=aV.of (K:=K) hp;calc%[0,_,rb|?_];refine%[λI H'=>H'=H/\∃v6:Option V,I=[some (.ref p),some (.int i),some (.int j),some (.int way),some (.str (S [c])),some (.str (S ((dF (l.take k)).map PyProof.Rows.lo1++[c]))),v6],?_|?_]
 .refine%[λm I H'=>H'=H/\∃t:Nat,t<=k/\m=k-t/\I=[some (.ref p),some (.int i),some (.int j),some (.int way),some (.str (S [c])),some (.str (S (((l.take k).drop (k-t)).map PyProof.Rows.lo1++[c]))),some (.int ((t:Int)+1))]/\∀x,k-t<=x->x<k->l[x]?≠some 46,
   %[44,k,rb,0,xo,xo,?_|λx h1 h2=>by lia]|?_]
  .rw[Nat.sub_zero,oB (by rw[bn];lia)];rfl
  intro m I H' z;let(rfl,t,ht,rfl,rfl,hx):=z;calc%[9,_,rb,_,rb|⟨26,_,rb,_,rb,_,_,rb,rb,.inr ⟨by rcases B with e|e <;> rw[e] <;> decide,by rcases B with e|e <;> rw[e] <;> decide⟩,%[19,_,_,rb,rb,_,rb|%[27,_,rb,_,rb,_,_,rb,rb|%[3,_,_,rb|%[21,rb,.inr ⟨by rcases B with e|e <;> rw[e] <;> decide,by rcases B with e|e <;> rw[e] <;> decide⟩,_,_,rb,rb|%[33,p,aj,r,w,_,_,rb,hS,L,r1,r9,w9|%[19,_,_,rb,rb,_,rb|?_]]]]]]⟩];rw[J];by_cases F:tK l ((k:Int)-((t:Int)+1))=46
  .rw[F,ap rfl];calc bO %[16,rb,some (.int ((t:Int)+1))|?_];let h3:k-t=0\/l[k-t-1]?=some 46:=by
    by_cases Z:k-t=0;.show .inl Z
    .calc .inr ?_;rw[show (k:Int)-((t:Int)+1)=((k-t-1:Nat):Int) by lia,rH xo]at F;rw[ag xo,F]
   rw[aaC xo xo hx h3]
  .rw[ai (λz=>F (by injection z))];let j_:0<=(k:Int)-((t:Int)+1)/\(k:Int)-((t:Int)+1)<l.length:=by
    by_cases z:0<=(k:Int)-((t:Int)+1)/\(k:Int)-((t:Int)+1)<l.length;.show z
    .show absurd (Ni z) F
   let M:k-t-1<l.length:=xo;let eN:(k:Int)-((t:Int)+1)=((k-t-1:Nat):Int):=xo;refine bV %[0,λI2 H3=>H3=H'/\I2=[some (.ref p),some (.int i),some (.int j),some (.int way),some (.str (S [c])),some (.str (S (((l.take k).drop (k-(t+1))).map PyProof.Rows.lo1++[c]))),some (.int (((t+1:Nat):Int)+1))],?_|?_]
   .rintro I2 H3 ⟨rfl,rfl⟩;calc%[2,k-(t+1),xo,rb|%[11,t+1,xo,rb,rb|λx h1 h2=>?_]];by_cases Y:x=k-t-1
    .subst Y;rw[ag M];rw[eN,rH M]at F;intro z;show F (bg z)
    .show hx x xo h2
   .calc%[9,_,rb,_,rb|⟨26,_,rb,_,rb,_,_,rb,rb,.inr ⟨by rcases B with e|e <;> rw[e] <;> decide,by rcases B with e|e <;> rw[e] <;> decide⟩,%[19,_,_,rb,rb,_,rb|%[27,_,rb,_,rb,_,_,rb,rb|%[3,_,_,rb|%[21,rb,.inr ⟨by rcases B with e|e <;> rw[e] <;> decide,by rcases B with e|e <;> rw[e] <;> decide⟩,_,_,rb,rb|%[33,p,aj,r,w,_,_,rb,hS,L,r1,r9,w9|?_]]]]]⟩];rw[J];refine%[16,rb,_|%[57,rb,rb,by show 1<=1000;decide,λd hd=>by rw[am.mp hd];show N _,_,rb|%[4,_,_,rb,rb,?_|?_]]]
    .rw[ab,ax,ab,cz,bn];show hz _ (by simp;lia)
    .calc%[31,_,rb,_,_,rb,rb,rb|?_];rw[eN,rH M];let ed:(l.take k).drop (k-(t+1))=l[k-t-1]::(l.take k).drop (k-t):=by
      let bM:k-(t+1)<(l.take k).length:=by rw[bn];lia
      rw[qE bM,List.getElem_take,show k-(t+1)+1=k-t by lia];congr 1
     rw[ed];rfl
 .intro I H' z;let(rfl,v6,rfl):=z;refine%[λI H2=>H2=H'/\∃v6:Option V,I=[some (.ref p),some (.int i),some (.int j),some (.int way),some (.str (S [c])),some (.str (S (dI l k c))),v6],?_|?_]
  .refine%[λm I H2=>H2=H'/\∃t:Nat,k+1+t<=l.length/\m=l.length-(k+1+t)/\I=[some (.ref p),some (.int i),some (.int j),some (.int way),some (.str (S [c])),some (.str (S (((dF (l.take k)).map PyProof.Rows.lo1++[c])++((l.drop (k+1)).take t).map PyProof.Rows.lo1))),some (.int ((t:Int)+1))]/\∀x,k+1<=x->x<k+1+t->l[x]?≠some 46,
    %[44,_,rb,0,xo,rb,?_|λx h1 h2=>by lia]|?_]
   .rw[List.take_zero,mf,ej];rfl
   intro m I H2 z;let(rfl,t,ht,rfl,rfl,hx):=z;calc%[9,_,rb,_,rb|⟨26,_,rb,_,rb,_,_,rb,rb,.inr ⟨by rcases B with e|e <;> rw[e] <;> decide,by rcases B with e|e <;> rw[e] <;> decide⟩,%[19,_,_,rb,rb,_,rb|%[27,_,rb,_,rb,_,_,rb,rb|%[3,_,_,rb|%[21,rb,.inr ⟨by rcases B with e|e <;> rw[e] <;> decide,by rcases B with e|e <;> rw[e] <;> decide⟩,_,_,rb,rb|%[33,p,aj,r,w,_,_,rb,hS,L,r1,r9,w9|%[19,_,_,rb,rb,_,rb|?_]]]]]]⟩];rw[G];let eN:(k:Int)+((t:Int)+1)=((k+1+t:Nat):Int):=xo;by_cases F:tK l ((k:Int)+((t:Int)+1))=46
   .rw[F,ap rfl];calc bO %[16,rb,some (.int ((t:Int)+1))|?_];let h3:k+1+t=l.length\/l[k+1+t]?=some 46:=by
     by_cases Z:k+1+t=l.length;.show .inl Z
     .calc .inr ?_;rw[eN,rH xo]at F;rw[ag xo,F]
    let e2:=XH (l:=l) (k:=k+1) (high:=k+1+t) xo ht hx h3;rw[show k+1+t-(k+1)=t by lia]at e2;unfold dI;rw[e2,be];rfl
   .rw[ai (λz=>F (by injection z))];let j_:0<=(k:Int)+((t:Int)+1)/\(k:Int)+((t:Int)+1)<l.length:=by
     by_cases z:0<=(k:Int)+((t:Int)+1)/\(k:Int)+((t:Int)+1)<l.length;.show z
     .show absurd (Ni z) F
    let M:k+1+t<l.length:=xo;refine bV %[0,λI2 H3=>H3=H2/\I2=[some (.ref p),some (.int i),some (.int j),some (.int way),some (.str (S [c])),some (.str (S (((dF (l.take k)).map PyProof.Rows.lo1++[c])++((l.drop (k+1)).take (t+1)).map PyProof.Rows.lo1))),some (.int (((t+1:Nat):Int)+1))],?_|?_]
    .rintro I2 H3 ⟨rfl,rfl⟩;calc%[2,l.length-(k+1+(t+1)),xo,rb|%[11,t+1,xo,rb,rb|λx h1 h2=>?_]];by_cases Y:x=k+1+t
     .subst Y;rw[ag M];rw[eN,rH M]at F;intro z;show F (bg z)
     .show hx x h1 xo
    .calc%[23,_,rb,_,rb,_,rb|⟨26,_,rb,_,rb,_,_,rb,rb,.inr ⟨by rcases B with e|e <;> rw[e] <;> decide,by rcases B with e|e <;> rw[e] <;> decide⟩,%[19,_,_,rb,rb,_,rb|%[27,_,rb,_,rb,_,_,rb,rb|%[3,_,_,rb|%[21,rb,.inr ⟨by rcases B with e|e <;> rw[e] <;> decide,by rcases B with e|e <;> rw[e] <;> decide⟩,_,_,rb,rb|%[33,p,aj,r,w,_,_,rb,hS,L,r1,r9,w9|?_]]]]]⟩];rw[G];let t1:=qx (l.take k);rw[bn]at t1;refine%[rb|%[5,_,rb,rb,by show 1<=1000;decide,λd hd=>by rw[am.mp hd];show N _|%[4,_,_,rb,rb,?_|?_]]]
     .rw[ax,ax,ab,ab,ab,bn,cz];show hz _ (by simp;lia)
     .calc%[31,_,rb,_,_,rb,rb,rb|?_];rw[eN,rH M];let ed:(l.drop (k+1)).take (t+1)=(l.drop (k+1)).take t++[l[k+1+t]]:=by
       let bM:t<(l.drop (k+1)).length:=by rw[cz];lia
       rw[vw,ag bM,List.getElem_drop];rfl
      rw[ed,bE,<-be];rfl
  .intro I H2 z;let(rfl,v6,rfl):=z;show%[0,_,rb|q]
def abM (b:Bool)(c:Nat):Nat:=if b=true then 46 else c
def RN (b)(c):k_ [V.str (S [c]),V.str (S [46])] (if b=true then 1 else 0)=some (.str (S [abM b c])):=by
 cases b;.show aO (j:=0) rfl
 .show aO (j:=1) rfl
def RP (h:uq c):zm (abM b c):=by
 cases b;.show .inr h
 .show .inl rfl
def Nj (K:W.Frag)(C:Addr):Sp:=λvs H Q _=>∃(p a:Addr) (ls:List Nat) (ns:List Int) (st:Nat) (x:Int),vs=[.ref p,.ref a,.int st,.int x]/\H p=some (.lst (Ts (ones ls)))/\Uv ls/\aN K H a (ns.map V.int)/\st<=900/\
 ∀(b:Addr) (r w:Nat) (aj aM:AA) (bi bj:Nat) (H':Hp),aA H H'->dX C H' b r w aj aM bi bj->(x%8=3->(r:Int)=1+x/8%9/\(w:Int)=1+x/72%9)->Q (.ref b) H'
def XM:List Nat:=[46,46,46,46,46,46,46,50,51,52,98,99,100]
def Nk (D:aQ K mg "_law_board" Gr ["_law_letters_here","_law_script","_law_start","_law_x"])(bw:mg "len"=none)(eF:mg "range"=none)(bU:mg "tuple"=none)(nj:mg "int"=none)(tH:mg "Board"=some (.ref C))(vI:Mk K C f0)(vJ:eZ P w K mg base fZ 5 f0 oN ["self","rows","marks","begin"] (Ae C))(vK:cT K oN ["self","rows","marks","begin"] [])(afS:bF P w K mg base "_law_size" 1 ["_law_x"] Xr)(jw:bF P w K mg base "_law_digits" 3 ["_law_script","_law_k","_law_base","_law_many"] (Ac K)):bF P w K mg base "_law_board" 8 ["_law_letters_here","_law_script","_law_start","_law_x"] (Nj K C):=by
 calc D.dz ig ?_;walk_at"b";let(p,a,ls,ns,st,x,rfl,hp,hA,hS,hst,q):=h;let hlo:(Ts (ones ls)).length=ls.length:=by rw[ab,ab]
 let hl1:=hA.lo;calc%[0,_,(aD (Wb (aX afS hr.mono rb (ak bI au)) (oA rb (cJ (bQ (i:=4) ig.nd rb (Or.inl rb)) (cJ (bQ (i:=5) ig.nd rb (Or.inl rb)) kO)))) (aD (aR (i:=6) ig.nd rb (Or.inl rb) (dw au)) (aD (aR (i:=7) ig.nd rb (Or.inl rb) (dw au)) (aD (eU cq rb (jN xw eF (ak cg au)) (bQ (i:=8) ig.nd rb (Or.inl rb)) (aD (aR (i:=9) ig.nd rb (Or.inl rb) (bR [] xz)) (aD (eU cq rb (cG (aX jw hr.mono rb (ak bx (ak (aK cu bf jX) (ak aB (ak cL au)))))) (bQ (i:=10) ig.nd rb (Or.inl rb)) (aD (aR (i:=11) ig.nd rb (Or.inl rb) (bH gq aG (aK cA (aK dj (qv 10) aB) (aP cB xw bw bS (ak aG au))) (λ_ _=>rfl))) (aD (qu (cU (bW jA (aK cA (aK dj (qv 10) aB) aB) aB (bY _)) (aJ (aR (i:=11) ig.nd rb (Or.inl rb) (qp bu sv sC Wd (qv 11)))) b_)) (aJ (aR (i:=9) ig.nd rb (Or.inl rb) (aK iI (qv 9) (bH gq (dw (ak (qv 11) (ak (bR [46] xz) au))) (cY yc xw nj pE (ak (Tt (gW S8 (aK cA (qv 10) aB) aB (bY _)) (lG (gW jA (aK cA (aK dj bI aB) aB) aB (bY _)))) au)) (λ_ _=>rfl)))))))) (aD (gF (dU df fe ff iG cM (ak (qv 9) au))) (aJ (gF (dU df fe ff iG iz (ak (dU bu eP eQ pD (bR [] xz) (ak (fB rb (eG.of ig.nd xy) (cG (aX jw hr.mono rb (ak bx (ak (aK cu (aK cu bf aB) jX) (ak aB (ak cL au)))))) (λ_ _ _ _ _=>cI) (λ_ _ _ _ _=>(bH rQ (bR [46,46,46,46,46,46,46,50,51,52,98,99,100] xz) aG (λ_ _=>rfl)))) au)) au)))))))) (aJ (aW (zT vI vJ hr.mono rb tH vK .nil jU (ak (cY dR xw bU di (ak cM au)) (ak (cY dR xw bU di (ak iz au)) (ak (cW (ak (aK cA (aK dj bI aB) cg) (ak (aK cA (aK dj bI aB) cL) au))) au))))))))))|?_];calc%[9,_,rb,x,rb|λsp r w H1 s1 hsp ahP r1 r9 w1 w9 hsz=>?_];calc%[53,sp,_,rb,aV.of ahP,rb,_,_,rb,_,_,rb,rb|?_];calc%[zsz 0|λR hR=>%[zsz 0|λM hM=>?_]];let hR0:=s1.free hR;let sR:aA H (upd H1 R (HO.lst [])):=s1.bC hR0;let hM0:=sR.free hM;let nRM:R≠M:=λz=>by rw[<-z,aq]at hM;cases hM
 let sM:aA H (upd (upd H1 R (HO.lst [])) M (HO.lst [])):=sR.bC hM0;calc%[44,_,rb,_,rb,nN _,xo|?_];rw[ci];refine ql (lo:=0) (n:=r) (λi I O=>∃(v8 v9 G F:Option V) (aj aM:AA),I=[some (.ref p),some (.ref a),some (.int st),some (.int x),some (.int r),some (.int w),some (.ref R),some (.ref M),v8,v9,G,F]/\
  aA H O/\O R=some (.lst (Ts aj))/\O M=some (.lst (Ts aM))/\aj.length=i/\aM.length=i/\(∀l∈aj,l.length=w/\∀c∈l,zm c)/\∀l∈aM,l.length=w/\∀c∈l,mkC c)
  %[68,none,none,none,none,[],[],rb,sM,by rw[aZ nRM,aq];rfl,aq,rb,rb,λl h=>by simp at h|λl h=>by simp at h] ?_ ?_
 .intro i I O hi z;let(v8,v9,G,F,aj,aM,rfl,sm,hR2,xO,lr,lm,Z,Y):=z;let e0:(st:Int)+(0+(i:Int))=((st+i:Nat):Int):=xo;calc%[9,_,rb,_,rb|%[22,_,rb,_,_,rb,rb,_,rb|%[49,a,ns,st+i,624,w,by show [V.ref a,V.int ((st:Int)+(0+(i:Int))),V.int 624,V.int (w:Int)]=_;rw[e0],sm.seq hS,xo,xt,xt,xo|λpd ds H3 s3 aic hpd hl hd=>?_]]];let tL:=sm.trans s3;refine%[2,pd,rb,%[_|aN.of hpd]|fX (K:=K) (a:=pd) (xs:=ds.map V.int) (λj I N=>∃(G F:Option V) (J:List Nat),I=[some (.ref p),some (.ref a),some (.int st),some (.int x),some (.int r),some (.int w),some (.ref R),some (.ref M),some (.int (0+(i:Int))),some (.str (S J)),G,F]/\
   aA H3 N/\J.length=j/\∀c∈J,zm c) %[29,G,F,[],rb,aA.refl _,rb|λc h=>by simp at h] (λj I N _ h=>by let(_,_,_,_,Nh,_):=h;show aN.of (Nh _ _ hpd)) ?_ ?_]
  .intro j y I N hj z;let(G,F,J,rfl,s4,lc,okc):=z;let hjl:j<(ds.map V.int).length:=(al.mp hj).1;rw[ab]at hjl;obtain⟨d,hd1,e⟩:∃d,ds[j]?=some d/\V.int d=y:=by
    rw[bb]at hj;let(d,h1,h2):=fz.mp hj;show%[0,d,h1|h2]
   subst e;let XQ:=s4 _ _ (tL _ _ hp);let(v,hv,Mp):=zU (xs:=Ts (ones ls)) (n:=ls.length) hlo (av hl1) (d/24);let(l1,aaE,rfl):=aI.mp Mp;let(c,hcm,rfl):=aI.mp aaE;let hc:=hA.az c hcm;calc%[26,_,rb,_,rb,_,_,rb,rb,%[xt|xt]|%[17,_,rb,p,_,rb,.inl (aN.of XQ)|%[4,_,_,rb,rb,by rw[hlo];show (0:Int)<(ls.length:Int);lia|%[25,p,_,_,.str (S [c]),rb,rb,aN.of XQ,by rw[hlo];show hv|?_]]]];refine%[λI' H'=>H'=N/\∃z:Nat,uq z/\I'=[some (.ref p),some (.ref a),some (.int st),some (.int x),some (.int r),some (.int w),some (.ref R),some (.ref M),some (.int (0+(i:Int))),some (.str (S J)),some (.int d),some (.str (S [z]))],?_|?_]
   .calc%[20,_,rb,_,_,rb|%[21,rb,%[xt|xt],_,_,rb,rb|%[14,(by show (0:Int)<8;decide),rb,_,rb|uF (λ_=>?_) (λ_=>%[8,rb,c,Xm hc|rb])]]];calc%[2,_,rb,rb|%[5,[c],rb,rb,by show 1<=1000;decide,λe he=>by rw[am.mp he];have:=hc.2;lia|?_]];let eu:[c].map PyProof.Rows.up1=[c-32]:=by
     rw[oy];unfold PyProof.Rows.up1;rw[if_pos (show 97<=c/\c<=122 from hc)]
    rw[eu];show%[8,rb,_,Xn hc|rb]
   .intro I' H' z;let(rfl,z,hz,rfl):=z;calc%[13,_,rb,_,rb,zsz 2|λt ht=>?_];let s5:=s4.bC (o:=HO.lst [V.str (S [z]),V.str (S [46])]) (s4.free ht);calc%[31,_,rb,_,_,rb,rb,(by show (0:Int)<3;decide)|%[19,_,_,rb,rb,_,rb|?_]];refine uF (λ_=>?_) (λ_=>?_)
    .calc .inr %[7,_,rb,t,_,_,_,rb,rb,aN.of aq,RN _ _|%[4,J,_,rb,rb,by rw[lc];show av (aF (by simp;lia))|?_]];calc%[29,_,_,_,rb,s5,by simp[lc]|λe he=>?_];rcases a6.mp he with k|k;.show okc e k
     .rw[am.mp k];show RP hz
    .calc%[31,_,rb,_,_,rb,rb,%[xt|xt]|%[18,_,_,rb,rb,(by show (0:Int)<6;decide),rb|?_]];calc .inr %[7,_,rb,t,_,_,_,rb,rb,aN.of aq,RN _ _|%[4,J,_,rb,rb,by rw[lc];show av (aF (by simp;lia))|?_]];calc%[29,_,_,_,rb,s5,by simp[lc]|λe he=>?_];rcases a6.mp he with k|k;.show okc e k
     .rw[am.mp k];show RP hz
  .intro I N z;let(G,F,J,rfl,s4,lc,okc):=z;rw[ab,hl]at lc;let hR4:=s4 _ _ (s3 _ _ hR2);let hM4:=s4 _ _ (s3 _ _ xO);let Bb:=tL.trans s4;calc%[2,_,rb,.inl %[16,rb,_|aN.of hR4]|%[48,_,rb,R,_,_,rb,rb,hR4,by rw[ab];show aF xo|?_]];let s5:aA H (upd N R (HO.lst (Ts aj++[V.str (S J)]))):=Bb.bC hR0;let Nm:upd N R (HO.lst (Ts aj++[V.str (S J)])) M=some (.lst (Ts aM)):=by rw[aZ nRM.symm];show hM4
   let hR5:upd N R (HO.lst (Ts aj++[V.str (S J)])) R=some (.lst (Ts (aj++[J]))):=by rw[aq,kW]
   generalize upd N R (HO.lst (Ts aj++[V.str (S J)]))=H5 at s5 Nm hR5 ⊢;let e9:(st:Int)+9+(0+(i:Int))=((st+9+i:Nat):Int):=xp;calc%[11,_,rb,.inl %[16,rb,_|aN.of Nm],rb|%[27,_,rb,_,rb,_,_,rb,rb|%[22,_,rb,_,_,rb,rb,_,rb|%[49,a,ns,st+9+i,13,w,by show [V.ref a,V.int ((st:Int)+9+(0+(i:Int))),V.int 13,V.int (w:Int)]=_;rw[e9],s5.seq hS,xo,xt,xt,xo|λpe es H6 s6 aie hpe hle hde=>?_]]]];refine%[2,pe,rb,%[_|aN.of hpe]|λL hL=>jf (K:=K) (a:=pe) (xs:=es.map V.int) (λj ys H7=>∃ms:List Nat,ys=Ts (ones ms)/\ms.length=j/\(∀c∈ms,mkC c)/\H7 L=some (.lst ys)/\aA H6 H7)
    %[5,[],rb,rb,λc h=>by simp at h,aq|aA.upd hL] (λj ys H7 _ h=>by let(_,_,_,_,_,sm7):=h;show aN.of (sm7 _ _ hpe)) ?_ ?_]
   .intro j y ys H7 hj z;let(ms,rfl,XR,aaF,XS,s7):=z;let hjl:j<(es.map V.int).length:=(al.mp hj).1;obtain⟨d,hd1,e⟩:∃d,es[j]?=some d/\V.int d=y:=by
     rw[bb]at hj;let(d,h1,h2):=fz.mp hj;show%[0,d,h1|h2]
    subst e;let(d0,d1):=hde d (aE hd1);obtain⟨n,rfl⟩:∃n:Nat,d=n:=%[d.toNat|xo]
    let hn:n<XM.length:=by show n<13;show Iff.mp gu d1
    refine%[67,_,rb,XM,_,XM[n],rb,rb,xt,aO (ag hn),XS,?_|?_]
    .rw[ab,ab,XR];rw[ab]at hjl;show aF xo
    .calc dZ.mk hjl %[5,ms++[XM[n]],by rw[kW,jQ],by simp[XR],λc hc=>?_,aq|s7.bC hL];rcases a6.mp hc with k|k;.show aaF c k
     .rw[am.mp k];have:∀x∈XM,x∈MK:=by decide
      show this _ (ba _)
   .intro ys H7 z;let(ms,rfl,XR,aaF,XS,s7):=z;rw[ab,hle]at XR;calc%[18,L,ones ms,rb,rb,aN.of XS,by rw[ni];lia|?_];rw[ni];let qU:=s7 _ _ (s6 _ _ Nm);calc%[15,M,_,_,rb,rb,qU,by rw[ab];show aF xo|?_];refine%[68,_,_,_,_,aj++[J],aM++[ms],rb,((s5.trans s6).trans s7).bC hM0,by rw[aZ nRM];show s7 _ _ (s6 _ _ hR5),by rw[aq,kW],by simp[lr],by simp[lm],λl hl'=>?_|λl hl'=>?_]
    .rcases a6.mp hl' with k|k;.show Z l k
     .rw[am.mp k];show%[lc|okc]
    .rcases a6.mp hl' with k|k;.show Y l k
     .rw[am.mp k];show%[XR|aaF]
 .intro I O z;let(v8,v9,G,F,aj,aM,rfl,sm,hR2,xO,lr,lm,Z,Y):=z;calc%[20,_,rb,R,_,rb|.inl %[aN.of hR2|λT1 hT1=>?_]];let k1:aA O (upd O T1 (HO.tup (Ts aj))):=aA.upd hT1;calc%[20,_,rb,M,_,rb|.inl %[aN.of (k1 _ _ xO)|λT2 hT2=>?_]];let k2:aA O (upd (upd O T1 (HO.tup (Ts aj))) T2 (HO.tup (Ts aM))):=k1.bC (k1.free hT2);let hT1':upd (upd O T1 (HO.tup (Ts aj))) T2 (HO.tup (Ts aM)) T1=some (.tup (Ts aj)):=by
   rw[aZ (λz=>by rw[<-z,aq]at hT2;cases hT2),aq]
  let hT2':upd (upd O T1 (HO.tup (Ts aj))) T2 (HO.tup (Ts aM)) T2=some (.tup (Ts aM)):=aq;generalize upd (upd O T1 (HO.tup (Ts aj))) T2 (HO.tup (Ts aM))=H3 at k2 hT1' hT2' ⊢;calc%[31,_,rb,_,_,rb,rb,%[xt|xt]|%[31,_,rb,_,_,rb,rb,(by show (0:Int)<(r:Int);show ph gu r1)|%[20,_,rb,_,_,rb|%[14,rb,%[xt|xt],_,rb|%[18,_,_,rb,rb,(by show (0:Int)<(w:Int);lia),zsz 2|λpb hpb=>?_]]]]];let i0:=eT (x/6000) (show (r:Int)≠0 by lia);let i1:=dC (x/6000) (show (0:Int)<(r:Int) by lia);let j0:=eT (x/54000) (show (w:Int)≠0 by lia);let j1:=dC (x/54000) (show (0:Int)<(w:Int) by lia);obtain⟨bi,ebi⟩:∃bi:Nat,x/6000%(r:Int)=bi:=%[(x/6000%(r:Int)).toNat|xo]
  obtain⟨bj,ebj⟩:∃bj:Nat,x/54000%(w:Int)=bj:=%[(x/54000%(w:Int)).toNat|xo]
  let k4:aA H3 (upd H3 pb (HO.tup [V.int (x/6000%(r:Int)),V.int (x/54000%(w:Int))])):=aA.upd hpb;let aaG:upd H3 pb (HO.tup [V.int (x/6000%(r:Int)),V.int (x/54000%(w:Int))]) pb=some (.tup [.int bi,.int bj]):=by rw[aq,ebi,ebj]
  let aaH:=k4 _ _ hT1';let aaI:=k4 _ _ hT2';let k5:aA H _:=(sm.trans k2).trans k4;generalize upd H3 pb (HO.tup [V.int (x/6000%(r:Int)),V.int (x/54000%(w:Int))])=N at k5 aaG aaH aaI ⊢;let B:uw r w aj aM bi bj:=%[r1,r9,w1,w9,%[lr|λl h=>(Z l h).1],%[lm|λl h=>(Y l h).1],λl h=>(Z l h).2,λl h=>(Y l h).2,by simp_all|by simp_all]
  intro b dx nx ndx nex;let s2:aA N (upd (upd N dx (HO.own b)) b (HO.ins C dx [])):=λc o e=>by rw[aZ (bN e nx),aZ (bN e ndx)];show e
  calc%[6,b,dx|%[10,T1,T2,pb|%[33,r,w,aj,aM,bi,bj,rb,aq,s2 _ _ aaH,s2 _ _ aaI,s2 _ _ aaG,B|λH5 kp hx5=>%[rb|?_]]]];let s3:aA N H5:=λc o e=>kp c o (s2 c o e) (bN e nx);show q b r w aj aM bi bj H5 (k5.trans s3) %[%[55,dx,T1,T2,pb,hx5,s3 _ _ aaH,s3 _ _ aaI|s3 _ _ aaG]|B] hsz
def adk {r w:Nat}{R:AA}(B:Blk r w R){i j z:Nat}(hi:i<r)(F:j<w):j8 (setAt R i j z) j=(j8 R j).set i z:=by
 apply iA;intro m;let q:i<R.length:=by rw[B.len];show hi
 let D:(R.getD i []).length=w:=by rw[ar,ag q];show B.iZ _ (ba _)
 unfold j8 setAt;rw[bb,sn,sn,bb];by_cases hm:i=m
 .subst hm;rw[if_pos rb,if_pos rb,if_pos q,if_pos (by rw[ab];show q)];show some (((R.getD i []).set j z).getD j 0)=some z;rw[ar,sn,if_pos rb,if_pos xo];rfl
 .rw[if_neg hm,if_neg hm]
def aaJ {r w:Nat}{R:AA}(B:Blk r w R){i j z:Nat}(hi:i<r)(D:j<w){way:Int}:lineOf (setAt R i j z) i j way=(lineOf R i j way).set (placeOf i j way) z:=by
 unfold lineOf placeOf;by_cases h:way=0
 .rw[if_pos h,if_pos h,if_pos h];let q:i<R.length:=by rw[B.len];show hi
  unfold setAt;rw[ar,sn,if_pos rb,if_pos q];rfl
 .rw[if_neg h,if_neg h,if_neg h];show adk B hi D
def X3 {l:List Nat}(hk:k<l.length):dF ((l.set k 97).take k)=dF (l.take k)/\fD ((l.set k 97).drop k)=97::fD (l.drop (k+1)):=by
 constructor;.rw[List.take_set,List.set_eq_of_length_le (by rw[bn];show t7 _ _)]
 .let j:k<(l.set k 97).length:=by rw[qr];show hk
  rw[qE j,List.getElem_set_self,List.drop_set_of_lt xo];rfl
def oO (ws:AA)(l:List Nat)(k:Nat):List Nat:=if (dI l k 97).length=1 then AL else AL.filter λc=>decide (dI l k c∈ws)
def afT (C B:Addr):Sp:=λvs H Q _=>∃(pb q d:Addr) (ws:AA) (r w:Nat) (aj aM:AA) (bi bj i j:Nat) (way:Int),vs=[.ref pb,.ref q,.int i,.int j,.int way]/\dX C H pb r w aj aM bi bj/\mX B H q d ws/\i<r/\j<w/\(way=0\/way=1)/\
 ∀H',aA H H'->Q (.str (S (oO ws (lineOf aj i j way) (placeOf i j way)))) H'
def adl (hw:way=0\/way=1)(hk:placeOf i j way=k):k_ (M_ i j way l) 2=some (.str (S (dF (l.take k)++fD (l.drop k))))/\(way=0->k_ (M_ i j way l) 1=some (.int ((k:Int)-(dF (l.take k)).length)))/\(way=1->k_ (M_ i j way l) 0=some (.int ((k:Int)-(dF (l.take k)).length))):=by
 subst hk;rcases hw with rfl|rfl;.show%[aO (j:=2) rb,λ_=>aO (j:=1) rb|λz=>by lia]
 .show%[aO (j:=2) rb,λz=>by lia|λ_=>aO (j:=0) rb]
def X4 (h:c∈fD l):c∈l:=(pM _).subset h
def X5 (h:c∈dF l):c∈l:=by unfold dF at h;rw[ww]at h;show ww.mp ((pM _).subset h)
def Cj (D:aQ K mg "cross_letters" oK ["board","book","row","column","way"])(bw:mg "len"=none)(uy:∃t,mg "LETTERS"=some (.str (S AL) t))(cD:fM K C)(Ed:pR K CB)(Np:Meth K C "laid" f1)(Nq:eZ P w K mg base fZ 8 f1 mY ["self","laying"] (XD C))(Nr:cT K mY ["self","laying"] [])(Qa:Meth K C "run" f2)(Qc:eZ P w K mg base fZ 2 f2 fd2 ["self","row","column","way"] (abL C))(Qd:cT K fd2 ["self","row","column","way"] [])(U0:Meth K CB "has" f3)(U3:eZ P w K mg base fZ 1 f3 Bc ["self","text"] (Uz CB))(U4:cT K Bc ["self","text"] []):bF P w K mg base "cross_letters" 10 ["board","book","row","column","way"] (afT C CB):=by
 calc D.dz iT ?_;walk_at"b";let(pb,pk,d,ws,r,w,aj,aM,bi,bj,i,j,way,rfl,B,BK,hi,hj,fU,q):=h;let(dx,_,_,_,ex,_):=id B.ex;let r9:=B.ok.r9;let w9:=B.ok.w9;let hll:=mG B.ok.br hi (j:=j) (way:=way);let hk:placeOf i j way<(lineOf aj i j way).length:=by rw[hll];unfold placeOf;split <;> assumption
 let hl9:(lineOf aj i j way).length<=9:=by rw[hll];split <;> assumption
 let RM:=RK B.ok.cr (i:=i) (way:=way) B.ok.br hj;let hz:∀n,n<=100->n<=sizeLine:=λn h=>av (aF xo);calc%[0,_,(aD (aR (i:=5) iT.nd rb (Or.inl rb) (pG (pG aG cD.cl Np Nq hr.mono Nr .nil jU (ak (cW (ak (cW (ak bf (ak bI (ak (bR [97] xz) au)))) au)) au)) cD.cl Qa Qc hr.mono Qd .nil jU (ak bf (ak bI (ak cg au))))) (aD (cU (bW jA (aP cV xw bw bS (ak (bH dO cL aB (λ_ _=>rfl)) au)) aB (bY _)) (aJ (aW (mj xw uy))) b_) (aD (qu (aR (i:=6) iT.nd rb (Or.inl rb) (rW (bW jA cg aB (bY _)) (aK fK bI (bH dO cL aB (λ_ _=>rfl))) (aK fK bf (bH dO cL aB (λ_ _=>rfl)))))) (aD (aR (i:=7) iT.nd rb (Or.inr rb) (qp bu jI jS u_ (jr K1 (bH dO cL aB (λ_ _=>rfl)) rF (gZ cM)))) (aD (aR (i:=8) iT.nd rb (Or.inr rb) (qp bu jI jS u_ (jr K1 (bH dO cL aB (λ_ _=>rfl)) (gZ (aK cu cM aB)) rF))) (aJ (aW (dU bu eP eQ pD (bR [] xz) (ak (jZ (ns:=["letter"]) rb (gU.of ["board","book","row","column","way","run","place","ahead","behind"] [] xy) (yu (mj xw uy)) (λ_ _ _ _ _=>(rE (show (["letter","board","book","row","column","way","run","place","ahead","behind"]:List Str).Nodup by decide +kernel) rb xw)) (λ_ _ _ _ _=>(Fw (gP (pG bf Ed.cl U0 U3 hr.mono U4 .nil jU (ak (aK iI (aK iI jX aG) (qv 9)) au))))) (λ_ _ _ _ _=>aG)) au)))))))))|?_];calc%[34,_,rb,pb,dx,_,rb,ex,rb|%[13,_,rb,_,rb,zsz 3|λF ht1=>%[zsz 1|λZ Nt=>?_]]];let s1:aA H (upd H F (HO.tup [V.int i,V.int j,V.str (S [97])])):=aA.upd ht1;let s2:=s1.bC (o:=HO.tup [V.ref F]) (s1.free Nt);let n12:F≠Z:=λz=>by rw[<-z,aq]at Nt;cases Nt
 let h1:upd (upd H F (HO.tup [V.int i,V.int j,V.str (S [97])])) Z (HO.tup [V.ref F]) F=some (.tup [.int i,.int j,.str (S [97])]):=by rw[aZ n12,aq]
 let h2:upd (upd H F (HO.tup [V.int i,V.int j,V.str (S [97])])) Z (HO.tup [V.ref F]) Z=some (.tup [.ref F]):=aq;generalize upd (upd H F (HO.tup [V.int i,V.int j,V.str (S [97])])) Z (HO.tup [V.ref F])=H2 at s2 h1 h2 ⊢;calc%[10,pb,Z,[F]|%[64,[(i,j,97)],r,w,aj,aM,bi,bj,rb,B.mv s2,h2,dM.nil.snoc (t:=(i,j,97)) h1,λt ht=>by rw[am.mp ht];show%[hi,hj|by show Jf [97]=true;decide]|λx1 H3 s3 B3=>?_]];let el:fP aj [(i,j,97)]=setAt aj i j 97:=rfl;rw[el]at B3;let(dx1,_,_,_,ex1,_):=id B3.ex;calc%[29,x1,dx1,_,rb,ex1,rb|%[23,_,rb,_,rb,_,rb|%[10,x1,r,w|%[64,setAt aj i j 97,aM,bi,bj,i,j,way,rb,B3,hi,hj,fU|λt H4 s4 ht Rt=>?_]]]];let Bb:=(s2.trans s3).trans s4;rw[aaJ B.ok.br hi hj]at Rt;generalize lineOf aj i j way=l at hk hl9 RM q Rt;generalize hK:placeOf i j way=k at hk q Rt;let(pa,pc):=X3 hk;let(O,vb,vc):=adl (l:=l.set k 97) fU hK;rw[pa,pc]at O;rw[pa]at vb vc;let t1l:=qx (l.take k);rw[bn]at t1l;let t2l:=ux (l.drop (k+1));rw[cz]at t2l;let hta:∀c∈dF (l.take k),c<128:=λc J=>Kq (RM c (f6 (X5 J)));let hha:∀c∈fD (l.drop (k+1)),c<128:=λc J=>Kq (RM c (ik (X4 J)));let G:∀c,(dI l k c).length=(dF (l.take k)).length+1+(fD (l.drop (k+1))).length:=λc=>by unfold dI;rw[ax,ab,bP,ab];lia
 let M:∀c,dI l k c=(dF (l.take k)).map PyProof.Rows.lo1++[c]++(fD (l.drop (k+1))).map PyProof.Rows.lo1:=λc=>by unfold dI;rw[be];rfl
 generalize hX:dF (l.take k)=X at O vb vc t1l hta G M;generalize hY:fD (l.drop (k+1))=Y at O t2l hha G M;generalize M_ i j way (l.set k 97)=rv at O vb vc Rt;let X6:=aV.of (K:=K) Rt;calc%[7,_,rb,t,_,_,_,rb,rb,X6,O|%[0,_,rb|%[14,hz _ (by rw[ax,bP];lia),rb,_,rb|?_]]];by_cases h1:X.length+1+Y.length=1
 .let e:decide (V.int ((X++97::Y).length:Nat)=V.int 1)=true:=ap (by rw[ax,bP,show X.length+(Y.length+1)=1 by lia];rfl);rw[e];calc bV ?_;have:=q H4 Bb;unfold oO at this;rw[if_pos (by rw[G];show h1)]at this;show this
 .let e:decide (V.int ((X++97::Y).length:Nat)=V.int 1)=false:=ai (λz=>by
   injection z with z;rw[ax,bP]at z;lia)
  rw[e];calc bO ?_;let hq:=q H4;refine%[0,λI H'=>H'=H4/\I=[some (.ref pb),some (.ref pk),some (.int i),some (.int j),some (.int way),some (.ref t),some (.int (X.length:Nat)),none,none],?_|?_]
  .rcases fU with rfl|rfl
   .calc%[39,_,rb,rb,_,rb|bV %[0,_,rb|%[7,_,rb,t,_,_,_,rb,rb,X6,vb rb|%[4,_,_,rb,rb,rb|?_]]]];have:(j:Int)-((k:Int)-(X.length:Int))=(X.length:Int):=by rw[<-hK];show (j:Int)-((j:Int)-_)=_;lia
    show congrArg (λv:Int=>([some (V.ref pb),some (V.ref pk),some (V.int i),some (V.int j),some (V.int 0),some (V.ref t),some (V.int v),none,none]:St)) this
   .calc%[39,_,rb,rb,_,rb|bO %[0,_,rb|%[7,_,rb,t,_,_,_,rb,rb,X6,vc rb|%[4,_,_,rb,rb,rb|?_]]]];have:(i:Int)-((k:Int)-(X.length:Int))=(X.length:Int):=by rw[<-hK];show (i:Int)-((i:Int)-_)=_;lia
    show congrArg (λv:Int=>([some (V.ref pb),some (V.ref pk),some (V.int i),some (V.int j),some (V.int 1),some (V.ref t),some (V.int v),none,none]:St)) this
  rintro I H' ⟨rfl,rfl⟩;calc%[7,_,rb,t,_,_,_,rb,rb,X6,O|%[0,_,rb|%[44,_,rb,_,rb,hz _ (by rw[ax,bP];lia),rb|?_]]];rw[Lb,List.take_left' rfl];calc%[5,X,rb,rb,xo,hta|?_];let e1:(X.length:Int)+1=((X.length+1:Nat):Int):=rfl;calc%[7,_,rb,t,_,_,_,rb,rb,X6,O|%[17,_,rb,_,_,rb,rb|%[44,_,rb,_,rb,hz _ (by rw[ax,bP];lia),rb|?_]]];rw[e1,wk,show (X++97::Y).drop (X.length+1)=Y by rw[List.drop_append,iq,oB xo];rfl];calc%[5,Y,rb,rb,xo,hha|?_];let BK4:=BK.same Bb;refine%[8,rb,AL,rb|λL hL=>TJ (f:=gC [] 0) (tt:=tB (CK CB "has" (Uz CB) [] E0 (fH 2) (iW (qO zQ (qO zQ (fH 8) (fH 0)) (fH 9)) n8))) (te:=fH 0) (λn ys H5=>ys=Ts (ones ((AL.take n).filter λc=>decide (dI l k c∈ws)))/\H5 L=some (.lst ys)/\aA H' H5) %[rb,aq|aA.upd hL] ?_ ?_]
  .intro n c ys H5 hn z;let(rfl,Ef,s5):=z;let N:n<AL.length:=(al.mp hn).1;let aif:n<26:=N;let BK5:=BK4.same s5;let(dk,ek):=BK5.ob;calc%[34,_,rb,pk,dk,_,rb,ek,rb|%[26,_,rb,_,rb,_,_,rb,rb,hz _ (by rw[ab];simp;lia)|%[31,_,rb,_,_,rb,rb,hz _ (by rw[ax,ab,ab];simp;lia)|%[6,pk,d|%[19,ws,_,rb,BK5,_,rb|?_]]]]];rw[<-M];by_cases J:dI l k c∈ws
   .rw[ap J];refine bV %[11,_,rb,Ef,?_|dZ.mk N %[?_,aq|s5.bC hL]]
    .rw[ab,ab];show aF (ay (mw _ _) (by rw[bn];lia))
    .rw[bX,hn,gp,kW,jQ];simp[J]
   .rw[ai J];calc bO (dZ.mk N %[?_,Ef|s5]);rw[bX,hn,gp];simp[J]
  .intro ys H5 z;let(rfl,Ef,s5):=z;rw[cy]at Ef;refine%[18,L,_,rb,rb,aN.of Ef,?_|?_]
   .rw[ni];show ay (mw _ _) xt
   .rw[ni];have:=q H5 (Bb.trans s5);unfold oO at this;rw[if_neg (by rw[G];show h1)]at this;show this
def poss (i j:Int):List (Int×Int):=[(i-1,j),(i+1,j),(i,j-1),(i,j+1)]
def Bd (aj:AA)(r w:Nat)(i j:Int):Bool:=(poss i j).any λp=>!decide ([atC aj r w p.1 p.2]=[46])
def aaK {D B q F:Addr}{i j:Int}{H:Hp}(h1:H D=some (.tup [.int (i-1),.int j]))(J:H B=some (.tup [.int (i+1),.int j]))(L:H q=some (.tup [.int i,.int (j-1)]))(G:H F=some (.tup [.int i,.int (j+1)])){n:Nat}{x:V}(h:([V.ref D,V.ref B,V.ref q,V.ref F]:List V)[n]?=some x):∃(t:Addr) (p:Int×Int),x=.ref t/\H t=some (.tup [.int p.1,.int p.2])/\(poss i j)[n]?=some p:=by
 match n,h with| 0,h=>show%[1,D,(i-1,j),(bg h).symm,h1|rb]| 1,h=>show%[1,B,(i+1,j),(bg h).symm,J|rb]| 2,h=>show%[1,q,(i,j-1),(bg h).symm,L|rb]| 3,h=>show%[1,F,(i,j+1),(bg h).symm,G|rb]| n+4,h=>show absurd h xp
def Nu (C:Addr):Sp:=λvs H Q _=>∃(b:Addr) (r w:Nat) (aj aM:AA) (bi bj:Nat) (i j:Int),vs=[.ref b,.int i,.int j]/\dX C H b r w aj aM bi bj/\∀H',aA H H'->Q (.bl (Bd aj r w i j)) H'
def U5 (D:aQ K mg "is_next_to_taken" lK ["board","row","column"])(Af:mg "any"=none)(d9:∃t,mg "FREE"=some (.str (S [46]) t))(cD:fM K C)(oR:Meth K C "at" f1)(oU:eZ P w K mg base fZ 3 f1 mY ["self","row","column"] (aaA C))(oV:cT K mY ["self","row","column"] []):bF P w K mg base "is_next_to_taken" 4 ["board","row","column"] (Nu C):=by
 calc D.dz kZ ?_;walk_at"b";let(b,r,w,aj,aM,bi,bj,i,j,rfl,B,q):=h;calc%[0,_,(aD (aR (i:=3) kZ.nd rb (Or.inl rb) (cW (ak (cW (ak (aK fK bx aB) (ak bf au))) (ak (cW (ak (aK cu bx aB) (ak bf au))) (ak (cW (ak bx (ak (aK fK bf aB) au))) (ak (cW (ak bx (ak (aK cu bf aB) au))) au)))))) (aJ (aW (aP (Lg rb) xw Af Ib (ak (fB rb (eG.of kZ.nd xy) (mR bI) (λ_ _ _ _ _=>cI) (λ_ _ _ _ _=>(gW mQ (pG bx cD.cl oR oU hr.mono oV .nil jU (ak (bH (mq K) aG aB (λ_ _=>rfl)) (ak (bH (mq K) aG aB (λ_ _=>rfl)) au))) (mj xw d9) (bY _)))) au)))))|?_];calc%[20,_,rb,_,_,rb|%[35,rb,_,rb,zsz 2|λF h1=>%[20,_,rb,_,_,rb|%[35,rb,_,rb,zsz 2|λJ h2=>%[26,_,rb,_,rb,_,_,rb,rb,zsz 2|λG h3=>%[26,_,rb,_,rb,_,_,rb,rb,zsz 2|λM h4=>%[zsz 4|λT hT=>?_]]]]]]];let s1:aA H (upd H F (HO.tup [.int (i-1),.int j])):=aA.upd h1;let s2:=s1.bC (o:=HO.tup [.int (i+1),.int j]) (s1.free h2);let s3:=s2.bC (o:=HO.tup [.int i,.int (j-1)]) (s2.free h3);let s4:=s3.bC (o:=HO.tup [.int i,.int (j+1)]) (s3.free h4);let Z:=s4.bC (o:=HO.tup [.ref F,.ref J,.ref G,.ref M]) (s4.free hT);let Y:aA _ _:=aA.upd (o:=HO.tup [.ref F,.ref J,.ref G,.ref M]) hT;let k4:aA _ _:=aA.upd (o:=HO.tup [.int i,.int (j+1)]) h4;let k3:aA _ _:=aA.upd (o:=HO.tup [.int i,.int (j-1)]) h3;let k2:aA _ _:=aA.upd (o:=HO.tup [.int (i+1),.int j]) h2;let e1:=Y _ _ (k4 _ _ (k3 _ _ (k2 _ _ (aq (H:=H) (a:=F) (o:=HO.tup [.int (i-1),.int j])))));let e2:=Y _ _ (k4 _ _ (k3 _ _ (aq (a:=J) (o:=HO.tup [.int (i+1),.int j]))));let e3:=Y _ _ (k4 _ _ (aq (a:=G) (o:=HO.tup [.int i,.int (j-1)])));let e4:=Y _ _ (aq (a:=M) (o:=HO.tup [.int i,.int (j+1)]));let e5:upd (upd (upd (upd (upd H F (HO.tup [.int (i-1),.int j])) J (HO.tup [.int (i+1),.int j])) G (HO.tup [.int i,.int (j-1)])) M (HO.tup [.int i,.int (j+1)])) T (HO.tup [.ref F,.ref J,.ref G,.ref M]) T=some (.tup [.ref F,.ref J,.ref G,.ref M]):=aq;generalize upd (upd (upd (upd (upd H F (HO.tup [.int (i-1),.int j])) J (HO.tup [.int (i+1),.int j])) G (HO.tup [.int i,.int (j-1)])) M (HO.tup [.int i,.int (j+1)])) T (HO.tup [.ref F,.ref J,.ref G,.ref M])=H5 at Z e1 e2 e3 e4 e5 ⊢;refine%[13,_,rb,T,rb,%[_|aV.of e5]|λL hL=>wg (xs:=[V.ref F,V.ref J,V.ref G,V.ref M]) (λn ys N=>ys=(((poss i j).take n).map λp=>!decide ([atC aj r w p.1 p.2]=[46])).map V.bl/\N L=some (.lst ys)/\aA H5 N) %[rb,aq|aA.upd hL] (λn ys N _ h=>aV.of (h.2.2 _ _ e5)) ?_ ?_]
 .intro n x ys N hx z;let(rfl,lU,O):=z;let(t,p,rfl,ht,hp):=aaK e1 e2 e3 e4 hx;let hn:n<4:=(al.mp hx).1;let B6:=B.mv (Z.trans O);let(dx,_,_,_,ex,_):=id B6.ex;let hS:=aV.of (K:=K) (O _ _ ht);calc%[34,_,rb,b,dx,_,rb,ex,rb|%[7,_,rb,t,_,_,_,rb,rb,hS,aO (j:=0) rb|%[7,_,rb,t,_,_,_,rb,rb,hS,aO (j:=1) rb|%[6,b,r|%[52,w,aj,aM,bi,bj,p.1,p.2,rb,B6|%[18,_,_,rb,rb,lU,?_|dZ.mk hn %[?_,aq|O.bC hL]]]]]]];.rw[ab,ab,bn];show aF (by have:(poss i j).length=4:=rfl;lia)
  .rw[bX,hp];simp
 .intro ys N z;let(rfl,lU,O):=z;calc%[1,L,_,rb,aN.of lU|?_];let e:((((poss i j).take 4).map λp=>!decide ([atC aj r w p.1 p.2]=[46])).any id)=Bd aj r w i j:=by
   unfold Bd;rw[List.any_map];rfl
  show Q (.bl _) N;rw[show ([V.ref F,V.ref J,V.ref G,V.ref M]:List V).length=4 from rb,e];show q N (Z.trans O)
def cells (r w:Nat):List (Nat×Nat):=(List.range r).flatMap λi=>(List.range w).map λj=>(i,j)
def X7:(cells 9 9).length=81:=by decide +kernel
def X8:∀r w:Fin 10,cells r.val w.val=(cells 9 9).filter λc=>decide (c.1<r.val)&&decide (c.2<w.val):=by decide +kernel
def X_ {r w:Nat}{c:Nat×Nat}:c∈cells r w↔c.1<r/\c.2<w:=by
 unfold cells;constructor
 .intro h;let(i,hi,h):=cw.mp h;let(j,B,rfl):=aI.mp h;show%[bz.mp hi|bz.mp B]
 .rintro⟨h1,q⟩;show cw.mpr %[0,c.1,bz.mpr h1|aI.mpr %[0,c.2,bz.mpr q|rb]]
def Ck (H:Hp)(a:Addr)(p:Nat×Nat):Prop:=H a=some (.tup [.int p.1,.int p.2])
def pO (H:Hp)(a:Addr):Nat×Nat:=match H a with| some (.tup [.int x,.int y])=>(x.toNat,y.toNat)| _=>(0,0)
def U6 (h:Ck H a p):pO H a=p:=by unfold pO;rw[show H a=_ from h];rfl
structure dN (H:Hp)(as:List Addr)(ps:List (Nat×Nat)):Prop where
 at_:∀a∈as,Ck H a (pO H a)
 eq:as.map (pO H)=ps
def dN.fV (k:∀a xs,H a=some (.tup xs)->H' a=some (.tup xs))(h:dN H as ps):dN H' as ps:=by let e:∀a∈as,pO H' a=pO H a:=λa ha=>U6 (k a _ (h.at_ a ha));show%[λa ha=>by rw[e a ha];show k a _ (h.at_ a ha)|by rw[<-h.eq];show de e]
def dN.mv (k:aA H H')(h:dN H as ps):dN H' as ps:=h.fV λa xs e=>k a _ e
def dN.app (h:dN H as ps)(g:dN H bs qs):dN H (as++bs) (ps++qs):=by
 calc%[λb j=>?_|by rw[bE,h.eq,g.eq]];rcases a6.mp j with z|z;.show h.at_ b z
 .show g.at_ b z
def dN.one (ha:Ck H a p):dN H [a] [p]:=%[λb j=>by rw[am.mp j,U6 ha];show ha|by rw[oy,U6 ha]]
def dN.nil:dN H [] []:=%[λa h=>by simp at h|rb]
def dN.len (h:dN H as ps):as.length=ps.length:=by rw[<-h.eq,ab]
def dN.get (h:dN H as ps)(hi:i<as.length):∃p,ps[i]?=some p/\Ck H as[i] p:=%[0,pO H as[i],by rw[<-h.eq];simp[hi]|h.at_ _ (ba _)]
def Bf (p:Nat×Nat):Dt:=.tup [.int p.1,.int p.2]
theorem GJ:∀{as:List Addr},(∀a∈as,Ck H a (pO H a))->jY K H 1 ((as.map (pO H)).map Bf) (as.map V.ref)
 | [],_=>.nil
 | a::as,h=>.cons (.tup (aV.of (h a aT)) (.cons (.int _) (.cons (.int _) .nil))) (GJ λx hx=>h x (aS _ hx))
def frB (aj:AA)(r w:Nat)(c:Nat×Nat):Bool:=decide ([atC aj r w c.1 c.2]=[46])
def xR (aj:AA)(r w:Nat)(c:Nat×Nat):Bool:=Bd aj r w c.1 c.2
def pZ (aj:AA)(r w:Nat):List (Nat×Nat):=(cells r w).filter λc=>frB aj r w c&&xR aj r w c
def cC (aj:AA)(r w bi bj:Nat):List (Nat×Nat):=if isFree aj=true then [(bi,bj)] else pZ aj r w
def U7 (i w):cells (i+1) w=cells i w++(List.range w).map λj=>(i,j):=by unfold cells;rw[fh,i9];simp
def afU {aj:AA}{r w i j:Nat}(B:Blk r w aj)(hi:i<r)(D:j<w):∃(h1:i<aj.length) (q:j<aj[i].length),atC aj r w (i:Int) (j:Int)=aj[i][j]:=by
 let h1:i<aj.length:=by rw[B.len];show hi
 let q:j<aj[i].length:=by rw[B.iZ _ (ba _)];show D
 calc%[6,h1,q|?_];unfold atC;rw[if_pos %[xo,ph gu hi,xo|xo],ci,ci,ar (l:=aj),ag h1];show aj[i].getD j 0=_;rw[ar,ag q];rfl
def GK (C:Addr):Sp:=λvs H Q _=>∃(b:Addr) (r w:Nat) (aj aM:AA) (bi bj:Nat),vs=[.ref b]/\dX C H b r w aj aM bi bj/\
 ∀(p:Addr) (as:List Addr) (H':Hp),aA H H'->H' p=some (.lst (as.map V.ref))->dN H' as ((cells r w).filter (frB aj r w))->Q (.ref p) H'
def JV (D:aQ K mg "free_cells" sW ["board"])(jx:mg "enumerate"=none)(d9:∃t,mg "FREE"=some (.str (S [46]) t))(cD:fM K C):bF P w K mg base "free_cells" 1 ["board"] (GK C):=by
 calc D.dz m8 ?_;walk_at"b";let(b,r,w,aj,aM,bi,bj,rfl,B,q):=h;let((dx,pr,pm,pb,hb,hr',hm,hbb),O):=B;let r9:=O.r9;let w9:=O.w9;let ji:(Ts aj).length=r:=by rw[ab,O.br.len]
 calc%[0,_,(aD (aR (i:=1) m8.nd rb (Or.inl rb) (dw au)) (aD (eU cq rb (ZX xw jx (ak (eV aG rb) au)) (oA rb (cJ (bQ (i:=2) m8.nd rb (Or.inr rb)) (cJ (bQ (i:=3) m8.nd rb (Or.inl rb)) kO))) (aJ (gF (dU df kU kX qm bx (ak (jZ (ns:=["column","sign"]) rb (gU.of ["board","cells","row","signs"] [] xy) (ZW xw jx (ak bI au)) (λ_ _ _ _ _=>(Fy K rb (show (["column","sign","board","cells","row","signs"]:List Str).Nodup by decide +kernel) rb rb xw xw)) (λ_ _ _ _ _=>(Fw (bW uW bx (mj xw d9) (bY _)))) (λ_ _ _ _ _=>(cW (ak cg (ak aG au))))) au))))) (aJ (aW bx))))|?_];calc%[zsz 0|λF hF=>?_];let s0:aA H (upd H F (HO.lst [])):=aA.upd hF;refine%[0,_,rb|%[38,b,C,dx,_,_,rb,s0 _ _ hb,cD.cl,cD.nr|%[35,rb,pr,rb,%[_|aV.of (s0 _ _ hr')]|Wi (K:=K) (a:=pr) (xs:=Ts aj) (λi I G=>∃(v2 v3:Option V) (as:List Addr),I=[some (.ref b),some (.ref F),v2,v3]/\aA H G/\G F=some (.lst (as.map V.ref))/\dN G as ((cells i w).filter (frB aj r w))/\as.length<=i*9)
  %[15,none,none,[],rb,s0,aq,dN.nil|b8 _] (λi I G _ h=>by let(_,_,_,_,sm,_):=h;show aV.of (sm _ _ hr')) ?_ ?_]]]
 .intro i x I G T hx z hT;let(v2,v3,as,rfl,sm,gn,hP,hal):=z;let(l,hl,rfl):=kI hx;let Y:i<r:=by have:=(al.mp hx).1;simp_all
  let hir:i<aj.length:=by rw[O.br.len];show Y
  let hlr:l=aj[i]:=by rw[ag hir]at hl;show(bg hl).symm
  let Ry:l.length=w:=O.br.iZ _ (aE hl);let k1:aA G (upd G T (HO.tup [.int i,.str (S l)])):=aA.upd hT;calc%[53,T,_,rb,aV.of aq,rb,_,_,rb,_,_,rb,rb|?_];let qW:=k1 _ _ gn;let tL:=sm.trans k1;let Ji:=hP.mv k1;generalize upd G T (HO.tup [.int i,.str (S l)])=H3 at k1 qW tL Ji ⊢;refine%[2,_,rb,.inl %[16,rb,_|aN.of qW]|%[9,_,rb,l,rb|λL hL=>Wj (f:=gC [] 0) (KT:=K) (λj ys J=>∃bs:List Addr,ys=bs.map V.ref/\bs.length<=j/\J L=some (.lst ys)/\aA H3 J/\dN J bs (((List.range j).map λj=>(i,j)).filter (frB aj r w)))
   %[5,[],rb,ah _,aq,aA.upd hL|dN.nil] ?_ ?_]]
  .intro j c ys J U hj z hU;let(bs,rfl,i_,jR,s4,Nx):=z;let M:j<l.length:=(al.mp hj).1;let(_,_,hat):=afU O.br Y (show j<w by simp_all);let Z:atC aj r w (i:Int) (j:Int)=c:=by
    rw[hat];subst hlr;rw[ag M]at hj;show bg hj
   let k5:aA J (upd J U (HO.tup [.int j,.str (S [c])])):=aA.upd hU;calc%[46,U,_,_,rb,aV.of aq|?_];let Ef:=k5 _ _ jR;let RQ:=Nx.mv k5;let s5:=s4.trans k5;generalize upd J U (HO.tup [.int j,.str (S [c])])=H5 at k5 Ef RQ s5 ⊢;calc%[22,_,rb,[c],[46],rb,rb,_,rb|?_];by_cases hc:c=46
   .let N:frB aj r w (i,j)=true:=by
     unfold frB;rw[Z];show ap (by rw[hc])
    rw[ap (show [c]=[46] by rw[hc])];calc bV %[13,_,rb,_,rb,zsz 2|λg hg=>?_];let k6:aA H5 (upd H5 g (HO.tup [.int (i:Int),.int (j:Int)])):=aA.upd hg;let lU:=k6 _ _ Ef;calc%[lU,by rw[ab];show aF xo|dZ.mk M %[5,bs++[g],xp,by simp;show i_,by rw[aq],(s5.trans k6).bC hL|?_]];rw[fh,bE,gp];have:([j].map λj=>(i,j)).filter (frB aj r w)=[(i,j)]:=by simp[N]
    rw[this];show((RQ.mv k6).app (dN.one (show Ck _ g (i,j) from aq))).fV (cH lU)
   .let N:frB aj r w (i,j)=false:=by
     unfold frB;rw[Z];show ai λz=>hc (by injection z)
    rw[ai (show ¬[c]=[46] from λz=>hc (by injection z))];calc bO (dZ.mk M %[5,bs,rb,gz i_,Ef,s5|?_]);rw[fh,bE,gp];have:([j].map λj=>(i,j)).filter (frB aj r w)=[]:=by simp[N]
    rw[this,ej];show RQ
  .intro ys J z;let(bs,rfl,i_,jR,s4,Nx):=z;let mZ:=s4 _ _ qW;let afV:=(Ji.mv s4).app Nx;rw[Ry]at afV i_;calc%[36,F,L,_,_,rb,rb,mZ,jR,by rw[ab,ab];show av (aF xo)|?_];calc%[15,_,_,as++bs,rb,(tL.trans s4).bC hF,by rw[aq,bE],?_|by simp;lia];rw[U7,gp];show afV.fV (cH mZ)
 .intro I G z;let(v2,v3,as,rfl,sm,gn,hP,hal):=z;rw[ji]at hP;show%[0,_,rb|q F as G sm gn hP]
def RT (C:Addr):Sp:=λvs H Q _=>∃(b:Addr) (r w:Nat) (aj aM:AA) (bi bj:Nat),vs=[.ref b]/\dX C H b r w aj aM bi bj/\
 ∀(p:Addr) (as:List Addr) (H':Hp),aA H H'->H' p=some (.tup (as.map V.ref))->dN H' as (cC aj r w bi bj)->Q (.ref p) H'
def aaL (D:aQ K mg "hooks" Gn ["board"])(bU:mg "tuple"=none)(cD:fM K C)(Eh:Meth K C "is_free" f1)(Ei:eZ P w K mg base fZ 1 f1 mY ["self"] (Xy C))(Ej:cT K mY ["self"] [])(tQ:bF P w K mg base "free_cells" 1 ["board"] (GK C))(zq:bF P w K mg base "is_next_to_taken" 4 ["board","row","column"] (Nu C)):bF P w K mg base "hooks" 5 ["board"] (RT C):=by
 calc D.dz aas ?_;walk_at"b";let(b,r,w,aj,aM,bi,bj,rfl,B,q):=h;let(dx,_,_,_,hb,_,_,_):=id B.ex;let r9:=B.ok.r9;let w9:=B.ok.w9;calc%[0,_,(aD (cU (gP (Bq aG cD.cl Eh Ei hr.mono Ej .nil jU)) (aJ (aW (cW (ak (eV aG rb) au)))) b_) (aJ (aW (cY dR xw bU di (ak (jZ (ns:=["cell"]) rb (gU.of ["board"] [] xy) (cG (aX tQ hr.mono rb (ak aG au))) (λ_ _ _ _ _=>(rE (show (["cell","board"]:List Str).Nodup by decide +kernel) rb xw)) (λ_ _ _ _ _=>(Fw (gP (aX zq hr.mono rb (ak bx (ak (bH (mq K) aG aB (λ_ _=>rfl)) (ak (bH (mq K) aG aB (λ_ _=>rfl)) au))))))) (λ_ _ _ _ _=>aG)) au)))))|?_];calc%[34,_,rb,b,dx,_,rb,hb,rb|%[52,b,r,w,aj,aM,bi,bj,rb,B|λH1 s1=>%[0,_,rb|?_]]];let Y:=B.mv s1;by_cases hf:isFree aj=true
 .rw[hf];let(Z,pr,pm,pb,hb1,_,_,hpb):=id Y.ex;calc bV %[0,_,rb|%[49,b,C,Z,_,_,rb,hb1,cD.cl,cD.nb,rb,zsz 1|λt ht=>?_]];let k:aA H1 (upd H1 t (HO.tup [.ref pb])):=aA.upd ht;calc q t [pb] _ (s1.trans k) aq ?_;let e:cC aj r w bi bj=[(bi,bj)]:=if_pos hf;rw[e];show dN.one (show Ck _ pb (bi,bj) from k _ _ hpb)
 .rw[show isFree aj=false by simpa using hf];calc bO ?_;let e:cC aj r w bi bj=pZ aj r w:=if_neg hf;rw[e]at q;calc%[65,_,rb,b,r,w,aj,aM,bi,bj,rb,Y|λp as H2 s2 hp hP=>?_];let hal:as.length<=81:=by
   rw[hP.len];calc ay (mw _ _) ?_;have:=X8 %[r|Nat.lt_succ_of_le r9] %[w|xo];rw[this];show ay (mw _ _) (by rw[X7];decide)
  refine%[2,p,rb,%[_|aN.of hp]|λL hL=>Aw (K:=K) (a:=p) (f:=gC [] 0) (tt:=tB (vR (Nu C) [] E0 (iW (fH 1) (iW (qO (Ti K) (fH 0) (tC (V.int 0))) (iW (qO (Ti K) (fH 0) (tC (V.int 1))) n8))))) (te:=fH 0) (xs:=as.map V.ref) (λn ys G=>∃bs:List Addr,ys=bs.map V.ref/\bs.length<=n/\G L=some (.lst ys)/\aA H2 G/\dN G bs ((((cells r w).filter (frB aj r w)).take n).filter (xR aj r w)))
   %[5,[],rb,ah _,aq,aA.upd hL|dN.nil] (λn ys G _ h=>by let(_,_,_,_,sm,_):=h;show aN.of (sm _ _ hp)) ?_ ?_]
  .intro n x ys G hx z;let(bs,rfl,i_,vH,J,O):=z;let(hn,hx):=rfg hx;subst hx;let((u,v),hc,N):=(hP.mv J).get hn;let B3:=Y.mv (s2.trans J);let hS:=aV.of (K:=K) N;calc%[0,_,rb|%[7,_,rb,as[n],_,_,_,rb,rb,hS,aO (j:=0) rb|%[7,_,rb,as[n],_,_,_,rb,rb,hS,aO (j:=1) rb|%[6,b,r|%[52,w,aj,aM,bi,bj,(u:Int),(v:Int),rb,B3|λH4 M=>%[0,_,rb|?_]]]]]];let jR:=M _ _ vH;by_cases F:xR aj r w (u,v)=true
   .have:Bd aj r w (u:Int) (v:Int)=true:=F;rw[this];calc bV %[11,_,rb,jR,by rw[ab];show aF xo|dZ.mk (by rw[ab];show hn) %[5,bs++[as[n]],xp,by simp;show i_,by rw[aq],(J.trans M).bC hL|?_]];rw[bX,hc,gp];let e2:((some (u,v)).toList).filter (xR aj r w)=[(u,v)]:=by simp[F]
    rw[e2];show((O.mv M).app (dN.one (M _ _ N))).fV (cH jR)
   .have:Bd aj r w (u:Int) (v:Int)=false:=by simpa [xR] using F
    rw[this];calc bO (dZ.mk (by rw[ab];show hn) %[5,bs,rb,gz i_,jR,J.trans M|?_]);rw[bX,hc,gp];let e2:((some (u,v)).toList).filter (xR aj r w)=[]:=by simp[F]
    rw[e2,ej];show O.mv M
  .intro ys G z;let(bs,rfl,i_,vH,J,O):=z;rw[ab,hP.len,cy,List.filter_filter]at O;calc%[3,L,_,rb|.inl %[aN.of vH|λt ht=>?_]];let k:aA G (upd G t (HO.tup (bs.map V.ref))):=aA.upd ht;calc q t bs _ (((s1.trans s2).trans J).trans k) aq ?_;let e3:(cells r w).filter (λa=>xR aj r w a&&frB aj r w a)=pZ aj r w:=by
    unfold pZ;show List.filter_congr λc _=>Bool.and_comm _ _
   rw[<-e3];show O.mv k
def Yb:Sp:=λvs H Q _=>∃(p:Addr) (as:List Addr) (ts:List bB),vs=[.ref p]/\H p=some (.tup (as.map V.ref))/\dM H as ts/\(∀t∈ts,zp t)/\(ts.map λt=>rk (sw t)).Nodup/\ts.length<=63/\
 ∀(B:Addr) (q:List Addr) (j:List bB) (H':Hp),aA H H'->H' B=some (.tup (q.map V.ref))->dM H' q j->j.Perm (ts.map sw)->(j.map rk).Pairwise (·<·)->Q (.ref B) H'
def Cm (D:aQ K mg "turned_laying" oJ ["laying"])(bU:mg "tuple"=none)(dJ:mg "sorted"=none):bF P w K mg base "turned_laying" 1 ["laying"] Yb:=by
 calc D.dz BL ?_;intro f bh A outer s H vs Q E hr h;let(p,as,ts,rfl,hp,hL,hok,hnd,h63,q):=h;calc%[0,_,(aJ (aW (cY dR xw bU di (ak (aP xM xw dJ gf (ak (jZ (ns:=["row","column","sign"]) rb (gU.of ["laying"] [] xy) (mR aG) (λ_ _ _ _ _=>(zV K rb (show (["row","column","sign","laying"]:List Str).Nodup by decide +kernel) rb rb rb xw xw xw)) (λ_ _ _ _ _=>cI) (λ_ _ _ _ _=>(cW (ak bx (ak aG (ak bf au)))))) au)) au))))|?_];let bM:=hL.len;refine%[13,_,rb,p,rb,%[_|aV.of hp]|λM hM=>Di (f:=gC [] 0) (tt:=iK) (xs:=as.map V.ref) (λi ys j=>∃bs:List Addr,ys=bs.map V.ref/\bs.length=i/\j M=some (.lst ys)/\aA H j/\dM j bs ((ts.take i).map sw))
  %[5,[],rb,rb,aq,aA.upd hM|dM.nil] (λi ys j _ h=>by let(_,_,_,_,G,_):=h;show aV.of (G _ _ hp)) ?_ ?_]
 .intro i x ys j hx z;let(bs,rfl,J,N,G,F):=z;let(hi,hx):=rfg hx;let(t,et,hT):=hL.get hi;calc Kf hx.symm (aV.of (G _ _ hT)) ?_;calc%[50,_,rb,_,rb,_,rb,zsz 3|λc L=>?_];let nM:M≠c:=λz=>by rw[<-z,N]at L;cases L
  let O:upd j c (.tup [.int t.2.1,.int t.1,.str (S [t.2.2])]) M=some (.lst (bs.map V.ref)):=by rw[aZ nM];show N
  calc%[O,by rw[ab,J];show aF xo|dZ.mk (by rw[ab];show hi) %[5,bs++[c],xp,by simp[J],by rw[aq],?_|?_]];.show(G.bC (G.free L)).bC hM
  .rw[show (ts.take (i+1)).map sw=(ts.take i).map sw++[sw t] by rw[vw,et];simp];calc dM.snoc ?_ ?_;.show(F.mv (aA.upd L)).fV (cH O)
   .show cH O _ _ aq
 .intro ys j z;let(bs,rfl,J,N,G,F):=z;rw[ab]at J;rw[cx (by rw[ab];lia)]at F;let Y:bs.map (λa=>rk (tO j a))=ts.map λt=>rk (sw t):=by
   have:(bs.map (tO j)).map rk=(ts.map sw).map rk:=by rw[F.eq]
   rw[cn,cn]at this;show this
  let ahQ:∀a∈bs,zp (tO j a):=λa ha=>by
   have:tO j a∈ts.map sw:=by rw[<-F.eq];show cE ha
   let(t,ht,e):=aI.mp this;rw[<-e];have:=hok t ht;show%[this.2.1,this.1|this.2.2]
  refine%[47,M,bs,λa=>rk (tO j a),rb,.inl (aN.of N),xo,λa ha=>?_,by rw[Y];show hnd|λp1 B Z pm pw=>?_]
  .have:=ahQ a ha;show%[29,(tO j a).1,(tO j a).2.1,[.str (S [(tO j a).2.2])],.inl (F.at_ a ha),by have:=this.2.1;lia,rb|.inr %[_|rb]]
  .let(l1,l2):=F.perm pm;calc%[3,p1,_,rb|.inl %[aN.of aq|λl hl=>?_]];let s1:aA j (upd j p1 (.lst (B.map V.ref))):=aA.upd Z;let s2:=s1.bC (o:=.tup (B.map V.ref)) (s1.free hl);show q l B _ _ (G.trans s2) aq (l1.mv s2) l2 (by rw[cn];show pw)
def bK (t:bB):Nat×Nat:=(t.1,t.2.1)
def GQ (K:W.Frag):Sp:=λvs H Q _=>∃(p:Addr) (as:List Addr) (ts:List bB),vs=[.ref p]/\(aN K H p (as.map V.ref)\/aV K H p (as.map V.ref))/\dM H as ts/\ts.length<=63/\
 ∀(j:Addr) (bs:List Addr) (H':Hp),aA H H'->H j=none->H' j=some (.lst (bs.map V.ref))->dN H' bs (ts.map bK)->Q (.ref j) H'
def Qe (D:aQ K mg "cells_of" wR ["laying"]):bF P w K mg base "cells_of" 1 ["laying"] (GQ K):=by
 calc D.dz Pz ?_;walk_at"b";let(p,as,ts,rfl,hp,hL,h63,q):=h;calc%[0,_,(aJ (aW (jZ (ns:=["row","column","sign"]) rb (gU.of ["laying"] [] xy) ((cG aG).or (mR aG)) (λ_ _ _ _ _=>(zV K rb (show (["row","column","sign","laying"]:List Str).Nodup by decide +kernel) rb rb rb xw xw xw)) (λ_ _ _ _ _=>cI) (λ_ _ _ _ _=>(cW (ak aG (ak bx au)))))))|?_];let bM:=hL.len;let step:∀(M:Addr) (i:Nat) (x:V) (ys:List V) (j:Hp),H M=none->(as.map V.ref)[i]?=some x->(∃bs:List Addr,ys=bs.map V.ref/\bs.length=i/\j M=some (.lst ys)/\aA H j/\dN j bs ((ts.take i).map bK))->
   uc (as.map V.ref).length i M (λv H Q=>∃a p q r,v=.ref a/\aV K H a [p,q,r]/\Q [some p,some q,some r]) (gC [] 0) [some (V.ref p)] iK (Zg (iW (fH 0) (iW (fH 1) n8))) x j ys λys j=>∃bs:List Addr,ys=bs.map V.ref/\bs.length=i+1/\j M=some (.lst ys)/\aA H j/\dN j bs ((ts.take (i+1)).map bK):=by
  intro M i x ys j B hx z;let(bs,rfl,Z,N,F,L):=z;let(hi,hx):=rfg hx;let(t,et,hT):=hL.get hi;calc Kf hx.symm (aV.of (F _ _ hT)) ?_;calc%[13,_,rb,_,rb,zsz 2|λc O=>?_];let nM:M≠c:=λz=>by rw[<-z,N]at O;cases O
  let Y:upd j c (.tup [.int t.1,.int t.2.1]) M=some (.lst (bs.map V.ref)):=by rw[aZ nM];show N
  calc%[Y,by rw[ab,Z];show aF xo|dZ.mk (by rw[ab];show hi) %[5,bs++[c],xp,by simp[Z],by rw[aq],?_|?_]];.show(F.bC (F.free O)).bC B
  .rw[show (ts.take (i+1)).map bK=(ts.take i).map bK++[bK t] by rw[vw,et];simp];calc dN.app ((L.mv (aA.upd O)).fV (cH Y)) (dN.one (p:=bK t) ?_);show cH Y _ _ aq
 let G:∀(M:Addr) (ys:List V) (j:Hp),H M=none->(∃bs:List Addr,ys=bs.map V.ref/\bs.length=(as.map V.ref).length/\j M=some (.lst ys)/\aA H j/\dN j bs ((ts.take (as.map V.ref).length).map bK))->Q (.ref M) j:=by intro M ys j B z;let(bs,rfl,Z,N,F,L):=z;rw[cx (by rw[ab];lia)]at L;show q M bs j F B N L
 let J:∀M:Addr,H M=none->∀j:Hp,aA H j->(aN K H p (as.map V.ref)->aN K j p (as.map V.ref))/\(aV K H p (as.map V.ref)->aV K j p (as.map V.ref)):=λM _ j F=>%[λz=>F.seq z|λz=>F.ae5 z]
 rcases hp with hp|hp
 .refine .inl %[13,_,rb,p,rb,%[_|hp]|λM B=>uG (f:=gC [] 0) (tt:=iK) (xs:=as.map V.ref) (λi ys j=>∃bs:List Addr,ys=bs.map V.ref/\bs.length=i/\j M=some (.lst ys)/\aA H j/\dN j bs ((ts.take i).map bK))
   %[5,[],rb,rb,aq,aA.upd B|dN.nil] (λi ys j _ h=>by let(_,_,_,_,F,_):=h;show(J M B j F).1 hp) (λi x ys j hx h=>step M i x ys j B hx h) (λys j h=>G M ys j B h)]
 .refine .inr %[13,_,rb,p,rb,%[_|hp]|λM B=>Di (f:=gC [] 0) (tt:=iK) (xs:=as.map V.ref) (λi ys j=>∃bs:List Addr,ys=bs.map V.ref/\bs.length=i/\j M=some (.lst ys)/\aA H j/\dN j bs ((ts.take i).map bK))
   %[5,[],rb,rb,aq,aA.upd B|dN.nil] (λi ys j _ h=>by let(_,_,_,_,F,_):=h;show(J M B j F).2 hp) (λi x ys j hx h=>step M i x ys j B hx h) (λys j h=>G M ys j B h)]
def Ny:Sp:=λvs H Q _=>∃c:Nat,vs=[.str (S [c])]/\c<128/\Q (.str (S [PyProof.Rows.lo1 c])) H
def Nz (D:aQ K mg "letter_of" uK ["sign"]):bF P w K mg base "letter_of" 1 ["sign"] Ny:=by calc D.dz Mz (λf bh A outer s H vs Q E F h=>?_);let(c,rfl,B,q):=h;calc%[0,_,(aJ (aW (qp bu jI jS u_ aG)))|?_];show%[2,_,rb,rb|%[5,[c],rb,rb,by show 1<=1000;decide,λe j=>by rw[am.mp j];show B|q]]
def dB (r w n:Nat):List (Nat×Nat):=(List.range r).flatMap λi=>(List.range (w+1-n)).map λj=>(i,j)
def Bg (r w n):dB (r+1) w n=dB r w n++(List.range (w+1-n)).map λj=>(r,j):=by unfold dB;rw[fh,i9];simp
def mH {r w n:Nat}{c:Nat×Nat}:c∈dB r w n↔c.1<r/\c.2<w+1-n:=by
 unfold dB;simp only[cw,aI,bz];constructor;.intro z;let(i,hi,j,B,rfl):=z;show%[hi|B]
 .rintro⟨h1,q⟩;show%[9,c.1,h1,c.2,q|rb]
def oW (r w n):(dB r w n).length=r*(w+1-n):=by
 induction r with| zero=>simp[dB]| succ r ih=>rw[Bg,ax,ih,ab,dP,rS]
def NK (C:Addr):Sp:=λvs H Q _=>∃(b:Addr) (r w:Nat) (aj aM:AA) (bi bj:Nat) (l:List Nat),vs=[.ref b,.str (S l)]/\dX C H b r w aj aM bi bj/\l.length<=9/\
 ∀(p:Addr) (as:List Addr) (H':Hp),aA H H'->H p=none->H' p=some (.lst (as.map V.ref))->dN H' as (dB r w l.length)->Q (.ref p) H'
def Yc (D:aQ K mg "starts" BP ["board","word"])(bw:mg "len"=none)(eF:mg "range"=none)(cD:fM K C):bF P w K mg base "starts" 1 ["board","word"] (NK C):=by
 calc D.dz uo ?_;walk_at"b";let(b,r,w,aj,aM,bi,bj,l,rfl,B,hl9,q):=h;let((dx,pr,pm,pb,hb,Y,hm,hbb),O):=B;let r9:=O.r9;let w9:=O.w9;let ji:(Ts aj).length=r:=by rw[ab,O.br.len]
 let h0:0<aj.length:=by rw[O.br.len];show O.r1
 let Z:aj[0].length=w:=O.br.iZ _ (ba _);let at0:k_ (Ts aj) 0=some (.str (S aj[0])):=aO (j:=0) (jB (ag h0));calc%[0,_,(aD (aR (i:=2) uo.nd rb (Or.inl rb) (dw au)) (aD (eU cq rb (jN xw eF (ak (aP cB xw bw bS (ak (eV aG rb) au)) au)) (bQ (i:=3) uo.nd rb (Or.inr rb)) (aJ (gF (dU df kU kX qm bf (ak (fB rb (eG.of uo.nd xy) (jN xw eF (ak (aK cu (aK fK (aP cV xw bw bS (ak (bH dO (eV aG rb) aB (λ_ _=>rfl)) au)) (aP cV xw bw bS (ak bx au))) aB) au)) (λ_ _ _ _ _=>cI) (λ_ _ _ _ _=>(cW (ak cg (ak aG au))))) au))))) (aJ (aW bf))))|?_];calc%[zsz 0|λF hF=>?_];let s0:aA H (upd H F (HO.lst [])):=aA.upd hF;calc%[0,_,rb|%[38,b,C,dx,_,_,rb,s0 _ _ hb,cD.cl,cD.nr|%[30,rb,pr,_,rb,.inr (aV.of (s0 _ _ Y))|?_]]];rw[ji];calc%[11,_,rb,nN _,xo|?_];rw[ci];refine ql (lo:=0) (n:=r) (λi I J=>∃(v3:Option V) (as:List Addr),I=[some (.ref b),some (.str (S l)),some (.ref F),v3]/\aA H J/\J F=some (.lst (as.map V.ref))/\dN J as (dB i w l.length))
  %[4,none,[],rb,s0,aq|by simpa [dB] using dN.nil] ?_ ?_
 .intro i I J hi z;let(v3,as,rfl,M,gn,hP):=z;calc%[39,_,rb,.inl %[16,rb,_|aN.of gn],_,rb|%[12,b,C,dx,_,_,rb,M _ _ hb,cD.cl,cD.nr,rb|%[55,pr,_,_,_,rb,rb,aV.of (M _ _ Y)|%[35,at0,_,rb,by rw[Z];show av (aF xo)|%[9,_,rb,_,rb|%[30,av (aF xo),_,_,rb,rb|%[19,_,_,rb,rb,_,rb|?_]]]]]]];rw[Z];calc%[xo,xo|?_];let en:((w:Int)-(l.length:Int)+1).toNat=w+1-l.length:=xo;rw[en];refine λL hL=>Dc (lo:=0) (n:=w+1-l.length) (λj ys G=>∃bs:List Addr,ys=bs.map V.ref/\bs.length=j/\G L=some (.lst ys)/\aA J G/\dN G bs ((List.range j).map λj=>(i,j)))
   %[5,[],rb,rb,aq,aA.upd hL|dN.nil] ?_ ?_
  .intro j ys G hj z;let(bs,rfl,i_,jR,N,Nx):=z;calc%[13,_,rb,_,rb,zsz 2|λg hg=>?_];let k6:aA G (upd G g (HO.tup [.int (0+(i:Int)),.int (0+(j:Int))])):=aA.upd hg;let lU:=k6 _ _ jR;calc%[lU,by rw[ab];show aF (by simp[gd,kz]at *;lia)|dZ.mk hj %[5,bs++[g],xp,by simp;show i_,by rw[aq],(N.trans k6).bC hL|?_]];rw[fh,bE];calc((Nx.mv k6).app (dN.one (p:=(i,j)) ?_)).fV (cH lU);show upd G g (HO.tup [.int (0+(i:Int)),.int (0+(j:Int))]) g=some (.tup [.int (i:Int),.int (j:Int)]);rw[aq,w8,w8]
  .intro ys G z;let(bs,rfl,i_,jR,N,Nx):=z;let mZ:=N _ _ gn;let hal:=hP.len;rw[oW]at hal;let h81:i*(w+1-l.length)<=9*10:=ip xo (mN xo);calc%[36,F,L,_,_,rb,rb,mZ,jR,by rw[ab,ab];show av (aF (by simp_all;lia))|?_];calc%[4,_,as++bs,rb,(M.trans N).bC hF,by rw[aq,bE]|?_];rw[Bg];show((hP.mv N).app Nx).fV (cH mZ)
 .intro I J z;let(v3,as,rfl,M,gn,hP):=z;show%[0,_,rb|q F as J M hF gn hP]
noncomputable def lC (aj:AA)(r w i j:Nat)(l:List Nat)(k:Nat):Bool:=decide (atC aj r w i ((j+k:Nat):Int)=46)||decide (PyProof.Rows.lo1 (atC aj r w i ((j+k:Nat):Int))=l.getD k 0)
def jl (aj:AA)(r w i j:Nat)(l:List Nat)(k:Nat):Option bB:=if atC aj r w i ((j+k:Nat):Int)=46 then some (i,j+k,l.getD k 0) else none
def jC (aj:AA)(r w i j:Nat)(l:List Nat)(n:Nat):List bB:=(List.range n).filterMap (jl aj r w i j l)
def rB (aj:AA)(r w i j:Nat)(l:List Nat):Bool:=decide (atC aj r w i ((j:Int)-1)=46)&&decide (atC aj r w i ((j:Int)+(l.length:Int))=46)
noncomputable def cN (aj:AA)(r w i j:Nat)(l:List Nat):List bB:=if (rB aj r w i j l&&(List.range l.length).all (lC aj r w i j l))=true then jC aj r w i j l l.length else []
def oX (aj)(r w i j)(l)(n):jC aj r w i j l (n+1)=jC aj r w i j l n++(jl aj r w i j l n).toList:=by unfold jC;rw[fh,List.filterMap_append];congr 1
def all_succ (f:Nat->Bool)(n):(List.range (n+1)).all f=((List.range n).all f&&f n):=by rw[fh,List.all_append];simp
def zu (aj)(r w i j)(l)(n):(jC aj r w i j l n).length<=n:=by unfold jC;show ay (List.length_filterMap_le _ _) (by rw[dP];show ah _)
def Yd {r w bi bj:Nat}{aj aM:AA}(O:uw r w aj aM bi bj)(i j:Int):atC aj r w i j<128:=by
 unfold atC;split
 .rename_i h;let(h1,F,G,D):=h;let B:i.toNat<aj.length:=by rw[O.br.len];simp_all
  let e1:aj.getD i.toNat []=aj[i.toNat]:=by rw[ar,ag B];rfl
  let q:j.toNat<aj[i.toNat].length:=by rw[O.br.iZ _ (ba _)];lia
  rw[e1,ar,ag q];show Kq (O.cr _ (ba _) _ (ba _))
 .decide
def RW (C:Addr):Sp:=λvs H Q _=>∃(b:Addr) (r w:Nat) (aj aM:AA) (bi bj i j:Nat) (l:List Nat),vs=[.ref b,.int i,.int j,.str (S l)]/\dX C H b r w aj aM bi bj/\j<1000/\l.length<=9/\
 ∀(p:Addr) (as:List Addr) (H':Hp),aA H H'->H p=none->H' p=some (.lst (as.map V.ref))->dM H' as (cN aj r w i j l)->Q (.ref p) H'
def Ak (D:aQ K mg "letters_to_lay" nG ["board","row","column","word"])(bw:mg "len"=none)(jx:mg "enumerate"=none)(d9:∃t,mg "FREE"=some (.str (S [46]) t))(cD:fM K C)(oR:Meth K C "at" f1)(oU:eZ P w K mg base fZ 3 f1 mY ["self","row","column"] (aaA C))(oV:cT K mY ["self","row","column"] [])(Qf:bF P w K mg base "letter_of" 1 ["sign"] Ny):bF P w K mg base "letters_to_lay" 4 ["board","row","column","word"] (RW C):=by
 calc D.dz iw (λf bh A outer s H vs Q E Z h=>?_);let(b,r,w,aj,aM,bi,bj,i,j,l,rfl,B,hj,hl9,q):=h;let(dx,_,_,_,ex,_):=id B.ex;let O:=B.ok;let hz:l.length<=sizeLine:=av (aF xo);calc%[0,_,(aD (cU (QW.qt (vX (bW mQ (pG aG cD.cl oR oU Z.mono oV .nil jU (ak bx (ak (aK fK bf aB) au))) (mj xw d9) (bY _)) (rU (bW mQ (pG aG cD.cl oR oU Z.mono oV .nil jU (ak bx (ak (aK cu bf (aP cV xw bw bS (ak bI au))) au))) (mj xw d9) (bY _))))) (aJ (aW (dw au))) b_) (aD (aR (i:=4) iw.nd rb (Or.inl rb) (dw au)) (aD (eU cq rb (aaj xw jx bI bf) (oA rb (cJ (bQ (i:=5) iw.nd rb (Or.inl rb)) (cJ (bQ (i:=6) iw.nd rb (Or.inl rb)) kO))) (aD (aR (i:=7) iw.nd rb (Or.inl rb) (pG aG cD.cl oR oU Z.mono oV .nil jU (ak bx (ak cL au)))) (aJ (cU (bW uW iz (mj xw d9) (bY _)) (aJ (gF (dU df fe ff iG cg (ak (cW (ak bx (ak cL (ak cM au)))) au)))) (aJ (cU (bW mQ (aX Qf Z.mono rb (ak iz au)) cM (bY _)) (aJ (aW (dw au))) b_)))))) (aJ (aW cg)))))|?_];let G:cN aj r w i j l=[]->∀(H':Hp),aA H H'->(0<=sizeLine)/\∀p,H' p=none->Q (.ref p) (upd H' p (.lst [])):=λe H' L=>%[xt|λp hp=>q p [] _ (L.bC (L.free hp)) (L.free hp) aq (by rw[e];show dM.nil)]
 calc%[34,_,rb,b,dx,_,rb,ex,rb|%[27,_,rb,_,rb,_,_,rb,rb|%[6,b,r|%[52,w,aj,aM,bi,bj,_,_,rb,B|%[19,_,_,rb,rb,_,rb|?_]]]]];by_cases c1:atC aj r w (i:Int) ((j:Int)-1)=46
 .rw[ap (show [atC aj r w (i:Int) ((j:Int)-1)]=[46] by rw[c1])];calc bO %[34,_,rb,b,dx,_,rb,ex,rb|%[23,_,rb,_,rb,_,rb|%[40,l,rb,hz,_|%[40,_,rb,rb,b|%[10,r,w,aj|%[69,aM,bi,bj,_,_,rb,B|%[19,_,_,rb,rb,_,rb|?_]]]]]]];by_cases c2:atC aj r w (i:Int) ((j:Int)+(l.length:Int))=46
  .rw[ap (show [atC aj r w (i:Int) ((j:Int)+(l.length:Int))]=[46] by rw[c2])];calc bO ?_;let he:rB aj r w i j l=true:=by unfold rB;rw[ap c1,ap c2];rfl
   calc%[zsz 0|λF hF=>?_];let s0:aA H (upd H F (HO.lst [])):=aA.upd hF;refine%[26,_,rb,_,rb,l,j,rb,rb,hj|W_ (l:=l) (k:=j) (λn I J=>∃(v5 v6 v7:Option V) (as:List Addr),I=[some (.ref b),some (.int i),some (.int j),some (.str (S l)),some (.ref F),v5,v6,v7]/\aA H J/\J F=some (.lst (as.map V.ref))/\dM J as (jC aj r w i j l n)/\(List.range n).all (lC aj r w i j l)=true)
    %[25,none,none,none,[],rb,s0,aq,dM.nil|rb] ?_ ?_]
   .intro n c I J T hn z hT;let(v5,v6,v7,as,rfl,L,gn,hL,ha):=z;let hnl:n<l.length:=(al.mp hn).1;let ec:l.getD n 0=c:=by rw[ar,hn];rfl
    let Y:aA J (upd J T (HO.tup [.int ((j+n:Nat):Int),.str (S [c])])):=aA.upd hT;calc%[53,T,_,rb,aV.of aq,rb,_,_,rb,_,_,rb,rb|?_];let qW:=Y _ _ gn;let M:=L.trans Y;let vH:=hL.mv Y;generalize upd J T (HO.tup [.int ((j+n:Nat):Int),.str (S [c])])=H3 at Y qW M vH ⊢;let B3:=B.mv M;let bM:=vH.len;let htl:=zu aj r w i j l n;calc%[34,_,rb,b,dx,_,rb,M _ _ ex,rb|%[9,_,rb,_,rb|%[6,b,r|%[52,w,aj,aM,bi,bj,_,_,rb,B3|?_]]]];calc%[22,_,rb,[atC aj r w (i:Int) ((j+n:Nat):Int)],[46],rb,rb,_,rb|?_];by_cases N:atC aj r w (i:Int) ((j+n:Nat):Int)=46
    .rw[ap (show [atC aj r w (i:Int) ((j+n:Nat):Int)]=[46] by rw[N])];calc bV %[2,_,rb,.inl %[16,rb,_|aN.of qW]|%[50,_,rb,_,rb,_,rb,zsz 3|λg hg=>?_]];let k4:aA H3 (upd H3 g (HO.tup [.int (i:Int),.int ((j+n:Nat):Int),.str (S [c])])):=aA.upd hg;let mZ:=k4 _ _ qW;calc%[15,F,_,_,rb,rb,mZ,by rw[ab];show aF xo|?_];refine%[25,_,_,_,as++[g],rb,(M.trans k4).bC hF,by rw[aq,bE];rfl,?_|?_]
     .rw[oX];let et:jl aj r w i j l n=some (i,j+n,c):=by unfold jl;rw[if_pos N,ec]
      rw[et];show((vH.mv k4).snoc (t:=(i,j+n,c)) aq).fV (cH mZ)
     .rw[all_succ,ha];show lC aj r w i j l n=true;unfold lC;rw[ap N];rfl
    .rw[ai (show ¬[atC aj r w (i:Int) ((j+n:Nat):Int)]=[46] from λz=>N (by injection z))];calc bO %[13,_,rb,_,rb,Yd O _ _|%[22,_,rb,[PyProof.Rows.lo1 (atC aj r w (i:Int) ((j+n:Nat):Int))],[c],rb,rb,_,rb|?_]];by_cases c4:PyProof.Rows.lo1 (atC aj r w (i:Int) ((j+n:Nat):Int))=c
     .rw[ap (show [PyProof.Rows.lo1 (atC aj r w (i:Int) ((j+n:Nat):Int))]=[c] by rw[c4])];refine bO %[25,_,_,_,as,rb,M,qW,?_|?_]
      .rw[oX];let et:jl aj r w i j l n=none:=by unfold jl;rw[if_neg N]
       rw[et];simpa using vH
      .rw[all_succ,ha];show lC aj r w i j l n=true;unfold lC;rw[ec,ap c4,Bool.or_true]
     .rw[ai (show ¬[PyProof.Rows.lo1 (atC aj r w (i:Int) ((j+n:Nat):Int))]=[c] from λz=>c4 (by injection z))];calc bV (G ?_ H3 M);unfold cN;rw[if_neg];intro z;let z2:=(dm _ _ ▸ z).2;rw[gr]at z2;let z3:=z2 n (bz.mpr hnl);unfold lC at z3;rw[ai N,ec,ai c4]at z3;show absurd z3 xt
   .intro I J z;let(v5,v6,v7,as,rfl,L,gn,hL,ha):=z;calc%[0,_,rb|q F as J L hF gn ?_];let e:cN aj r w i j l=jC aj r w i j l l.length:=by unfold cN;rw[he,ha];show if_pos rfl
    rw[e];show hL
  .rw[ai (show ¬[atC aj r w (i:Int) ((j:Int)+(l.length:Int))]=[46] from λz=>c2 (by injection z))];calc bV (G ?_ H (aA.refl _));unfold cN rB;rw[ai c2,gx,ga];show if_neg xt
 .rw[ai (show ¬[atC aj r w (i:Int) ((j:Int)-1)]=[46] from λz=>c1 (by injection z))];calc bV (G ?_ H (aA.refl _));unfold cN rB;rw[ai c1,ga,ga];show if_neg xt
def qN (c:Nat×Nat):List Key:=[Sum.inl (c.1:Int),Sum.inl (c.2:Int)]
def aaM (h:qN a=qN b):a=b:=by unfold qN at h;injection h with h1 h2;injection h2 with h2 _;injection h1 with h1;injection h2 with h2;show sK (mB h1) (mB h2)
def adn {κ:Type} [DecidableEq κ] (kvs:List (κ×V))(k:κ)(v):(putK kvs k v).length<=kvs.length+1:=by
 unfold putK;split;.rw[ab];lia
 .simp
def aaN (j:H M=some (.dT ks)):∀a xs,H a=some (.tup xs)->upd H M (.dT ks') a=some (.tup xs):=λa xs e=>by
 let ne:a≠M:=λz=>by rw[z,j]at e;cases e
 rw[aZ ne];show e
def jM (ws aj:AA)(c:Nat×Nat):List Nat:=oO ws (lineOf aj c.1 c.2 1) (placeOf c.1 c.2 1)
def qd (aj:AA)(r w:Nat):List (Nat×Nat):=(cells r w).filter (frB aj r w)
def tR {aj:AA}{r w:Nat}{c:Nat×Nat}:c∈qd aj r w↔(c.1<r/\c.2<w)/\atC aj r w c.1 c.2=46:=by
 unfold qd;rw[kM];unfold frB;rw[eK];constructor
 .rintro⟨h1,q⟩;show%[by simp only[cells,cw,aI,bz]at h1;let(i,hi,j,B,rfl):=h1;show%[hi|B]|by injection q]
 .rintro⟨h1,q⟩;show%[by simp only[cells,cw,aI,bz];show%[9,c.1,h1.1,c.2,h1.2|rb]|by rw[q]]
def aaO {aj:AA}{r w:Nat}(r9:r<=9)(w9:w<=9):(qd aj r w).length<=81:=by
 unfold qd;calc ay (mw _ _) ?_;have:(cells r w).length=r*w:=by
  unfold cells
  induction r with| zero=>simp| succ r ih=>rw[fh,i9,ax,ih (av r9)];simp[rS]
 rw[this];show ip r9 w9
def Ye (C B:Addr):Sp:=λvs H Q _=>∃(b k d:Addr) (ws:AA) (r w:Nat) (aj aM:AA) (bi bj:Nat),vs=[.ref b,.ref k]/\dX C H b r w aj aM bi bj/\mX B H k d ws/\
 ∀(p:Addr) (kvs:List (List Key×V)) (H':Hp),aA H H'->H p=none->H' p=some (.dT kvs)->(∀c∈qd aj r w,fQ kvs (qN c)=some (.str (S (jM ws aj c))))->Q (.ref p) H'
def Ek (D:aQ K mg "letters_down" pL ["board","book"])(tQ:bF P w K mg base "free_cells" 1 ["board"] (GK C))(El:bF P w K mg base "cross_letters" 10 ["board","book","row","column","way"] (afT C CB)):bF P w K mg base "letters_down" 11 ["board","book"] (Ye C CB):=by
 calc D.dz lu ?_;walk_at"b";let(b,k,d,ws,r,w,aj,aM,bi,bj,rfl,B,BK,q):=h;let hu:=CW hr;calc%[0,_,(aD (aR (i:=2) lu.nd rb (Or.inl rb) ZR) (aD (eU cq rb (cG (aX tQ hr.mono rb (ak aG au))) (oA rb (cJ (bQ (i:=3) lu.nd rb (Or.inl rb)) (cJ (bQ (i:=4) lu.nd rb (Or.inl rb)) kO))) (aJ (Fv hu bf (cW (ak bI (ak cg au))) (aX El hr.mono rb (ak aG (ak bx (ak bI (ak cg (ak aB au)))))) rb))) (aJ (aW bf))))|?_];intro F hF;let s0:aA H (upd H F (HO.dT [])):=aA.upd hF;let qy:upd H F (HO.dT []) F=some (.dT []):=aq;generalize upd H F (HO.dT [])=H0 at s0 qy ⊢;calc%[65,_,rb,b,r,w,aj,aM,bi,bj,rb,B.mv s0|λp as H1 s1 hp hP=>?_];let M:=s1 _ _ qy;let npF:p≠F:=λz=>by rw[z,M]at hp;cases hp
 let hal:as.length<=81:=by rw[hP.len];show aaO B.ok.r9 B.ok.w9
 let hpL:(cells r w).filter (frB aj r w)=qd aj r w:=rfl;rw[hpL]at hP;refine%[2,p,rb,%[_|aN.of hp]|fX (K:=K) (a:=p) (xs:=as.map V.ref) (λn I J=>∃(v3 v4:Option V) (kvs:List (List Key×V)),I=[some (.ref b),some (.ref k),some (.ref F),v3,v4]/\aA H J/\J p=some (.lst (as.map V.ref))/\dN J as (qd aj r w)/\J F=some (.dT kvs)/\kvs.length<=n/\∀c∈(qd aj r w).take n,fQ kvs (qN c)=some (.str (S (jM ws aj c))))
  %[60,none,none,[],rb,s0.trans s1,hp,hP,M,ah _|λc hc=>by simp at hc] (λn I J _ h=>by let(_,_,_,_,_,h2,_):=h;show aN.of h2) ?_ ?_]
 .intro n x I J hx z;let(v3,v4,kvs,rfl,Y,L,j,gn,N,G):=z;let(hi,hx):=rfg hx;subst hx;let(c,ec,hc):=j.get hi;let O:=tR.mp (aE ec);calc%[53,as[n],_,rb,aV.of hc,rb,_,_,rb,_,_,rb,rb|?_];calc%[0,_,rb|%[23,_,rb,_,rb,_,rb|%[10,b,k,d|%[10,ws,r,w|%[74,aj,aM,bi,bj,c.1,c.2,1,rb,B.mv Y,BK.same Y,O.1.1,O.1.2,.inr rb|λH3 s3=>?_]]]]];calc%[50,_,rb,_,rb,_,rb,zsz 2|λg hg=>?_];let Z:aA H3 (upd H3 g (HO.tup [.int (c.1:Int),.int (c.2:Int)])):=aA.upd hg;let mZ:=Z _ _ (s3 _ _ gn);calc%[1,F,_,rb,uE.t (k:=qN c) mZ aq (aF xo)|?_];calc%[60,_,_,putK kvs (qN c) _,rb,((Y.trans s3).trans Z).bC hF,by rw[aZ npF];show Z _ _ (s3 _ _ L),((j.mv s3).mv Z).fV (aaN mZ),aq,ay (adn _ _ _) (hG N)|λe he=>?_];rw[Zq];by_cases z:qN e=qN c;.rw[if_pos z,aaM z];rfl
  .rw[if_neg z];rw[bX,ec]at he;rcases a6.mp he with y|y;.show G e y
   .have:e=c:=by simpa using y
    show absurd (by rw[this]) z
 .intro I J z;let(v3,v4,kvs,rfl,Y,L,j,gn,N,G):=z;rw[ab,j.len,cy]at G;show%[0,_,rb|q F kvs J Y hF gn G]
noncomputable def nJ (j:Nat×Nat->List Nat)(hk:List (Nat×Nat))(ts:List bB):Bool:=(decide (1<=ts.length)&&decide (ts.length<=7))&&(ts.all (λt=>decide (t.2.2∈j (bK t)))&&ts.any (λt=>decide (bK t∈hk)))
def ado (h:Bf a=Bf b):a=b:=by unfold Bf at h;injection h with h;injection h with h1 h2;injection h2 with h2 _;injection h1 with h1;injection h2 with h2;show sK (mB h1) (mB h2)
def RX {hk:List (Nat×Nat)}:Bf c∈hk.map Bf↔c∈hk:=%[λh=>by let(d,hd,e):=aI.mp h;rw[<-ado e];show hd|λh=>cE h]
def abN (K:W.Frag):Sp:=λvs H Q _=>∃(p d j:Addr) (as bs:List Addr) (ts:List bB) (kvs:List (List Key×V)) (q:Nat×Nat->List Nat) (hk:List (Nat×Nat)),vs=[.ref p,.ref d,.ref j]/\H p=some (.lst (as.map V.ref))/\dM H as ts/\ts.length<=63/\H d=some (.dT kvs)/\(∀t∈ts,fQ kvs (qN (bK t))=some (.str (S (q (bK t)))))/\
 H j=some (.tup (bs.map V.ref))/\dN H bs hk/\∀H',aA H H'->Q (.bl (nJ q hk ts)) H'
def GR (D:aQ K mg "can_be_laid" qJ ["triples","fitting","joining"])(bw:mg "len"=none)(jk:mg "all"=none)(Af:mg "any"=none)(tU:∃t,mg "MOST_TILES"=some (.int 7 t))(wX:bF P w K mg base "cells_of" 1 ["laying"] (GQ K)):bF P w K mg base "can_be_laid" 2 ["triples","fitting","joining"] (abN K):=by
 calc D.dz vG ?_;walk_at"b";let(p,d,j,as,bs,ts,kvs,B,hk,rfl,hp,hL,h63,hd,hkv,hj,hJ,q):=h;let hu:=CW hr;let hal:=hL.len;let hml:(as.map V.ref).length=ts.length:=by rw[ab];show hal
 calc%[0,_,(aD (cU (kh (rT lZ lZ aB (aP cB xw bw bS (ak aG au)) (Tw xw tU))) (aJ (aW jW)) b_) (aD (cU (kh (gP (aP (nC rb) xw jk nP (ak (jZ (ns:=["row","column","letter"]) rb (gU.of ["triples","fitting","joining"] [] xy) (cG aG) (λ_ _ _ _ _=>(zV K rb (show (["row","column","letter","triples","fitting","joining"]:List Str).Nodup by decide +kernel) rb rb rb xw xw xw)) (λ_ _ _ _ _=>cI) (λ_ _ _ _ _=>(gW Dd bf (acy hu cg (cW (ak aG (ak bx au))) (λ_ _=>rfl)) rb))) au)))) (aJ (aW jW)) b_) (aJ (aW (aP (Lg rb) xw Af Ib (ak (fB rb (eG.of vG.nd xy) (cG (aX wX hr.mono rb (ak aG au))) (λ_ _ _ _ _=>cI) (λ_ _ _ _ _=>(gW (acY K hr.units) aG bI rb))) au))))))|?_];calc%[51,_,rb,p,_,rb,.inl (aN.of hp),_,_,rb,rb,_,rb|?_];rw[hml];let no:nJ B hk ts=false->Q (.bl false) H:=λe=>by have:=q H (aA.refl _);rw[e]at this;show this
 by_cases c1:1<=ts.length
 .rw[ap (show (1:Int)<=(ts.length:Int) by lia)];calc bV %[19,_,_,rb,rb,_,rb|?_];by_cases c2:ts.length<=7
  .rw[ap (show (ts.length:Int)<=7 by lia)];calc bO ?_;refine%[13,_,rb,p,rb,%[_|aN.of hp]|λL xQ=>uG (f:=gC [] 0) (tt:=iK) (xs:=as.map V.ref) (λi ys F=>ys=((ts.take i).map λt=>decide (t.2.2∈B (bK t))).map V.bl/\F L=some (.lst ys)/\aA H F)
    %[rb,aq|aA.upd xQ] (λi ys F _ h=>aN.of (h.2.2 _ _ hp)) ?_ ?_]
   .intro i x ys F hx z;let(rfl,lU,G):=z;let(hi,hx):=rfg hx;let(t,et,hT):=hL.get hi;calc Kf hx.symm (aV.of (G _ _ hT)) ?_;calc%[0,_,rb|%[50,_,rb,_,rb,_,rb,zsz 2|λg hg=>?_]];let k4:aA F (upd F g (HO.tup [.int (t.1:Int),.int (t.2.1:Int)])):=aA.upd hg;let Y:=rP.t (k:=qN (bK t)) (k4 _ _ (G _ _ hd)) (show upd F g (HO.tup [.int (t.1:Int),.int (t.2.1:Int)]) g=some (.tup ((qN (bK t)).map kV)) from aq);rw[hkv t (aE et)]at Y;calc%[1,d,_,rb,Y|%[18,_,_,rb,rb,k4 _ _ lU,?_|dZ.mk (by rw[ab];show hi) %[?_,aq|(G.trans k4).bC xQ]]];.rw[ab,ab,bn];show aF xo
    .rw[bX,et];simp
   .intro ys F z;let(rfl,lU,G):=z;rw[hml,cy]at lU;calc%[19,L,_,rb,aN.of lU,_,rb|?_];rw[List.all_map];by_cases c3:ts.all (λt=>decide (t.2.2∈B (bK t)))=true
    .rw[show (ts.all (id ∘ λt=>decide (t.2.2∈B (bK t))))=true from c3];calc bO ?_;let DP:=G _ _ hp;calc%[48,_,rb,p,as,ts,rb,.inl (aN.of DP),hL.mv G,h63|λp7 cs H7 s7 Yg Em Z=>?_];let RZ:=G.trans s7;let hcl:cs.length=ts.length:=by rw[Z.len,ab]
     refine%[2,p7,rb,%[_|aN.of Em]|λM hM=>jf (K:=K) (a:=p7) (xs:=cs.map V.ref) (λi ys N=>ys=((ts.take i).map λt=>decide (bK t∈hk)).map V.bl/\N M=some (.lst ys)/\aA H7 N)
      %[rb,aq|aA.upd hM] (λi ys N _ h=>aN.of (h.2.2 _ _ Em)) ?_ ?_]
     .intro i x ys N hx z;let(rfl,o7,J):=z;let(hi,hx):=rfg hx;subst hx;let(c,ec,hc):=Z.get hi;obtain⟨t,et,rfl⟩:∃t,ts[i]?=some t/\bK t=c:=by
       rw[bb]at ec;show fz.mp ec
      let O:=(hJ.mv RZ).mv J;let hj8:=J _ _ (RZ _ _ hj);refine%[9,_,rb,_,rb|%[47,2,Bf (bK t),hk.map Bf,xt,.tup (aV.of (J _ _ hc)) (.cons (.int _) (.cons (.int _) .nil)),?_,o7,?_|dZ.mk (by rw[ab];show hi) %[?_,aq|J.bC hM]]]
      .rw[<-O.eq];show .tup (aV.of hj8) (GJ O.at_)
      .rw[ab,ab,bn];show aF xo
      .rw[bX,et,bE,bE];congr 1;show [V.bl _]=[V.bl _]
       congr 2;show nL.mpr RX
     .intro ys N z;let(rfl,o7,J):=z;rw[ab,hcl,cy]at o7;calc%[1,M,_,rb,aN.of o7|?_];rw[List.any_map];let e:nJ B hk ts=ts.any (id ∘ λt=>decide (bK t∈hk)):=by
       unfold nJ;rw[ap c1,ap c2,c3];rfl
      rw[<-e];show q N (RZ.trans J)
    .rw[show (ts.all (id ∘ λt=>decide (t.2.2∈B (bK t))))=false from gL.mpr c3];calc bV ?_;have:=q F G;let e:nJ B hk ts=false:=by
      unfold nJ;rw[gL.mpr c3,ga,gx]
     rw[e]at this;show this
  .rw[ai (show ¬(ts.length:Int)<=7 by lia)];calc bV (no ?_);unfold nJ;rw[ai c2,gx,ga]
 .rw[ai (show ¬(1:Int)<=(ts.length:Int) by lia)];calc bO %[0,_,rb|bV (no ?_)];unfold nJ;rw[ai c1,ga,ga]
noncomputable def eX:List Nat->List Nat->List (List Nat)
 | [],_=>[[]]
 | c::ls,rk=>(if c∈rk then (eX ls (rk.erase c)).map (c :: ·) else [])++(if 63∈rk then (eX ls (rk.erase 63)).map (PyProof.Rows.up1 c :: ·) else [])
def Ag (h:isLet c):PyProof.Rows.up1 c=c-32/\dh (PyProof.Rows.up1 c)=63/\dh c=c/\c<128/\PyProof.Rows.up1 c<128:=by let h1:=h.1;let j:=h.2;let e:PyProof.Rows.up1 c=c-32:=if_pos (show 97<=c/\c<=122 from h);rw[e];show%[rb,if_pos %[fv xo|ui j _],if_neg xo,xo|kq xo]
theorem rJ:∀(ls rk:List Nat) {t:List Nat},t∈eX ls rk->t.length=ls.length
 | [],_,t,h=>by rw[am.mp h]
 | c::ls,rk,t,h=>by
  unfold eX at h;rcases a6.mp h with z|z
  .split at z
   .let(u,j,rfl):=aI.mp z;simp[rJ ls _ j]
   .simp at z
  .split at z
   .let(u,j,rfl):=aI.mp z;simp[rJ ls _ j]
   .simp at z
def adp {c:Nat}{ls rk:List Nat}(h:c∈rk):(eX ls (rk.erase c)).length<=(eX (c::ls) rk).length:=by rw[eX,if_pos h,ax,ab];lia
def adq {c:Nat}{ls rk:List Nat}(h:63∈rk):(eX ls (rk.erase 63)).length<=(eX (c::ls) rk).length:=by rw[eX,if_pos h,ax,ab (as:=eX ls (rk.erase 63))];lia
def rC (o:Nat):Sp:=λvs H Q _=>∃(ls rk:List Nat),vs=[.str (S ls),.str (S rk)]/\(∀c∈ls,isLet c)/\ls.length<o/\o<=10/\rk.length<=100/\(eX ls rk).length<=900/\
 ∀(p:Addr) (H':Hp),aA H H'->H p=none->H' p=some (.lst (Ts (eX ls rk)))->Q (.ref p) H'
def aaP (D:aQ K mg name st ps)(j:∀vs H Q E,¬sp vs H Q E):bF P w K mg base name k ps sp:=by let(f,fd,F,b,g):=D.ex;show%[f,fd,%[λvs H Q E h=>absurd h (j vs H Q E)|λA outer s H args us vs Q E _ _ _ _ h=>absurd h (j vs H Q E)],b,g|F.kp]
def Qg (c:Nat)(ts:AA)(n:Nat){t:List Nat}(h:ts[n]?=some t):Ts ((ts.take (n+1)).map (c :: ·))=Ts ((ts.take n).map (c :: ·))++[V.str (S ([c]++t))]:=by rw[bX,h,bE];show(kW _ _).symm
def NP (hk:1<=k)(D:aQ K mg "sign_texts" lM ["letters","rack"])(T:DR P w K mg base f fd)(bT:cT K fd ["sign"] [])(mT:mg "tile_of"=some (.ref f))(kT:W.keepIn K (.ref f)=true)(tV:bF P w K mg base "sign_texts" k ["letters","rack"] (rC o)):bF P w K mg base "sign_texts" (k+1) ["letters","rack"] (rC (o+1)):=by
 calc D.dz m9 (λf' bh A outer s H vs Q E hr h=>?_);let(ls,rk,rfl,M,G,ho,hrk,Z,q):=h;let Y:Ug (oh fZ P w K mg base ["letters","rack","texts","sign","tile","left"] "sign_texts" (aH lM) f' bh A outer s H E).xX 1 3 4 5 f fd:=%[m9.nd,rb,rb,rb,rb,.inl rb,.inr rb,.inl rb,.inl rb,rb,rb,rb,T,bT,mT,kT,rb|hr.mono hk]
 refine%[0,_,aD (cU (bW uW aG (bR [] xz) (bY _)) (aJ (aW (dw (ak (bR [] xz) au)))) b_)
  (aD (aR (i:=2) m9.nd rb (Or.inl rb) (dw au))
  (aD (afB Y xz cq rb (abI aG (λ_ _=>rfl)) (agZ (abI aG (λ_ _=>rfl))) rb rb rb rb (λ_=>rfl)
   (aJ (gF (dU df kU kX qm bf (ak (fB rb (eG.of m9.nd xy) (cG (aX tV hr rb (ak (jr K1 aG (gZ aB) rF) (ak cL au)))) (λ_ _ _ _ _=>cI) (λ_ _ _ _ _=>(aK iI cg aG))) au)))))
  (aJ (aW bf))))|?_]
 refine%[22,_,rb,_,_,rb,rb,_,rb|?_]
 match ls,M,G,Z,q with
 | [],M,G,Z,q=>rw[ap rfl];show bV %[zsz 1|λp hp=>q p _ (aA.upd hp) hp aq]
 | c::ls,M,G,Z,q=>
  rw[ai (show ¬c::ls=[] from λz=>by cases z)];calc bO %[zsz 0|λF hF=>?_];let(u1,u2,u3,u4,u5):=Ag (M c aT);let hl':∀d∈ls,isLet d:=λd hd=>M d (aS _ hd);let hlo':ls.length<o:=by simp at G;show G
  let hz:(c::ls).length<=sizeLine:=av (aF xo);let s0:aA H (upd H F (HO.lst [])):=aA.upd hF;let qy:upd H F (HO.lst []) F=some (.lst []):=aq;generalize upd H F (HO.lst [])=H0 at s0 qy ⊢;let one:∀(d:Nat) (J:Hp) (ts:AA) (Dn:St->Hp->Prop) (Dr:VK),aA H J->J F=some (.lst (Ts ts))->dh d∈rk->ts.length<=900->(eX ls (rk.erase (dh d))).length<=900->
    (∀N,aA H N->N F=some (.lst (Ts (ts++(eX ls (rk.erase (dh d))).map (d :: ·))))->Dn [some (.str (S (c::ls))),some (.str (S rk)),some (.ref F),some (.str (S [d])),some (.str (S [dh d])),some (.str (S (rk.erase (dh d))))] N)->
    (Cz (Qv K "list" zP (fH 2) (iW (C_ (CG K (vR (rC o) [] E0 (iW (VN Tr (fH 0) (CP (tC (V.int 1))) uU) (iW (fH 5) n8)))) iK (qO zQ (fH 4) (fH 0))) n8))) {nx:=Dn,rt:=Dr} [some (.str (S (c::ls))),some (.str (S rk)),some (.ref F),some (.str (S [d])),some (.str (S [dh d])),some (.str (S (rk.erase (dh d))))] J:=by
   intro d J ts Dn Dr sm gn j_ h9 h9' nx;let aaQ:pC (c::ls) (some 1) none=ls:=by rw[show (1:Int)=((1:Nat):Int) from rb,wk];rfl
   let h10:ls.length<=10:=xo;calc%[2,_,rb,.inl %[16,rb,_|aN.of gn]|%[9,_,rb,_,rb|%[39,c::ls,rb,hz,_,rb|%[32,ls,rk.erase (dh d),by rw[aaQ];rfl,hl',hlo',av ho,ay mP hrk,h9'|λp N s3 hn3 hp3=>?_]]]];let qW:=s3 _ _ gn;refine%[2,p,rb,%[_|aN.of hp3]|λL hL=>jf (K:=K) (a:=p) (xs:=Ts (eX ls (rk.erase (dh d)))) (λi ys H4=>ys=Ts (((eX ls (rk.erase (dh d))).take i).map (d :: ·))/\H4 L=some (.lst ys)/\aA N H4)
    %[rb,aq|aA.upd hL] (λi ys H4 _ h=>aN.of (h.2.2 _ _ hp3)) ?_ ?_]
   .intro i x ys H4 hx z;let(rfl,jR,s4):=z;let(t,ht,rfl):=kI hx;let hil:i<(Ts (eX ls (rk.erase (dh d)))).length:=(al.mp hx).1;let htl:=rJ _ _ (aE ht);calc%[9,_,rb,_,rb|%[28,[d],t,rb,rb,av (aF (by simp;lia)),jR,?_|dZ.mk hil %[?_,aq|s4.bC hL]]];.rw[ab,ab,bn];show aF xo
    .show(Qg d _ i ht).symm
   .intro ys H4 z;let(rfl,jR,s4):=z;rw[ab,cy]at jR;let mZ:=s4 _ _ qW;refine%[36,F,L,_,_,rb,rb,mZ,jR,?_|nx _ (((sm.trans s3).trans s4).bC hF) ?_]
    .rw[ab,ab,ab];show ay (Nat.add_le_add h9 h9') xt
    .rw[aq];unfold Ts;rw[bE]
  calc%[48,_,rb,S (c::ls),0,c,rb,rb,by rw[jV];show hz,aO (j:=0) rb|?_];calc%[34,_,rb,S (c::ls),0,c,rb,rb,by rw[jV];show hz|%[16,aO (j:=0) rb,c|%[21,rb,u4,c,PyProof.Rows.up1 c,rb,rb|?_]]];let two:∀(J:Hp) (ts:AA) (v4 v5 v6:Option V),aA H J->J F=some (.lst (Ts ts))->ts=(if c∈rk then (eX ls (rk.erase c)).map (c :: ·) else [])->
    uH 1 3 4 5 (Cz (Qv K "list" zP (fH 2) (iW (C_ (CG K (vR (rC o) [] E0 (iW (VN Tr (fH 0) (CP (tC (V.int 1))) uU) (iW (fH 5) n8)))) iK (qO zQ (fH 4) (fH 0))) n8))) (PyProof.Rows.up1 c) {nx:=Sy (fH 2) {nx:=λx H'=>Q V.non H',rt:=Q},rt:=Q} [some (.str (S (c::ls))),some (.str (S rk)),some (.ref F),v4,v5,v6] J:=by
   intro J ts v4 v5 v6 sm gn O;let ahR:ts.length<=(eX (c::ls) rk).length:=by rw[eX,<-O,ax];lia
   calc%[2,rk,rb,xo|?_];by_cases B:63∈rk
   .rw[if_pos (by rw[u2];show B)];refine one (PyProof.Rows.up1 c) J ts _ _ sm gn (by rw[u2];show B) (ay ahR Z) (by rw[u2];show ay (adq B) Z) λN s3 qW=>%[0,_,rb|q F N s3 hF ?_]
    rw[qW,u2,eX,if_pos B,O]
   .rw[if_neg (by rw[u2];show B)];calc%[0,_,rb|q F J sm hF ?_];rw[gn,eX,if_neg B,O,ej]
  calc%[2,rk,rb,xo|?_];rw[u3];by_cases hc:c∈rk
  .rw[if_pos hc];have:=one c H0 [] (uH 1 3 4 5 (Cz (Qv K "list" zP (fH 2) (iW (C_ (CG K (vR (rC o) [] E0 (iW (VN Tr (fH 0) (CP (tC (V.int 1))) uU) (iW (fH 5) n8)))) iK (qO zQ (fH 4) (fH 0))) n8))) (PyProof.Rows.up1 c) {nx:=Sy (fH 2) {nx:=λx H'=>Q V.non H',rt:=Q},rt:=Q}) Q s0 qy (by rw[u3];show hc) (by show 0<=900;decide) (by rw[u3];show ay (adp hc) Z) λN s3 qW=>two N _ _ _ _ s3 qW (by rw[u3,if_pos hc];rfl);rw[u3]at this;show this
  .rw[if_neg hc];show two H0 [] _ _ _ s0 qy (by rw[if_neg hc])
def JW (D:aQ K mg "sign_texts" lM ["letters","rack"])(j:aQ K mg "tile_of" yS ["sign"]):bF P w K mg base "sign_texts" 9 ["letters","rack"] (rC 8):=by
 let(f,fd,F,b,m):=j.ex;let T:DR P w K mg base f fd:=acX F Uo rb rb xz xz xz;let q:bF P w K mg base "sign_texts" 1 ["letters","rack"] (rC 0):=aaP D λvs H Q E h=>by let(ls,rk,_,_,h,_):=h;show absurd h (kS _)
 let st:=λo k hk (h:bF P w K mg base "sign_texts" k ["letters","rack"] (rC o))=>NP (o:=o) (k:=k) hk D T b m F.kp h;show st 7 8 xt (st 6 7 xt (st 5 6 xt (st 4 5 xt (st 3 4 xt (st 2 3 xt (st 1 2 xt (st 0 1 xt q)))))))
def lO (H:Hp)(a:Addr):List bB:=match H a with
 | some (.tup xs)=>xs.map λv=>match v with| .ref b=>tO H b| _=>(0,0,0)
 | _=>[]
def mK (H:Hp)(a:Addr)(ts:List bB):Prop:=∃bs:List Addr,H a=some (.tup (bs.map V.ref))/\dM H bs ts
def Kr (h:mK H a ts):lO H a=ts:=by let(bs,h1,j):=h;unfold lO;rw[h1];show ((bs.map V.ref).map _)=ts;rw[cn,<-j.eq];rfl
def mK.fV (k:∀a xs,H a=some (.tup xs)->H' a=some (.tup xs))(h:mK H a ts):mK H' a ts:=let %[bs,h1|h2]:=h;%[0,bs,k _ _ h1|h2.fV k]
structure fW (H:Hp)(as:List Addr)(ls:List (List bB)):Prop where
 at_:∀a∈as,mK H a (lO H a)
 eq:as.map (lO H)=ls
def fW.fV (k:∀a xs,H a=some (.tup xs)->H' a=some (.tup xs))(h:fW H as ls):fW H' as ls:=by let e:∀a∈as,lO H' a=lO H a:=λa ha=>Kr ((h.at_ a ha).fV k);show%[λa ha=>by rw[e a ha];show(h.at_ a ha).fV k|by rw[<-h.eq];show de e]
def fW.mv (k:aA H H')(h:fW H as ls):fW H' as ls:=h.fV λa xs e=>k a _ e
def fW.nil:fW H [] []:=%[λa h=>by simp at h|rb]
def fW.app (h:fW H as ls)(g:fW H bs ms):fW H (as++bs) (ls++ms):=by
 calc%[λb j=>?_|by rw[bE,h.eq,g.eq]];rcases a6.mp j with z|z;.show h.at_ b z
 .show g.at_ b z
def fW.one (ha:mK H a ts):fW H [a] [ts]:=%[λb j=>by rw[am.mp j,Kr ha];show ha|by rw[oy,Kr ha]]
def fW.len (h:fW H as ls):as.length=ls.length:=by rw[<-h.eq,ab]
def fW.get (h:fW H as ls)(hi:i<as.length):∃t,ls[i]?=some t/\mK H as[i] t:=%[0,lO H as[i],by rw[<-h.eq];simp[hi]|h.at_ _ (ba _)]
def fG (ts:List bB)(ss:List Nat):List bB:=List.zipWith (λt c=>(t.1,t.2.1,c)) ts ss
def U8 (h1:ts[i]?=some t)(j:ss[i]?=some c):(fG ts ss).take (i+1)=(fG ts ss).take i++[(t.1,t.2.1,c)]:=by rw[bX];congr 1;unfold fG;rw[List.getElem?_zipWith,h1,j];rfl
def Jj {ts:List bB}{ss:List Nat}(h:ts.length=ss.length):(fG ts ss).length=ts.length:=by unfold fG;rw[List.length_zipWith];lia
def kJ (ts:List bB):List Nat:=ts.map λt=>t.2.2
def d_ (ts:List bB)(rk:List Nat):List (List bB):=(eX (kJ ts) rk).map (fG ts)
def R6:Sp:=λvs H Q _=>∃(p:Addr) (as:List Addr) (ts:List bB) (rk:List Nat),vs=[.ref p,.str (S rk)]/\H p=some (.lst (as.map V.ref))/\dM H as ts/\ts.length<=7/\(∀t∈ts,isLet t.2.2)/\rk.length<=100/\(eX (kJ ts) rk).length<=900/\
 ∀(q:Addr) (j:List Addr) (H':Hp),aA H H'->H q=none->H' q=some (.lst (j.map V.ref))->fW H' j (d_ ts rk)->Q (.ref q) H'
def JX (D:aQ K mg "layings_of" sX ["triples","rack"])(bU:mg "tuple"=none)(U9:mg "zip"=none)(wX:bF P w K mg base "cells_of" 1 ["laying"] (GQ K))(tV:bF P w K mg base "sign_texts" 9 ["letters","rack"] (rC 8)):bF P w K mg base "layings_of" 10 ["triples","rack"] R6:=by
 calc D.dz m_ ?_;walk_at"b";let(p,as,ts,rk,rfl,hp,hL,h7,GX,hrk,wY,q):=h;let hal:=hL.len;calc%[0,_,(aD (aR (i:=2) m_.nd rb (Or.inl rb) (aX wX hr.mono rb (ak aG au))) (aD (aR (i:=3) m_.nd rb (Or.inl rb) (dw au)) (aD (eU cq rb (cG (aX tV hr.mono rb (ak (dU bu eP eQ pD (bR [] xz) (ak (jZ (ns:=["row","column","letter"]) rb (gU.of ["triples","rack","cells","layings","signs"] [] xy) (cG aG) (λ_ _ _ _ _=>(zV K rb (show (["row","column","letter","triples","rack","cells","layings","signs"]:List Str).Nodup by decide +kernel) rb rb rb xw xw xw)) (λ_ _ _ _ _=>cI) (λ_ _ _ _ _=>bf)) au)) (ak bx au)))) (bQ (i:=4) m_.nd rb (Or.inl rb)) (aJ (gF (dU df fe ff iG bI (ak (cY dR xw bU di (ak (jZ (ns:=["cell","sign"]) rb (gU.of ["triples","rack","cells","layings","signs"] [] xy) (ac0 xw U9 (ak bf (ak cg au))) (λ_ _ _ _ _=>(Fy K rb (show (["cell","sign","triples","rack","cells","layings","signs"]:List Str).Nodup by decide +kernel) rb rb xw xw)) (λ_ _ _ _ _=>cI) (λ_ _ _ _ _=>(cW (ak (bH (mq K) aG aB (λ_ _=>rfl)) (ak (bH (mq K) aG aB (λ_ _=>rfl)) (ak bx au)))))) au)) au))))) (aJ (aW bI)))))|?_];calc%[48,_,rb,p,as,ts,rb,.inl (aN.of hp),hL,xo|λpc Z Hc sc hnc hpc hPc=>?_];let hcl:Z.length=ts.length:=by rw[hPc.len,ab]
 calc%[zsz 0|λF hF=>?_];let s0:aA Hc (upd Hc F (HO.lst [])):=aA.upd hF;let qy:upd Hc F (HO.lst []) F=some (.lst []):=aq;generalize upd Hc F (HO.lst [])=H0 at s0 qy ⊢;let hp0:=s0 _ _ (sc _ _ hp);let hL0:=(hL.mv sc).mv s0;refine%[16,rb,_|%[35,rb,p,rb,%[_|aN.of hp0]|λL xQ=>uG (f:=gC [] 0) (tt:=iK) (xs:=as.map V.ref) (λi ys B=>ys=Ts (ones ((kJ ts).take i))/\B L=some (.lst ys)/\aA H0 B)
  %[rb,aq|aA.upd xQ] (λi ys B _ h=>aN.of (h.2.2 _ _ hp0)) ?_ ?_]]
 .intro i x ys B hx z;let(rfl,lU,sm):=z;let(hi,hx):=rfg hx;let(t,et,hT):=hL0.get hi;calc Kf hx.symm (aV.of (sm _ _ hT)) ?_;calc%[11,_,rb,lU,?_|dZ.mk (by rw[ab];show hi) %[?_,aq|sm.bC xQ]];.rw[ab,ab,bn];show aF xo
  .have:(kJ ts)[i]?=some t.2.2:=by unfold kJ;rw[bb,et];rfl
   rw[bX,this,kW,jQ];rfl
 .intro ys B z;let(rfl,lU,sm):=z;let hsl:(kJ ts).length=ts.length:=ab _;rw[ab,hal,<-hsl,cy]at lU;calc%[18,L,ones (kJ ts),rb,rb,aN.of lU,by rw[ni];lia|?_];rw[ni];refine%[0,_,rb|%[32,kJ ts,rk,rb,λc hc=>?_,xo,xt,hrk,wY|λpS H1 s1 hn1 O=>?_]]
  .let(t,ht,rfl):=aI.mp hc;show GX t ht
  generalize hTX:eX (kJ ts) rk=tx at wY O;let ahS:∀t∈tx,t.length=ts.length:=λt ht=>by rw[<-hTX]at ht;rw[rJ _ _ ht,hsl]
  let sc1:aA Hc H1:=(s0.trans sm).trans s1;let hF1:=s1 _ _ (sm _ _ qy);let nSF:pS≠F:=λz=>by rw[z,sm _ _ qy]at hn1;cases hn1
  refine%[2,pS,rb,%[_|aN.of O]|fX (K:=K) (a:=pS) (xs:=Ts tx) (λn I J=>∃(v4:Option V) (bs:List Addr),I=[some (.ref p),some (.str (S rk)),some (.ref pc),some (.ref F),v4]/\aA Hc J/\J pS=some (.lst (Ts tx))/\J F=some (.lst (bs.map V.ref))/\fW J bs ((tx.take n).map (fG ts))/\bs.length=n)
   %[28,none,[],rb,sc1,O,hF1,fW.nil|rb] (λn I J _ h=>by let(_,_,_,_,h2,_):=h;show aN.of h2) ?_ ?_]
  .intro n x I J hx z;let(v4,bs,rfl,s2,hp2,gn,hY,i_):=z;let(ss,hss,rfl):=kI hx;let hnl:n<(Ts tx).length:=(al.mp hx).1;rw[ab]at hnl;let ahT:=ahS ss (aE hss);let afW:=s2 _ _ hpc;let ahU:=hPc.mv s2;refine%[2,_,rb,.inl %[16,rb,_|aN.of gn]|%[27,_,rb,_,rb,pc,ss,rb,%[_|aN.of afW]|λM hM=>afE (f:=gC [] 0) (tt:=iK) (KT:=K) (xs:=Z.map V.ref) (l:=ss) (by rw[ab,hcl,ahT]) (λi zs B=>∃ds:List Addr,zs=ds.map V.ref/\ds.length=i/\B M=some (.lst zs)/\aA J B/\dM B ds ((fG ts ss).take i))
    %[5,[],rb,rb,aq,aA.upd hM|dM.nil] (λi zs B _ h=>by let(_,_,_,_,Nv,_):=h;show aN.of (Nv _ _ afW)) ?_ ?_]]
   .intro i x c zs B T hx hc z hT;let(ds,rfl,N,jc,Y,hB):=z;let(hi,hx):=rfg hx;subst hx;let(cc,ec,hcc):=ahU.get hi;obtain⟨t,et,rfl⟩:∃t,ts[i]?=some t/\bK t=cc:=by
     rw[bb]at ec;show fz.mp ec
    let G:aA B (upd B T (HO.tup [.ref Z[i],.str (S [c])])):=aA.upd hT;calc abC rb (aV.of aq) ?_;let afX:=G _ _ (Y _ _ hcc);let qU:=G _ _ jc;let s7:=Y.trans G;let hB7:=hB.mv G;generalize upd B T (HO.tup [.ref Z[i],.str (S [c])])=H7 at G afX qU s7 hB7 ⊢;let hS7:=aV.of (K:=K) afX;calc%[7,_,rb,Z[i],_,_,_,rb,rb,hS7,aO (j:=0) rb|%[7,_,rb,Z[i],_,_,_,rb,rb,hS7,aO (j:=1) rb|%[2,_,rb,zsz 3|λg hg=>?_]]];let k8:aA H7 (upd H7 g (HO.tup [.int ((bK t).1:Int),.int ((bK t).2:Int),.str (S [c])])):=aA.upd hg;let o7:=k8 _ _ qU;calc%[o7,by rw[ab,N];show aF xo|dZ.mk (by rw[ab];show hi) %[5,ds++[g],xp,by simp[N],by rw[aq],(s7.trans k8).bC hM|?_]];rw[U8 et hc];show((hB7.mv k8).snoc (t:=(t.1,t.2.1,c)) aq).fV (cH o7)
   .intro zs B z;let(ds,rfl,N,jc,Y,hB):=z;rw[ab]at N;rw[cx (by rw[Jj xo,ab];lia)]at hB;calc%[3,M,_,rb|.inl %[aN.of jc|λT hT=>?_]];let G:aA B (upd B T (HO.tup (ds.map V.ref))):=aA.upd hT;let hF7:=G _ _ (Y _ _ gn);calc%[15,F,_,_,rb,rb,hF7,by rw[ab,i_];show aF xo|?_];calc%[28,_,bs++[T],rb,((s2.trans Y).trans G).bC hF,by rw[aZ nSF];show G _ _ (Y _ _ hp2),by rw[aq,bE];rfl,?_|by simp[i_]];rw[bX,hss,bE];show(((hY.mv Y).mv G).app (fW.one (ts:=fG ts ss) %[0,ds,aq|hB.mv G])).fV (cH hF7)
  .intro I J z;let(v4,bs,rfl,s2,hp2,gn,hY,i_):=z;rw[ab,cy]at hY;calc%[0,_,rb|q F bs J (sc.trans s2) (sc.free hF) gn ?_];unfold d_;rw[hTX];show hY
def Jk {aj:AA}{r w i j:Nat}{l:List Nat}(h:t∈cN aj r w i j l):∃k,k<l.length/\t=(i,j+k,l.getD k 0)/\atC aj r w i ((j+k:Nat):Int)=46:=by
 unfold cN at h;split at h
 .unfold jC at h;let(k,hk,e):=md.mp h;unfold jl at e;split at e
  .rename_i J;show%[2,k,bz.mp hk,(bg e).symm|J]
  .cases e
 .simp at h
def En {aj:AA}{r w i j:Nat}{l:List Nat}(hi:i<r)(q:j<w+1-l.length)(h:t∈cN aj r w i j l):bK t∈qd aj r w:=by let(k,hk,rfl,J):=Jk h;show tR.mpr %[%[hi|by show j+k<w;(simp[gd,kz]at *;lia)]|J]
def Jl {aj:AA}{r w i j:Nat}{l:List Nat}(q:lQ l)(h:t∈cN aj r w i j l):isLet t.2.2:=by let(k,hk,rfl,_):=Jk h;show isLet (l.getD k 0);rw[ar,ag hk];show q.az _ (ba _)
def nT (aj)(r w i j)(l):(cN aj r w i j l).length<=l.length:=by
 unfold cN;split;.show zu ..
 .show b8 _
noncomputable def nO (j:Nat×Nat->List Nat)(hk:List (Nat×Nat))(aj:AA)(r w:Nat)(rk l:List Nat)(c:Nat×Nat):List (List bB):=if nJ j hk (cN aj r w c.1 c.2 l)=true then d_ (cN aj r w c.1 c.2 l) rk else []
noncomputable def wZ (j:Nat×Nat->List Nat)(hk:List (Nat×Nat))(aj:AA)(r w:Nat)(rk l:List Nat):List (List bB):=(dB r w l.length).flatMap (nO j hk aj r w rk l)
def gw (ws:AA)(hk:List (Nat×Nat))(aj:AA)(r w:Nat)(rk:List Nat)(us:AA):List (List bB):=us.flatMap (wZ (jM ws aj) hk aj r w rk)
theorem vL {α β:Type}{f:α->List β}{b:Nat}:∀{l:List α},(∀x∈l,(f x).length<=b)->(l.flatMap f).length<=l.length*b
 | [],_=>by simp
 | x::l,h=>by rw[List.flatMap_cons,ax,bP,rS];have:=h x aT;have:=vL (l:=l) λy j=>h y (aS _ j);lia
def aaR {hk:List (Nat×Nat)}{aj:AA}{r w g:Nat}{rk l:List Nat}(j:∀ls:List Nat,ls.length<=l.length->(eX ls rk).length<=g)(c:Nat×Nat):(nO fit hk aj r w rk l c).length<=g:=by
 unfold nO;split;.unfold d_;rw[ab];show j _ (by unfold kJ;rw[ab];show nT ..)
 .show b8 _
def Jm {hk:List (Nat×Nat)}{aj:AA}{r w g j:Nat}{rk l:List Nat}(B:∀ls:List Nat,ls.length<=l.length->(eX ls rk).length<=g)(q:(dB r w l.length).length<=j):(wZ fit hk aj r w rk l).length<=j*g:=by unfold wZ;calc ay (vL λc _=>aaR B c) ?_;show fw _ q
def zx {α β:Type}{f:α->List β}{l:List α}{n:Nat}{x:α}(h:l[n]?=some x):(l.take (n+1)).flatMap f=(l.take n).flatMap f++f x:=by rw[bX,h,i9];simp
def NQ (C B:Addr):Sp:=λvs H Q _=>∃(b k d:Addr) (ws:AA) (r w:Nat) (aj aM:AA) (bi bj j g:Nat) (rk:List Nat),vs=[.ref b,.ref k,.str (S rk)]/\dX C H b r w aj aM bi bj/\mX B H k d ws/\ws.length<64/\rk.length<=100/\(∀l∈ws,(dB r w l.length).length<=j/\∀ls:List Nat,ls.length<=l.length->(eX ls rk).length<=g)/\g<=900/\ws.length*(j*g)<=1999/\
 ∀(p:Addr) (as:List Addr) (us:AA) (H':Hp),aA H H'->H p=none->H' p=some (.lst (as.map V.ref))->us.Perm ws->fW H' as (gw ws (cC aj r w bi bj) aj r w rk us)->as.length<=1999->Q (.ref p) H'
def Al (D:aQ K mg "layings_across" nH ["board","book","rack"])(Ed:pR K CB)(NT:Meth K CB "words" f2)(NZ:eZ P w K mg base fZ 1 f2 fd2 ["self"] (Rw CB))(N5:cT K fd2 ["self"] [])(GZ:bF P w K mg base "letters_down" 11 ["board","book"] (Ye C CB))(adt:bF P w K mg base "hooks" 5 ["board"] (RT C))(aaS:bF P w K mg base "starts" 1 ["board","word"] (NK C))(Cp:bF P w K mg base "letters_to_lay" 4 ["board","row","column","word"] (RW C))(JZ:bF P w K mg base "can_be_laid" 2 ["triples","fitting","joining"] (abN K))(N6:bF P w K mg base "layings_of" 10 ["triples","rack"] R6):bF P w K mg base "layings_across" 12 ["board","book","rack"] (NQ C CB):=by
 calc D.dz d7 ?_;walk_at"b";let(b,k,d,ws,r,w,aj,aM,bi,bj,J,g,rk,rfl,B,BK,N7,hrk,hg,R7,hbd,q):=h;let O:=B.ok;calc%[0,_,(aD (aR (i:=3) d7.nd rb (Or.inl rb) (aX GZ hr.mono rb (ak aG (ak bx au)))) (aD (aR (i:=4) d7.nd rb (Or.inl rb) (aX adt hr.mono rb (ak aG au))) (aD (aR (i:=5) d7.nd rb (Or.inl rb) (dw au)) (aD (eU cq rb (mR (Bq bx Ed.cl NT NZ hr.mono N5 .nil jU)) (bQ (i:=6) d7.nd rb (Or.inl rb)) (aJ (eU cq rb (cG (aX aaS hr.mono rb (ak aG (ak cM au)))) (oA rb (cJ (bQ (i:=7) d7.nd rb (Or.inl rb)) (cJ (bQ (i:=8) d7.nd rb (Or.inl rb)) kO))) (aD (aR (i:=9) d7.nd rb (Or.inl rb) (aX Cp hr.mono rb (ak aG (ak iz (ak jX (ak cM au)))))) (aJ (cU (gP (aX JZ hr.mono rb (ak (qv 9) (ak bI (ak cg au))))) (aJ (gF (dU df kU kX qm cL (ak (aX N6 hr.mono rb (ak (qv 9) (ak bf au))) au)))) b_)))))) (aJ (aW cL))))))|?_];calc%[9,_,rb,_,rb|%[10,b,k,d|%[75,ws,r,w,aj,aM,bi,bj,rb,B,BK|λpd kvs H1 s1 hn1 hd1 hkv=>?_]]];calc%[65,_,rb,b,r,w,aj,aM,bi,bj,rb,B.mv s1|λpj js H2 s2 hj2 hJ2=>?_];let sj:=s1.trans s2;let hd2:=s2 _ _ hd1;calc%[zsz 0|λF hF=>?_];let s0:aA H2 (upd H2 F (HO.lst [])):=aA.upd hF;let qy:upd H2 F (HO.lst []) F=some (.lst []):=aq;generalize upd H2 F (HO.lst [])=H0 at s0 qy ⊢;let BK0:=BK.same (sj.trans s0);let(dk,ek):=BK0.ob;calc%[34,_,rb,k,dk,_,rb,ek,rb|%[29,k,d,ws,rb,BK0,N7|λpu us H3 s3 hnu hpu pm _=>?_]];let s23:=s0.trans s3;let qW:=s3 _ _ qy;let o8:us.length=ws.length:=pm.length_eq;let huw:∀l∈us,lQ l:=λl hl=>BK.az l (pm.mem_iff.mp hl);let Yh:∀l∈us,(dB r w l.length).length<=J/\∀ls:List Nat,ls.length<=l.length->(eX ls rk).length<=g:=λl hl=>hg l (pm.mem_iff.mp hl);let abO:4000<=sizeLine:=by decide
 refine%[2,pu,rb,%[_|aV.of hpu]|Fl (K:=K) (a:=pu) (xs:=Ts us) (λn I H4=>∃(v6 v7 v8 v9:Option V) (as:List Addr),I=[some (.ref b),some (.ref k),some (.str (S rk)),some (.ref pd),some (.ref pj),some (.ref F),v6,v7,v8,v9]/\aA H2 H4/\H4 pu=some (.tup (Ts us))/\H4 F=some (.lst (as.map V.ref))/\fW H4 as ((us.take n).flatMap (wZ (jM ws aj) (cC aj r w bi bj) aj r w rk)))
  %[38,none,none,none,none,[],rb,s23,hpu,qW|fW.nil] (λn I H4 _ h=>by let(_,_,_,_,_,_,_,h2,_):=h;show aV.of h2) ?_ ?_]
 .intro n x I H4 hx z;let(v6,v7,v8,v9,as,rfl,s4,Yi,mZ,hY):=z;let(l,hl,rfl):=kI hx;let hnl:n<us.length:=(al.mp hl).1;let hW:=huw l (aE hl);let hl2:=hW.lo;let hl9:=hW.hi;let yQ:=Yh l (aE hl);let hal:as.length<=n*(J*g):=by
   rw[hY.len];calc ay (vL (b:=J*g) λx hx=>Jm (Yh x (f6 hx)).2 (Yh x (f6 hx)).1) ?_;show fw _ (by rw[bn];lia)
  let hbig:(n+1)*(J*g)<=1999:=ay (fw _ xo) hbd;let B4:=B.mv (sj.trans s4);calc%[9,_,rb,_,rb|%[6,b,r|%[70,w,aj,aM,bi,bj,l,rb,B4,hl9|λps cs H5 s5 hn5 Xv RQ=>?_]]];let s25:=s4.trans s5;let hF5:=s5 _ _ mZ;let nsF:ps≠F:=λz=>by rw[z,mZ]at hn5;cases hn5
  let hcl:cs.length<=J:=by rw[RQ.len];show yQ.1
  refine%[2,ps,rb,%[_|aN.of Xv]|fX (K:=K) (a:=ps) (xs:=cs.map V.ref) (λm I M=>∃(v7 v8 v9:Option V) (bs:List Addr),I=[some (.ref b),some (.ref k),some (.str (S rk)),some (.ref pd),some (.ref pj),some (.ref F),some (.str (S l)),v7,v8,v9]/\aA H2 M/\M pu=some (.tup (Ts us))/\M ps=some (.lst (cs.map V.ref))/\dN M cs (dB r w l.length)/\M F=some (.lst (bs.map V.ref))/\
    fW M bs ((us.take n).flatMap (wZ (jM ws aj) (cC aj r w bi bj) aj r w rk)++((dB r w l.length).take m).flatMap (nO (jM ws aj) (cC aj r w bi bj) aj r w rk l))/\bs.length<=as.length+m*g)
   %[45,v7,v8,v9,as,rb,s25,s5 _ _ Yi,Xv,RQ,hF5,by simpa using hY.mv s5|xo] (λm I M _ h=>by let(_,_,_,_,_,_,_,h2,_):=h;show aN.of h2) ?_ ?_]
  .intro m x I M hx z;let(v7,v8,v9,bs,rfl,s6,N,DP,xT,Bh,Eo,hb6):=z;let(hi,hx):=rfg hx;subst hx;let(c,ec,hc):=xT.get hi;let(hc1,hc2):=mH.mp (aE ec);let hmg:as.length+(m+1)*g<=1999:=by
    let h1:(m+1)*g<=J*g:=fw _ xo;let h2:(n+1)*(J*g)=n*(J*g)+J*g:=rS _ _;lia
   let aii:(m+1)*g=m*g+g:=rS _ _;calc%[53,cs[m],_,rb,aV.of hc,rb,_,_,rb,_,_,rb,rb|?_];let B6:=B.mv (sj.trans s6);calc%[0,_,rb|%[23,_,rb,_,rb,_,rb|%[10,b,r,w|%[61,aj,aM,bi,bj,c.1,c.2,l,rb,B6,by have:=O.w9;lia,hl9|λpt ats H7 Z Yg Em hT7=>?_]]]];let L:=s6.trans Z;let hF7:=Z _ _ Bh;let ntF:pt≠F:=λz=>by rw[z,Bh]at Yg;cases Yg
   let htl:=nT aj r w c.1 c.2 l;let hfree:∀t∈cN aj r w c.1 c.2 l,bK t∈qd aj r w:=λt ht=>En hc1 hc2 ht;calc%[23,_,rb,_,rb,_,rb|%[10,pt,pd,pj|%[56,ats,js,cN aj r w c.1 c.2 l,kvs,jM ws aj,cC aj r w bi bj,rb,Em,hT7,xo,L _ _ hd2,λt ht=>hkv _ (hfree t ht),L _ _ hj2,hJ2.mv L|λH8 G=>%[0,_,rb|?_]]]];let s28:=L.trans G;let hF8:=G _ _ hF7;let keep:∀(H9:Hp) (cs':List Addr),aA H8 H9->fW H9 cs' (nO (jM ws aj) (cC aj r w bi bj) aj r w rk l c)->fW H9 (bs++cs') ((us.take n).flatMap (wZ (jM ws aj) (cC aj r w bi bj) aj r w rk)++((dB r w l.length).take (m+1)).flatMap (nO (jM ws aj) (cC aj r w bi bj) aj r w rk l)):=λH9 cs' s9 hY'=>by rw[zx ec,<-be];show(((Eo.mv Z).mv G).mv s9).app hY'
   by_cases j:nJ (jM ws aj) (cC aj r w bi bj) (cN aj r w c.1 c.2 l)=true
   .rw[j];let h7:(cN aj r w c.1 c.2 l).length<=7:=by
     unfold nJ at j;simp only[dm,eK]at j;show j.1.2
    let aaT:nO (jM ws aj) (cC aj r w bi bj) aj r w rk l c=d_ (cN aj r w c.1 c.2 l) rk:=by unfold nO;rw[if_pos j]
    calc bV %[2,_,rb,.inl %[16,rb,_|aN.of hF8]|%[9,_,rb,_,rb|%[45,pt,ats,cN aj r w c.1 c.2 l,rk,rb,G _ _ Em,hT7.mv G,h7,λt ht=>Jl hW ht,hrk,ay (yQ.2 _ (by unfold kJ;rw[ab];show nT ..)) R7|λpl ls H9 s9 hn9 hp9 hY9=>?_]]];let Y:=s9 _ _ hF8;let hll:ls.length<=g:=by rw[hY9.len];unfold d_;rw[ab];show yQ.2 _ (by unfold kJ;rw[ab];show nT ..)
    calc%[36,F,pl,_,_,rb,rb,Y,hp9,by rw[ab,ab];lia|?_];calc%[45,_,_,_,bs++ls,rb,(s28.trans s9).bC hF,?_,by rw[aZ nsF];show s9 _ _ (G _ _ (Z _ _ DP)),?_,by rw[aq,bE],?_|by rw[ax];lia];.show cH Y _ _ (s9 _ _ (G _ _ (Z _ _ N)))
    .show(((xT.mv Z).mv G).mv s9).fV (cH Y)
    .show(keep H9 ls s9 (by rw[aaT];show hY9)).fV (cH Y)
   .rw[gL.mpr j];let aaT:nO (jM ws aj) (cC aj r w bi bj) aj r w rk l c=[]:=by unfold nO;rw[if_neg j]
    calc bO %[45,_,_,_,bs,rb,s28,G _ _ (Z _ _ N),G _ _ (Z _ _ DP),(xT.mv Z).mv G,hF8,?_|xo];have:=keep H8 [] (aA.refl _) (by rw[aaT];show fW.nil);rw[ej]at this;show this
  .intro I M z;let(v7,v8,v9,bs,rfl,s6,N,DP,xT,Bh,Eo,hb6):=z;calc%[38,_,_,_,_,bs,rb,s6,N,Bh|?_];rw[ab,xT.len,cy]at Eo;rw[zx hl];show Eo
 .intro I H4 z;let(v6,v7,v8,v9,as,rfl,s4,Yi,mZ,hY):=z;rw[ab,cy]at hY;let hal:as.length<=1999:=by
   rw[hY.len];calc ay (vL (b:=J*g) λx hx=>Jm (Yh x hx).2 (Yh x hx).1) ?_;rw[o8];show hbd
  show%[0,_,rb|q F as us H4 (sj.trans s4) (sj.free hF) mZ pm hY hal]
def cell (R:AA)(i j:Nat):Nat:=(R.getD i []).getD j 0
def Yj {r w:Nat}{aj:AA}(B:Blk r w aj){i j:Nat}(hi:i<r)(D:j<w):cell (bL aj w) j i=cell aj i j:=by
 let q:i<aj.length:=by rw[B.len];show hi
 unfold cell;rw[show (bL aj w).getD j []=j8 aj j by
  unfold bL;rw[ar,bb,iX D];rfl]
 unfold j8;rw[ar,bb,ag q,ar (l:=aj),ag q];rfl
def adu {r w:Nat}{aj:AA}(B:Blk r w aj){i j:Nat}(hi:i<r)(q:j<w):atC (bL aj w) w r (j:Int) (i:Int)=atC aj r w (i:Int) (j:Int):=by unfold atC;rw[if_pos %[xo,xo,xo|xo],if_pos %[xo,xo,xo|xo]];show Yj B hi q
def w5 (aj):isFree aj=true↔∀l∈aj,∀c∈l,c=46:=by
 unfold isFree;rw[gr];constructor
 .intro h l q c B;simpa using h c (s_.mpr %[0,l,q|B])
 .intro h c B;let(l,q,j):=s_.mp B;simpa using h l q c j
def Jo {r w:Nat}{aj:AA}(j:Blk r w aj):isFree (bL aj w)=isFree aj:=by
 cases h1:isFree aj with
 | true=>show(w5 _).mpr (wW j ((w5 _).mp h1))
 | false=>
  cases q:isFree (bL aj w) with| false=>rfl| true=>have:=wW (Ce j) ((w5 _).mp q);rw[Jh j]at this;rw[(w5 _).mpr this]at h1;cases h1
def pU {r w:Nat}{aj:AA}(q:Blk r w aj)(u v:Int):atC (bL aj w) w r v u=atC aj r w u v:=by
 by_cases h:0<=u/\u<r/\0<=v/\v<w
 .obtain⟨i,rfl⟩:∃k:Nat,u=k:=%[u.toNat|xo]
  obtain⟨j,rfl⟩:∃k:Nat,v=k:=%[v.toNat|xo]
  show adu q xo xo
 .let e1:atC aj r w u v=46:=if_neg h;let e2:atC (bL aj w) w r v u=46:=if_neg λz=>h %[z.2.2.1,z.2.2.2,z.1|z.2.1];rw[e1,e2]
def adv {r w:Nat}{aj:AA}(j:Blk r w aj)(u v:Int):Bd (bL aj w) w r v u=Bd aj r w u v:=by unfold Bd poss;simp only[mx,List.any_nil,qi,pU j];generalize (!decide ([atC aj r w u (v-1)]=[46]))=a;generalize (!decide ([atC aj r w u (v+1)]=[46]))=b;generalize (!decide ([atC aj r w (u-1) v]=[46]))=c;generalize (!decide ([atC aj r w (u+1) v]=[46]))=d;cases a <;> cases b <;> cases c <;> cases d <;> rfl
def N8 {aj:AA}{r w:Nat}{c:Nat×Nat}:c∈pZ aj r w↔(c.1<r/\c.2<w)/\frB aj r w c=true/\xR aj r w c=true:=by unfold pZ;rw[kM,X_,dm]
def Jp {r w:Nat}{aj:AA}(q:Blk r w aj)(i j:Nat):(j,i)∈pZ (bL aj w) w r↔(i,j)∈pZ aj r w:=by
 rw[N8,N8];let e1:frB (bL aj w) w r (j,i)=frB aj r w (i,j):=by unfold frB;rw[pU q]
 let e2:xR (bL aj w) w r (j,i)=xR aj r w (i,j):=adv q _ _;rw[e1,e2];show%[λ⟨⟨a,b⟩,c⟩=>%[%[b|a]|c]|λ⟨⟨a,b⟩,c⟩=>%[%[b|a]|c]]
theorem Cq:∀(ls rk:List Nat) {t:List Nat},(∀c∈ls,isLet c)->t∈eX ls rk->∀c∈t,uq c
 | [],_,t,_,h,c,j=>by rw[am.mp h]at j;simp at j
 | d::ls,rk,t,hl,h,c,j=>by
  let hd:=hl d aT;let q:∀c∈ls,isLet c:=λc j=>hl c (aS _ j);unfold eX at h;rcases a6.mp h with z|z
  .split at z
   .let(u,B,rfl):=aI.mp z;rcases bd.mp j with e|e;.rw[e];show Xm hd
    .show Cq ls _ q B c e
   .simp at z
  .split at z
   .let(u,B,rfl):=aI.mp z;rcases bd.mp j with e|e;.rw[e,(Ag hd).1];show Xn hd
    .show Cq ls _ q B c e
   .simp at z
theorem N_:∀{ts:List bB} {ss:List Nat},ts.length=ss.length->(fG ts ss).map bK=ts.map bK/\kJ (fG ts ss)=ss
 | [],[],_=>%[rb|rb]
 | [],_::_,h=>by simp at h
 | _::_,[],h=>by simp at h
 | t::ts,c::ss,h=>by
  let j:=N_ (ts:=ts) (ss:=ss) (by simpa using h);constructor
  .show bK t::(fG ts ss).map bK=bK t::ts.map bK;rw[j.1]
  .show c::kJ (fG ts ss)=c::ss;rw[j.2]
theorem zy (aj)(r w i j)(l):∀n,((jC aj r w i j l n).map λt=>t.2.1).Pairwise (·<·)/\∀t∈jC aj r w i j l n,t.1=i/\t.2.1<j+n
 | 0=>%[List.Pairwise.nil|λt h=>by simp[jC]at h]
 | n+1=>by
  let(h1,B):=zy aj r w i j l n;rw[oX];cases e:jl aj r w i j l n with
  | none=>simp only[Option.toList_none,ej];show%[h1|λt q=>%[(B t q).1|fb (B t q).2]]
  | some u=>
   let F:u=(i,j+n,l.getD n 0):=by
    unfold jl at e;split at e;.show(bg e).symm
    .cases e
   subst F;simp only[Option.toList_some];constructor
   .rw[bE,f7];calc%[h1,xp|λa ha b D=>?_];let(t,q,rfl):=aI.mp ha;simp only[b9,mf,am]at D;rw[D];show(B t q).2
   .intro t q;rcases a6.mp q with z|z;.show%[(B t z).1|fb (B t z).2]
    .rw[am.mp z];show%[rb|e_ _]
def zA (aj)(r w i j)(l):((cN aj r w i j l).map λt=>t.2.1).Pairwise (·<·)/\∀t∈cN aj r w i j l,t.1=i:=by
 unfold cN;split;.show%[(zy aj r w i j l _).1|λt q=>((zy aj r w i j l _).2 t q).1]
 .show%[List.Pairwise.nil|λt h=>by simp at h]
structure jy (aj:AA)(r w:Nat)(hk:List (Nat×Nat))(ts:List bB):Prop where
 ne:ts≠[]
 len:ts.length<=7
 cell:∀t∈ts,t.1<r/\t.2.1<w/\atC aj r w t.1 t.2.1=46/\uq t.2.2
 row:∃i,∀t∈ts,t.1=i
 col:(ts.map λt=>t.2.1).Pairwise (·<·)
 hook:∃t∈ts,bK t∈hk
def zB {ws us:AA}{hk:List (Nat×Nat)}{aj:AA}{r w:Nat}{rk:List Nat}(hw:∀l∈us,lQ l)(h:x∈gw ws hk aj r w rk us):jy aj r w hk x:=by
 unfold gw at h;let(l,hl,h):=cw.mp h;unfold wZ at h;let(c,hc,h):=cw.mp h;let(J,L):=mH.mp hc;unfold nO at h;split at h
 .rename_i j;unfold d_ at h;let(ss,F,rfl):=aI.mp h;let N:(cN aj r w c.1 c.2 l).length=ss.length:=by rw[rJ _ _ F];unfold kJ;rw[ab]
  let(e1,e2):=N_ N;let O:=Jj N;unfold nJ at j;simp only[dm,eK]at j;let((n1,n7),_,G):=j;let(Y,Z):=zA aj r w c.1 c.2 l;let GX:∀d∈kJ (cN aj r w c.1 c.2 l),isLet d:=λd hd=>by let(t,q,rfl):=aI.mp hd;show Jl (hw l hl) q
  let D:∀t∈fG (cN aj r w c.1 c.2 l) ss,∃t'∈cN aj r w c.1 c.2 l,bK t'=bK t:=λt q=>by
   have:bK t∈(cN aj r w c.1 c.2 l).map bK:=by rw[<-e1];show cE q
   let(t',h1,B):=aI.mp this;show%[0,t',h1|B]
  calc%[λz=>?_,xo,λt q=>?_,%[c.1|λt q=>?_],?_|?_];.rw[z]at O;simp at O;lia
  .let(t',h1,B):=D t q;let hf:=tR.mp (En J L h1);rw[B]at hf;show%[hf.1.1,hf.1.2,hf.2|Cq _ _ GX F _ (by rw[<-e2];show cE (f:=λt:bB=>t.2.2) q)]
  .let(t',h1,B):=D t q;have:=Z t' h1;let M:(bK t').1=(bK t).1:=by rw[B]
   let M:t'.1=t.1:=M;lia
  .let e3:(fG (cN aj r w c.1 c.2 l) ss).map (λt=>t.2.1)=(cN aj r w c.1 c.2 l).map λt=>t.2.1:=by
    have:=congrArg (List.map Prod.snd) e1;rw[cn,cn]at this;show this
   rw[e3];show Y
  .let(t',h1,B):=lL.mp G;let B:=iL B;have:bK t'∈(fG (cN aj r w c.1 c.2 l) ss).map bK:=by rw[e1];show cE h1
   let(t,q,e):=aI.mp this;show%[0,t,q|by rw[e];show B]
 .simp at h
def jy.rk {aj:AA}{r w:Nat}{hk:List (Nat×Nat)}(h:jy aj r w hk ts):(ts.map My.rk).Pairwise (·<·):=by let(i,hi):=h.row;let j:=h.col;rw[eA]at j ⊢;calc ii (λ{a b} ha hb hab=>?_) j;unfold My.rk;rw[hi a ha,hi b hb];lia
def jy.rkw {aj:AA}{r w:Nat}{hk:List (Nat×Nat)}(h:jy aj r w hk ts):((ts.map sw).map My.rk).Pairwise (·<·):=by let(i,hi):=h.row;let j:=h.col;rw[cn,eA];rw[eA]at j;calc ii (λ{a b} ha hb hab=>?_) j;show a.2.1*1000+a.1<b.2.1*1000+b.1;rw[hi a ha,hi b hb];lia
structure w6 (aj:AA)(r w:Nat)(hk:List (Nat×Nat))(ts:List bB):Prop where
 ne:ts≠[]
 len:ts.length<=7
 cell:∀t∈ts,t.1<r/\t.2.1<w/\atC aj r w t.1 t.2.1=46/\uq t.2.2
 rk:(ts.map My.rk).Pairwise (·<·)
 hook:∃t∈ts,bK t∈hk
def Qh {r w bi bj:Nat}{aj:AA}(j:Blk r w aj){c:Nat×Nat}(h:c∈cC (bL aj w) w r bj bi):(c.2,c.1)∈cC aj r w bi bj:=by
 unfold cC at h ⊢;rw[Jo j]at h;split at h
 .rename_i hf;rw[if_pos hf];rw[am.mp h];show am.mpr rfl
 .rename_i hf;rw[if_neg hf];show(Jp j c.2 c.1).mp h
noncomputable def uN (ws:AA)(aj:AA)(r w bi bj:Nat)(rk:List Nat):List (List bB):=gw ws (cC aj r w bi bj) aj r w rk ws++(gw ws (cC (bL aj w) w r bj bi) (bL aj w) w r rk ws).map λts=>ts.map sw
def jy.ok {aj:AA}{r w:Nat}{hk:List (Nat×Nat)}(h:jy aj r w hk ts):w6 aj r w hk ts:=%[h.ne,h.len,h.cell,h.rk|h.hook]
def jy.down {aj:AA}{r w bi bj:Nat}(q:Blk r w aj)(h:jy (bL aj w) w r (cC (bL aj w) w r bj bi) ts):w6 aj r w (cC aj r w bi bj) (ts.map sw):=by
 refine%[λz=>h.ne (vj.mp z),by rw[ab];show h.len,λt j=>?_,h.rkw|?_]
 .let(u,D,rfl):=aI.mp j;let(a,b,c,d):=h.cell u D;rw[pU q]at c;show%[b,a,c|d]
 .let(t,j,B):=h.hook;show%[0,sw t,cE j|Qh q B]
def G3 {ws:AA}{aj:AA}{r w bi bj:Nat}{rk:List Nat}(j:Blk r w aj)(hw:∀l∈ws,lQ l)(h:x∈uN ws aj r w bi bj rk):w6 aj r w (cC aj r w bi bj) x:=by
 unfold uN at h;rcases a6.mp h with z|z;.show(zB hw z).ok
 .let(u,q,rfl):=aI.mp z;show(zB hw q).down j
theorem w6.zp {aj:AA}{r w:Nat}{hk:List (Nat×Nat)}(h:w6 aj r w hk ts)(r9:r<=9)(w9:w<=9):∀t∈ts,zp t:=λt j=>by let(a,b,_,d):=h.cell t j;show%[xo,xo|d.lt]
def mK.lay (h:mK H a ts)(D:ts≠[])(ok:∀t∈ts,zp t):sI K H a ts:=by
 let(bs,h1,q):=h;calc%[?_,D|λt F=>%[by have:=(ok t F).2.1;lia|(ok t F).2.2]];calc .tup (aV.of h1) ?_;let B:∀bs:List Addr,(∀b∈bs,tG H b (tO H b)/\(tO H b).2.2<128)->jY K H 1 ((bs.map (tO H)).map lJ) (bs.map V.ref):=by
  intro bs
  induction bs with| nil=>show λ_=>.nil| cons b bs ih=>intro j;let(G,hz):=j b aT;show .cons (.tup (aV.of G) (.cons (.int _) (.cons (.int _) (.cons (.str _ λc J=>by rw[am.mp J];show hz) .nil)))) (ih λx hx=>j x (aS _ hx))
 have:=B bs λb j=>%[q.at_ b j|(ok _ (by rw[<-q.eq];show cE j)).2.2]
 rw[q.eq]at this;show this
theorem U_:∀{as bs:List bB},(as.map My.rk).Pairwise (·<·)->(bs.map My.rk).Pairwise (·<·)->as.Perm bs->as=bs
 | [],bs,_,_,p=>(List.nil_perm.mp p).symm ▸ rfl
 | a::as,[],_,_,p=>absurd p.length_eq xp
 | a::as,b::bs,ha,hb,p=>by
  let q:=kG.mp ha;let j:=kG.mp hb;let e:a=b:=by
   rcases bd.mp (p.mem_iff.mp (aT (a:=a) (l:=as))) with z|z;.show z
   .rcases bd.mp (p.mem_iff.mpr (aT (a:=b) (l:=bs))) with y|y;.show y.symm
    .let h1:=j.1 (My.rk a) (cE z);let B:=q.1 (My.rk b) (cE y);lia
  subst e;rw[U_ q.2 j.2 ((List.perm_cons _).mp p)]
def uO {ws us:AA}{hk:List (Nat×Nat)}{aj:AA}{r w:Nat}{rk:List Nat}(p:us.Perm ws)(x:List bB):x∈gw ws hk aj r w rk us↔x∈gw ws hk aj r w rk ws:=by unfold gw;rw[cw,cw];show%[λ⟨l,h1,j⟩=>%[0,l,p.mem_iff.mp h1|j]|λ⟨l,h1,j⟩=>%[0,l,p.mem_iff.mpr h1|j]]
def abP (C B:Addr):Sp:=λvs H Q _=>∃(b k d:Addr) (ws:AA) (r w:Nat) (aj aM:AA) (bi bj j g:Nat) (rk:List Nat),vs=[.ref b,.ref k,.str (S rk)]/\dX C H b r w aj aM bi bj/\mX B H k d ws/\ws.length<64/\rk.length<=100/\(∀l∈ws,(dB r w l.length).length<=j/\(dB w r l.length).length<=j/\∀ls:List Nat,ls.length<=l.length->(eX ls rk).length<=g)/\g<=900/\ws.length*(j*g)<=1999/\
 ∀(p:Addr) (as:List Addr) (L:List (List bB)) (H':Hp),aA H H'->H' p=some (.tup (as.map V.ref))->fW H' as L->Iw L->L.Nodup->L.length<=3998->(∀x,x∈L↔x∈uN ws aj r w bi bj rk)->Q (.ref p) H'
def G_ (D:aQ K mg "all_layings" qK ["board","book","rack"])(Va:mg "set"=none)(dJ:mg "sorted"=none)(bU:mg "tuple"=none)(cD:fM K C)(Hf:Meth K C "turned" f3)(Hg:eZ P w K mg base fZ 8 f3 Bc ["self"] (Ng C))(Hh:cT K Bc ["self"] [])(tW:bF P w K mg base "layings_across" 12 ["board","book","rack"] (NQ C CB))(Ep:bF P w K mg base "turned_laying" 1 ["laying"] Yb):bF P w K mg base "all_layings" 13 ["board","book","rack"] (abP C CB):=by
 calc D.dz pN ?_;walk_at"b";let(b,k,d,ws,r,j,aj,aM,bi,bj,mp,g,rk,rfl,B,BK,N7,hrk,hg,R7,hbd,q):=h;let O:=B.ok;let abO:4000<=sizeLine:=by decide
 calc%[0,_,(aD (aR (i:=3) pN.nd rb (Or.inl rb) (aX tW hr.mono rb (ak aG (ak bx (ak bf au))))) (aD (FN (ix:=4) (ns:=["laying"]) pN.nd rb (Or.inl rb) rb (gU.of ["board","book","rack","across","down"] [] xy) (cG (aX tW hr.mono rb (ak (Bq aG cD.cl Hf Hg hr.mono Hh .nil jU) (ak bx (ak bf au))))) (λ_ _ _ _ _=>(rE (show (["laying","board","book","rack","across","down"]:List Str).Nodup by decide +kernel) rb xw)) (λ_ _ _ _ _=>cI) (λ_ _ _ _ _=>(aX Ep hr.mono rb (ak aG au)))) (aJ (aW (cY dR xw bU di (ak (aP (Aj rb hr.units) xw dJ gf (ak (cY (Pk rb hr.units) xw Va PyProof.Rows.boot_set (ak (aK aeV bI cg) au)) au)) au))))))|?_];calc%[23,_,rb,_,rb,_,rb|%[6,b,k|%[6,d,ws|%[10,r,j,aj|%[56,aM,bi,bj,mp,g,rk,rb,B,BK,N7,hrk,λl hl=>%[(hg l hl).1|(hg l hl).2.2],R7,hbd|λp1 J us1 H1 s1 hn1 hp1 R8 Yk hl1=>?_]]]]];let B1:=B.mv s1;let(dx,_,_,_,ex,_):=id B1.ex;calc%[34,_,rb,b,dx,_,rb,ex,rb|%[52,b,r,j,aj,aM,bi,bj,rb,B1|λpt Ht st Bt=>?_]];let s1t:=s1.trans st;calc%[9,_,rb,_,rb|%[6,pt,k|%[6,d,ws|%[10,j,r,bL aj j|%[56,bL aM j,bj,bi,mp,g,rk,rb,Bt,BK.same s1t,N7,hrk,λl hl=>(hg l hl).2,R7,hbd|λp2 as2 us2 H2 s2 hn2 hp2 vm Er hl2=>?_]]]]];let Jq:=s1t.trans s2;let ahV:=s2 _ _ (st _ _ hp1);let ahW:=(Yk.mv st).mv s2;let hw1:∀l∈us1,lQ l:=λl hl=>BK.az l (R8.mem_iff.mp hl);let hw2:∀l∈us2,lQ l:=λl hl=>BK.az l (vm.mem_iff.mp hl);let ok2:∀x∈gw ws (cC (bL aj j) j r bj bi) (bL aj j) j r rk us2,jy (bL aj j) j r (cC (bL aj j) j r bj bi) x:=λx hx=>zB hw2 hx;generalize hX:gw ws (cC (bL aj j) j r bj bi) (bL aj j) j r rk us2=X at Er ok2;refine%[2,p2,rb,%[_|aN.of hp2]|λL hL=>Aw (f:=gC [] 0) (tt:=iK) (K:=K) (a:=p2) (xs:=as2.map V.ref) (λi ys Z=>∃ds:List Addr,ys=ds.map V.ref/\ds.length=i/\Z L=some (.lst ys)/\aA H2 Z/\fW Z ds ((X.take i).map λts=>ts.map sw))
  %[5,[],rb,rb,aq,aA.upd hL|fW.nil] (λi ys Z _ h=>by let(_,_,_,_,sm,_):=h;show aN.of (sm _ _ hp2)) ?_ ?_]
 .intro i x ys Z hx z;let(ds,rfl,hdl,lU,s6,Eo):=z;let(hi,hx):=rfg hx;subst hx;let(ts,et,(bs,hbs,hLb)):=Er.get hi;let hok:=ok2 ts (aE et);let ahX:=(hok.ok).zp O.w9 O.r9;let hnd:(ts.map λt=>My.rk (sw t)).Nodup:=by
   have:=hok.rkw;rw[cn]at this;show List.Pairwise.imp (λ{a b} hab=>a_ hab) this
  calc abB ?_;calc%[67,_,rb,as2[i],bs,ts,rb,s6 _ _ hbs,hLb.mv s6,ahX,hnd,by have:=hok.len;lia|λp7 bs7 ts7 G s7 Em XS pm7 pw7=>?_];let e7:ts7=ts.map sw:=U_ pw7 hok.rkw pm7;subst e7;let afY:=s7 _ _ lU;calc%[afY,by rw[ab,hdl];lia|dZ.mk (by rw[ab];show hi) %[5,ds++[p7],xp,by simp[hdl],by rw[aq],(s6.trans s7).bC hL|?_]];rw[bX,et,bE];show((Eo.mv s7).app (fW.one (ts:=ts.map sw) %[0,bs7,Em|XS])).fV (cH afY)
 .intro ys Z z;let(ds,rfl,hdl,lU,s6,Eo):=z;rw[ab]at hdl;rw[cx (by rw[ab];have:=Er.len;lia)]at Eo;let ahY:=s6 _ _ ahV;let ahZ:=ahW.mv s6;calc%[66,_,rb,_,rb,p1,L,_,_,rb,rb,ahY,lU,by rw[ab,ab];lia|λpc hpc=>?_];let k7:aA Z (upd Z pc (HO.lst (J.map V.ref++ds.map V.ref))):=aA.upd hpc;let afZ:upd Z pc (HO.lst (J.map V.ref++ds.map V.ref)) pc=some (.lst ((J++ds).map V.ref)):=by rw[aq,bE]
  let Es:=(ahZ.app Eo).mv k7;let sH7:=(Jq.trans s6).trans k7;generalize upd Z pc (HO.lst (J.map V.ref++ds.map V.ref))=G at k7 afZ Es sH7 ⊢;let Y:∀x,x∈(gw ws (cC aj r j bi bj) aj r j rk us1++X.map λts=>ts.map sw)↔x∈uN ws aj r j bi bj rk:=λx=>by
   unfold uN;rw[a6,a6,uO R8,<-hX,aI,aI];constructor
   .rintro(z|⟨u,hu,rfl⟩);.show .inl z
    .show .inr %[0,u,(uO vm u).mp hu|rb]
   .rintro(z|⟨u,hu,rfl⟩);.show .inl z
    .show .inr %[0,u,(uO vm u).mpr hu|rb]
  generalize hM:(gw ws (cC aj r j bi bj) aj r j rk us1++X.map λts=>ts.map sw)=M at Es Y;let hlay:∀a∈J++ds,sI K G a (lO G a):=λa ha=>by
   let hm:lO G a∈M:=by rw[<-Es.eq];show cE ha
   let hok:=G3 O.br BK.az ((Y _).mp hm);show(Es.at_ a ha).lay hok.ne (hok.zp O.r9 O.w9)
  calc%[15,pc,J++ds,lO G,rb,aN.of afZ,by rw[ax];lia,hlay|λps bs hps N hnd hall=>?_];let k8:aA G (upd G ps (HO.ext (pJ w ps bs))):=aA.upd hps;let ah0:upd G ps (HO.ext (pJ w ps bs)) ps=some (.ext (pJ w ps bs)):=aq;let i_:bs.length<=J.length+ds.length:=by
   let h1:(bs.map (lO G)).length<=M.length:=hnd.length_le_of_subset (l₂:=M) λx hx=>by let(a,ha,rfl):=aI.mp hx;rw[<-Es.eq];show cE (N a ha)
   rw[ab]at h1;rw[<-Es.len,ax]at h1;show h1
  calc%[15,ps,bs,lO G,rb,ah0,xo,λa ha=>(hlay a (N a ha)).mv k8|λpq F hpq pmb up=>?_];let k9:=k8.bC (o:=HO.lst (F.map V.ref)) (k8.free hpq);let aij:upd (upd G ps (HO.ext (pJ w ps bs))) pq (HO.lst (F.map V.ref)) pq=some (.lst (F.map V.ref)):=aq;calc%[3,pq,_,rb|.inl %[aN.of aq|λT hT=>?_]];let k10:=k9.bC (o:=HO.tup (F.map V.ref)) (k9.free hT);let hYf:fW (upd (upd (upd G ps (HO.ext (pJ w ps bs))) pq (HO.lst (F.map V.ref))) T (HO.tup (F.map V.ref))) F (F.map (lO G)):=(fW.mk (λa ha=>Es.at_ a (N a (pmb.mem_iff.mp ha))) rb).mv k10;calc q T F _ _ (sH7.trans k10) aq hYf up ((pmb.map (lO G)).nodup_iff.mpr hnd) (by rw[ab,pmb.length_eq];lia) λx=>?_;rw[<-Y x,(pmb.map (lO G)).mem_iff];constructor
  .intro hx;let(a,ha,rfl):=aI.mp hx;rw[<-Es.eq];show cE (N a ha)
  .intro hx;rw[<-Es.eq]at hx;let(a,ha,rfl):=aI.mp hx;show hall a ha
def Yl (K:W.Frag):Sp:=λvs H Q _=>∃(p a:Addr) (ls:List Nat) (ns:List Int) (k m:Nat),vs=[.ref p,.ref a,.int k,.int m]/\H p=some (.lst (Ts (ones ls)))/\Uv ls/\aN K H a (ns.map V.int)/\k<=1000/\m<=5/\
 ∀(rk:List Nat) (H':Hp),aA H H'->rk.length<=m->(rk.length<4->rk.count 63<=2)->(4<=rk.length->rk.count 63<=1)->(∀c∈rk,c=63\/isLet c)->(1<=m->1<=rk.length)->Q (.str (S rk)) H'
def adw (D:aQ K mg "_law_rack" MN ["_law_letters_here","_law_script","_law_k","_law_most"])(bw:mg "len"=none)(Vb:mg "min"=none)(nj:mg "int"=none)(jw:bF P w K mg base "_law_digits" 3 ["_law_script","_law_k","_law_base","_law_many"] (Ac K)):bF P w K mg base "_law_rack" 4 ["_law_letters_here","_law_script","_law_k","_law_most"] (Yl K):=by
 calc D.dz nQ ?_;walk_at"b";let(p,a,ls,ns,k,m,rfl,hp,hA,hS,hk,hm5,q):=h;let J:(Ts (ones ls)).length=ls.length:=by rw[ab,ab]
 let hl1:=hA.lo;calc%[0,_,(aD (aR (i:=4) nQ.nd rb (Or.inl rb) (aX jw hr.mono rb (ak bx (ak bf (ak aB (ak aB au)))))) (aD (aR (i:=5) nQ.nd rb (Or.inl rb) (aP (VB rb) xw Vb PyProof.Rows.boot_min (ak bI (ak (bH gq (dw (ak aB (ak aB (ak aB (ak aB (ak aB (ak aB (ak aB (ak aB au))))))))) (aK cA (bH gq cg aB (λ_ _=>rfl)) aB) (λ_ _=>rfl)) au)))) (aD (aR (i:=6) nQ.nd rb (Or.inl rb) (bR [] xz)) (aD (eU cq rb (cG (jr zO cg (gZ aB) (gZ (aK cu aB cL)))) (bQ (i:=7) nQ.nd rb (Or.inl rb)) (aD (aR (i:=8) nQ.nd rb (Or.inl rb) (bH gq aG (aK cA (aK dj iz aB) (aP cB xw bw bS (ak aG au))) (λ_ _=>rfl))) (aD (qu (cU (QW.qt (Dg (bW jA (aK cA iz aB) aB (bY _)) (zR (bW t_ (dU bu PySem.F.slot_str_count PySem.F.type_str_count Ij cM (ak (bR [63] xz) au)) (aK cu aB (cY yc xw nj pE (ak (gW t_ cL aB (bY _)) au))) (bY _))))) (aJ (aR (i:=8) nQ.nd rb (Or.inl rb) (bR [63] xz))) b_)) (aJ (aR (i:=6) nQ.nd rb (Or.inl rb) (aK iI cM jX)))))) (aJ (aW cM))))))|?_];calc%[9,_,rb,_,rb|%[49,a,ns,k,208,6,rb,hS,hk,xt,xt,xt|λpr ds H1 s1 ahO hpr hl hd=>?_]];let at0:k_ (ds.map V.int) 0=some (.int ds[0]):=aO (j:=0) (by simp[hl]);calc%[2,_,rb,zsz 8|λt ht=>?_];obtain⟨z,hz1,hz2,hz3⟩:∃z:Nat,k_ [V.int 1,V.int 2,V.int 3,V.int 3,V.int 2,V.int 4,V.int 3,V.int 5] (ds[0]%8)=some (.int z)/\1<=z/\z<=5:=by
  let hm:ds[0]%8=0\/ds[0]%8=1\/ds[0]%8=2\/ds[0]%8=3\/ds[0]%8=4\/ds[0]%8=5\/ds[0]%8=6\/ds[0]%8=7:=xo;rcases hm with e|e|e|e|e|e|e|e <;> rw[e]
  .show%[2,1,aO (j:=0) rb,xt|xt]
  .show%[2,2,aO (j:=1) rb,xt|xt]
  .show%[2,3,aO (j:=2) rb,xt|xt]
  .show%[2,3,aO (j:=3) rb,xt|xt]
  .show%[2,2,aO (j:=4) rb,xt|xt]
  .show%[2,4,aO (j:=5) rb,xt|xt]
  .show%[2,3,aO (j:=6) rb,xt|xt]
  .show%[2,5,aO (j:=7) rb,xt|xt]
 let hT:upd H1 t (HO.lst [V.int 1,V.int 2,V.int 3,V.int 3,V.int 2,V.int 4,V.int 3,V.int 5]) t=some _:=aq;let s2:aA H1 (upd H1 t (HO.lst [V.int 1,V.int 2,V.int 3,V.int 3,V.int 2,V.int 4,V.int 3,V.int 5])):=aA.upd ht;generalize upd H1 t (HO.lst [V.int 1,V.int 2,V.int 3,V.int 3,V.int 2,V.int 4,V.int 3,V.int 5])=H2 at hT s2 ⊢;let Z:=s2 _ _ hpr;calc%[7,_,rb,pr,_,0,_,rb,rb,aN.of Z,at0|%[4,_,_,rb,rb,(by show (0:Int)<8;decide)|%[55,t,_,_,_,rb,rb,aN.of hT|%[24,hz1,_,_,rb|?_]]]];obtain⟨n,en,hnm,hn5,hn1⟩:∃n:Nat,(if (z:Int)<(m:Int) then (z:Int) else (m:Int))=(n:Int)/\n<=m/\n<=5/\(1<=m->1<=n):=by
  by_cases c:(z:Int)<(m:Int);.show%[11,z,by rw[if_pos c],xo,hz3|λ_=>hz2]
  .show%[11,m,by rw[if_neg c],ah _,hm5|id]
 rw[en];let Jq:=s1.trans s2;calc%[0,_,rb|%[27,_,rb,_,rb,_,_,rb,rb|%[17,_,rb,pr,_,rb,aN.of Z|λu hu'=>?_]]];let e1:(1:Int)+(n:Int)=((1+n:Nat):Int):=rfl;rw[e1];let Ax:(jT (ds.map V.int) (some (1:Nat)) (some ((1+n:Nat):Int))).length=n:=by rw[Gv xo xo];lia
 generalize Y:jT (ds.map V.int) (some 1) (some ((1+n:Nat):Int))=xs;let aax:xs.length=n:=by rw[<-Y];show Ax
 let Xq:∀v∈xs,∃d:Int,v=.int d:=λv hv=>by rw[<-Y]at hv;let(d,hd,e):=Br hv;show%[d|e]
 let s3:aA H (upd H2 u (HO.lst xs)):=Jq.bC (Jq.free hu');refine%[2,u,rb,%[_|aN.of aq]|fX (K:=K) (a:=u) (xs:=xs) (λi I G=>∃(v7 v8:Option V) (rk:List Nat),I=[some (.ref p),some (.ref a),some (.int k),some (.int m),some (.ref pr),some (.int n),some (.str (S rk)),v7,v8]/\aA H G/\G u=some (.lst xs)/\rk.length=i/\rk.count 63<=(if n<4 then 2 else 1)/\∀c∈rk,c=63\/isLet c)
  %[47,none,none,[],rb,s3,aq,rb,b8 _|λc h=>by simp at h] (λi I G _ h=>by let(_,_,_,_,_,h2,_):=h;show aN.of h2) ?_ ?_]
 .intro i x I G hi z;let(v7,v8,rk,rfl,s4,Yi,F,N,L):=z;let hil:i<xs.length:=(al.mp hi).1;let(d,rfl):=Xq x (aE hi);let XQ:=s4 _ _ hp;let(v,hv,Mp):=zU (xs:=Ts (ones ls)) (n:=ls.length) J (av hl1) (d/8);let(l1,aaE,rfl):=aI.mp Mp;let(c,hcm,rfl):=aI.mp aaE;let hc:=hA.az c hcm;let ah1:c≠63:=by have:=hc.1;lia
  calc%[26,_,rb,_,rb,_,_,rb,rb,%[xt|xt]|%[17,_,rb,p,_,rb,.inl (aN.of XQ)|%[4,_,_,rb,rb,by rw[J];show (0:Int)<(ls.length:Int);lia|%[25,p,_,_,.str (S [c]),rb,rb,aN.of XQ,by rw[J];show hv|?_]]]];refine%[λI' H'=>H'=G/\∃z:Nat,(z=63\/isLet z)/\(rk++[z]).count 63<=(if n<4 then 2 else 1)/\I'=[some (.ref p),some (.ref a),some (.int k),some (.int m),some (.ref pr),some (.int n),some (.str (S rk)),some (.int d),some (.str (S [z]))],?_|?_]
  .let O:(rk++[c]).count 63<=(if n<4 then 2 else 1):=by rw[wd,List.count_singleton];simpa [ah1] using N
   calc%[54,_,rb,_,_,rb,rb,(by show (0:Int)<6;decide),rb,_,rb|uF (λ_=>?_) (λ_=>%[35,rb,c,.inr hc,O|rb])];calc%[0,_,rb|%[30,rb,rk,63,rb,rb|%[17,_,rb,_,_,rb,rb|.inr %[51,_,rb,_,_,rb,rb,_,_,rb,rb,_,rb|?_]]]];calc uF (λB=>%[35,rb,63,.inl rb,?_|rb]) (λ_=>%[35,rb,c,.inr hc,O|rb]);let B:=iL B;rw[wd,List.count_singleton];by_cases M:n<4
   .rw[ap (show (n:Int)<4 from ph gu M)]at B;simp only[if_true]at B;rw[if_pos M];simp;lia
   .rw[ai (show ¬(n:Int)<4 by lia)]at B;simp only[a9,if_false]at B;rw[if_neg M];simp;lia
  .intro I' H' z;let(rfl,z,hz,hzc,rfl):=z;calc%[26,_,rb,_,rb,rk,[z],rb,rb,av (aF (by simp;lia))|?_];calc%[47,_,_,rk++[z],rb,s4,Yi,by simp[F],hzc|λe he=>?_];rcases a6.mp he with y|y;.show L e y
   .rw[am.mp y];show hz
 .intro I G z;let(v7,v8,rk,rfl,s4,Yi,F,N,L):=z;rw[aax]at F;calc%[0,_,rb|q rk G s4 xo (λh=>?_) (λh=>?_) L (λh=>by rw[F];show hn1 h)];.rw[if_pos (by simp_all)]at N;show N
  .rw[if_neg xo]at N;show N
def KtH (H H':Hp):Prop:=∀a o,(∀ys,o≠.lst ys)->H a=some o->H' a=some o
def adx (j:H M=some (.lst ys)):KtH H (upd H M (.lst zs)):=λa o n e=>by
 let ne:a≠M:=λz=>by rw[z,j]at e;show n ys (bg e).symm
 rw[aZ ne];show e
def Et (H:Hp)(a:Addr)(t:bB):Prop:=∃o,H a=some (.iY o (.tup [.int t.1,.int t.2.1,.str (S [t.2.2])]))
def tF (H:Hp)(a:Addr):bB:=match H a with| some (.iY _ (.tup [.int x,.int y,.str z]))=>(x.toNat,y.toNat,z.cps.toList.headD 0)| _=>(0,0,0)
def Vc (h:Et H a t):tF H a=t:=by let(o,h):=h;unfold tF;rw[h];rfl
structure iu (H:Hp)(as:List Addr)(ts:List bB):Prop where
 at_:∀a∈as,Et H a (tF H a)
 eq:as.map (tF H)=ts
def iu.fV (k:KtH H H')(h:iu H as ts):iu H' as ts:=by
 let m:∀a∈as,Et H' a (tF H a):=λa ha=>let %[o|z]:=h.at_ a ha;%[o|k a _ (λ_=>nofun) z]
 let e:∀a∈as,tF H' a=tF H a:=λa ha=>Vc (m a ha);show%[λa ha=>by rw[e a ha];show m a ha|by rw[<-h.eq];show de e]
def iu.mv (k:aA H H')(h:iu H as ts):iu H' as ts:=h.fV λa o _ e=>k a o e
def iu.snoc (h:iu H as ts)(ha:Et H a t):iu H (as++[a]) (ts++[t]):=by
 calc%[λb j=>?_|by rw[bE,h.eq,oy,Vc ha]];rcases a6.mp j with z|z;.show h.at_ b z
 .rw[am.mp z,Vc ha];show ha
def iu.nil:iu H [] []:=%[λa h=>by simp at h|rb]
def iu.len (h:iu H as ts):as.length=ts.length:=by rw[<-h.eq,ab]
def iu.get (h:iu H as ts)(hi:i<as.length):∃t,ts[i]?=some t/\Et H as[i] t:=%[0,tF H as[i],by rw[<-h.eq];simp[hi]|h.at_ _ (ba _)]
def af2 (ts:List bB):kJ (ts.map sw)=kJ ts:=by unfold kJ;rw[cn];rfl
noncomputable def dg (aj:AA)(r w i j:Nat)(l:List Nat)(way:Nat):List bB:=if way=0 then (if j+l.length<=w then cN aj r w i j l else []) else (if i+l.length<=r then (cN (bL aj w) w r j i l).map sw else [])
def Oa (ws aj:AA)(w way:Nat)(c:Nat×Nat):List Nat:=if way=0 then jM ws aj c else jM ws (bL aj w) (c.2,c.1)
noncomputable def qe (ws aj:AA)(r w bi bj:Nat)(rk:List Nat)(way:Nat)(ts:List bB):Bool:=(decide (0<ts.length)&&decide (ts.length<=rk.length))&&(ts.any (λt=>decide (bK t∈cC aj r w bi bj))&&ts.all λt=>decide (t.2.2∈Oa ws aj w way (bK t)))
noncomputable def iV (ws aj:AA)(r w bi bj:Nat)(rk l:List Nat)(p:Nat):List (List bB):=if qe ws aj r w bi bj rk (p%2) (dg aj r w (p/2%r) (p/2/r) l (p%2))=true then d_ (dg aj r w (p/2%r) (p/2/r) l (p%2)) rk else []
def Cr (ws aj:AA)(r w bi bj:Nat)(rk:List Nat):List (List bB):=ws.flatMap λl=>(List.range (2*r*w)).flatMap (iV ws aj r w bi bj rk l)
def Ym {aj:AA}{r w bi bj:Nat}(j:Blk r w aj)(t:bB):bK (sw t)∈cC aj r w bi bj↔bK t∈cC (bL aj w) w r bj bi:=by
 unfold cC;rw[Jo j];by_cases f:isFree aj=true
 .rw[if_pos f,if_pos f,am,am];unfold bK sw;constructor
  .intro h;injection h with h1 h2;rw[h1,h2]
  .intro h;injection h with h1 h2;rw[h1,h2]
 .rw[if_neg f,if_neg f];show(Jp j t.2.1 t.1).symm
def aaU (ts:List bB)(ss):fG (ts.map sw) ss=(fG ts ss).map sw:=by unfold fG;rw[List.map_zipWith,List.zipWith_map_left];rfl
def Jr (ts:List bB)(rk):d_ (ts.map sw) rk=(d_ ts rk).map λx=>x.map sw:=by unfold d_;rw[af2,cn];show de λss _=>aaU ts ss
theorem zE:∀{ls rk ss:List Nat},ss∈eX ls rk->ls.length<=rk.length
 | [],_,_,_=>b8 _
 | c::ls,rk,ss,h=>by
  unfold eX at h;rcases a6.mp h with z|z
  .split at z
   .rename_i j;let(u,q,_):=aI.mp z;have:=zE q;rw[lh j]at this;have:=sD j;simp;lia
   .simp at z
  .split at z
   .rename_i j;let(u,q,_):=aI.mp z;have:=zE q;rw[lh j]at this;have:=sD j;simp;lia
   .simp at z
def Eu {rk:List Nat}(h:x∈d_ ts rk):ts.length<=rk.length:=by
 unfold d_ at h;let(ss,hs,_):=aI.mp h;have:=zE hs;unfold kJ at this
 rwa [ab]at this
def tX {ws aj:AA}{r w bi bj:Nat}{rk:List Nat}(j:rk.length<=7):qe ws aj r w bi bj rk 0 T=true↔nJ (jM ws aj) (cC aj r w bi bj) T=true/\T.length<=rk.length:=by
 unfold qe nJ Oa;simp only[dm,eK,if_true];constructor
 .rintro⟨⟨a,b⟩,c,d⟩;show%[%[%[a|ay b j],d|c]|b]
 .rintro⟨⟨⟨a,_⟩,d,c⟩,b⟩;show%[%[a|b],c|d]
def Ew {ws aj:AA}{r w bi bj:Nat}{rk:List Nat}{T:List bB}(q:Blk r w aj)(j:rk.length<=7):qe ws aj r w bi bj rk 1 (T.map sw)=true↔nJ (jM ws (bL aj w)) (cC (bL aj w) w r bj bi) T=true/\T.length<=rk.length:=by rw[<-tX j];unfold qe Oa;simp only[ab,List.any_map,List.all_map,si,Ym q,if_true,show ¬(1=0) by decide,if_false];rfl
def Ob {r w i j:Nat}(hi:i<r)(q:j<w)(way:Nat)(hw:way<2):2*(j*r+i)+way<2*r*w/\(2*(j*r+i)+way)%2=way/\(2*(j*r+i)+way)/2%r=i/\(2*(j*r+i)+way)/2/r=j:=by
 let e1:(2*(j*r+i)+way)/2=j*r+i:=xo;let h:j*r+i<r*w:=by have:(j+1)*r<=w*r:=fw r q;rw[rS,fc w r]at this;lia
 calc%[by rw[ij];lia,xo,?_|?_];.rw[e1,Nat.add_comm,Nat.add_mul_mod_self_right,Nat.mod_eq_of_lt hi]
 .rw[e1,Nat.add_comm,Nat.add_mul_div_right _ _ xo,Nat.div_eq_of_lt hi,gv]
def Oc {ws aj:AA}{r w bi bj:Nat}{rk:List Nat}(D:Blk r w aj)(hw:∀l∈ws,0<l.length)(q:rk.length<=7)(x:List bB):x∈Cr ws aj r w bi bj rk↔x∈uN ws aj r w bi bj rk:=by
 unfold Cr uN gw;constructor
 .intro h;let(l,j,h):=cw.mp h;let(p,hp,h):=cw.mp h;let hp:=bz.mp hp;unfold iV at h;let F:0<r:=Nat.pos_of_ne_zero λz=>by rw[z]at hp;simp at hp
  let hi:p/2%r<r:=ki _ F;let M:p/2/r<w:=by rw[Nat.div_lt_iff_lt_mul F,fc];rw[ij]at hp;lia
  split at h
  .rename_i ok;rcases Nat.mod_two_eq_zero_or_one p with e|e
   .rw[e]at ok h;unfold dg at ok h;simp only[if_true]at ok h;by_cases hs:p/2/r+l.length<=w
    .rw[if_pos hs]at ok h;calc mI _ (cw.mpr %[0,l,j|cw.mpr %[0,(p/2%r,p/2/r),mH.mpr %[hi|by show p/2/r<_;lia]|?_]]);unfold nO;rw[if_pos ((tX q).mp ok).1];show h
    .rw[if_neg hs]at ok;simp[qe]at ok
   .rw[e]at ok h;unfold dg at ok h;simp only[show ¬(1=0) by decide,if_false]at ok h;by_cases hs:p/2%r+l.length<=r
    .rw[if_pos hs]at ok h;rw[Jr]at h;let(y,J,rfl):=aI.mp h;calc cS _ (aI.mpr %[0,y,cw.mpr %[0,l,j|cw.mpr %[0,(p/2/r,p/2%r),mH.mpr %[M|by show p/2%r<_;lia]|?_]]|rb]);unfold nO;rw[if_pos ((Ew D q).mp ok).1];show J
    .rw[if_neg hs]at ok;simp[qe]at ok
  .simp at h
 .intro h;rcases a6.mp h with z|z
  .let(l,j,z):=cw.mp z;let(c,B,z):=cw.mp z;let(h1,G):=mH.mp B;have:=hw l j;let(p1,p2,p3,p4):=Ob h1 (show c.2<w by lia) 0 xt;unfold nO at z;split at z
   .rename_i ok;calc cw.mpr %[0,l,j|cw.mpr %[0,_,bz.mpr p1|?_]];unfold iV dg;rw[p2,p3,p4];simp only[if_true];rw[if_pos (show c.2+l.length<=w by lia),if_pos ((tX q).mpr %[ok|Eu z])];show z
   .simp at z
  .let(y,L,rfl):=aI.mp z;let(l,j,z):=cw.mp L;let(c,B,z):=cw.mp z;let(h1,G):=mH.mp B;have:=hw l j;let(p1,p2,p3,p4):=Ob (show c.2<r by lia) h1 1 xt;unfold nO at z;split at z
   .rename_i ok;calc cw.mpr %[0,l,j|cw.mpr %[0,_,bz.mpr p1|?_]];unfold iV dg;rw[p2,p3,p4];simp only[show ¬(1=0) by decide,if_false];rw[if_pos (show c.2+l.length<=r by lia),if_pos ((Ew D q).mpr %[ok|Eu z]),Jr];show cE z
   .simp at z
def Yn (h:isLet c):c∈AL:=by
 let h1:=h.1;let j:=h.2;have:=(by decide:∀k:Fin 26,97+k.val∈AL) %[c-97|xo]
 rwa [show 97+(c-97)=c by lia]at this
def Js (j:isLet c):c∈oO ws l k↔(dI l k c).length<=1\/dI l k c∈ws:=by
 let e:(dI l k c).length=(dI l k 97).length:=by simp[dI]
 let p:1<=(dI l k c).length:=by unfold dI;simp;lia
 unfold oO;by_cases h1:(dI l k 97).length=1
 .rw[if_pos h1];show%[λ_=>.inl xo|λ_=>Yn j]
 .rw[if_neg h1,kM,eK];show%[λh=>.inr h.2|λh=>%[Yn j|h.resolve_left xo]]
def Yo {r w:Nat}{aj:AA}(q:Blk r w aj){i j:Nat}(hi:i<r):lineOf (bL aj w) j i 1=lineOf aj i j 0:=by
 unfold lineOf;rw[if_neg xt,if_pos rfl];have:(bL (bL aj w) r).getD i []=j8 (bL aj w) i:=by unfold bL;rw[ar,bb,iX hi];rfl
 rw[<-this,Jh q]
noncomputable def tY (ws aj:AA)(way:Nat)(t:bB):Bool:=decide ((dI (lineOf aj t.1 t.2.1 (1-(way:Int))) (placeOf t.1 t.2.1 (1-(way:Int))) t.2.2).length<=1)||decide (dI (lineOf aj t.1 t.2.1 (1-(way:Int))) (placeOf t.1 t.2.1 (1-(way:Int))) t.2.2∈ws)
def ady {ws aj:AA}{r w way:Nat}(q:Blk r w aj)(hw:way<2){t:bB}(hi:t.1<r)(j:isLet t.2.2):tY ws aj way t=decide (t.2.2∈Oa ws aj w way (bK t)):=by
 unfold tY Oa jM bK;rw[gN,tN,eK,eK,eK];rcases(show way=0\/way=1 by lia) with e|e
 .subst e;rw[if_pos rb,Js j];rfl
 .subst e;rw[if_neg xt,Js j,Yo q hi];rfl
def Vd {aj:AA}{r w i j way:Nat}{l:List Nat}(L:Blk r w aj)(D:∀c∈l,isLet c)(hi:i<r)(M:j<w)(h:t∈dg aj r w i j l way):t.1<r/\t.2.1<w/\isLet t.2.2/\atC aj r w t.1 t.2.1=46:=by
 let B:∀(aj:AA) (r w i j:Nat),i<r->j+l.length<=w->∀t∈cN aj r w i j l,t.1<r/\t.2.1<w/\isLet t.2.2/\atC aj r w t.1 t.2.1=46:=by
  intro aj r w i j hi F t q;unfold cN at q;split at q
  .unfold jC at q;let(k,hk,e):=md.mp q;let hk:=bz.mp hk;unfold jl at e;split at e
   .rename_i J;cases e;calc%[hi,by show j+k<w;lia,?_|J];show isLet (l.getD k 0);rw[ar,ag hk];show D _ (ba _)
   .cases e
  .simp at q
 unfold dg at h;split at h
 .split at h;.show B aj r w i j hi ‹_› t h
  .simp at h
 .split at h
  .let(u,G,rfl):=aI.mp h;let(a,b,c,d):=B (bL aj w) w r j i M ‹_› u G;rw[pU L]at d;show%[b,a,c|d]
  .simp at h
noncomputable def uP (aj:AA)(r w:Nat)(t:bB):List Nat:=[atC aj r w ((t.1:Int)-1) t.2.1,atC aj r w ((t.1:Int)+1) t.2.1,atC aj r w t.1 ((t.2.1:Int)-1),atC aj r w t.1 ((t.2.1:Int)+1)]
noncomputable def uz (aj:AA)(r w bi bj:Nat)(ts:List bB):Bool:=if isFree aj=true then decide ((bi,bj)∈ts.map bK) else ts.any λt=>decide (uP aj r w t≠[46,46,46,46])
def af3 {aj:AA}{r w:Nat}(t:bB):xR aj r w (bK t)=decide (uP aj r w t≠[46,46,46,46]):=by
 unfold xR Bd uP bK poss;simp only[mx,List.any_nil,qi];rw[gN];simp only[tN,Bool.not_eq_true',decide_eq_false_iff_not,eK,xh,and_true,ne_eq];constructor
 .intro h z;simp_all
 .intro h;by_cases a:atC aj r w ((t.1:Int)-1) t.2.1=46 <;> by_cases b:atC aj r w ((t.1:Int)+1) t.2.1=46 <;> by_cases c:atC aj r w t.1 ((t.2.1:Int)-1)=46 <;> simp_all
def aaV {aj:AA}{r w bi bj:Nat}(h:∀t∈ts,t.1<r/\t.2.1<w/\atC aj r w t.1 t.2.1=46):uz aj r w bi bj ts=ts.any λt=>decide (bK t∈cC aj r w bi bj):=by
 unfold uz cC;rw[gN];split
 .rw[eK,lL,aI];constructor
  .intro z;let(t,j,e):=z;show%[0,t,j|ap (am.mpr e)]
  .intro z;let(t,j,e):=z;show%[0,t,j|am.mp (iL e)]
 .rw[lL,lL];let q:∀t∈ts,(decide (uP aj r w t≠[46,46,46,46])=true↔decide (bK t∈pZ aj r w)=true):=λt j=>by
   let(a,b,c):=h t j;rw[<-af3,eK];unfold pZ;rw[kM,dm];let B:bK t∈cells r w:=(tR.mpr %[%[a|b]|c] |> λz=>(kM.mp z).1)
   let hf:frB aj r w (bK t)=true:=(tR.mpr %[%[a|b]|c] |> λz=>(kM.mp z).2)
   show%[λz=>%[B,hf|z]|λz=>z.2.2]
  show%[λ⟨t,j,z⟩=>%[0,t,j|(q t j).mp z]|λ⟨t,j,z⟩=>%[0,t,j|(q t j).mpr z]]
noncomputable def lD (t:bB)(p:List bB×List Nat):List (List bB×List Nat):=(if t.2.2∈p.2 then [(p.1++[t],p.2.erase t.2.2)] else [])++(if 63∈p.2 then [(p.1++[(t.1,t.2.1,PyProof.Rows.up1 t.2.2)],p.2.erase 63)] else [])
def drs:List bB->List (List bB×List Nat)->List (List bB×List Nat)
 | [],F=>F
 | t::ts,F=>drs ts (F.flatMap (lD t))
theorem R_:∀(ts:List bB) (F G:List (List bB×List Nat)),drs ts (F++G)=drs ts F++drs ts G
 | [],_,_=>rfl
 | t::ts,F,G=>by unfold drs;rw[i9,R_ ts]
theorem Hi:∀ts:List bB,drs ts []=[]
 | []=>rfl
 | t::ts=>Hi ts
theorem Od:∀(ts x:List bB) (rk:List Nat),(drs ts [(x,rk)]).map Prod.fst=(eX (kJ ts) rk).map λss=>x++fG ts ss
 | [],x,rk=>by simp[drs,kJ,eX,fG]
 | t::ts,x,rk=>by
  let e:kJ (t::ts)=t.2.2::kJ ts:=rfl;let d:drs (t::ts) [(x,rk)]=drs ts (lD t (x,rk)):=by show drs ts ([(x,rk)].flatMap (lD t))=_;rw[List.flatMap_cons,List.flatMap_nil,ej]
  rw[e,d];unfold lD eX;rw[R_,bE,bE];congr 1
  .show (drs ts (if t.2.2∈rk then [(x++[t],rk.erase t.2.2)] else [])).map Prod.fst=_;split
   .rw[Od ts,cn];calc de λss _=>?_;show x++[t]++fG ts ss=x++fG (t::ts) (t.2.2::ss);rw[be];rfl
   .rw[Hi];rfl
  .show (drs ts (if 63∈rk then [(x++[(t.1,t.2.1,PyProof.Rows.up1 t.2.2)],rk.erase 63)] else [])).map Prod.fst=_;split
   .rw[Od ts,cn];calc de λss _=>?_;show x++[(t.1,t.2.1,PyProof.Rows.up1 t.2.2)]++fG ts ss=x++fG (t::ts) (PyProof.Rows.up1 t.2.2::ss);rw[be];rfl
   .rw[Hi];rfl
def Oe (ts:List bB)(rk):(drs ts [([],rk)]).map Prod.fst=d_ ts rk:=by rw[Od];unfold d_;show de λss _=>List.nil_append _
theorem Cu:∀(ts:List bB) (t:bB) (F:List (List bB×List Nat)),drs (ts++[t]) F=(drs ts F).flatMap (lD t)
 | [],_,_=>rfl
 | _::ts,t,_=>Cu ts t _
def af4 {r w i j way:Nat}{aj:AA}(L:Blk r w aj)(hi:i<r)(M:j<w)(hw:way<2):∃(G:AA) (J F i' B:Nat) (T:bB->bB) (q D:Nat->Nat),(q 0=i/\D 0=j/\∀n,q (n+1)=q n+way/\D (n+1)+way=D n+1)/\
  (∀n,atC aj r w (q n) (D n)=atC G J F i' ((B+n:Nat):Int))/\atC aj r w ((i:Int)-way) ((j:Int)-1+way)=atC G J F i' ((B:Int)-1)/\(∀n,B+n<F↔q n<r/\D n<w)/\(∀n c,T (i',B+n,c)=(q n,D n,c))/\∀l,dg aj r w i j l way=if B+l.length<=F then (cN G J F i' B l).map T else []:=by
 rcases(show way=0\/way=1 by lia) with e|e
 .subst e;calc%[6,aj,r|%[43,w,i,j,id,λ_=>i,λn=>j+n,%[rb,rb|λn=>%[rb|rb]],λn=>rfl,?_,λn=>%[λh=>%[hi|h]|λh=>h.2],λn c=>rfl|λl=>?_]];.rw[show (i:Int)-((0:Nat):Int)=i by lia,show (j:Int)-1+((0:Nat):Int)=j-1 by lia]
  .unfold dg;rw[if_pos rb,jn]
 .subst e;refine%[6,bL aj w,w|%[43,r,j,i,sw,λn=>i+n,λ_=>j,%[rb,rb|λn=>%[rb|rb]],λn=>(pU L _ _).symm,?_,λn=>%[λh=>%[h|M]|λh=>h.1],λn c=>rfl|λl=>?_]]
  .rw[pU L,show (j:Int)-1+((1:Nat):Int)=j by lia];rfl
  .unfold dg;rw[if_neg xt]
def Og {r w bi bj:Nat}{aj aM:AA}(O:uw r w aj aM bi bj){i j:Nat}(hi:i<r)(B:j<w):∃l,aj[i]?=some l/\l.length=w/\l[j]?=some (atC aj r w i j):=by
 let q:i<aj.length:=by rw[O.br.len];show hi
 let hw:aj[i].length=w:=O.br.iZ _ (ba _);calc%[2,aj[i],ag q,hw|?_];let e:atC aj r w i j=(aj.getD (i:Int).toNat []).getD (j:Int).toNat 0:=if_pos %[xo,xo,xo|xo];rw[e,ci,ci,ar (l:=aj),ag q];show _=some (aj[i].getD j 0);rw[ar,ag xo];rfl
def Sd:Sp:=λvs H Q _=>∃(p:Addr) (aj aM:AA) (r w bi bj i j way:Nat) (l:List Nat),vs=[.ref p,.str (S l),.int i,.int j,.int way]/\H p=some (.tup (Ts aj))/\uw r w aj aM bi bj/\i<r/\j<w/\way<2/\lQ l/\
 ∀(q:Addr) (as:List Addr) (H':Hp),aA H H'->H q=none->H' q=some (.lst (as.map V.ref))->iu H' as (dg aj r w i j l way)->Q (.ref q) H'
def aaW (D:aQ K mg "_law_fresh" s_fresh ["_law_rows","_law_word","_law_row","_law_column","_law_way"])(bw:mg "len"=none)(qM:bF P w K mg base "_law_at" 1 ["_law_rows","_law_row","_law_column"] (Kp K)):bF P w K mg base "_law_fresh" 2 ["_law_rows","_law_word","_law_row","_law_column","_law_way"] Sd:=by
 calc D.dz sZ ?_;walk_at"b";let(p,aj,aM,r,w,bi,bj,i,j,way,l,rfl,hp,O,hi,hj,fU,hl,q):=h;let(L,J,G,i',B,T,fi,fj,(f0,g0,fs),hat,ha0,hbd,hT,hfr):=af4 O.br hi hj fU;let hfr:=hfr l;let hl9:=hl.hi;let ji:(Ts aj).length=r:=by rw[ab,O.br.len]
 let r9:=O.r9;let w9:=O.w9;calc%[0,_,(aD (cU (bW mQ (aX qM hr.mono rb (ak aG (ak (aK fK bf cg) (ak (aK cu (aK fK bI aB) cg) au)))) (bR [46] xz) (bY _)) (aJ (aW (dw au))) b_) (aD (aR (i:=5) sZ.nd rb (Or.inl rb) (dw au)) (aD (ac5 cq rb sZ.nd (j:=6) rb (Or.inl rb) bx (λ_=>(aD (cU (QW.qt (vX (bW abt bf (aP (qD K) xw bw bS (ak aG au)) (bY _)) (rU (bW abt bI (aP cV xw bw bS (ak (bH (mq K) aG aB (λ_ _=>rfl)) au)) (bY _))))) (aJ (aW (dw au))) b_) (aD (cU (bW uW (bH rQ (bH (mq K) aG bf (λ_ _=>rfl)) bI (λ_ _=>rfl)) (bR [46] xz) (bY _)) (aJ (gF (Wf K df fe ff iG cL (ak (aaq (ak bf (ak bI (ak cM au)))) au)))) (aJ (cU (bW mQ (acB K bu jI jS u_ (bH rQ (bH (mq K) aG bf (λ_ _=>rfl)) bI (λ_ _=>rfl))) (Kl cM) (bY _)) (aJ (aW (dw au))) b_))) (aD (aR (i:=2) sZ.nd rb (Or.inl rb) (aK cu bf cg)) (aJ (aR (i:=3) sZ.nd rb (Or.inl rb) (aK fK (aK cu bI aB) cg)))))))) (aD (cU (bW mQ (aX qM hr.mono rb (ak aG (ak bf (ak bI au)))) (bR [46] xz) (bY _)) (aJ (aW (dw au))) b_) (aJ (aW cL))))))|?_];let M:dg aj r w i j l way=[]->∀(H':Hp),aA H H'->(0<=sizeLine)/\∀p,H' p=none->Q (.ref p) (upd H' p (.lst [])):=λe H' N=>%[xt|λp hp=>q p [] _ (N.bC (N.free hp)) (N.free hp) aq (by rw[e];show iu.nil)]
 calc%[0,_,rb|%[27,_,rb,_,rb,_,_,rb,rb|%[17,_,rb,_,_,rb,rb|%[17,_,rb,_,_,rb,rb|%[33,p,aj,r,w,_,_,rb,aV.of hp,O.br,O.r1,O.r9,O.w9|%[19,_,_,rb,rb,_,rb|?_]]]]]];rw[ha0];let ends:dg aj r w i j l way≠[]->rB L J G i' B l=true/\(List.range l.length).all (lC L J G i' B l)=true/\B+l.length<=G:=λh=>by
  rw[hfr]at h;split at h
  .unfold cN at h;split at h
   .rename_i h1 h2;rw[dm]at h2;show%[h2.1,h2.2|h1]
   .show absurd rb h
  .show absurd rb h
 by_cases c1:atC L J G (i':Int) ((B:Int)-1)=46
 .rw[ap (show [atC L J G (i':Int) ((B:Int)-1)]=[46] by rw[c1])];calc bO %[zsz 0|λF hF=>?_];let s0:aA H (upd H F (HO.lst [])):=aA.upd hF;refine%[_,rb,l,λn I Y=>∃(v6:Option V) (as:List Addr),I=[some (.ref p),some (.str (S l)),some (.int (fi n:Int)),some (.int (fj n:Int)),some (.int way),some (.ref F),v6]/\aA H Y/\Y F=some (.lst (as.map V.ref))/\iu Y as ((jC L J G i' B l n).map T)/\(List.range n).all (lC L J G i' B l)=true/\B+n<=G,rb,λc hc=>(Ag (hl.az c hc)).2.2.2.1,
   %[28,none,[],by rw[f0,g0];rfl,s0,aq,iu.nil,rb|?_],?_|?_]
  .have:=(hbd 0).mpr %[by rw[f0];show hi|by rw[g0];show hj];lia
  .intro n c I Y k m hn z k0 km;let(v6,as,rfl,N,gn,hL,Z,hjw):=z;let hnl:n<l.length:=(al.mp hn).1;let ec:l.getD n 0=c:=by rw[ar,hn];rfl
   let hp2:=N _ _ hp;let(fs1,fs2):=fs n;let h0:0<aj.length:=by rw[O.br.len];show O.r1
   let hw0:aj[0].length=w:=O.br.iZ _ (ba _);calc%[0,_,rb|%[51,_,rb,p,_,rb,.inr (aV.of hp2),_,_,rb,rb,_,rb|?_]];rw[ji];let af5:¬(fi n<r/\fj n<w)->dg aj r w i j l way=[]:=λz=>by rw[hfr,if_neg];intro y;show z ((hbd n).mp xo)
   by_cases c2:fi n<r
   .rw[ai (show ¬(fi n:Int)>=(r:Int) by lia)];calc bO %[0,_,rb|%[7,_,rb,p,_,_,.str (S aj[0]),rb,rb,aV.of hp2,aO (j:=0) (jB (by simp[h0]))|%[2,_,rb,av (aF xo)|%[19,_,_,rb,rb,_,rb|?_]]]];rw[hw0];by_cases c3:fj n<w
    .rw[ai (show ¬(fj n:Int)>=(w:Int) by lia)];calc bO ?_;let(lr,hlr,Ry,hlc):=Og O c2 c3;rw[hat n]at hlc;calc%[0,_,rb|%[7,_,rb,p,_,_,_,rb,rb,aV.of hp2,aO (jB hlr)|%[48,_,rb,_,_,_,rb,rb,av (aF xo),aO hlc|%[19,_,_,rb,rb,_,rb|?_]]]];let nxt:∀(as':List Addr) (H3:Hp),aA H H3->H3 F=some (.lst (as'.map V.ref))->iu H3 as' ((jC L J G i' B l (n+1)).map T)->lC L J G i' B l n=true->(∃(v6:Option V) (as:List Addr),[some (.ref p),some (.str (S l)),some (.int ((fi n:Int)+(way:Int))),some (.int ((fj n:Int)+1-(way:Int))),some (.int way),some (.ref F),some (.sx (S [c]) k)]=[some (.ref p),some (.str (S l)),some (.int (fi (n+1):Int)),some (.int (fj (n+1):Int)),some (.int way),some (.ref F),v6]/\aA H H3/\H3 F=some (.lst (as.map V.ref))/\iu H3 as ((jC L J G i' B l (n+1)).map T)/\(List.range (n+1)).all (lC L J G i' B l)=true/\B+(n+1)<=G):=λas' H3 s3 h3 vH hft=>by
      calc%[28,some (.sx (S [c]) k),as',?_,s3,h3,vH,by rw[all_succ,Z,hft];rfl|(hbd n).mpr %[c2|c3]];rw[show (fi n:Int)+(way:Int)=(fi (n+1):Int) by lia,show (fj n:Int)+1-(way:Int)=(fj (n+1):Int) by lia]
     by_cases c4:atC L J G (i':Int) ((B+n:Nat):Int)=46
     .rw[ap (show [atC L J G (i':Int) ((B+n:Nat):Int)]=[46] by rw[c4])];calc bV %[2,_,rb,.inl %[16,rb,_|aN.of gn]|%[23,_,rb,_,rb,_,rb|%[37,_,_,_,_,rb,%[k0|km]|λg o hg=>?_]]];let k4:aA Y (upd Y g (HO.iY o (.tup [.int (fi n:Int),.int (fj n:Int),.str (S [c])]))):=aA.upd hg;let mZ:=k4 _ _ gn;let bM:=hL.len;let htl:=zu L J G i' B l n;calc%[15,F,_,_,rb,rb,mZ,by rw[ab];rw[ab]at bM;show aF xo|?_];calc%[27,_,rb,_,rb,_,_,rb,rb|?_];refine%[17,_,rb,_,_,rb,rb|%[17,_,rb,_,_,rb,rb|nxt (as++[g]) _ ((N.trans k4).bC hF) (by rw[aq,bE];rfl) ?_ ?_]]
      .rw[oX];let et:jl L J G i' B l n=some (i',B+n,c):=by unfold jl;rw[if_pos c4,ec]
       rw[et,bE];show iu _ (as++[g]) (_++[T (i',B+n,c)]);rw[hT];show((hL.mv k4).snoc (t:=(fi n,fj n,c)) %[o|aq]).fV (adx mZ)
      .unfold lC;rw[ap c4];rfl
     .rw[ai (show ¬[atC L J G (i':Int) ((B+n:Nat):Int)]=[46] from λz=>c4 (by injection z))];let hlt:atC L J G (i':Int) ((B+n:Nat):Int)<128:=by rw[<-hat n];show Yd O _ _
      calc bO %[0,_,rb|%[7,_,rb,p,_,_,_,rb,rb,aV.of hp2,aO (jB hlr)|%[0,_,rb|%[47,_,_,_,rb,rb,av (aF xo),aO hlc,rb|%[5,_,rb,rb,by show 1<=1000;decide,λe he=>by rw[am.mp he];show hlt|%[22,_,rb,_,[c],rb,rb,_,rb|?_]]]]]];by_cases c5:PyProof.Rows.lo1 (atC L J G (i':Int) ((B+n:Nat):Int))=c
      .rw[ap (show [atC L J G (i':Int) ((B+n:Nat):Int)].map PyProof.Rows.lo1=[c] by rw[<-c5];rfl)];calc bO ?_;calc%[27,_,rb,_,rb,_,_,rb,rb|?_];refine%[17,_,rb,_,_,rb,rb|%[17,_,rb,_,_,rb,rb|nxt as _ N gn ?_ ?_]]
       .rw[oX];let et:jl L J G i' B l n=none:=by unfold jl;rw[if_neg c4]
        rw[et];simpa using hL
       .unfold lC;rw[ec,ap c5,Bool.or_true]
      .rw[ai (show ¬[atC L J G (i':Int) ((B+n:Nat):Int)].map PyProof.Rows.lo1=[c] from λz=>c5 (by injection z))];calc bV (M ?_ Y N);calc eW λz=>?_;let z3:=(gr.mp (ends z).2.1) n (bz.mpr hnl);unfold lC at z3;rw[ai c4,ec,ai c5]at z3;show absurd z3 xt
    .rw[ap (show (fj n:Int)>=(w:Int) by lia)];show bV (M (af5 λz=>c3 z.2) Y N)
   .rw[ap (show (fi n:Int)>=(r:Int) by lia)];show bV (bV (M (af5 λz=>c2 z.1) Y N))
  .intro I Y z;let(v6,as,rfl,N,gn,hL,Z,hjw):=z;calc%[23,_,rb,_,rb,_,rb|%[33,p,aj,r,w,_,_,rb,aV.of (N _ _ hp),O.br,O.r1,O.r9,O.w9|%[19,_,_,rb,rb,_,rb|?_]]];rw[hat l.length];by_cases c2:atC L J G (i':Int) ((B+l.length:Nat):Int)=46
   .rw[ap (show [atC L J G (i':Int) ((B+l.length:Nat):Int)]=[46] by rw[c2])];calc bO %[0,_,rb|q F as Y N hF gn ?_];rw[hfr,if_pos hjw];unfold cN rB;rw[ap c1,Z,ap (show atC L J G (i':Int) ((B:Int)+(l.length:Int))=46 from c2),if_pos (show (true&&true&&true)=true from rb)];show hL
   .rw[ai (show ¬[atC L J G (i':Int) ((B+l.length:Nat):Int)]=[46] from λz=>c2 (by injection z))];calc bV (M ?_ Y N);calc eW λz=>?_;have:=(ends z).1;unfold rB at this;rw[ai (show ¬atC L J G (i':Int) ((B:Int)+(l.length:Int))=46 from c2)]at this;show absurd this xp
 .rw[ai (show ¬[atC L J G (i':Int) ((B:Int)-1)]=[46] from λz=>c1 (by injection z))];calc bV (M ?_ H (aA.refl _));calc eW λz=>?_;have:=(ends z).1;unfold rB at this;rw[ai c1]at this;show absurd this xp
def Yp:Sp:=λvs H Q _=>∃(p b c:Addr) (aj aM:AA) (r w bi bj:Nat) (as:List Addr) (ts:List bB),vs=[.ref p,.ref b,.ref c]/\H p=some (.tup (Ts aj))/\uw r w aj aM bi bj/\H b=some (.tup [.int bi,.int bj])/\H c=some (.lst (as.map V.ref))/\iu H as ts/\ts.length<=9/\
 ∀H',aA H H'->Q (.bl (uz aj r w bi bj ts)) H'
def aaX {r w:Nat}{aj:AA}(B:Blk r w aj):decide (V.int ((aj.flatten.count 46:Nat):Int)=V.int ((r:Int)*(w:Int)))=isFree aj:=by
 let q:=nD B;unfold isFree;rw[gN,eK,gr];constructor
 .intro h c j;injection h with h;let h1:aj.flatten.count 46=aj.flatten.length:=by rw[q];exact_mod_cast h
  rw[<-List.count_eq_length.mp h1 c j];rfl
 .intro h;let h1:aj.flatten.count 46=aj.flatten.length:=List.count_eq_length.mpr λc j=>by
   have:=iL (h c j);injection this with e;show e.symm
  rw[h1,q];congr 1
def Yq (D:aQ K mg "_law_joined" BX ["_law_rows","_law_begin","_law_cells"])(bw:mg "len"=none)(qM:bF P w K mg base "_law_at" 1 ["_law_rows","_law_row","_law_column"] (Kp K)):bF P w K mg base "_law_joined" 2 ["_law_rows","_law_begin","_law_cells"] Yp:=by
 calc D.dz nR (λf bh A outer s H vs Q E Y h=>?_);let(p,b,c,aj,aM,r,w,bi,bj,as,ts,rfl,hp,O,hb,hc,hL,h9,q):=h;let ji:(Ts aj).length=r:=by rw[ab,O.br.len]
 let r9:=O.r9;let w9:=O.w9;let h0:0<aj.length:=by rw[O.br.len];show O.r1
 let Z:aj[0].length=w:=O.br.iZ _ (ba _);calc%[0,_,(aD (cU (bW jA (dU bu PySem.F.slot_str_count PySem.F.type_str_count Ij (dU bu eP eQ vZ (bR [] xz) (ak aG au)) (ak (bR [46] xz) au)) (aK fY (aP cB xw bw bS (ak aG au)) (aP cV xw bw bS (ak (bH dO aG aB (λ_ _=>rfl)) au))) (bY _)) (aJ (aW (gW (acA Y.units) bx (fB rb (eG.of nR.nd xy) (cG bf) (λ_ _ _ _ _=>cI) (λ_ _ _ _ _=>(jr (acs K) aG rF (gZ aB)))) rb))) b_) (aD (eU cq rb (cG bf) (oA rb (cJ (bQ (i:=3) nR.nd rb (Or.inl rb)) (cJ (bQ (i:=4) nR.nd rb (Or.inl rb)) (cJ (bQ (i:=5) nR.nd rb (Or.inl rb)) kO)))) (aD (aR (i:=6) nR.nd rb (Or.inl rb) (aK iI (aX qM Y.mono rb (ak aG (ak (aK fK bI aB) (ak cg au)))) (aX qM Y.mono rb (ak aG (ak (aK cu bI aB) (ak cg au)))))) (aJ (cU (bW mQ (aK iI (aK iI cM (aX qM Y.mono rb (ak aG (ak bI (ak (aK fK cg aB) au))))) (aX qM Y.mono rb (ak aG (ak bI (ak (aK cu cg aB) au))))) (bR [46,46,46,46] xz) (bY _)) (aJ (aW jW)) b_)))) (aJ (aW jW))))|?_];refine%[8,rb,_,rb|%[4,p,aj,rb,rb,aV.of hp|%[21,?_,rb,aj.flatten,46,rb,rb|?_]]]
 .rw[nD O.br];show ay (ip r9 w9) xt
 refine%[17,_,rb,p,_,rb,.inr (aV.of hp)|%[7,_,rb,p,_,_,.str (S aj[0]),rb,rb,aV.of hp,aO (j:=0) (jB (by simp[h0]))|%[0,_,rb|%[30,av (aF xo),_,_,rb,rb|%[14,?_,rb,_,rb|?_]]]]]
 .rw[Z];show .inr %[xo|xo]
 rw[ji,Z,aaX O.br];let N:=hL.len;by_cases c1:isFree aj=true
 .rw[c1];refine bV %[50,_,rb,_,rb,c,rb,%[_|aN.of hc]|λM hM=>jf (K:=K) (a:=c) (xs:=as.map V.ref) (λi ys G=>∃bs:List Addr,ys=bs.map V.ref/\bs.length=i/\G M=some (.lst ys)/\aA H G/\dN G bs ((ts.take i).map bK))
   %[5,[],rb,rb,aq,aA.upd hM|dN.nil] (λi ys G _ h=>by let(_,_,_,_,F,_):=h;show aN.of (F _ _ hc)) ?_ ?_]
  .intro i x ys G hx z;let(bs,rfl,i_,jc,F,L):=z;let(hi,hx):=rfg hx;subst hx;let(t,et,ot,hT):=hL.get hi;calc%[26,_,rb,_,rb,as[i],_,rb,.inl (.inr %[ot|F _ _ hT]),λz=>absurd z.2 (by show ¬(2=3);decide)|λg hg=>?_];let qU:upd G g (.tup [.int t.1,.int t.2.1]) M=some (.lst (bs.map V.ref)):=by rw[aZ (λz=>by rw[<-z,jc]at hg;cases hg)];show jc
   calc%[qU,by rw[ab,i_];show aF xo|dZ.mk (by rw[ab];show hi) %[5,bs++[g],xp,by simp[i_],by rw[aq],(F.bC (F.free hg)).bC hM|?_]];rw[show (ts.take (i+1)).map bK=(ts.take i).map bK++[bK t] by rw[vw,et];simp];show dN.app ((L.mv (aA.upd hg)).fV (cH qU)) (dN.one (p:=bK t) (cH qU _ _ aq))
  .intro ys G z;let(bs,rfl,i_,jc,F,L):=z;rw[ab,N,cy]at L;refine%[29,2,Bf (bi,bj),(ts.map bK).map Bf,xt,.tup (aV.of (F _ _ hb)) (.cons (.int _) (.cons (.int _) .nil)),?_|?_]
   .rw[<-L.eq];show .lst (aN.of jc) (GJ L.at_)
   .have:=q G F;unfold uz at this;rw[if_pos c1,<-nL.mpr (RX (c:=(bi,bj)) (hk:=ts.map bK))]at this;show this
 .rw[gL.mpr c1];refine bO %[13,_,rb,c,rb,%[_|aN.of hc]|fX (K:=K) (a:=c) (xs:=as.map V.ref) (λn I J=>∃(v3 v4 v5 v6:Option V),I=[some (.ref p),some (.ref b),some (.ref c),v3,v4,v5,v6]/\J=H/\((ts.take n).any λt=>decide (uP aj r w t≠[46,46,46,46]))=false)
   %[37,none,none,none,none,rb,rb|rb] (λn I J _ h=>by let(_,_,_,_,_,e,_):=h;rw[e];show aN.of hc) ?_ ?_]
  .intro n x I J hx z;let(v3,v4,v5,v6,rfl,rfl,hn):=z;let(hi,hx):=rfg hx;subst hx;let(t,et,ot,hT):=hL.get hi;calc%[1,as[n],_,rb,.inl (.inr %[ot|hT])|%[16,rb,_|%[20,_,rb,_,_,rb|%[1,_,_,rb,rb|?_]]]];let B:aV K J p (Ts aj):=aV.of hp;calc%[0,_,rb|%[22,_,rb,_,_,rb,rb,_,rb|%[33,p,aj,r,w,_,_,rb,B,O.br,O.r1,O.r9,O.w9|?_]]];calc%[0,_,rb|%[22,_,rb,_,_,rb,rb,_,rb|%[33,p,aj,r,w,_,_,rb,B,O.br,O.r1,O.r9,O.w9|%[4,_,_,rb,rb,av (aF (by show 2<=1000;decide))|?_]]]];calc%[9,_,rb,_,rb|%[27,_,rb,_,rb,_,_,rb,rb|%[33,p,aj,r,w,_,_,rb,B,O.br,O.r1,O.r9,O.w9|%[4,_,_,rb,rb,av (aF (by show 3<=1000;decide))|?_]]]];calc%[0,_,rb|%[27,_,rb,_,rb,_,_,rb,rb|%[33,p,aj,r,w,_,_,rb,B,O.br,O.r1,O.r9,O.w9|%[4,_,_,rb,rb,av (aF (by show 4<=1000;decide))|%[19,uP aj r w t,[46,46,46,46],rb,rb,_,rb|?_]]]]];let hany:(ts.take (n+1)).any (λt=>decide (uP aj r w t≠[46,46,46,46]))=decide (uP aj r w t≠[46,46,46,46]):=by
    rw[bX,et,List.any_append,hn];simp
   by_cases cb:uP aj r w t=[46,46,46,46]
   .rw[ap cb];calc bO %[37,_,_,_,_,rb,rb|?_];rw[hany];show ai (λz=>z cb)
   .rw[ai cb];calc bV ?_;have:=q J (aA.refl _);unfold uz at this;rw[if_neg c1,show (ts.any λt=>decide (uP aj r w t≠[46,46,46,46]))=true from lL.mpr %[0,t,aE et|ap cb]]at this;show this
  .intro I J z;let(v3,v4,v5,v6,rfl,rfl,hn):=z;rw[ab,N,cy]at hn;have:=q J (aA.refl _);unfold uz at this;rw[if_neg c1,hn]at this;show this
def Jt:Sp:=λvs H Q _=>∃(p d c:Addr) (aj aM ws:AA) (r w bi bj way:Nat) (as:List Addr) (ts:List bB),vs=[.ref p,.ref d,.ref c,.int way]/\H p=some (.tup (Ts aj))/\uw r w aj aM bi bj/\H d=some (.lst (Ts ws))/\H c=some (.lst (as.map V.ref))/\iu H as ts/\way<2/\(∀t∈ts,t.1<r/\t.2.1<w)/\Q (.bl (ts.all (tY ws aj way))) H
def Ve (D:aQ K mg "_law_crossed" zf ["_law_rows","_law_words_here","_law_cells","_law_way"])(bw:mg "len"=none)(adz:bF P w K mg base "_law_cross" 2 ["_law_rows","_law_row","_law_column","_law_way","_law_letter"] RL):bF P w K mg base "_law_crossed" 3 ["_law_rows","_law_words_here","_law_cells","_law_way"] Jt:=by
 calc D.dz oM ?_;intro f bh A outer s H vs Q E hr h;let(p,d,c,aj,aM,ws,r,w,bi,bj,way,as,ts,rfl,hp,O,hd,hc,hL,fU,j_,q):=h;let N:=hL.len;let r9:=O.r9;let w9:=O.w9;calc%[0,_,(aD (eU cq rb (cG bf) (oA rb (cJ (bQ (i:=4) oM.nd rb (Or.inl rb)) (cJ (bQ (i:=5) oM.nd rb (Or.inl rb)) (cJ (bQ (i:=6) oM.nd rb (Or.inl rb)) kO)))) (aD (aR (i:=7) oM.nd rb (Or.inl rb) (aX adz hr.mono rb (ak aG (ak cg (ak cL (ak (aK fK aB bI) (ak cM au))))))) (aJ (cU (QW.qt (Dg (bW S8 (aP cV xw bw bS (ak iz au)) aB (bY _)) (zR (bW KJ iz bx rb)))) (aJ (aW jW)) b_)))) (aJ (aW jW)))|?_];refine%[13,_,rb,c,rb,%[_|aN.of hc]|fX (K:=K) (a:=c) (xs:=as.map V.ref) (λn I J=>∃(v4 Y Z v7:Option V),I=[some (.ref p),some (.ref d),some (.ref c),some (.int way),v4,Y,Z,v7]/\J=H/\(ts.take n).all (tY ws aj way)=true)
   %[37,none,none,none,none,rb,rb|rb] (λn I J _ h=>by let(_,_,_,_,_,e,_):=h;rw[e];show aN.of hc) ?_ ?_]
 .intro n x I J hx z;let(v4,Y,Z,v7,rfl,rfl,hn):=z;let(hi,hx):=rfg hx;subst hx;let(t,et,ot,hT):=hL.get hi;let G:=aE et;let(h1,h2):=j_ t G;calc%[1,as[n],_,rb,.inl (.inr %[ot|hT])|%[16,rb,_|%[20,_,rb,_,_,rb|%[1,_,_,rb,rb|?_]]]];calc%[23,_,rb,_,rb,_,rb|%[22,_,rb,_,_,rb,rb,_,rb|%[6,p,aj|%[70,r,w,t.1,t.2.1,t.2.2,1-(way:Int),rb,hp,O.br|%[O.r1,O.r9,O.w9,O.cr,h1,h2,xo|?_]]]]];let M:(dI (lineOf aj t.1 t.2.1 (1-(way:Int))) (placeOf t.1 t.2.1 (1-(way:Int))) t.2.2).length<=100:=by
   have:=mG O.br h1 (j:=t.2.1) (way:=1-(way:Int));have:(lineOf aj t.1 t.2.1 (1-(way:Int))).length<=9:=by rw[this];split <;> assumption
   unfold dI;rw[ax,ab,bP,ab];let a:=qx ((lineOf aj t.1 t.2.1 (1-(way:Int))).take (placeOf t.1 t.2.1 (1-(way:Int))));let b:=ux ((lineOf aj t.1 t.2.1 (1-(way:Int))).drop (placeOf t.1 t.2.1 (1-(way:Int))+1));rw[bn]at a;rw[cz]at b;lia
  let F:(ts.take (n+1)).all (tY ws aj way)=tY ws aj way t:=by rw[bX,et,List.all_append,hn];simp
  let hno:tY ws aj way t=false->Q (.bl false) J:=λe=>by rw[show ts.all (tY ws aj way)=false from List.all_eq_false.mpr %[0,t,G|by rw[e];decide]]at q;show q
  let B:tY ws aj way t=(decide ((dI (lineOf aj t.1 t.2.1 (1-(way:Int))) (placeOf t.1 t.2.1 (1-(way:Int))) t.2.2).length<=1)||decide (dI (lineOf aj t.1 t.2.1 (1-(way:Int))) (placeOf t.1 t.2.1 (1-(way:Int))) t.2.2∈ws)):=rfl;generalize dI (lineOf aj t.1 t.2.1 (1-(way:Int))) (placeOf t.1 t.2.1 (1-(way:Int))) t.2.2=cr at M B ⊢;calc%[71,_,rb,cr,rb,av (aF xo),_,_,rb,rb,_,rb|?_];by_cases c1:cr.length<=1
  .rw[ai (show ¬(1:Int)<(cr.length:Int) by lia)];calc bO (bO %[37,_,_,_,_,rb,rb|?_]);rw[F,B,ap c1];rfl
  .rw[ap (show (1:Int)<(cr.length:Int) by lia)];refine bV %[0,_,rb|%[54,_,rb,d,_,rb,.inl (aN.of hd),rb,?_,_,rb|?_]]
   .rw[gr];intro v hv;let(l,_,rfl):=aI.mp hv;rfl
   .rw[show (if true then !inV (V.str (S cr)) (Ts ws) else inV (V.str (S cr)) (Ts ws))=!inV (V.str (S cr)) (Ts ws) from rb,afP];by_cases L:cr∈ws
    .rw[ap L];calc bO %[37,_,_,_,_,rb,rb|?_];rw[F,B,ap L,Bool.or_true]
    .rw[ai L];calc bV (hno ?_);rw[B,ai c1,ai L];rfl
 .intro I J z;let(v4,Y,Z,v7,rfl,rfl,hn):=z;rw[ab,N,cy]at hn;rw[hn]at q;show q
def zF (H:Hp)(k:Nat)(a:Addr)(x:List bB×List Nat):Prop:=x.1.length=k/\x.2.length<=100/\∃(j:Addr) (bs:List Addr),H a=some (.tup [.ref j,.str (S x.2)])/\H j=some (.tup (bs.map V.ref))/\dM H bs x.1
def zF.fV (m:∀a xs,H a=some (.tup xs)->H' a=some (.tup xs))(h:zF H k a x):zF H' k a x:=let %[h1,h2,la,bs,h3,h4|h5]:=h;%[21,h1,h2,la,bs,m _ _ h3,m _ _ h4|h5.fV m]
theorem Ah {α β:Type}{R:α->β->Prop}:∀{l:List α} {m:List β} {i:Nat} {p:α},Paired R l m->l[i]?=some p->∃q,m[i]?=some q/\R p q
 | _,_,_,_,.nil,h=>by simp at h
 | _,_,0,_,.cons r _,h=>%[0,_,rb|by simp at h;rw[<-h];show r]
 | _,_,i+1,_,.cons _ t,h=>Ah (i:=i) t (by simpa using h)
def Yr (t:bB)(p:List bB×List Nat):(lD t p).length<=2:=by unfold lD;rw[ax];split <;> split <;> simp
theorem Hj (ts:List bB)(rk):∀n,(drs (ts.take n) [([],rk)]).length<=2^n
 | 0=>by simp[drs]
 | n+1=>by
  let j:=Hj ts rk n;rw[ie,bX];cases e:ts[n]? with| none=>rw[Option.toList_none,ej];lia| some t=>show (drs (ts.take n++[t]) _).length<=_;rw[Cu];show ay (vL λx _=>Yr t x) (fw 2 j)
def Hl {rk:List Nat}(h:x∈d_ ts rk):x.map bK=ts.map bK:=by
 unfold d_ at h;let(ss,hs,rfl):=aI.mp h;let j:ss.length=ts.length:=by rw[rJ _ _ hs];unfold kJ;rw[ab]
 unfold fG;rw[List.map_zipWith];calc sT (by simp[j]) λi h1 q=>?_;simp[bK]
def adA {rk:List Nat}(h:x∈d_ ts rk):x.map My.rk=ts.map My.rk:=by have:=congrArg (List.map λc:Nat×Nat=>c.1*1000+c.2) (Hl h);rw[cn,cn]at this;show this
def Ju:Sp:=λvs H Q _=>∃(c:Addr) (as:List Addr) (ts:List bB) (rk:List Nat),vs=[.ref c,.str (S rk)]/\H c=some (.lst (as.map V.ref))/\iu H as ts/\ts.length<=7/\(∀t∈ts,t.2.1<1000/\isLet t.2.2)/\(ts.map My.rk).Pairwise (·<·)/\rk.length<=100/\
 ∀(j:Addr) (ds:List Addr) (H':Hp),aA H H'->H j=none->H' j=some (.lst (ds.map V.ref))->Paired (mK H') ds (d_ ts rk)->ds.length<=128->Q (.ref j) H'
def Vf (D:aQ K mg "_law_dressed" zj ["_law_cells","_law_rack_here"])(bU:mg "tuple"=none)(dJ:mg "sorted"=none):bF P w K mg base "_law_dressed" 1 ["_law_cells","_law_rack_here"] Ju:=by
 calc D.dz iD ?_;intro f bh A outer s H vs Q E hr h;let(c,as,ts,rk,rfl,hc,hL,h7,GX,af6,hrk,q):=h;let hal:=hL.len;calc%[0,_,(aD (aR (i:=2) iD.nd rb (Or.inl rb) (dw (ak (cW (ak (cW au) (ak bx au))) au))) (aD (eU cq rb (cG aG) (aao rb (cJ (bQ (i:=3) iD.nd rb (Or.inl rb)) (cJ (bQ (i:=4) iD.nd rb (Or.inl rb)) (cJ (bQ (i:=5) iD.nd rb (Or.inl rb)) kO)))) (aD (aR (i:=6) iD.nd rb (Or.inl rb) (dw au)) (aD (eU cq rb (cG bf) (oA rb (cJ (bQ (i:=7) iD.nd rb (Or.inl rb)) (cJ (bQ (i:=8) iD.nd rb (Or.inl rb)) kO))) (aD (qu (cU (bW Dd (Kl cL) jX rb) (aJ (gF (dU df fe ff iG cM (ak (cW (ak (aK QZ iz (cW (ak (cW (ak bI (ak cg (ak (Kl cL) au)))) au))) (ak (dU bu rq rL Mw jX (ak cL (ak (ac3 [] xz) (ak aB au)))) au))) au)))) b_)) (aJ (qu (cU (bW Dd (bR [63] xz) jX rb) (aJ (gF (dU df fe ff iG cM (ak (cW (ak (aK QZ iz (cW (ak (cW (ak bI (ak cg (ak (qp bu sv sC Wd (Kl cL)) au)))) au))) (ak (dU bu rq rL Mw jX (ac6 [63] [] xz xz)) au))) au)))) b_))))) (aJ (aR (i:=2) iD.nd rb (Or.inl rb) cM))))) (aJ (aW (jZ (ns:=["_law_laid","_law_left"]) rb (gU.of ["_law_cells","_law_rack_here","_law_found","_law_row","_law_column","_law_letter","_law_more",".7",".8"] [7,8] xy) (cG bf) (λ_ _ _ _ _=>(Fy K rb (show (["_law_laid","_law_left","_law_cells","_law_rack_here","_law_found","_law_row","_law_column","_law_letter","_law_more",".7",".8"]:List Str).Nodup by decide +kernel) rb rb xw xw)) (λ_ _ _ _ _=>cI) (λ_ _ _ _ _=>(cY (Fx K) xw bU di (ak (aP (Gk K) xw dJ gf (ak aG au)) au))))))))|?_];calc%[zsz 0|λp1 hp1=>?_];let k1:aA H (upd H p1 (HO.tup [])):=aA.upd hp1;let e1:upd H p1 (HO.tup []) p1=some (.tup []):=aq;generalize upd H p1 (HO.tup [])=H1 at k1 e1 ⊢;calc%[2,_,rb,zsz 2|λp2 hp2=>?_];let k2:aA H1 (upd H1 p2 (HO.tup [.ref p1,.str (S rk)])):=aA.upd hp2;let e2:upd H1 p2 (HO.tup [.ref p1,.str (S rk)]) p2=some (.tup [.ref p1,.str (S rk)]):=aq;generalize upd H1 p2 (HO.tup [.ref p1,.str (S rk)])=H2 at k2 e2 ⊢;calc%[zsz 1|λF hF=>?_];let k3:aA H2 (upd H2 F (HO.lst [.ref p2])):=aA.upd hF;let e3:upd H2 F (HO.lst [.ref p2]) F=some (.lst [.ref p2]):=aq;generalize upd H2 F (HO.lst [.ref p2])=H3 at k3 e3 ⊢;let s03:=(k1.trans k2).trans k3;let qy:H F=none:=(k1.trans k2).free hF;refine%[13,_,rb,c,rb,%[_|aN.of (s03 _ _ hc)]|fX (K:=K) (a:=c) (xs:=as.map V.ref) (λn I G=>∃(v3 v4 v5 v6 v7 v8:Option V) (F:Addr) (ds:List Addr),I=[some (.ref c),some (.str (S rk)),some (.ref F),v3,v4,v5,v6,v7,v8]/\aA H G/\H F=none/\G F=some (.lst (ds.map V.ref))/\Paired (zF G n) ds (drs (ts.take n) [([],rk)]))
  %[10,none,none,none|%[38,none,none,none,F,[p2],rb,s03,qy,e3|?_]] (λn I G _ h=>by let(_,_,_,_,_,_,_,_,_,sm,_):=h;show aN.of (sm _ _ hc)) ?_ ?_]
 .show .cons %[21,rb,hrk,p1,[],k3 _ _ e2,k3 _ _ (k2 _ _ e1)|dM.nil] .nil
 .intro n x I G hx z;let(v3,v4,v5,v6,v7,v8,F,ds,rfl,sm,hFn,zG,hP):=z;let(hi,hx):=rfg hx;let(t,et,o,hT):=hL.get hi;let(ht1,Nt):=GX t (aE et);let Yg:n<=6:=xo;let hdl:ds.length<=64:=by
   rw[ke hP];show ay (Hj ts rk n) (qh xt Yg)
  calc%[69,as[n],o,_,_,_,hx.symm,sm _ _ hT|λk hk=>%[6,_,_|%[16,rb,_|%[17,_,rb,_,_,rb,rb|?_]]]];calc%[zsz 0|λM hM=>?_];let k4:aA G (upd G M (HO.lst [])):=aA.upd hM;let e4:upd G M (HO.lst []) M=some (.lst []):=aq;generalize upd G M (HO.lst [])=G4 at k4 e4 ⊢;let hM0:H M=none:=sm.free hM;refine%[13,_,rb,F,rb,%[_|aN.of (k4 _ _ zG)]|fX (K:=K) (a:=F) (xs:=ds.map V.ref) (λm I G5=>∃(v7 v8:Option V) (es:List Addr),I=[some (.ref c),some (.str (S rk)),some (.ref F),some (.int (t.1:Int)),some (.int (t.2.1:Int)),some (.sx (S [t.2.2]) k),some (.ref M),v7,v8]/\aA G G5/\G5 F=some (.lst (ds.map V.ref))/\G5 M=some (.lst (es.map V.ref))/\Paired (zF G5 (n+1)) es (((drs (ts.take n) [([],rk)]).take m).flatMap (lD t))/\es.length<=2*m)
   %[47,_,_,[],rb,k4,k4 _ _ zG,e4,.nil|b8 _] (λm I G5 _ h=>by let(_,_,_,_,_,h2,_):=h;show aN.of h2) ?_ ?_]
  .intro m x I G5 hx2 z;let(v7,v8,es,rfl,s5,hF5,Nm,hE,Z):=z;let(hj,hx2):=rfg hx2;subst hx2;let(y,ey,hy1,hy2,la,bs,Q9,hy4,Sg):=Ah hP (ag hj);calc%[53,ds[m],_,rb,aV.of (s5 _ _ Q9),rb,_,_,rb,_,_,rb,rb|?_];let inv:∀(zs:List (List bB×List Nat)) (j:Hp) (N:List Addr),aA G j->j F=some (.lst (ds.map V.ref))->j M=some (.lst (N.map V.ref))->N.length<=2*m+zs.length->zs.length<=1->Paired (zF j (n+1)) N (((drs (ts.take n) [([],rk)]).take m).flatMap (lD t)++zs)->∀(qX B:Addr) (L:Hp) (d:Nat) (left:List Nat),aA j L->left.length<=100->L qX=some (.tup (bs.map V.ref++[.ref B]))->L B=some (.tup [.int t.1,.int t.2.1,.str (S [d])])->∀J,L J=none->
     ∃Oh:List Addr,N.map V.ref++[V.ref J]=Oh.map V.ref/\Oh.length<=2*m+(zs.length+1)/\upd L J (.tup [.ref qX,.str (S left)]) M=some (.lst (N.map V.ref))/\(N.map V.ref).length<sizeLine/\aA G (upd (upd L J (.tup [.ref qX,.str (S left)])) M (.lst (N.map V.ref++[V.ref J])))/\upd (upd L J (.tup [.ref qX,.str (S left)])) M (.lst (N.map V.ref++[V.ref J])) F=some (.lst (ds.map V.ref))/\upd (upd L J (.tup [.ref qX,.str (S left)])) M (.lst (N.map V.ref++[V.ref J])) M=some (.lst (N.map V.ref++[V.ref J]))/\
      Paired (zF (upd (upd L J (.tup [.ref qX,.str (S left)])) M (.lst (N.map V.ref++[V.ref J]))) (n+1)) Oh (((drs (ts.take n) [([],rk)]).take m).flatMap (lD t)++(zs++[(y.1++[(t.1,t.2.1,d)],left)])):=by
    intro zs j N Y Bh jc hl6 hz1 xT qX B L d left RZ hleft hla hg1 J hg2;let k8:aA L (upd L J (HO.tup [.ref qX,.str (S left)])):=aA.upd hg2;let e8:upd L J (HO.tup [.ref qX,.str (S left)]) J=some (.tup [.ref qX,.str (S left)]):=aq;generalize upd L J (HO.tup [.ref qX,.str (S left)])=G8 at k8 e8 ⊢;let o7:=k8 _ _ (RZ _ _ jc);let Oi:=RZ.trans k8;let nFM:F≠M:=λz=>by rw[<-z,zG]at hM;cases hM
    calc%[76,N++[J],xp,by simp;lia,o7,?_,(Y.trans Oi).bC hM,by rw[aZ nFM];show Oi _ _ Bh,aq|?_];.rw[ab];show aF xo
    .rw[<-be];calc Paired.snoc (Paired.Fd xT λa b z=>z.fV λa xs e=>cH o7 _ _ (Oi _ _ e)) ?_;calc%[21,by simp[hy1],hleft,qX,bs++[B],cH o7 _ _ e8,?_|?_];.rw[bE];show cH o7 _ _ (k8 _ _ hla)
     .show((Sg.mv (Y.trans Oi)).snoc (t:=(t.1,t.2.1,d)) (k8 _ _ hg1)).fV (cH o7)
   refine%[λI j=>∃(zs:List (List bB×List Nat)) (N:List Addr),zs=(if t.2.2∈y.2 then [(y.1++[t],y.2.erase t.2.2)] else [])/\I=[some (.ref c),some (.str (S rk)),some (.ref F),some (.int (t.1:Int)),some (.int (t.2.1:Int)),some (.sx (S [t.2.2]) k),some (.ref M),some (.ref la),some (.str (S y.2))]/\aA G j/\j F=some (.lst (ds.map V.ref))/\j M=some (.lst (N.map V.ref))/\N.length<=2*m+zs.length/\Paired (zF j (n+1)) N (((drs (ts.take n) [([],rk)]).take m).flatMap (lD t)++zs),?_|?_]
   .calc%[0,_,rb|%[22,_,rb,t.2.2,y.2,rb,rb,_,rb|?_]];by_cases c1:t.2.2∈y.2
    .rw[ap c1];calc bV %[39,_,rb,.inl %[16,rb,_|aN.of Nm],_,rb|%[50,_,rb,_,rb,_,rb,zsz 3|λB hg1=>?_]];let k6:aA G5 (upd G5 B (HO.tup [.int t.1,.int t.2.1,uR (.sx (S [t.2.2]) k)])):=aA.upd hg1;let e6:upd G5 B (HO.tup [.int t.1,.int t.2.1,uR (.sx (S [t.2.2]) k)]) B=some (.tup [.int t.1,.int t.2.1,.str (S [t.2.2])]):=aq;show 1<=sizeLine/\_;generalize upd G5 B (HO.tup [.int t.1,.int t.2.1,uR (.sx (S [t.2.2]) k)])=j at k6 e6 ⊢;calc%[xt|λg hg=>?_];let k7:aA j (upd j g (HO.tup [.ref B])):=aA.upd hg;let e7:upd j g (HO.tup [.ref B]) g=some (.tup [.ref B]):=aq;generalize upd j g (HO.tup [.ref B])=L at k7 e7 ⊢;let Ys:=k6.trans k7;calc%[45,la,g,_,_,rb,rb,aV.of (Ys _ _ (s5 _ _ hy4)),aV.of e7,?_,λ_=>e7,λz=>absurd z xp|λqX G8 s8 h8=>?_];.rw[ab,Sg.len,hy1];show av (aF (by simp;lia))
     let Yt:=Ys.trans s8;let sG8:=s5.trans Yt;calc%[39,_,rb,rb,_,rb|λk2 Q8 hlt=>?_];let(c0,c2):=hlt _ _ %[41,as[n],o,_,sG8 _ _ (sm _ _ hT)|hk];calc%[45,y.2,t.2.2,k,k2,rb,rb,c1,xo,c0,c2,zsz 2|λJ hg2=>?_];let(Oh,i1,i2,i3,i4,i5,i6,i7,i8):=inv [] G5 es s5 hF5 Nm (by simpa using Z) xt (by simpa using hE) qX B G8 t.2.2 (y.2.erase t.2.2) Yt (ay mP hy2) h8 (s8 _ _ (k7 _ _ e6)) J hg2;calc%[15,M,_,_,rb,rb,i3,i4|%[32,_,Oh,rb,rb,i5,i6,by rw[i7,i1],?_|?_]];.rw[if_pos c1];simpa using i2
     .rw[if_pos c1];simpa using i8
    .rw[ai c1];calc bO %[32,_,es,rb,rb,s5,hF5,Nm,?_|?_];.rw[if_neg c1];simpa using Z
     .rw[if_neg c1];simpa using hE
   .intro I' j z;let(zs,N,hzs,rfl,Y,Bh,jc,hl6,xT):=z;let yG:zs.length<=1:=by rw[hzs];split <;> simp
    let Oj:(((drs (ts.take n) [([],rk)]).take (m+1)).flatMap (lD t))=((drs (ts.take n) [([],rk)]).take m).flatMap (lD t)++(zs++(if 63∈y.2 then [(y.1++[(t.1,t.2.1,PyProof.Rows.up1 t.2.2)],y.2.erase 63)] else [])):=by rw[bX,ey,i9,hzs];simp[lD]
    rw[Oj];calc%[0,_,?_|λI' H' h=>h];calc%[22,_,rb,63,y.2,rb,rb,_,rb|?_];by_cases c1:63∈y.2
    .rw[ap c1,if_pos c1];calc bV %[39,_,rb,.inl %[16,rb,_|aN.of jc],_,rb|%[50,_,rb,_,rb,_,rb,rb|%[42,[t.2.2],rb,rb,by show 1<=1000;decide,λe he=>by rw[am.mp he];show(Ag Nt).2.2.2.1,zsz 3|λB hg1=>?_]]];let k6:aA j (upd j B (HO.tup [.int t.1,.int t.2.1,.str (S ([t.2.2].map PyProof.Rows.up1))])):=aA.upd hg1;let e6:upd j B (HO.tup [.int t.1,.int t.2.1,.str (S ([t.2.2].map PyProof.Rows.up1))]) B=some (.tup [.int t.1,.int t.2.1,.str (S [PyProof.Rows.up1 t.2.2])]):=aq;show 1<=sizeLine/\_;generalize upd j B (HO.tup [.int t.1,.int t.2.1,.str (S ([t.2.2].map PyProof.Rows.up1))])=L at k6 e6 ⊢;calc%[xt|λg hg=>?_];let k7:aA L (upd L g (HO.tup [.ref B])):=aA.upd hg;let e7:upd L g (HO.tup [.ref B]) g=some (.tup [.ref B]):=aq;generalize upd L g (HO.tup [.ref B])=G8 at k7 e7 ⊢;let Oi:=k6.trans k7;calc%[45,la,g,_,_,rb,rb,aV.of (Oi _ _ (Y _ _ hy4)),aV.of e7,?_,λ_=>e7,λz=>absurd z xp|λqX G9 s9 h9=>?_];.rw[ab,Sg.len,hy1];show av (aF (by simp;lia))
     let s69:=Oi.trans s9;calc%[2,_,rb,rb|λk2 Q8=>?_];calc%[45,y.2,63,k2,k2+1,rb,rb,c1,xo,Q8,e_ _,zsz 2|λJ hg2=>?_];let(Oh,i1,i2,i3,i4,i5,i6,i7,i8):=inv zs j N Y Bh jc hl6 yG xT qX B G9 (PyProof.Rows.up1 t.2.2) (y.2.erase 63) s69 (ay mP hy2) h9 (s9 _ _ (k7 _ _ e6)) J hg2;show%[15,M,_,_,rb,rb,i3,i4|%[47,_,_,Oh,rb,i5,i6,by rw[i7,i1],i8|xo]]
    .rw[ai c1,if_neg c1,ej];show bO %[47,_,_,N,rb,Y,Bh,jc,xT|xo]
  .intro I' j z;let(v7,v8,es,rfl,Y,Bh,jc,hE,Z):=z;rw[ab,cx (kN (ke hP).symm),<-Cu]at hE;calc%[0,_,rb|%[10,_,_,_|%[38,_,_,_,M,es,rb,sm.trans Y,hM0,jc|?_]]];rw[bX,et];show hE
 .intro I G z;let(v3,v4,v5,v6,v7,v8,F,ds,rfl,sm,hFn,zG,hP):=z;rw[ab,hal,cy]at hP;let hdl:ds.length<=128:=by
   rw[ke hP];have:=Hj ts rk ts.length;rw[cy]at this;show ay this (qh xt h7)
  refine%[13,_,rb,F,rb,%[_|aN.of zG]|λM hM=>O5 (f:=gC [7,8] 0) (tt:=iK) (KT:=K) (xs:=ds.map V.ref) (λi ys j=>∃es:List Addr,ys=es.map V.ref/\es.length=i/\j M=some (.lst ys)/\aA G j/\Paired (mK j) es ((d_ ts rk).take i))
   %[5,[],rb,rb,aq,aA.upd hM|.nil] (λi ys j _ h=>by let(_,_,_,_,Y,_):=h;show aN.of (Y _ _ zG)) ?_ ?_]
  .intro i x ys j hx z;let(es,rfl,Z,jc,Y,hE):=z;let(hi,hx):=rfg hx;let(y,ey,hy1,hy2,la,bs,Q9,hy4,Sg):=Ah hP (ag hi);let eyl:(d_ ts rk)[i]?=some y.1:=by rw[<-Oe,bb,ey];rfl
   let aaY:=adA (aE eyl);calc abC hx.symm (aV.of (Y _ _ Q9)) ?_;let hB:=Sg.mv Y;let i_:bs.length<=7:=by have:=congrArg List.length aaY;rw[ab,ab]at this;rw[Sg.len];lia
   let ecf:bs.map (λa=>My.rk (tO j a))=y.1.map My.rk:=by rw[<-hB.eq,cn];rfl
   refine%[0,_,rb|%[47,la,bs,λa=>My.rk (tO j a),rb,.inr (aV.of (Y _ _ hy4)),xo,λa ha=>?_,?_|λp1 O hp1 pm pw=>?_]]
   .let hm:tO j a∈y.1:=by rw[<-hB.eq];show cE ha
    have:bK (tO j a)∈ts.map bK:=by rw[<-Hl (aE eyl)];show cE hm
    let(u,hu,eu):=aI.mp this;let h2:u.2.1=(tO j a).2.1:=congrArg (λc:Nat×Nat=>c.2) eu;show%[29,(tO j a).1,(tO j a).2.1,[.str (S [(tO j a).2.2])],.inl (hB.at_ a ha),by rw[<-h2];show(GX u hu).1,rb|.inr %[_|rb]]
   .rw[ecf,aaY];show List.Pairwise.imp (λ{a b} hab=>a_ hab) af6
   .let k7:aA j (upd j p1 (HO.lst (O.map V.ref))):=aA.upd hp1;calc%[3,p1,_,rb|.inl %[aN.of aq|λT hT=>?_]];let k8:=k7.bC (o:=HO.tup (O.map V.ref)) (k7.free hT);let e8:upd (upd j p1 (HO.lst (O.map V.ref))) T (HO.tup (O.map V.ref)) T=some (.tup (O.map V.ref)):=aq;generalize upd (upd j p1 (HO.lst (O.map V.ref))) T (HO.tup (O.map V.ref))=G8 at k8 e8 ⊢;let o7:=k8 _ _ jc;let(hl',oZ):=hB.perm pm;let e7:O.map (tO j)=y.1:=U_ (by rw[cn];show pw) (by rw[aaY];show af6) oZ;rw[e7]at hl';calc%[o7,by rw[ab,Z];show aF xo|dZ.mk (by rw[ab];show hi) %[5,es++[T],xp,by simp[Z],by rw[aq],(Y.trans k8).bC hM|?_]];rw[bX,eyl];show Paired.snoc (Paired.Fd hE λa b z=>z.fV λa xs e=>cH o7 _ _ (k8 _ _ e)) %[0,O,cH o7 _ _ e8|(hl'.mv k8).fV (cH o7)]
  .intro ys j z;let(es,rfl,Z,jc,Y,hE):=z;rw[cx (by rw[<-Oe,ab,ab,ke hP];show ah _)]at hE;show q M es j (sm.trans Y) (sm.free hM) jc hE (by rw[Z,ab];show hdl)
theorem Yu:∀{a b:List (List bB)},Iw a->Iw b->a.Nodup->b.Nodup->(∀x∈a,∀t∈x,pI t)->(∀x,x∈a↔x∈b)->a=b
 | [],[],_,_,_,_,_,_=>rfl
 | [],y::b,_,_,_,_,_,h=>absurd ((h y).mpr aT) xp
 | x::a,[],_,_,_,_,_,h=>absurd ((h x).mp aT) xp
 | x::a,y::b,ha,hb,na,nb,ok,h=>by
  let F:=kG.mp ha;let j:=kG.mp hb;let B:=gm.mp na;let D:=gm.mp nb;let e:x=y:=by
   rcases bd.mp ((h x).mp aT) with z|z;.show z
   .rcases bd.mp ((h y).mpr aT) with z'|z';.show z'.symm
    .let h1:=rn (j.1 x z);let G:=rn (F.1 y z');calc Mj (ok x aT) (ok y (aS _ z')) ?_;by_cases q:jd x=jd y;.show q
     .show absurd (afO h1 q) G
  subst e;rw[Yu F.2 j.2 B.2 D.2 (λz hz=>ok z (aS _ hz)) λz=>%[λhz=>?_|λhz=>?_]]
  .rcases bd.mp ((h z).mp (aS _ hz)) with e|e;.show absurd (e ▸ hz) B.1
   .show e
  .rcases bd.mp ((h z).mpr (aS _ hz)) with e|e;.show absurd (e ▸ hz) D.1
   .show e
def fW.has (h:fW H as L)(hp:H p=some (.tup (as.map V.ref)))(ok:∀ts∈L,ts≠[]/\∀t∈ts,zp t):gG K H 3 (.tup (L.map wH)) (.ref p):=by
 calc .tup (aV.of hp) ?_;let q:∀bs:List Addr,(∀b∈bs,sI K H b (lO H b))->jY K H 2 ((bs.map (lO H)).map wH) (bs.map V.ref):=by
  intro bs
  induction bs with| nil=>show λ_=>.nil| cons b bs ih=>show λj=>.cons (j b aT).1 (ih λx hx=>j x (aS _ hx))
 have:=q as λb j=>by
  let hm:lO H b∈L:=by rw[<-h.eq];show cE j
  show(h.at_ b j).lay (ok _ hm).1 (ok _ hm).2
 rw[h.eq]at this;show this
def ah2 (b):k_ [V.int 5,V.int 2] (if b=true then 1 else 0)=some (.int ((if b=true then 2 else 5:Nat):Int)):=by
 cases b;.show aO (j:=0) rfl
 .show aO (j:=1) rfl
theorem Ey:∀{bs:List Addr},(∀b∈bs,tG H b (tO H b))->Paired (λ(p:Addr) (t:T3)=>H p=some (.tup [.int t.1,.int t.2.1,.str (S [t.2.2])])) bs (bs.map (tO H))
 | [],_=>.nil
 | b::bs,h=>.cons (h b aT) (Ey λx hx=>h x (aS _ hx))
def mK.lyA (h:mK H a ts)(j:ts≠[]):Mv H a ts:=by let(bs,h1,q):=h;calc%[8,j,bs,h1|?_];have:=Ey q.at_;rw[q.eq]at this;show this
theorem Jv:∀{bs:List Addr} {ts:List T3},Paired (λ(p:Addr) (t:T3)=>H p=some (.tup [.int t.1,.int t.2.1,.str (S [t.2.2])])) bs ts->dM H bs ts
 | _,_,.nil=>dM.nil
 | _,_,.cons (a:=b) (b:=t) e r=>by
  let q:=Jv r;let j:tG H b t:=e;refine%[λx hx=>?_|?_]
  .rcases bd.mp hx with z|z;.rw[z,Ec j];show j
   .show q.at_ x z
  .rw[b9,Ec j,q.eq]
def Mv.at {H:Hp}{a:Addr}{ts:List bB}(h:Mv H a ts):mK H a ts:=by let(_,bs,h1,j):=h;show%[0,bs,h1|Jv j]
def aaZ (j:H M=some (.ext φ)):∀a xs,H a=some (.tup xs)->upd H M (.ext ψ) a=some (.tup xs):=λa xs e=>by
 let ne:a≠M:=λz=>by rw[z,j]at e;cases e
 rw[aZ ne];show e
def xg (m:∀a xs,H a=some (.tup xs)->H' a=some (.tup xs))(h:pK H b k):pK H' b k:=by let(ts,e,j):=h;show%[0,ts,e|((Mv.at j).fV m).lyA j.1]
def aa0 {aj:AA}{r w i j way:Nat}{l:List Nat}:((dg aj r w i j l way).map My.rk).Pairwise (·<·):=by
 unfold dg;split
 .split
  .let(B,q):=zA aj r w i j l;rw[eA]at B ⊢;calc ii (λ{a b} ha hb hab=>?_) B;unfold My.rk;rw[q a ha,q b hb];lia
  .show List.Pairwise.nil
 .split
  .let(B,q):=zA (bL aj w) w r j i l;rw[cn,eA];rw[eA]at B;calc ii (λ{a b} ha hb hab=>?_) B;show a.2.1*1000+a.1<b.2.1*1000+b.1;rw[q a ha,q b hb];lia
  .show List.Pairwise.nil
def Yv (aj)(r w i j)(l)(way):(dg aj r w i j l way).length<=l.length:=by
 unfold dg;split
 .split;.show nT ..
  .show b8 _
 .split;.rw[ab];show nT ..
  .show b8 _
theorem Ez {α:Type}{f g:α->Bool}:∀{l:List α},(∀x∈l,f x=g x)->l.all f=l.all g
 | [],_=>rfl
 | x::l,h=>by rw[vF,vF,h x aT,Ez λy j=>h y (aS _ j)]
def uQ (w:World)(H:Hp)(Y:Addr)(n:Nat)(X:List (List bB)):Prop:=∃ys:List (sH×Addr×V),H Y=some (MD (rA w) Y ys)/\(∀y∈ys,pK H y.2.1 y.1)/\ys.length<=n/\∀j,j∈ys.map (·.1)↔∃x∈X,j=iC x
def uQ.mv (s:aA H H')(h:uQ w H dY n X):uQ w H' dY n X:=let %[ys,h1,h2,h3|h4]:=h;%[11,ys,s _ _ h1,λy j=>xg (λa xs e=>s a _ e) (h2 y j),h3|h4]
def uQ.up (k:n<=m)(h:uQ w H dY n X):uQ w H dY m X:=let %[ys,h1,h2,h3|h4]:=h;%[11,ys,h1,h2,ay h3 k|h4]
def Ol:Sp:=λvs H Q _=>∃(p b d:Addr) (aj aM ws:AA) (r w bi bj:Nat) (rk:List Nat) (L:List (List bB)),vs=[.ref p,.ref b,.ref d,.str (S rk)]/\H p=some (.tup (Ts aj))/\uw r w aj aM bi bj/\H b=some (.tup [.int bi,.int bj])/\H d=some (.lst (Ts ws))/\(∀l∈ws,lQ l)/\ws.length<64/\rk.length<=7/\L.length<=4000/\(∀x∈Cr ws aj r w bi bj rk,x∈L)/\
 ∀(j:Addr) (as:List Addr) (M:List (List bB)) (H':Hp),aA H H'->H' j=some (.tup (as.map V.ref))->fW H' as M->Iw M->M.Nodup->(∀x,x∈M↔x∈Cr ws aj r w bi bj rk)->Q (.ref j) H'
def af7 (D:aQ K mg "_law_all" Ur ["_law_rows","_law_begin","_law_words_here","_law_rack_here"])(bw:mg "len"=none)(eF:mg "range"=none)(bU:mg "tuple"=none)(kE:mg "list"=none)(dJ:mg "sorted"=none)(adB:bF P w K mg base "_law_fresh" 2 ["_law_rows","_law_word","_law_row","_law_column","_law_way"] Sd)(aa1:bF P w K mg base "_law_joined" 2 ["_law_rows","_law_begin","_law_cells"] Yp)(Yw:bF P w K mg base "_law_crossed" 3 ["_law_rows","_law_words_here","_law_cells","_law_way"] Jt)(Yx:bF P w K mg base "_law_dressed" 1 ["_law_cells","_law_rack_here"] Ju):bF P w K mg base "_law_all" 4 ["_law_rows","_law_begin","_law_words_here","_law_rack_here"] Ol:=by
 calc D.dz tu ?_;walk_at"b";let(p,b,d,aj,aM,ws,r,F,bi,bj,rk,L,rfl,hp,O,hb,hd,hW,N7,hrk,hLl,hLs,q):=h;let ji:(Ts aj).length=r:=by rw[ab,O.br.len]
 let r9:=O.r9;let w9:=O.w9;let h0:0<aj.length:=by rw[O.br.len];show O.r1
 let hw0:aj[0].length=F:=O.br.iZ _ (ba _);let okX:∀x∈Cr ws aj r F bi bj rk,w6 aj r F (cC aj r F bi bj) x:=λx hx=>G3 O.br hW ((Oc O.br (λl hl=>by have:=(hW l hl).lo;lia) hrk x).mp hx);let hrw:2*r*F<=162:=ip (vn 2 r9) w9;calc%[0,_,(aD (aR (i:=4) tu.nd rb (Or.inl rb) (Xf w)) (aD (eU cq rb (cG bf) (bQ (i:=5) tu.nd rb (Or.inl rb)) (aJ (eU cq rb (jN xw eF (ak (aK fY (aK fY aB (aP cB xw bw bS (ak aG au))) (aP cV xw bw bS (ak (bH dO aG aB (λ_ _=>rfl)) au))) au)) (bQ (i:=6) tu.nd rb (Or.inl rb)) (aD (aR (i:=7) tu.nd rb (Or.inl rb) (aK cA cM aB)) (aD (aR (i:=8) tu.nd rb (Or.inl rb) (aX adB hr.mono rb (ak aG (ak cL (ak (aK cA (aK dj cM aB) (aP cB xw bw bS (ak aG au))) (ak (aK dj (aK dj cM aB) (aP cB xw bw bS (ak aG au))) (ak iz au))))))) (aJ (cU (QW.qt (Dg (rT t_ lZ aB (aP cB xw bw bS (ak jX au)) (aP cV xw bw bS (ak bI au))) (zR (gP (aX aa1 hr.mono rb (ak aG (ak bx (ak jX au)))))))) (aJ (cU (gP (aX Yw hr.mono rb (ak aG (ak bf (ak jX (ak iz au)))))) (aJ (eU cq rb (cG (aX Yx hr.mono rb (ak jX (ak bI au)))) (bQ (i:=9) tu.nd rb (Or.inl rb)) (aJ (Xg w hr.units cg (qv 9) jW rb)))) b_)) b_))))))) (aJ (aW (cY dR xw bU di (ak (aP (Gf hr.units) xw dJ gf (ak (cY (Pr w rb) xw kE oC (ak cg au)) au)) au))))))|?_];intro Y hdY;let s0:aA H (upd H Y (MD (rA w) Y [])):=aA.upd hdY;let e0:upd H Y (MD (rA w) Y []) Y=some (MD (rA w) Y []):=aq;generalize upd H Y (MD (rA w) Y [])=H0 at s0 e0 ⊢;refine%[13,_,rb,d,rb,%[_|aN.of (s0 _ _ hd)]|fX (K:=K) (a:=d) (xs:=Ts ws) (λn I H2=>∃(v5 v6 v7 v8 v9:Option V),I=[some (.ref p),some (.ref b),some (.ref d),some (.str (S rk)),some (.ref Y),v5,v6,v7,v8,v9]/\aA H H2/\uQ w H2 Y (n*20736) ((ws.take n).flatMap λl=>(List.range (2*r*F)).flatMap (iV ws aj r F bi bj rk l)))
  %[69,none,none,none,none,none,rb,s0|%[11,[],e0,λy hy=>by simp at hy,b8 _|λky=>by simp]] (λn I H2 _ h=>by let(_,_,_,_,_,_,sm,_):=h;show aN.of (sm _ _ hd)) ?_ ?_]
 .intro n x I H2 hx z;let(v5,v6,v7,v8,v9,rfl,sm,hK):=z;let(l,hl,rfl):=kI hx;let hlm:=aE hl;let hWl:=hW l hlm;let hp2:=sm _ _ hp;calc%[17,_,rb,p,_,rb,.inr (aV.of hp2)|%[4,_,_,rb,rb,?_|%[7,_,rb,p,_,_,.str (S aj[0]),rb,rb,aV.of hp2,aO (j:=0) (jB (by simp[h0]))|%[2,_,rb,av (aF xo)|%[4,_,_,rb,rb,?_|?_]]]]];.show .inl %[xt|xt]
  .rw[hw0];show .inr %[xo|xo]
  rw[ji,hw0];calc%[11,((2*r*F:Nat):Int),by rw[Int.natCast_mul,Int.natCast_mul];rfl,xo,xo|?_];rw[ci];refine ql (lo:=0) (n:=2*r*F) (λm I H3=>∃(v6 v7 v8 v9:Option V),I=[some (.ref p),some (.ref b),some (.ref d),some (.str (S rk)),some (.ref Y),some (.str (S l)),v6,v7,v8,v9]/\aA H H3/\uQ w H3 Y (n*20736+m*128) (((ws.take n).flatMap λl=>(List.range (2*r*F)).flatMap (iV ws aj r F bi bj rk l))++(List.range m).flatMap (iV ws aj r F bi bj rk l)))
   %[37,v6,v7,v8,v9,rb,sm|by simpa using hK] ?_ ?_
  .intro m I H3 hm z;let(v6,v7,v8,v9,rfl,sm3,hK3):=z;rw[w8];let N:=sm3 _ _ hp;let r1:0<r:=O.r1;let hi:m/2%r<r:=ki _ r1;let hj:m/2/r<F:=by
    rw[Nat.div_lt_iff_lt_mul r1,fc];rw[ij]at hm;lia
   calc%[31,_,rb,_,_,rb,rb,(by show (0:Int)<2;decide)|?_];let cd:∀x:Int,aey x ((Ts aj).length:Int):=λx=>by rw[ji];show%[xo|xo]
   calc%[0,_,rb|%[26,_,rb,_,rb,_,_,rb,rb,%[xt|xt]|%[17,_,rb,p,_,rb,.inr (aV.of N)|%[4,_,_,rb,rb,(cd 0).1|%[31,_,rb,_,_,rb,rb,%[xt|xt]|%[20,_,rb,p,_,rb|%[24,.inr (aV.of N),_,_,rb|%[14,rb,cd _,_,rb|?_]]]]]]]];calc%[6,p,aj|%[10,aM,r,F|%[68,bi,bj,m/2%r,m/2/r,m%2,l,by show [V.ref p,V.str (S l),V.int ((m:Int)/2%((Ts aj).length:Int)),V.int ((m:Int)/2/((Ts aj).length:Int)),V.int ((m:Int)%2)]=_;rw[ji];rfl,N,O,hi,hj,ki _ xt,hWl|λpc as H4 s4 hn4 hc4 jR=>?_]]];let B:∀t∈dg aj r F (m/2%r) (m/2/r) l (m%2),t.1<r/\t.2.1<F/\isLet t.2.2/\atC aj r F t.1 t.2.1=46:=λt M=>Vd O.br hWl.az hi hj M;let hok:qe ws aj r F bi bj rk (m%2) (dg aj r F (m/2%r) (m/2/r) l (m%2))=((decide (0<(dg aj r F (m/2%r) (m/2/r) l (m%2)).length)&&decide ((dg aj r F (m/2%r) (m/2/r) l (m%2)).length<=rk.length))&&(uz aj r F bi bj (dg aj r F (m/2%r) (m/2/r) l (m%2))&&(dg aj r F (m/2%r) (m/2/r) l (m%2)).all (tY ws aj (m%2)))):=by unfold qe;rw[aaV λt M=>%[(B t M).1,(B t M).2.1|(B t M).2.2.2]];congr 2;show(Ez λt M=>(ady O.br (ki _ xt) (B t M).1 (B t M).2.2.1).symm)
   let J:iV ws aj r F bi bj rk l m=if qe ws aj r F bi bj rk (m%2) (dg aj r F (m/2%r) (m/2/r) l (m%2))=true then d_ (dg aj r F (m/2%r) (m/2/r) l (m%2)) rk else []:=rfl
   rw[hok]at J;let af8:=aa0 (aj:=aj) (r:=r) (w:=F) (i:=m/2%r) (j:=m/2/r) (way:=m%2) (l:=l);let hfl:=Yv aj r F (m/2%r) (m/2/r) l (m%2);clear hok;generalize dg aj r F (m/2%r) (m/2/r) l (m%2)=ts at jR B J af8 hfl;let hl9:=hWl.hi;let hal:=jR.len;let xU:=sm3.trans s4;let hK4:=hK3.mv s4;let Oj:(List.range (m+1)).flatMap (iV ws aj r F bi bj rk l)=(List.range m).flatMap (iV ws aj r F bi bj rk l)++iV ws aj r F bi bj rk l m:=by rw[fh,i9];simp
   rw[Oj,<-be];generalize (((ws.take n).flatMap λl=>(List.range (2*r*F)).flatMap (iV ws aj r F bi bj rk l))++(List.range m).flatMap (iV ws aj r F bi bj rk l))=X at hK4 ⊢;let no:iV ws aj r F bi bj rk l m=[]->∀H5,aA H4 H5->uQ w H5 Y (n*20736+(m+1)*128) (X++iV ws aj r F bi bj rk l m):=λe H5 s5=>by rw[e,ej];show(hK4.mv s5).up xo
   calc%[51,_,rb,pc,_,rb,.inl (aN.of hc4),_,_,rb,rb,_,rb|?_];rw[ab,hal];by_cases c0:0<ts.length
   .rw[ap (show (0:Int)<(ts.length:Int) by lia)];calc bV %[71,_,rb,rk,rb,av (aF xo),_,_,rb,rb,_,rb|?_];by_cases c1:ts.length<=rk.length
    .rw[ap (show (ts.length:Int)<=(rk.length:Int) by lia)];calc bV %[23,_,rb,_,rb,_,rb|%[6,p,b|%[10,pc,aj,aM|%[68,r,F,bi,bj,as,ts,rb,s4 _ _ N,O,xU _ _ hb,hc4,jR,xo|λH5 s5=>%[0,_,rb|?_]]]]];by_cases c2:uz aj r F bi bj ts=true
     .rw[c2];calc bV %[0,_,rb|%[23,_,rb,_,rb,_,rb|%[10,p,d,pc|%[10,aj,aM,ws|%[61,r,F,bi,bj,m%2,as,ts,rb,s5 _ _ (s4 _ _ N),O,s5 _ _ (xU _ _ hd)|%[57,s5 _ _ hc4,jR.mv s5,ki _ xt,λt M=>%[(B t M).1|(B t M).2.1],_,rb|?_]]]]]];by_cases c3:ts.all (tY ws aj (m%2))=true
      .rw[c3];rw[ap c0,ap c1,c2,c3,if_pos xw]at J;calc bV %[9,_,rb,_,rb|%[45,pc,as,ts,rk,rb,s5 _ _ hc4,jR.mv s5,xo,λt M=>%[by have:=(B t M).2.1;lia|(B t M).2.2.1],af8,xo|λpd ds H6 s6 hn6 hd6 xT hl6=>?_]];let s36:=(xU.trans s5).trans s6;rw[J];refine%[2,pd,rb,%[_|aN.of hd6]|fX (K:=K) (a:=pd) (xs:=ds.map V.ref) (λi I G=>∃(v9:Option V),I=[some (.ref p),some (.ref b),some (.ref d),some (.str (S rk)),some (.ref Y),some (.str (S l)),some (.int (m:Int)),some (.int ((m:Int)%2)),some (.ref pc),v9]/\aA H G/\G pd=some (.lst (ds.map V.ref))/\Paired (mK G) ds (d_ ts rk)/\uQ w G Y (n*20736+m*128+i) (X++(d_ ts rk).take i))
        %[5,_,rb,s36,hd6,xT|by simpa using (hK4.mv s5).mv s6] (λi I G _ h=>by let(_,_,_,h2,_):=h;show aN.of h2) ?_ ?_]
       .intro i xx I G hx2 z;let(v9,rfl,sG,hdG,Yy,ys,Yk,Er,hY3,hY4):=z;let(hi2,hx2):=rfg hx2;subst hx2;let(x,ex,hAt):=Ah Yy (ag hi2);let hne:x≠[]:=λz=>by
         have:=congrArg List.length (Hl (aE ex));rw[z,ab,ab]at this;simp at this;lia
        let hlt:pK G ds[i] (iC x):=%[0,x,rb|hAt.lyA hne]
        let hys:ys.length<sizeLine:=by
         have:64*20736+162*128+128<sizeLine:=by decide
         have:n<64:=by have:=(al.mp hl).1;lia
         lia
        calc%[9,_,rb,_,rb|%[59,Y,ys,ds[i],iC x,rb,Yk,Er,rb,hlt,hys|?_]];let kt:=aaZ (ψ:=T8 (rA w) Y (sO ys (iC x) ds[i] (V.bl true))) Yk;let nd:pd≠Y:=λz=>by rw[z,Yk]at hdG;cases hdG
        refine%[5,_,rb,sG.bC hdY,by rw[aZ nd];show hdG,Paired.Fd Yy λa b z=>z.fV kt|%[11,sO ys (iC x) ds[i] (V.bl true),aq,λy hy=>?_,ay (Mu _ _ _ _) xo|λky=>?_]]
        .rcases aal y hy with⟨z,hz,e1,e2⟩|⟨e1,e2⟩
         .have:=xg kt (Er z hz);rw[e1,e2]at this;show this
         .rw[e1,e2];show xg kt hlt
        .rw[Xc,hY4,bX,ex];constructor
         .rintro(⟨t,M,e⟩|h);.show%[0,t,by rw[<-be];show mI _ M|e]
          .show%[0,x,xp|h]
         .intro z;let(t,M,e):=z;rw[<-be]at M;rcases a6.mp M with z|z;.show .inl %[0,t,z|e]
          .have:t=x:=by simpa using z
           show .inr (by rw[e,this])
       .intro I G z;let(v9,rfl,sG,hdG,Yy,hKG):=z;rw[ab,ke Yy,cy]at hKG;show%[37,_,_,_,_,rb,sG|hKG.up (by have:=ke Yy;lia)]
      .rw[gL.mpr c3];calc bO %[37,_,_,_,_,rb,xU.trans s5|no ?_ H5 s5];rw[J,gL.mpr c3,gx,gx];show if_neg xt
     .rw[gL.mpr c2];calc bO %[37,_,_,_,_,rb,xU.trans s5|no ?_ H5 s5];rw[J,gL.mpr c2,ga,gx];show if_neg xt
    .rw[ai (show ¬(ts.length:Int)<=(rk.length:Int) by lia)];calc bO (bO %[37,_,_,_,_,rb,xU|no ?_ H4 (aA.refl _)]);rw[J,ai c1,gx,ga];show if_neg xt
   .rw[ai (show ¬(0:Int)<(ts.length:Int) by lia)];calc bO %[0,_,rb|bO (bO %[37,_,_,_,_,rb,xU|no ?_ H4 (aA.refl _)])];rw[J,ai c0,ga,ga];show if_neg xt
  .intro I H3 z;let(v6,v7,v8,v9,rfl,sm3,hK3):=z;calc%[69,_,_,_,_,_,rb,sm3|?_];rw[zx hl];show hK3.up (by have:=fw 128 hrw;lia)
 .intro I H2 z;let(v5,v6,v7,v8,v9,rfl,sm,ys,hd2,hly,_,hky):=z;rw[ab,cy]at hky;let ah3:(ys.map λy=>V.ref y.2.1)=(ys.map λy=>y.2.1).map V.ref:=by rw[cn];rfl
  calc%[17,_,rb,Y,ys,rb,hd2|λndk pp hpp=>?_];rw[ah3];let k3:aA H2 (upd H2 pp (HO.lst ((ys.map λy=>y.2.1).map V.ref))):=aA.upd hpp;let N:upd H2 pp (HO.lst ((ys.map λy=>y.2.1).map V.ref)) pp=some (.lst ((ys.map λy=>y.2.1).map V.ref)):=aq;let af9:∀y∈ys,pK (upd H2 pp (HO.lst ((ys.map λy=>y.2.1).map V.ref))) y.2.1 y.1:=λy hy=>xg (λa xs e=>k3 a _ e) (hly y hy);generalize upd H2 pp (HO.lst ((ys.map λy=>y.2.1).map V.ref))=qz at k3 N af9 ⊢;let Vg:∀y∈ys,y.1=iC (lO qz y.2.1)/\mK qz y.2.1 (lO qz y.2.1):=λy hy=>by let(ts,e,hA):=af9 y hy;let h1:=Mv.at hA;rw[Kr h1];show%[e|h1]
  let abR:((ys.map λy=>y.2.1).map (lO qz)).map iC=ys.map (·.1):=by rw[cn,cn];show de λy hy=>(Vg y hy).1.symm
  let ndM:((ys.map λy=>y.2.1).map (lO qz)).Nodup:=by rw[<-abR]at ndk;show List.Pairwise.of_map iC (λa b hab z=>hab (by rw[z])) ndk
  let aa2:∀z,z∈(ys.map λy=>y.2.1).map (lO qz)↔z∈Cr ws aj r F bi bj rk:=λz=>by
   let h1:iC z∈ys.map (·.1)↔z∈(ys.map λy=>y.2.1).map (lO qz):=by rw[<-abR,aI];show%[λ⟨u,hu,e⟩=>wI e ▸ hu|λh=>%[0,z,h|rb]]
   rw[<-h1,hky];show%[λ⟨ts,hts,e⟩=>by rw[wI e];show hts|λhz=>%[0,z,hz|rb]]
  let ahd:(ys.map λy=>y.2.1).length<=4000:=by have:=ndM.length_le_of_subset (l₂:=L) λz hz'=>hLs z ((aa2 z).mp hz');rw[ab]at this;lia
  let hlay:∀a'∈ys.map λy=>y.2.1,sI K qz a' (lO qz a'):=λa' ha'=>by let(y,hy,rfl):=aI.mp ha';let hok:=okX _ ((aa2 _).mp (cE (cE hy)));show(Vg y hy).2.lay hok.ne (hok.zp r9 w9)
  calc%[15,pp,ys.map λy=>y.2.1,lO qz,rb,aN.of N,ahd,hlay|λp2 Z hn2 vm up2=>?_];let k4:aA qz (upd qz p2 (HO.lst (Z.map V.ref))):=aA.upd hn2;calc%[3,p2,_,rb|.inl %[aN.of aq|λT hT'=>?_]];let k5:=k4.bC (o:=HO.tup (Z.map V.ref)) (k4.free hT');let hYT:fW (upd (upd qz p2 (HO.lst (Z.map V.ref))) T (HO.tup (Z.map V.ref))) Z (Z.map (lO qz)):=(fW.mk (λa' ha'=>by let(y,hy,rfl):=aI.mp (vm.mem_iff.mp ha');show(Vg y hy).2) rb).mv k5
  show q T Z _ _ ((sm.trans k3).trans k5) aq hYT up2 ((vm.map (lO qz)).nodup_iff.mpr ndM) λx=>by rw[(vm.map (lO qz)).mem_iff,aa2]
def aa3 {l:List Nat}(j:l.length=2)(h:∀c∈l,isLet c):lQ l:=%[xo,xo|h]
def Sh:Sp:=λvs H Q _=>∃x:Int,vs=[.int x]/\∀(p:Addr) (ws:AA) (H':Hp),aA H H'->H' p=some (.lst (Ts ws))->(∀l∈ws,l.length=2/\∀c∈l,isLet c)->36<=ws.length->ws.length<=60->Q (.ref p) H'
def aa4 (D:aQ K mg "_law_pairs" Gu ["_law_x"])(eF:mg "range"=none)(dJ:mg "sorted"=none):bF P w K mg base "_law_pairs" 1 ["_law_x"] Sh:=by
 calc D.dz pQ ?_;walk_at"b";let(x,rfl,q):=h;calc%[0,_,(aD (aR (i:=1) pQ.nd rb (Or.inr rb) (bR AL xz)) (aD (FN (ix:=2) (ns:=["_law_k"]) pQ.nd rb (Or.inl rb) rb (gU.of ["_law_x","_law_letters_here","_law_some","_law_found","_law_one"] [] xy) (jN xw eF (ak aB au)) (λ_ _ _ _ _=>(rE (show (["_law_k","_law_x","_law_letters_here","_law_some","_law_found","_law_one"]:List Str).Nodup by decide +kernel) rb xw)) (λ_ _ _ _ _=>cI) (λ_ _ _ _ _=>(bH rQ bf (aK cA (aK cu bx (aK fY aG aB)) aB) (λ_ _=>rfl)))) (aD (aR (i:=3) pQ.nd rb (Or.inl rb) (dw au)) (aD (eU cq rb (cG bf) (bQ (i:=4) pQ.nd rb (Or.inr rb)) (aJ (gF (dU df kU kX qm bI (ak (fB rb (eG.of pQ.nd xy) (cG bf) (λ_ _ _ _ _=>cI) (λ_ _ _ _ _=>(aK iI cL aG))) au))))) (aJ (aW (jr zO (aP (FZ K) xw dJ gf (ak bI au)) (gZ (aK cA (aK dj aG aB) aB)) (gZ (aK cu aB (aK cA (aK dj aG aB) aB))))))))))|?_];refine%[11,_,rb,xt,xt|λM hM=>Ld (f:=gC [] 0) (tt:=iK) (lo:=0) (n:=Int.toNat 8) (λi ys H1=>∃us:List Nat,ys=Ts (ones us)/\us.length=i/\(∀c∈us,isLet c)/\H1 M=some (.lst ys)/\aA H H1) %[5,[],rb,rb,λc h=>by simp at h,aq|aA.upd hM] ?_ ?_]
 .intro i ys H1 hi z;let(us,rfl,o8,Jw,Yz,s1):=z;let hi8:i<8:=hi;let(c,hc,hcm):=zU (xs:=AL) (n:=26) rb xt (x+(0+(i:Int))*3);let hcl:isLet c:=by
   let(k,hk,rfl):=aI.mp hcm;have:=bz.mp hk;show%[xo|xo]
  calc%[0,_,rb|%[27,_,rb,_,rb,_,_,rb,rb|%[30,.inr %[xt|xt],_,_,rb,rb|%[4,_,_,rb,rb,(by show (0:Int)<26;decide)|%[60,AL,_,c,rb,rb,xt,hc,Yz,by rw[ab,ab];show aF xo|dZ.mk hi %[5,us++[c],?_,by simp[o8],λd hd=>?_,aq|s1.bC hM]]]]]];.rw[<-jQ];unfold Ts;rw[bE];rfl
  .rcases a6.mp hd with z|z;.show Jw d z
   .rw[am.mp z];show hcl
 .intro ys H1 z;let(us,rfl,o8,Jw,Yz,s1):=z;replace o8:us.length=8:=o8;calc%[zsz 0|λF hF=>?_];let s2:aA H1 (upd H1 F (HO.lst [])):=aA.upd hF;let e2:upd H1 F (HO.lst []) F=some (.lst []):=aq;generalize upd H1 F (HO.lst [])=H2 at s2 e2 ⊢;let qy:=s1.free hF;let nMF:M≠F:=λz=>by rw[<-z,Yz]at hF;cases hF
  refine%[13,_,rb,M,rb,%[_|aN.of (s2 _ _ Yz)]|fX (K:=K) (a:=M) (xs:=Ts (ones us)) (λn I G=>∃(v4:Option V) (fs:AA),I=[some (.int x),some (.str (S AL)),some (.ref M),some (.ref F),v4]/\aA H G/\G M=some (.lst (Ts (ones us)))/\G F=some (.lst (Ts fs))/\(∀l∈fs,l.length=2/\∀c∈l,isLet c)/\fs.length=8*n)
   %[28,none,[],rb,s1.trans s2,s2 _ _ Yz,e2,λl h=>by simp at h|rb] (λn I G _ h=>by let(_,_,_,_,h2,_):=h;show aN.of h2) ?_ ?_]
  .intro n y I G hy z;let(v4,fs,rfl,sG,j,zG,Y,O):=z;let(l0,hl0,rfl):=kI hy;let hn8:n<8:=by have:=(al.mp hl0).1;rw[ab]at this;lia
   let(c0,hc0,rfl):=aI.mp (aE hl0);refine%[2,_,rb,.inl %[16,rb,_|aN.of zG]|%[13,_,rb,M,rb,%[_|aN.of j]|λL hL=>jf (K:=K) (a:=M) (xs:=Ts (ones us)) (λi ys G2=>∃J:List (List Nat),ys=Ts J/\J.length=i/\(∀l∈J,l.length=2/\∀c∈l,isLet c)/\G2 L=some (.lst ys)/\aA G G2)
    %[5,[],rb,rb,λl h=>by simp at h,aq|aA.upd hL] (λi ys G2 _ h=>by let(_,_,_,_,_,sm):=h;show aN.of (sm _ _ j)) ?_ ?_]]
   .intro i z ys G2 hz z;let(J,rfl,yQ,N,B,s3):=z;let(l1,hl1,rfl):=kI hz;let(c1,hc1,rfl):=aI.mp (aE hl1);let hil:i<(Ts (ones us)).length:=(al.mp hz).1;let hi8:i<8:=by rw[ab,ab]at hil;lia
    calc%[9,_,rb,_,rb|%[28,[c0],[c1],rb,rb,zsz 2,B,by rw[ab];show aF xo|dZ.mk hil %[5,J++[[c0]++[c1]],by unfold Ts;rw[bE];rfl,by simp[yQ],λl Z=>?_,aq|s3.bC hL]]];rcases a6.mp Z with z|z;.show N l z
    .rw[am.mp z];calc%[rb|λc hc=>?_];rcases a6.mp hc with y|y;.rw[am.mp y];show Jw _ hc0
     .rw[am.mp y];show Jw _ hc1
   .intro ys G2 z;let(J,rfl,yQ,N,B,s3):=z;rw[ab,ab,o8]at yQ;calc%[36,F,L,_,_,rb,rb,s3 _ _ zG,B,by rw[ab,ab];show av (aF xo)|?_];calc%[28,_,fs++J,rb,(sG.trans s3).bC qy,by rw[aZ nMF];show s3 _ _ j,by rw[aq];unfold Ts;rw[bE],λl Z=>?_|by rw[ax];lia];rcases a6.mp Z with z|z;.show Y l z
    .show N l z
  .intro I G z;let(v4,fs,rfl,sG,j,zG,Y,O):=z;rw[ab,ab,o8]at O;calc%[31,_,rb,F,fs,rb,aN.of zG,xo|λp1 ws hp1 pm _=>?_];obtain⟨a,ha,ha4⟩:∃a:Nat,x/26%5=(a:Int)/\a<=4:=%[0,(x/26%5).toNat,xo|xo]
   obtain⟨b,hb,hb1,hb2⟩:∃b:Nat,40+x/130%21=(b:Int)/\40<=b/\b<=60:=%[2,(40+x/130%21).toNat,xo,xo|xo]
   let hwl:ws.length=64:=by rw[pm.length_eq,O]
   let aaQ:jT (Ts ws) (some (x/26%5)) (some (40+x/130%21))=Ts ((ws.drop a).take (b-a)):=by rw[ha,hb];unfold jT;rw[HT.rD,HT.rD,ab,oo xo,oo xo];unfold Ts;rw[List.map_take,List.map_drop]
   let k3:aA G (upd G p1 (HO.lst (Ts ws))):=aA.upd hp1;calc%[31,_,rb,_,_,rb,rb,%[xt|xt]|%[4,_,_,rb,rb,(by show (0:Int)<5;decide)|%[27,_,rb,_,rb,_,_,rb,rb|%[24,%[xt|xt],_,_,rb|%[21,rb,(by show (0:Int)<21;decide),_,_,rb,rb|%[17,_,rb,p1,_,rb,aN.of aq|λp2 hp2=>?_]]]]]];show Q (.ref p2) (upd _ p2 (.lst (jT (Ts ws) (some (x/26%5)) (some (40+x/130%21)))));rw[aaQ];let Z:((ws.drop a).take (b-a)).length=b-a:=by rw[bn,cz];lia
   refine q p2 _ _ ((sG.trans k3).bC ((sG.trans k3).free hp2)) aq (λl Z=>Y l (pm.mem_iff.mp (ik (f6 Z)))) xo xo
def af_ (f:Nat->Nat):Nat->Nat
 | 0=>2*f 0
 | p+1=>max (af_ f p+f (p+1)) (2*f (p+1))
def tBr:Nat->Nat->Nat
 | 0=>λ_=>1
 | b+1=>af_ (tBr b)
def tB (p b:Nat):Nat:=tBr b p
def tB1 (b):tB 0 (b+1)=2*tB 0 b:=rfl
def tB2 (p b):tB (p+1) (b+1)=max (tB p (b+1)+tB (p+1) b) (2*tB (p+1) b):=rfl
theorem aa5:∀p b,2*tB p b<=tB p (b+1)
 | 0,b=>by rw[tB1];show ah _
 | p+1,b=>by rw[tB2];lia
theorem YB (p):∀b,1<=tB p b
 | 0=>ah _
 | b+1=>by have:=YB p b;have:=aa5 p b;lia
theorem ah4:∀p b,tB p b<=tB (p+1) b
 | _,0=>ah _
 | p,b+1=>by rw[tB2];lia
theorem EY:∀(ls rk:List Nat),(eX ls rk).length<=tB (rk.length-rk.count 63) (rk.count 63)
 | [],rk=>YB _ _
 | c::ls,rk=>by
  let G:rk.count 63<=rk.length:=ul;let B:63∈rk->(eX ls (rk.erase 63)).length<=tB (rk.length-rk.count 63) (rk.count 63-1)/\1<=rk.count 63:=λh=>by let h1:=List.count_pos_iff.mpr h;let D:=EY ls (rk.erase 63);rw[lh h,List.count_erase_self,show rk.length-1-(rk.count 63-1)=rk.length-rk.count 63 by lia]at D;show%[D|h1]
  rw[eX,ax];by_cases q:c=63
  .subst q;by_cases h:63∈rk
   .let(h1,j):=B h;rw[if_pos h,if_pos h,ab,ab];obtain⟨b,hb⟩:∃b,rk.count 63=b+1:=%[rk.count 63-1|xo]
    rw[hb]at h1 ⊢;have:=aa5 (rk.length-(b+1)) b;simp only[rV]at h1;lia
   .rw[if_neg h,if_neg h];show b8 _
  .let J:c∈rk->(eX ls (rk.erase c)).length<=tB (rk.length-rk.count 63-1) (rk.count 63)/\rk.count 63<rk.length:=λh=>by
    let D:=EY ls (rk.erase c);rw[lh h,List.count_erase_of_ne (by simpa using λz=>q z.symm)]at D;let h1:rk.count 63<=(rk.erase c).length:=by rw[<-List.count_erase_of_ne (a:=63) (b:=c) (by simpa using λz=>q z.symm)];show ul
    rw[lh h]at h1;let j:=sD h;rw[show rk.length-1-rk.count 63=rk.length-rk.count 63-1 by lia]at D;show%[D|xo]
   by_cases h1:c∈rk
   .let(F,L):=J h1;obtain⟨p,hp⟩:∃p,rk.length-rk.count 63=p+1:=%[rk.length-rk.count 63-1|xo]
    rw[if_pos h1,ab];by_cases j:63∈rk
    .let(b1,b2):=B j;rw[if_pos j,ab];obtain⟨b,hb⟩:∃b,rk.count 63=b+1:=%[rk.count 63-1|xo]
     rw[hp,hb]at F b1 ⊢;rw[tB2];simp only[rV]at F b1;lia
    .rw[if_neg j];rw[hp]at F ⊢;simp only[rV]at F;have:=ah4 p (rk.count 63);show _+0<=_;lia
   .rw[if_neg h1];by_cases j:63∈rk
    .let(b1,b2):=B j;rw[if_pos j,ab];obtain⟨b,hb⟩:∃b,rk.count 63=b+1:=%[rk.count 63-1|xo]
     rw[hb]at b1 ⊢;have:=aa5 (rk.length-(b+1)) b;simp only[rV]at b1;show 0+_<=_;lia
    .rw[if_neg j];show b8 _
def aga:∀n:Fin 6,∀b:Fin 3,(n.val<4\/b.val<=1)->tB (n.val-b.val) b.val<=7/\(n.val<=2->b.val<=n.val->tB (n.val-b.val) b.val<=4):=by decide
def agb (n)(hn:n<6)(b)(q:b<3)(h1:n<4->b<=2)(j:4<=n->b<=1):tB (n-b) b<=7/\(n<=2->b<=n->tB (n-b) b<=4):=aga %[n|hn] %[b|q] (by rcases eR n 4 with z|z;show .inl z;show .inr (j z))
def adC {rk:List Nat}(B:rk.length<=5)(h1:rk.length<4->rk.count 63<=2)(j:4<=rk.length->rk.count 63<=1):(∀ls,(eX ls rk).length<=7)/\(rk.length<=2->∀ls,(eX ls rk).length<=4):=by
 let q:rk.count 63<3:=by
  rcases eR rk.length 4 with z|z;.have:=h1 z;lia
  .have:=j z;lia
 let(a,b):=agb rk.length xo (rk.count 63) q h1 j;show%[λls=>ay (EY ls rk) a|λh ls=>ay (EY ls rk) (b h ul)]
theorem Ho:∀(ls rk:List Nat),(eX ls rk).length<=2^ls.length
 | [],_=>ah _
 | c::ls,rk=>by unfold eX;rw[ax,bP,ie];let h1:=Ho ls (rk.erase c);let j:=Ho ls (rk.erase 63);split <;> split <;> simp only[ab,mr] <;> lia
theorem Jx:∀us:List Nat,(ones us).flatten=us
 | []=>rfl
 | c::us=>congrArg (c :: ·) (Jx us)
def all_congr {ws us aj:AA}{r w bi bj:Nat}{rk:List Nat}(h:∀x,x∈us↔x∈ws)(x:List bB):x∈uN us aj r w bi bj rk↔x∈uN ws aj r w bi bj rk:=by
 let B:∀l k,oO us l k=oO ws l k:=λl k=>by
  unfold oO;split;.rfl
  .show congrArg (λf=>AL.filter f) (funext λc=>nL.mpr (h _))
 let D:∀aj,jM us aj=jM ws aj:=λaj=>funext λc=>B _ _;let q:∀(hk:List (Nat×Nat)) (aj:AA) (r w:Nat) (x:List bB),x∈gw us hk aj r w rk us↔x∈gw ws hk aj r w rk ws:=λhk aj r w x=>by unfold gw;rw[D,cw,cw];show%[λ⟨l,h1,j⟩=>%[0,l,(h l).mp h1|j]|λ⟨l,h1,j⟩=>%[0,l,(h l).mpr h1|j]]
 unfold uN;rw[a6,a6,q,aI,aI];simp only[q]
def agc (F:gO K "law" "law" Km f fd)(bw:mg "len"=none)(bU:mg "tuple"=none)(nj:mg "int"=none)(cR:mg "isinstance"=none)(cD:fM K C)(Ed:pR K CB)(adD:mg "Book"=some (.ref CB))(agd:Mk K CB g0)(agf:eZ P w K mg base fZ 3 g0 fe0 ["self","words"] (Xu K CB))(agg:cT K fe0 ["self","words"] [])(YC:bF P w K mg base "_law_letters" 4 ["_law_script","_law_k"] (Xp K))(Om:bF P w K mg base "_law_number" 2 ["_law_script","_law_k"] (Uu K))(jw:bF P w K mg base "_law_digits" 3 ["_law_script","_law_k","_law_base","_law_many"] (Ac K))(adE:bF P w K mg base "_law_words" 4 ["_law_letters_here","_law_script","_law_start","_law_many"] (M7 K))(Ss:bF P w K mg base "_law_board" 8 ["_law_letters_here","_law_script","_law_start","_law_x"] (Nj K C))(agh:bF P w K mg base "_law_rack" 4 ["_law_letters_here","_law_script","_law_k","_law_most"] (Yl K))(J0:bF P w K mg base "all_layings" 13 ["board","book","rack"] (abP C CB))(adF:bF P w K mg base "_law_pairs" 1 ["_law_x"] Sh)(ahe:bF P w K mg base "_law_all" 4 ["_law_rows","_law_begin","_law_words_here","_law_rack_here"] Ol):n_ P w K mg base fZ 15 f fd ["_law_script"] (Kc K):=by
 refine F.ahv jL rb (λvs H Q E h=>?_) (λbh A outer s H vs Q E Y h=>?_)
 .let(a,ns,rfl,_):=h;rfl
 .let(a,ns,rfl,hS,hn,q):=h;let abO:4000<=sizeLine:=by decide
  let hz:∀n,n<=100->n<=sizeLine:=λn h=>av (aF xo);calc%[0,_,(aD (aR (i:=1) jL.nd rb (Or.inl rb) (aX YC Y.mono rb (ak aG (ak aB au)))) (aD (aR (i:=2) jL.nd rb (Or.inl rb) (aX Om Y.mono rb (ak aG (ak aB au)))) (aD (aR (i:=3) jL.nd rb (Or.inr rb) (aX adE Y.mono rb (ak bx (ak aG (ak aB (ak (aK cu aB (aK cA bf aB)) au)))))) (aD (aR (i:=4) jL.nd rb (Or.inl rb) (aX Ss Y.mono rb (ak bx (ak aG (ak aB (ak (aX Om Y.mono rb (ak aG (ak aB au))) au)))))) (aD (aR (i:=5) jL.nd rb (Or.inl rb) (aX agh Y.mono rb (ak bx (ak aG (ak aB (ak (bH gq (dw (ak aB (ak aB au))) (cY yc xw nj pE (ak (gW S8 (aK fY (aP cB xw bw bS (ak (eV cg rb) au)) (aP cV xw bw bS (ak (bH dO (eV cg rb) aB (λ_ _=>rfl)) au))) aB (bY _)) au)) (λ_ _=>rfl)) au)))))) (aD (qu (cU (bW jA (aK cA (aK dj bf aB) aB) aB (bY _)) (aD (aR (i:=3) jL.nd rb (Or.inr rb) (aX adF Y.mono rb (ak (aK dj bf aB) au))) (aD (aR (i:=4) jL.nd rb (Or.inl rb) (aX Ss Y.mono rb (ak (fB rb (eG.of jL.nd xy) (cG (aar bI aB)) (λ_ _ _ _ _=>cI) (λ_ _ _ _ _=>(bH rQ aG aB (λ_ _=>rfl)))) (ak aG (ak aB (ak (bH gq (dw (ak aB (ak aB au))) (aK cA (aK dj bf aB) aB) (λ_ _=>rfl)) au)))))) (aJ (aR (i:=5) jL.nd rb (Or.inl rb) (aK iI (dU bu eP eQ pD (bR [] xz) (ak (fB rb (eG.of jL.nd xy) (cG (aX jw Y.mono rb (ak aG (ak aB (ak aB (ak aB au)))))) (λ_ _ _ _ _=>cI) (λ_ _ _ _ _=>(bH rQ (bH (K9 K) cg (aK cA aG (aP (qD K) xw bw bS (ak cg au))) (λ_ _=>rfl)) aB (λ_ _=>rfl)))) au)) (bR [63,63] xz)))))) b_)) (aD (aR (i:=6) jL.nd rb (Or.inl rb) (zT agd agf Y.mono rb adD agg .nil jU (ak bI au))) (aD (aR (i:=7) jL.nd rb (Or.inl rb) (aX J0 Y.mono rb (ak cg (ak cM (ak cL au))))) (aJ (aW (oE (aP jq xw cR fA (ak iz (ak (pF (v:=.ty "tuple") xw bU di rb) au))) (lG (gW (ae6 Y.units) iz (aX ahe Y.mono rb (ak (eV cg rb) (ak (eV cg rb) (ak bI (ak cL au))))) (bY _))))))))))))))|?_];calc%[34,_,rb,a,ns,0,rb,hS,xt|λpl ls H1 s1 hpl hA=>?_];calc%[34,_,rb,a,ns,1,rb,s1.seq hS,xt|λx=>?_];obtain⟨m,hm,hm6⟩:∃m:Nat,3+x%4=(m:Int)/\m<=6:=%[0,(3+x%4).toNat,xo|xo]
  calc%[0,_,rb|%[27,_,rb,_,rb,_,_,rb,rb|%[30,(by show (0:Int)<4;decide),_,_,rb,rb|%[33,pl,a,ls,ns,3,m,by show [V.ref pl,V.ref a,V.int 3,V.int (3+x%4)]=_;rw[hm];rfl,hpl,hA,s1.seq hS,xo,xo|λN ws H2 s2 Oo nd az rs bM=>?_]]]];let Jq:=s1.trans s2;calc%[9,_,rb,_,rb|%[34,_,rb,a,ns,28,rb,Jq.seq hS,xt|λy=>%[43,pl,a,ls,ns,9,y,rb,s2 _ _ hpl,hA,Jq.seq hS,xt|λb r J aj aM bi bj H3 s3 B _=>?_]]];let tL:=Jq.trans s3;let ah5:=s3 _ _ (s2 _ _ hpl);let(dx,pr,YD,pb0,hb3,agi,_,_):=id B.ex;let O:=B.ok;let r1:=O.r1;let r9:=O.r9;let w9:=O.w9;let hb':=O.br;let ji:(Ts aj).length=r:=by rw[ab,hb'.len]
  let h0:0<aj.length:=by rw[hb'.len];lia
  let hw0:aj[0].length=J:=hb'.iZ _ (ba _);let at0:k_ (Ts aj) 0=some (.str (S aj[0])):=aO (j:=0) (jB (ag h0));calc%[13,_,rb,_,rb,zsz 2|λt ht=>?_];let k3:aA H3 (upd H3 t (HO.lst [V.int 5,V.int 2])):=aA.upd ht;let hT:upd H3 t (HO.lst [V.int 5,V.int 2]) t=some (.lst [V.int 5,V.int 2]):=aq;generalize upd H3 t (HO.lst [V.int 5,V.int 2])=qz at k3 hT ⊢;calc%[0,_,rb|%[12,b,C,dx,_,_,rb,k3 _ _ hb3,cD.cl,cD.nr,rb|%[19,pr,_,rb,.inr (aV.of (k3 _ _ agi)),_,rb|%[12,b,C,dx,_,_,rb,k3 _ _ hb3,cD.cl,cD.nr,rb|%[37,pr,_,_,_,rb,rb|%[14,aV.of (k3 _ _ agi),at0,_,rb|%[24,hz _ xo,_,_,rb|%[21,rb,.inl %[by rw[ji];lia|by rw[ji];lia],_,_,rb,rb|.inr %[7,_,rb,t,_,_,_,rb,rb,aN.of hT,ah2 _|?_]]]]]]]]];rw[ji,hw0];obtain⟨mm,hmm,ah6,ah7⟩:∃mm:Nat,(if decide ((20:Int)<(r:Int)*(J:Int))=true then 2 else 5:Nat)=mm/\mm<=5/\(20<r*J->mm<=2):=by
   by_cases c:(20:Int)<(r:Int)*(J:Int)
   .show%[2,2,by rw[if_pos (ap c)],xt|λ_=>ah _]
   .show%[2,5,by rw[if_neg (by rw[ai c];decide)],xt|λz=>absurd (by exact_mod_cast z) c]
  calc%[33,pl,a,ls,ns,2,mm,by rw[<-hmm];rfl,k3 _ _ ah5,hA,(tL.trans k3).seq hS,xt,ah6|λrk H4 s4 hrl hr1 hr2 hra _=>?_];let xU:=k3.trans s4;let Bb:=tL.trans xU;let aa6:rk.length<=5:=xo;let(g7,g4):=adC aa6 hr1 hr2;let agj:=xU _ _ (s3 _ _ Oo);refine%[λI G=>∃(N b:Addr) (ws aj aM:AA) (r w bi bj mp g:Nat) (rk:List Nat),I=[some (.ref a),some (.ref pl),some (.int x),some (.ref N),some (.ref b),some (.str (S rk)),none,none]/\G N=some (.lst (Ts ws))/\(∀l∈ws,lQ l)/\ws.length<=60/\dX C G b r w aj aM bi bj/\rk.length<=5/\
   (∀l∈ws,(dB r w l.length).length<=mp/\(dB w r l.length).length<=mp/\∀ls:List Nat,ls.length<=l.length->(eX ls rk).length<=g)/\g<=900/\ws.length*(mp*g)<=1999,?_|?_]
  .refine%[20,_,rb,_,_,rb|%[21,rb,%[xt|xt],_,_,rb,rb|%[14,(by show (0:Int)<16;decide),rb,_,rb|uF (λ_=>?_) (λ_=>?_)]]]
   .calc%[20,_,rb,_,_,rb|%[14,rb,%[xt|xt],x/256,rb|λN ws H5 s5 Oo hws h36 Xi=>?_]];let s45:=Bb.trans s5;let hTl:(Ts ws).length=ws.length:=ab _;let h2:∀l∈ws,∃c d,l=[c,d]/\isLet c:=λl D=>by
     let(h1,h3):=hws l D
     match l,h1,h3 with| [c,d],_,h3=>show%[3,c,d,rb|h3 c aT]
    calc%[0,_,rb|%[28,N,_,rb,rb,aN.of Oo,xo,xo|λp7 Em=>?_]];let k6:aA H5 (upd H5 p7 (HO.lst (iM (Ts ws)))):=aA.upd Em;let e6:upd H5 p7 (HO.lst (iM (Ts ws))) p7=some (.lst (Ts (iM ws))):=by rw[aq];unfold Ts;rw[Ul]
    generalize upd H5 p7 (HO.lst (iM (Ts ws)))=H6 at k6 e6 ⊢;let(h7a,h7b):=DW (xs:=ws) Xi xo;refine%[2,p7,rb,%[_|aN.of e6]|λL hL=>jf (K:=K) (a:=p7) (xs:=Ts (iM ws)) (λi ys G=>∃us:List Nat,ys=Ts (ones us)/\us.length=i/\(∀c∈us,isLet c)/\G L=some (.lst ys)/\aA H6 G)
     %[5,[],rb,rb,λc h=>by simp at h,aq|aA.upd hL] (λi ys G _ h=>by let(_,_,_,_,_,sm):=h;show aN.of (sm _ _ e6)) ?_ ?_]
    .intro i z ys G Z z;let(us,rfl,o8,Jw,hLG,sG):=z;let hil:i<(Ts (iM ws)).length:=(al.mp Z).1;let(l,D,rfl):=kI Z;let(c,d,rfl,hc):=h2 l (Uk (aE D));calc%[67,_,rb,[c,d],0,c,rb,rb,zsz 2,aO (j:=0) rb,hLG,by rw[ab,ab,o8];rw[ab]at hil;show aF xo|dZ.mk hil %[5,us++[c],?_,by simp[o8],λe he=>?_,aq|sG.bC hL]];.rw[<-jQ];unfold Ts;rw[bE];rfl
     .rcases a6.mp he with z|z;.show Jw e z
      .rw[am.mp z];show hc
    .intro ys G z;let(us,rfl,o8,Jw,hLG,sG):=z;rw[ab]at o8;calc%[2,_,rb,zsz 2|λt2 Nt=>?_];let k7:aA G (upd G t2 (HO.lst [V.int 1227,V.int 1363])):=aA.upd Nt;let e7:upd G t2 (HO.lst [V.int 1227,V.int 1363]) t2=some (.lst [V.int 1227,V.int 1363]):=aq;generalize upd G t2 (HO.lst [V.int 1227,V.int 1363])=H7 at k7 e7 ⊢;obtain⟨X,hX,hX2⟩:∃X:Int,k_ [V.int 1227,V.int 1363] (x/4%2)=some (.int X)/\(X=1227\/X=1363):=by
      rcases(show x/4%2=0\/x/4%2=1 by lia) with z|z;.rw[z];show%[0,1227,aO (j:=0) rb|.inl rb]
      .rw[z];show%[0,1363,aO (j:=1) rb|.inr rb]
     let Ys:=(k6.trans sG).trans k7;calc%[31,_,rb,_,_,rb,rb,%[xt|xt]|%[4,_,_,rb,rb,(by show (0:Int)<2;decide)|%[25,t2,_,_,_,rb,rb,aN.of e7,hX|?_]]];calc%[43,L,a,us,ns,9,X,rb,k7 _ _ hLG,%[xo,xo|Jw],(s45.trans Ys).seq hS,xt|λb2 r2 w2 ahf marks2 bi2 bj2 H8 s8 B2 hsz=>?_];let hrw:(r2=1/\w2=9)\/(r2=9/\w2=1):=by
      rcases hX2 with z|z;.rw[z]at hsz;have:=hsz xt;show .inl %[xo|xo]
      .rw[z]at hsz;have:=hsz xt;show .inr %[xo|xo]
     let Yt:=Ys.trans s8;let ah8:=Yt _ _ Oo;calc%[8,rb,_,rb|%[49,a,ns,29,60,3,rb,(s45.trans Yt).seq hS,xt,xt,xt,xt|λpd ds H9 s9 hn9 hd9 hdl hdd=>?_]];let agk:=s9 _ _ ah8;refine%[2,pd,rb,%[_|aN.of hd9]|λL2 hL2=>jf (K:=K) (a:=pd) (xs:=ds.map V.int) (λi ys G=>∃us:List Nat,ys=Ts (ones us)/\us.length=i/\G L2=some (.lst ys)/\aA H9 G)
      %[11,[],rb,rb,aq|aA.upd hL2] (λi ys G _ h=>by let(_,_,_,_,sm):=h;show aN.of (sm _ _ hd9)) ?_ ?_]
     .intro i z ys G2 Z z;let(us,rfl,o8,aa7,YF):=z;let hil:i<(ds.map V.int).length:=(al.mp Z).1;rw[bb]at Z;let(d0,_,rfl):=fz.mp Z;let(v,hv,Mp):=zU (xs:=Ts ws) (n:=ws.length) hTl xo d0;let(l,D,rfl):=aI.mp Mp;let(c,d,rfl,hc):=h2 l D;let agl:=YF _ _ agk;calc%[0,_,rb|%[27,_,rb,_,rb,N,_,rb,.inl (aN.of agl)|%[4,_,_,rb,rb,by rw[hTl];show (0:Int)<(ws.length:Int);lia|%[25,N,_,_,_,rb,rb,aN.of agl,by rw[hTl];show hv|%[60,[c,d],0,c,rb,rb,zsz 2,aO (j:=0) rb,aa7,by rw[ab,ab,o8];rw[ab]at hil;show aF xo|dZ.mk hil %[11,us++[c],?_,by simp[o8],aq|YF.bC hL2]]]]]];rw[<-jQ];unfold Ts;rw[bE];rfl
     .intro ys G2 z;let(us,rfl,o8,aa7,YF):=z;rw[ab,hdl]at o8;let Oj:=Jx us;calc%[18,L2,ones us,rb,rb,aN.of aa7,by rw[Oj];lia|%[4,_,_,rb,rb,?_|?_]];.rw[Oj];show hz _ (by simp;lia)
      rw[Oj];let hl2:∀l∈ws,l.length=2:=λl D=>(hws l D).1;calc%[10,N,b2,ws|%[10,ahf,marks2,r2|%[56,w2,bi2,bj2,8,4,us++[63,63],rb,YF _ _ agk,λl D=>aa3 (hws l D).1 (hws l D).2,Xi,(B2.mv s9).mv YF,by simp;lia,λl D=>?_,xt|xo]]];rw[oW,oW,hl2 l D];refine%[?_,?_|λls hls=>ay (Ho ls _) (ay (qh xt hls) xt)]
      .rcases hrw with⟨z,y⟩|⟨z,y⟩ <;> rw[z,y] <;> decide
      .rcases hrw with⟨z,y⟩|⟨z,y⟩ <;> rw[z,y] <;> decide
   .let hst:∀l∈ws,(dB r J l.length).length<=r*J/\(dB J r l.length).length<=r*J:=λl D=>by
     have:=(az l D).lo;rw[oW,oW,fc r J];show%[by rw[fc J r];show vn _ xo|vn _ xo]
    by_cases c:20<r*J
    .calc%[10,N,b,ws|%[10,aj,aM,r|%[56,J,bi,bj,r*J,4,rk,rb,agj,az,xo,B.mv xU,aa6,λl D=>%[(hst l D).1,(hst l D).2|λls _=>g4 (by have:=ah7 c;lia) ls],xt|?_]]];let h1:r*J<=9*9:=ip r9 w9;show ay (ip (show ws.length<=6 by lia) (fw 4 h1)) xt
    .calc%[10,N,b,ws|%[10,aj,aM,r|%[56,J,bi,bj,r*J,7,rk,rb,agj,az,xo,B.mv xU,aa6,λl D=>%[(hst l D).1,(hst l D).2|λls _=>g7 ls],xt|?_]]];show ay (ip (show ws.length<=6 by lia) (fw 7 (show r*J<=20 by lia))) xt
  .intro I G z;let(N,b,ws,aj,aM,r,J,bi,bj,mp,g,rk,rfl,Oo,az,Xi,B,hrk,hg,R7,hbd):=z;calc%[0,_,rb|λk dk nk ndk nek=>?_];let agm:aA G (upd (upd G dk (HO.own k)) k (HO.ins CB dk [])):=λc o e=>by rw[aZ (bN e nk),aZ (bN e ndk)];show e
   calc%[36,k,dk,N,ws,rb,aq,.inl (aN.of (agm _ _ Oo)),az,xo|λd ws2 H5 hd BK hmem hlen2 kp=>%[rb|?_]];let s5:aA G H5:=λc o e=>kp c o (agm c o e) (bN e nk);calc%[23,_,rb,_,rb,_,rb|%[6,b,k|%[6,d,ws2|%[10,r,J,aj|%[56,aM,bi,bj,mp,g,rk,rb,B.mv s5,BK,xo,xo,λl D=>hg l ((hmem l).mp D),R7,ay (fw _ hlen2) hbd|λpf as L H6 s6 hpf hY up ndL aib hmL=>?_]]]]];let s56:=s5.trans s6;let O:=B.ok;let okL:∀ts∈L,w6 aj r J (cC aj r J bi bj) ts:=λts h=>G3 O.br BK.az ((hmL ts).mp h);let okN:∀ts∈L,ts≠[]/\∀t∈ts,zp t:=λts h=>%[(okL ts h).ne|(okL ts h).zp O.r9 O.w9]
   let ahg:∀ts∈L,∀t∈ts,pI t:=λts h t ht=>by have:=(okN ts h).2 t ht;show%[by have:=this.2.1;lia|this.2.2]
   let hml:∀y,y∈Cr ws aj r J bi bj rk↔y∈L:=λy=>by rw[Oc O.br (λl D=>by have:=(az l D).lo;lia) xo,hmL,all_congr hmem]
   let(dx,pr,YD,pb0,hb6,ah9,_,ah_):=id (B.mv s56).ex;calc%[0,_,rb|%[55,_,_,_,true,rb,.tup hpf,xy|?_]];calc%[0,_,rb|bV %[9,_,rb,_,rb|%[38,b,C,dx,_,_,rb,hb6,cD.cl,cD.nr|%[8,rb,_,rb|%[12,b,C,dx,_,_,rb,hb6,cD.cl,cD.nb,rb|%[9,_,rb,_,rb|%[6,pr,pb0|%[10,N,aj,aM|%[61,ws,r,J,bi,bj,rk,L,rb,ah9,O,ah_|%[s56 _ _ Oo,az,xo,xo,xo,λy hy=>(hml y).mp hy|λp2 as2 M H7 s7 hp2 Er up2 LQ hm2=>?_]]]]]]]]]];let eM:M=L:=(Yu up up2 ndL LQ ahg λz=>by rw[hm2,hml]).symm;rw[eM]at Er;calc%[29,3,.tup (L.map wH),.tup (L.map wH),xt,(hY.mv s7).has (s7 _ _ hpf) okN,Er.has hp2 okN|?_];have:=q H7;simpa using this
end
end My
end
namespace My
open PySem L2
section
variable {P:Program}{w:World}{K:W.Frag}{mg:Str->Option Value}{base:Heap}
structure xq (K:W.Frag)(mg:Str->Option Value)(C f0 f1 f2 f3 f4 f5:Addr)(oN mY fd2 Bc Sv Sw:FuncData):Prop where
 T:fM K C
 YG:mg "Board"=some (.ref C)
 M:Mk K C f0
 F0:gO K "__init__" "Board.__init__" iQ f0 oN
 b0:cT K oN ["self","rows","marks","begin"] []
 F1:gO K "at" "Board.at" j6 f1 mY
 b1:cT K mY ["self","row","column"] []
 m1:Meth K C "at" f1
 F2:gO K "is_free" "Board.is_free" gk f2 fd2
 b2:cT K fd2 ["self"] []
 m2:Meth K C "is_free" f2
 F3:gO K "run" "Board.run" jt f3 Bc
 b3:cT K Bc ["self","row","column","way"] []
 m3:Meth K C "run" f3
 F4:gO K "turned" "Board.turned" gH f4 Sv
 b4:cT K Sv ["self"] []
 m4:Meth K C "turned" f4
 F5:gO K "laid" "Board.laid" iR f5 Sw
 b5:cT K Sw ["self","laying"] []
 m5:Meth K C "laid" f5
def aa8 {h:Heap}{C f0 f1 f2 f3 f4 f5:Addr}(X:K.In h)(G:h.Ns mainGlobals mg){F an0 od1 an1 L an2 od3 an3 od4 an4 N Y:Option Addr}{Z sl1 sl2 sl3 sl4 sl5:Array (Option Value)}{oc0 kV0 dc0 YD YH ct0 oc1 kV1 dc1 R8 YJ ct1 oc2 kV2 dc2 vm YK ct2 oc3 kV3 dc3 pm3 q ct3 O kV4 dc4 pm4 B ct4 J kV5 dc5 M D ct5:Value}(aC:W.nsIn K mainGlobals "Board"=some (some (.ref C)))(a0:W.findIn K (.ref C) "__init__"=some (some (.ref f0)))(i0:W.isFn K (.ref f0)=true)(l0:K.lookup f0=some %[oc0,F,.func (W.fnOf "__init__" "Board.__init__" (fu iQ) (cO iQ) (aH iQ) .none kV0 dc0 YD an0 YH ct0)|Z])(c0:W.codeIn K YH "Board.__init__"=true)(k0:W.keepIn K (.ref f0)=true)(a1:W.findIn K (.ref C) "at"=some (some (.ref f1)))(i1:W.isFn K (.ref f1)=true)(l1:K.lookup f1=some %[oc1,od1,.func (W.fnOf "at" "Board.at" (fu j6) (cO j6) (aH j6) .none kV1 dc1 R8 an1 YJ ct1)|sl1])(c1:W.codeIn K YJ "Board.at"=true)(k1:W.keepIn K (.ref f1)=true)(a2:W.findIn K (.ref C) "is_free"=some (some (.ref f2)))(i2:W.isFn K (.ref f2)=true)(l2:K.lookup f2=some %[oc2,L,.func (W.fnOf "is_free" "Board.is_free" (fu gk) (cO gk) (aH gk) .none kV2 dc2 vm an2 YK ct2)|sl2])(c2:W.codeIn K YK "Board.is_free"=true)(k2:W.keepIn K (.ref f2)=true)(a3:W.findIn K (.ref C) "run"=some (some (.ref f3)))(i3:W.isFn K (.ref f3)=true)(l3:K.lookup f3=some %[oc3,od3,.func (W.fnOf "run" "Board.run" (fu jt) (cO jt) (aH jt) .none kV3 dc3 pm3 an3 q ct3)|sl3])(c3:W.codeIn K q "Board.run"=true)(k3:W.keepIn K (.ref f3)=true)(a4:W.findIn K (.ref C) "turned"=some (some (.ref f4)))(i4:W.isFn K (.ref f4)=true)(l4:K.lookup f4=some %[O,od4,.func (W.fnOf "turned" "Board.turned" (fu gH) (cO gH) (aH gH) .none kV4 dc4 pm4 an4 B ct4)|sl4])(c4:W.codeIn K B "Board.turned"=true)(k4:W.keepIn K (.ref f4)=true)(a5:W.findIn K (.ref C) "laid"=some (some (.ref f5)))(i5:W.isFn K (.ref f5)=true)(l5:K.lookup f5=some %[J,N,.func (W.fnOf "laid" "Board.laid" (fu iR) (cO iR) (aH iR) .none kV5 dc5 M Y D ct5)|sl5])(c5:W.codeIn K D "Board.laid"=true)(k5:W.keepIn K (.ref f5)=true)(pg:W.plainGet K C Str.empty=true)(hd:W.hasDictIn K C=true)(po:W.plainOver K C=true)(sa:W.findIn K (.ref C) "__setattr__"=some (some (.builtin "object.__setattr__")))(mk:W.makesIn K C=true)(kc:W.keepIn K (.ref C)=true)(Oq:W.findIn K (.ref C) "rows"=some none)(nf1:W.findIn K (.ref C) "marks"=some none)(nf2:W.findIn K (.ref C) "begin"=some none):∃C f0 f1 f2 f3 f4 f5 oN mY fd2 Bc Sv Sw,xq K mg C f0 f1 f2 f3 f4 f5 oN mY fd2 Bc Sv Sw:=by let F0:=j9 (st:=iQ) l0 c0 k0;let F1:=j9 (st:=j6) l1 c1 k1;let F2:=j9 (st:=gk) l2 c2 k2;let F3:=j9 (st:=jt) l3 c3 k3;let F4:=j9 (st:=gH) l4 c4 k4;let F5:=j9 (st:=iR) l5 c5 k5;show%[6,C,f0|%[6,f1,f2|%[10,f3,f4,f5|%[10,_,_,_|%[10,_,_,_|%[%[%[pg,hd,po|sa],Oq,nf1|nf2],qk X G aC,%[mk,a0,i0|kc],F0,F0.binds (ps:=["self","rows","marks","begin"]) (λ_ _ _ _ _ _ us j=>L2.e4 (λ_ _ _ _=>rfl) us j),F1,F1.binds (ps:=["self","row","column"]) (λ_ _ _ _ _ _ us j=>L2.e3 (λ_ _ _=>rfl) us j),%[a1,i1|k1],F2,F2.binds (ps:=["self"]) (λ_ _ _ _ _ _ us j=>L2.e1 (λ_=>rfl) us j),%[a2,i2|k2],F3,F3.binds (ps:=["self","row","column","way"]) (λ_ _ _ _ _ _ us j=>L2.e4 (λ_ _ _ _=>rfl) us j),%[a3,i3|k3],F4,F4.binds (ps:=["self"]) (λ_ _ _ _ _ _ us j=>L2.e1 (λ_=>rfl) us j),%[a4,i4|k4],F5,F5.binds (ps:=["self","laying"]) (λ_ _ _ _ _ _ us j=>L2.e2 (λ_ _=>rfl) us j)|%[a5,i5|k5]]]]]]]
structure zH (K:W.Frag)(mg:Str->Option Value)(C f0 f1 f2:Addr)(oN mY fd2:FuncData):Prop where
 T:pR K C
 YG:mg "Book"=some (.ref C)
 M:Mk K C f0
 F0:gO K "__init__" "Book.__init__" ju f0 oN
 b0:cT K oN ["self","words"] []
 F1:gO K "has" "Book.has" j7 f1 mY
 b1:cT K mY ["self","text"] []
 m1:Meth K C "has" f1
 F2:gO K "words" "Book.words" iU f2 fd2
 b2:cT K fd2 ["self"] []
 m2:Meth K C "words" f2
def adG {h:Heap}{C f0 f1 f2:Addr}(X:K.In h)(G:h.Ns mainGlobals mg){q N od1 an1 F D:Option Addr}{O L sl2:Array (Option Value)}{M kV0 dc0 YD YH ct0 J B Y R8 YJ Z oc2 kV2 dc2 vm YK ct2:Value}(aC:W.nsIn K mainGlobals "Book"=some (some (.ref C)))(a0:W.findIn K (.ref C) "__init__"=some (some (.ref f0)))(i0:W.isFn K (.ref f0)=true)(l0:K.lookup f0=some %[M,q,.func (W.fnOf "__init__" "Book.__init__" (fu ju) (cO ju) (aH ju) .none kV0 dc0 YD N YH ct0)|O])(c0:W.codeIn K YH "Book.__init__"=true)(k0:W.keepIn K (.ref f0)=true)(a1:W.findIn K (.ref C) "has"=some (some (.ref f1)))(i1:W.isFn K (.ref f1)=true)(l1:K.lookup f1=some %[J,od1,.func (W.fnOf "has" "Book.has" (fu j7) (cO j7) (aH j7) .none B Y R8 an1 YJ Z)|L])(c1:W.codeIn K YJ "Book.has"=true)(k1:W.keepIn K (.ref f1)=true)(a2:W.findIn K (.ref C) "words"=some (some (.ref f2)))(i2:W.isFn K (.ref f2)=true)(l2:K.lookup f2=some %[oc2,F,.func (W.fnOf "words" "Book.words" (fu iU) (cO iU) (aH iU) .none kV2 dc2 vm D YK ct2)|sl2])(c2:W.codeIn K YK "Book.words"=true)(k2:W.keepIn K (.ref f2)=true)(pg:W.plainGet K C Str.empty=true)(hd:W.hasDictIn K C=true)(po:W.plainOver K C=true)(sa:W.findIn K (.ref C) "__setattr__"=some (some (.builtin "object.__setattr__")))(mk:W.makesIn K C=true)(kc:W.keepIn K (.ref C)=true)(Oq:W.findIn K (.ref C) "held"=some none):∃C f0 f1 f2 oN mY fd2,zH K mg C f0 f1 f2 oN mY fd2:=by let F0:=j9 (st:=ju) l0 c0 k0;let F1:=j9 (st:=j7) l1 c1 k1;let F2:=j9 (st:=iU) l2 c2 k2;show%[6,C,f0|%[6,f1,f2|%[10,_,_,_|%[%[%[pg,hd,po|sa]|Oq],qk X G aC,%[mk,a0,i0|kc],F0,F0.binds (ps:=["self","words"]) (λ_ _ _ _ _ _ us j=>L2.e2 (λ_ _=>rfl) us j),F1,F1.binds (ps:=["self","text"]) (λ_ _ _ _ _ _ us j=>L2.e2 (λ_ _=>rfl) us j),%[a1,i1|k1],F2,F2.binds (ps:=["self"]) (λ_ _ _ _ _ _ us j=>L2.e1 (λ_=>rfl) us j)|%[a2,i2|k2]]]]]
def adH (j:mg "len"=none)(D:mg "range"=none)(G:mg "sorted"=none)(B:mg "tuple"=none)(Z:mg "list"=none)(O:mg "isinstance"=none)(M8:mg "bool"=none)(Y:mg "int"=none)(Ko:mg "str"=none)(M:mg "all"=none)(Af:mg "any"=none)(Va:mg "set"=none)(jx:mg "enumerate"=none)(U9:mg "zip"=none)(Vb:mg "min"=none)(L:∃t,mg "FREE"=some (.str (S [46]) t))(Gz:∃t,mg "MARKS"=some (.str (S MK) t))(Ea:∃t,mg "MOST"=some (.int 9 t))(uy:∃t,mg "LETTERS"=some (.str (S AL) t))(tU:∃t,mg "MOST_TILES"=some (.int 7 t))(Vh:aQ K mg "is_whole" wM ["thing"])(YL:aQ K mg "is_sign" yR ["thing"])(Qi:aQ K mg "letter_of" uK ["sign"])(YM:aQ K mg "tile_of" yS ["sign"])(E_:aQ K mg "turned_laying" oJ ["laying"])(Vi:aQ K mg "is_block" wN ["thing"])(Vj:aQ K mg "are_rows" wO ["thing"])(Qj:aQ K mg "are_marks" uL ["thing"])(Ot:aQ K mg "is_cell_of" sS ["rows","row","column"])(J1:aQ K mg "is_begin_of" qG ["rows","thing"])(Vk:aQ K mg "is_board" wQ ["rows","marks","begin"])(J2:aQ K mg "column_text" qH ["rows","column"])(J3:aQ K mg "turned_rows" qI ["rows"])(Vl:aQ K mg "cells_of" wR ["laying"])(zJ:aQ K mg "is_next_to_taken" lK ["board","row","column"])(Fb:aQ K mg "cross_letters" oK ["board","book","row","column","way"])(Ou:aQ K mg "free_cells" sW ["board"])(adI:aQ K mg "hooks" Gn ["board"])(aa9:aQ K mg "starts" BP ["board","word"])(Cv:aQ K mg "letters_to_lay" nG ["board","row","column","word"])(Hq:aQ K mg "letters_down" pL ["board","book"])(J4:aQ K mg "can_be_laid" qJ ["triples","fitting","joining"])(Ov:aQ K mg "sign_texts" lM ["letters","rack"])(Ow:aQ K mg "layings_of" sX ["triples","rack"])(Cw:aQ K mg "layings_across" nH ["board","book","rack"])(J5:aQ K mg "all_layings" qK ["board","book","rack"])(YQ:aQ K mg "is_word" yV ["text"])(Ox:aQ K mg "check_word" sY ["text"])(YS:aQ K mg "_law_cell_at" yX ["_law_script","_law_k"])(agn:aQ K mg "_law_next" MF ["_law_x"])(adJ:aQ K mg "_law_other" Gp ["_law_x"])(aa_:aQ K mg "_law_number" BR ["_law_script","_law_k"])(abb:aQ K mg "_law_digits" BW ["_law_script","_law_k","_law_base","_law_many"])(YT:aQ K mg "_law_letters" yZ ["_law_script","_law_k"])(adK:aQ K mg "_law_words" Gq ["_law_letters_here","_law_script","_law_start","_law_many"])(ago:aQ K mg "_law_size" MJ ["_law_x"])(adL:aQ K mg "_law_board" Gr ["_law_letters_here","_law_script","_law_start","_law_x"])(agp:aQ K mg "_law_rack" MN ["_law_letters_here","_law_script","_law_k","_law_most"])(aia:aQ K mg "_law_at" aau ["_law_rows","_law_row","_law_column"])(adM:aQ K mg "_law_fresh" s_fresh ["_law_rows","_law_word","_law_row","_law_column","_law_way"])(adN:aQ K mg "_law_cross" Gs ["_law_rows","_law_row","_law_column","_law_way","_law_letter"])(abd:aQ K mg "_law_joined" BX ["_law_rows","_law_begin","_law_cells"])(YW:aQ K mg "_law_crossed" zf ["_law_rows","_law_words_here","_law_cells","_law_way"])(YX:aQ K mg "_law_dressed" zj ["_law_cells","_law_rack_here"])(ahh:aQ K mg "_law_all" Ur ["_law_rows","_law_begin","_law_words_here","_law_rack_here"])(adO:aQ K mg "_law_pairs" Gu ["_law_x"]){adP adQ adR adS adT adU adV:Addr}{abe abf abg abh abj abk:FuncData}(J:xq K mg adP adQ adR adS adT adU adV abe abf abg abh abj abk){agq agr ags agt:Addr}{adW adX adY:FuncData}(q:zH K mg agq agr ags agt adW adX adY){f:Addr}{fd:FuncData}(F:gO K "law" "law" Km f fd):n_ P w K mg base fZ 20 f fd ["_law_script"] (Kc K):=by let c1:=Uw (P:=P) (w:=w) (base:=base) YS j;let c2:=ac9 (P:=P) (w:=w) (base:=base) agn;let c3:=aav (P:=P) (w:=w) (base:=base) adJ;let c4:=Xk aa_ c1 c2 c3;let N:=Xl abb D c1 c2 c3 c4;let c6:=Ux YT Z N;let c7:=PJ adK j D G Z N;let c8:=ada (P:=P) (w:=w) (base:=base) ago;let p1:=Ut (P:=P) (w:=w) (base:=base) YL j Ko O;let p2:=PL (P:=P) (w:=w) (base:=base) Vh Y M8 O;let p3:=PN (P:=P) (w:=w) (base:=base) Vi j B Ko M O Ea;let p4:=PX Vj M L p3 p1;let p5:=M9 Qj M Gz p3;let p6:=JQ Ot j p2;let p7:=GC J1 j B O p6;let p8:=P0 Vk j p4 p5 p7;let p9:=GD (P:=P) (w:=w) (base:=base) J2;let pA:=GF J3 j D B p9;let g0:=JT J.F0 J.T p8;let g1:=ahb J.F1 J.T L p6;let g2:=UL (P:=P) (w:=w) (base:=base) J.F2 J.T M L;let g3:=afQ J.F3 J.T j L p9;let g4:=XC J.F4 J.T J.YG J.M g0 J.b0 pA;let g5:=adi J.F5 J.T Z B J.YG J.M g0 J.b0;let w1:=Uy (P:=P) (w:=w) (base:=base) YQ j M;let w2:=JN Ox w1;let k0:=adf q.F0 q.T w2;let k1:=afM (P:=P) (w:=w) (mg:=mg) (base:=base) q.F1 q.T;let k2:=aaz (P:=P) (w:=w) (base:=base) q.F2 q.T G B;let x3:=Nk adL j D B Y J.YG J.M g0 J.b0 c8 N;let x4:=Cj Fb j uy J.T q.T J.m5 g5 J.b5 J.m3 g3 J.b3 q.m1 k1 q.b1;let y1:=U5 zJ Af L J.T J.m1 g1 J.b1;let y2:=JV (P:=P) (w:=w) (base:=base) Ou jx L J.T;let y3:=aaL adI B J.T J.m2 g2 J.b2 y2 y1;let y4:=Cm (P:=P) (w:=w) (base:=base) E_ B G;let z1:=Qe (P:=P) (w:=w) (base:=base) Vl;let z2:=Nz (P:=P) (w:=w) (base:=base) Qi;let z3:=Yc (P:=P) (w:=w) (base:=base) aa9 j D J.T;let z4:=Ak Cv j jx L J.T J.m1 g1 J.b1 z2;let z5:=Ek Hq y2 x4;let z6:=GR J4 j M Af tU z1;let z7:=JW (P:=P) (w:=w) (base:=base) Ov YM;let z8:=JX Ow B U9 z1 z7;let z9:=Al Cw q.T q.m2 k2 q.b2 z5 y3 z3 z4 z6 z8;let za:=G_ J5 Va G B J.T J.m4 g4 J.b4 z9 y4;let zc:=adw agp j Vb Y N;let x1:=XJ (P:=P) (w:=w) (base:=base) aia j;let x2:=aaD adN x1;let xa:=aaW adM j x1;let xb:=Yq abd j x1;let xc:=Ve YW j x2;let xd:=Vf (P:=P) (w:=w) (base:=base) YX B G;let xe:=af7 ahh j D B Z G xa xb xc xd;let xf:=aa4 (P:=P) (w:=w) (base:=base) adO D G;show(agc F j B Y O J.T q.T q.YG q.M k0 q.b0 c6 c4 N c7 x3 zc za xf xe).mono xt
end
end My
namespace PySem.W.Fast
abbrev U:=True
local macro_rules|`(universe $x*)=>do return Lean.mkNullNode (<-x.mapM λi=>`(def $(Lean.mkIdent (.mkSimple s!"tw{i.getId.toString.foldl (λn c=>n*52+(c.toNat-if c.toNat<91 then 65 else 71)) 0}")):ident := U))
universe WxMzlWjEZuz CDIyrAnAlaIs fyqxxeyVzrY BemSxgzrdIlN BRjFwCIIGxnH BrTufSJpzzAr CLyuhdHDbAqw CIQiMHavIPFK BTyJLSCGgMTX BlxNZWmrnHvB BioopoklTGYW CNJRRJuqFbzO CPSyFPDPVkcf BLdYffZqfhZy CFNAUmMxsEZI XkjVNitSWyP CTXEAMpPkihz CSrMutEyFKtR BfTUbNDPKFHs BedkAQBgoHwK llefAuojfyd CjUdLvUjGeS uIKAXqKbKoC BnupZsIumyJR BYoXmttYpaCG BijgDEkXNxwY BUCMsbhSeDzc eiyQhcRtnlc MBKKCgEMota BXndxHbBgekJ CBHRoGjanLwc BtanDQOotRIa BMfKbfVWXkHy BzTQTbpLMtpi BKRWNlMJadAa TjfmUXvGosp BBwdYQgxWWaZ BjuGNRnlxjin yegvcVAsrlI CRVnxTOyfKlK CSHXxCcSVTmF BViBlFAcbCRN ysogUauJxun UnrEdFaJSyl CIpWbQlfVGPw CHZjxyFHMdBv mHhGfHOQcmB BMRDsfVGRloL laahXRxdSdL BdaxVgJRQXoG CNlaIpqiMiGO CKTwXjiULjeO znmZnUXXiHf hjPIUMKpvRP BkbrzNpZWyZr CCdQkYHqYCPJ BBDzRteRcMVt pHLXRejTKQj BODlokBOiKsn pIqgMjOSBDB kHIbXpUHYxY CJCUHpYwwcnd gkvpLoQbHCx BgynLgNwdFuw BcUMjSDgtrpE BcCxPtwochll ZGNZTfDzgMh BUgXDqSMqdkh BaMhUTkiFifS CfeKCvsvxWs CRAyJljTirvd CCngYgEnFzbn ixyCEkKKRBJ DqXoeXZEmUT BMWjMRoIJVCG BhWnWvrxsAcR HcGXZQcHMDn gThjKuWgTYR emKjLnuiSsd CXCdAvCKbXao BsrHiYAYswMw QYALAPvYqRo BikOaihdQVJG CCSHCUdWYWKv HpDxxpBjzVH CFKjmdODfahg CCrDXJEfVkER BwMKYDSQSLvG BcIMhwKwAgqA BudGwuQcHxWU BQJRLCNYvdDu TOzVXREoWMj xIiKNyMBwfO BoEdzAGlSrFV BPmUspnlEFRk wqDjkrRYafJ CJuiVvQCXdQQ DlTNyZXVEzf BlRYvxedNSq eergLeSaZkD BdwAZEZbyVwx sJyPPdIWgFC jAtfhRcvbiP vBhXOSAeADp FxsdvZkdEIt BBLzXJplcarp CTMRFCGfBlhb BFSSunRalXYk dWpWWupPrXn BqBzdrocIPeX asiToRyUmrj BGbLNztdlnWH BEinYxORQfZE BpiLkEtTQXCF DRCFgxbsSAc CBiQMTcuRofy pfqvqJQiaGO GDOQGNiRAfn aohGehWbBCA PDwDMhXkiaE CRUaWPWsZthz BFnVEwFIKvFO CSLczHTdrpBh BTIWrkQijQhZ BxFulEfPXtBX BRQTCpqAxSSO BkwgkMiqfpVq BuoobOoOPybH JwiHAFvqUCY oTFvbMfJONm BQQYevOVfuqn BidDegMEBLGI qBFsWYqYzqG BXuNrXVprHSv nfibeWuBJnS CRpxemEuTmMq kHtyAktrhWg BsqqoJoIgISf CHYFEbYZNsjy BWKfhyRwpIRW CDgGQlQPQBlD BerfpDlvZAIS BDnoccTkoRE BabnbFSYDlON BkoPxQSSUidL CLizUrOEDvUE CJnSpkNmOtJV CIlrSSdATURT IRRdZlhdCat ooULqDfdoGO CIUeWWUpMzoD BUoqGqWiNyCl dGpOArbDoGQ CPyJrUqDhYWA CSfqVDuCyTwB rQJOpQMJNyf XZuwvZzvQEN CDrMBvvxgBII xImIfEpwOsg oYEkmudOtnX BdxUiObNKFFc peUAwEkenPo BCmtuOvwZkNt CHxLpqqzofyf dZCBnWTeFfF CXRrrCbZmaLl BMPrvYAWbXhT BOoAFHYJDALN CVTQTHIKZaeJ KMFNdkqsrvy fnAppdewUwA BgfrfGkOGtgo qGrEgLEfbOK BFOiRFzgHBSA BAtfrwqCGctC CBDlpanAiykJ BeCGCGNcQLfN BikfjEiPckzF GqGLVWShQUn afJZOXyTbUJ CIyNsqqyvNNT BCiIPRgsmyqR BGooHBJWKERM uOMAEjdhzGt CMUQHDGFJwIv CJsbHFQzTdsq ZBQxEiswMfS BQShvyunInoR BsOnMnwotRxc gKVfpVTxXFq pnKKAysepRD CSOTvAVtdAjv BSQKiENGJHyD xqjWVdaeMdM CRHzMzELrHfd yCYlVlleYco iZqkIIUXJIC OkADRJTwlmj BiZAIVykxEcg CLgGrOBKKTfF BGIrppJLFIyU HpmnXXXvZaU CSIlahyIrHIx RLTWJgpFjgO OlHCWjvedeR CFRvtQMhmIts krIHbtdkPQs IoZRkbRxfPF CNmxmBKQAHAe BsbFwIMNkAGU MiuFpJqjYqo BkmexnPxEomk BTxczzeKhLId UvRsPlElOIc BXhjlgnrUHQQ vWFPuPDjVWa CRmrDSlEwnJn EtqryCrzVpk CRkxJdZZBvuK zaUpLaPrXAX BEGlZCvJmooe BmtoYEnkDgXa BJeXwWeSFsaQ OGkSCRCutHr cXDkNhDBaWB JEAFDqKxdeB ByFRNQDrJFBj BXJDXxnIoulv BFEoaZEIOByp UhzgYNnRkHI CWsFnqLJcHNY CDcbQWZsCVsO gyIZDnIgnrg cxXwHQakptM WAMlMsVRKxT BNMRXdJfvjIf BjytSYHVGAhN BXgmGTIZKofT CNmbTlhfpldt BoEnauiGKgmb CQlvrvxSUOmC BhIsEVWAmMWO DmbmvIofaOb TDOtEeBkpih CUxyUoBKLIBT CFSmifDWIhaa CFIPrPTATcpj jOqVxkkaHNI mQxkOOMyzki BBhfsedLhEvl BEgxZOdyypvy CMoMUWaYIIrI PIKnHflpDck BeZsHsgmoDzQ BNdecWMQbXbD BwDawToYNJZp BvPJNFJYEPQp BQEmfSHELZvm EhcGvSXVsJh oUkBcqQhgON BiMebNnfdhsU BHruKscteICg OFtxjNfwyor CGJmlXHvTFnx xYHSgiAtTJs CGUeyGjEypav mSPFvnHzctj nBsQRMqyijo CWVpXeBWAQMn BTwxYiHIEvPd BpVQdiCbRFXj CIDFFQBxyWzV BaWOcwcoZnZW BWlQPYamLPtH BEVlsXFvUxWr rZjdaezCmwM RMoJHaNHOJC CUuVNEZRBXaw xTdjtZfWvNt TeBTuQIYMaF mEPfRsLBEMv BWmYZpFbjgQg BCwhjFEYkBvt BwjTGxdPJHxp CBlUpyKcflCz BTDPfuUsdBnt BBCDtlWKAzKI BmSSxyslcktW LvFjScdbtci RdERBtzgFFE BIIXgPfEvvVT BuxxNBqZqPiB BWcWwyWMOGGQ QEwCWcQsgKo CBHBoAgrzTfE tenBAKvuPlZ BWsuTbrYHRWY BkoFzWSQiqWF CJIZFuwUvDkV BhXTFfrSDFAr XEyMuBIlNHw BKcrPqnRFwtF euFQUpyfiGv jyZbVnIXTDx cUwbGTLJSxo oOXJEEhxUCS bwpvGNvcxlw BsexBplzgCFm BNHisAOmkwLA BTfJGYxxRliP BIFyYjTAYpnn utnSOOLmmqs XXJWePJmCdp BcDsJbAfFVcp BZKAmqkpnhty CPOGXyZlYYwv gvYceFKTLea BMkxhjcFVMJh BPDMJkVqDaPk fETYaLQBvjk ymLhXNKrkFt CBuBGYrIoctJ SrdClthALUq CLMrXaYMwXBC Hufiowgrasd BIaxrlFYWNGK EEOFbeodoos BYmDloftkCis DZYyNDacQXm CTDRehPQlPMx CBaXxfaZgpqt BYeHjWJSNBQD BQawStMxIiLG CPrYEUYbtVwi CLaWcZFnikRw BMRjSmvvIinH CEQWRRUQcovu BzVCACVbmkcv BAUPjWGZuNeX JvwrKRhWgZv EbKBkgkmjdU BoIwdopqVGjQ VPIZCRHlPur CNRDRRplmsdz BZmuqndaIjfU CAjyFsKzgvzM BPDZxkYumDwE FNccgaGGlws BXGFOFPLhUAL CRsQVPDlTZUb BIyYUJPFuyOH BvaKYnKYkfEL CWukvatPQpAu mHtauXrtoNB EdXMNOqrjfS BqZBYzULtyLN CWbhyZhDWQlD UbdMQazrtFZ CGMFtpMgeglb BQzPmilNTAKE BprmhyoRypUg CRNbTprtYIya HsgtRLAumyZ ByfnwMbQKWeA CFILVGTFNwau BzEtbxXWWCvA LzbwAAkQVxA CJoeMqNTVnhC eeXXiTJvNgu BiKUBwVJXcmJ IgEYQCytpwL BfzKccpEnPzA hzeyfONiGqW BBcjEkRCBpOJ BbwYInPgxnXs jyELANHKHXl ayRMfTSKahG wAzZAyUXkhO IUBcTSIgUSG BNxjEWDQsSFC UodvkCpFqDe cXUnnFpvUbh BUeDWWHCUbmQ xxbfYHmjqgE BebYESqyfAiz BLRKKCldpmTT gUMOSXHLEVE nCNbHDfKAPW KPLLXzzGPjp ryejahUmQrQ BUhptxpWUwlp BZyVjBufheYc RTLYeTmOXbA ICKSKsupiYJ kfaXbRCoKqh BGKsgLsKyBqp YBFNwkHDcyf CKpkRNObtejG KrSAtaBzUM CEiVFDwkArHd BLzvfNHRNWFO BOKsPnkbRifc BAOMfVXdDeFc ByOAqCpvtlaJ lsbRhFeaPPK CUdffKbunzlO RkygoKIWnHO CEjkYKmAdLuK BiXreZUAVJxg BYhhxOLGHvBI oKCgxnBRdDl YmDomFJlQRV BGlOxmZTJLNv zdEJwVCtVvZ DKDxAkmbYWJ BsGjXynblqln
end PySem.W.Fast
open PySem PySem.W PyProof.Rows
def L2.dK {K:W.Frag}{h:Heap}{mg:Str->Option Value}{name:Str}{st:Stmt}{ps:List Str}{f:Addr}{oc:Value}{od an:Option Addr}{osl:Array (Option Value)}{kV doc pm bh ct:Value}(X:K.In h)(G:h.Ns mainGlobals mg)(a:W.nsIn K mainGlobals name=some (some (.ref f)):=by k_is)(l:K.lookup f=some %[oc,od,.func (W.fnOf name name (L2.fu st) (L2.cO st) (L2.aH st) .none kV doc pm an bh ct)|osl]:=by k_is)(c:W.codeIn K bh name=true:=by k_is)(k:W.keepIn K (.ref f)=true:=by k_is)(q:∀(kV doc pm:Value) (an:Option Addr) (bh ct:Value) (us:List Value),us.length=ps.length->bindArgs (W.fnOf name name (L2.fu st) (L2.cO st) (L2.aH st) .none kV doc pm an bh ct) %[us|[]]=pure (ps.zip us):=by intro _ _ _ _ _ _ us j;first|show(L2.e1 (λ_=>rfl) us j)|show(L2.e2 (λ_ _=>rfl) us j)|show(L2.e3 (λ_ _ _=>rfl) us j)|show(L2.e4 (λ_ _ _ _=>rfl) us j)|show(L2.e5 (λ_ _ _ _ _=>rfl) us j)):L2.aQ (L2.KOf X) mg name st ps:=L2.ZC X G a l c k q
def L2.nK {K:W.Frag}{h:Heap}{mg:Str->Option Value}{x:Str}(X:K.In h)(G:h.Ns mainGlobals mg)(z:W.nsIn K mainGlobals x=some none:=by k_is):mg x=none:=W.mg_none_of X G z
def L2.gS {K:W.Frag}{h:Heap}{mg:Str->Option Value}{x:Str}{l:List Nat}{t:Tok}(X:K.In h)(G:h.Ns mainGlobals mg)(z:W.nsIn K mainGlobals x=some (some (.str (L2.S l) t)):=by k_is):∃t,mg x=some (.str (L2.S l) t):=L2.ZF X G z
def L2.gI {K:W.Frag}{h:Heap}{mg:Str->Option Value}{x:Str}{i:Int}{t:Tok}(X:K.In h)(G:h.Ns mainGlobals mg)(z:W.nsIn K mainGlobals x=some (some (.int i t)):=by k_is):∃t,mg x=some (.int i t):=L2.ZG X G z
set_option maxRecDepth 100000 in
set_option maxHeartbeats 0 in
theorem PySem.Challenge.cw_letterrack_k43_none_lacks_holds : PySem.Challenge.rw_letterrack_k43_none_lacks.Holds := by
 w_on;o_law;k_head;(case hw=>w_witness2)
 k_fill
 refine L2.acr (x:="_law_script") (l:=PySem.Challenge.rw_letterrack_k43_none_lacks) rfl rfl (λw h Y=>W.kIn_of Y) ?F
 case F=>
  intro w mg fa h KX G hmg;have YZ:∃C f0 f1 f2 f3 f4 f5 oN mY fd2 Bc Sv Sw,My.xq (L2.KOf KX) mg C f0 f1 f2 f3 f4 f5 oN mY fd2 Bc Sv Sw:=by
   dsimp only[L2.KOf];refine' My.aa8 KX G ?aC ?a0 ?i0 ?l0 ?c0 ?k0 ?a1 ?i1 ?l1 ?c1 ?k1 ?a2 ?i2 ?l2 ?c2 ?k2 ?a3 ?i3 ?l3 ?c3 ?k3 ?a4 ?i4 ?l4 ?c4 ?k4 ?a5 ?i5 ?l5 ?c5 ?k5 ?pg ?hd ?po ?sa ?mk ?kc ?Oq ?nf1 ?nf2
   case aC|a0|i0|l0|c0|k0|a1|i1|l1|c1|k1|a2|i2|l2|c2|k2|a3|i3|l3|c3|k3|a4|i4|l4|c4|k4|a5|i5|l5|c5|k5|pg|hd|po|sa|mk|kc|Oq|nf1|nf2=>k_is
  obtain⟨_,_,_,_,_,_,_,_,_,_,_,_,_,abl⟩:=YZ;have abm:∃C f0 f1 f2 oN mY fd2,My.zH (L2.KOf KX) mg C f0 f1 f2 oN mY fd2:=by
   dsimp only[L2.KOf];refine' My.adG KX G ?aC ?a0 ?i0 ?l0 ?c0 ?k0 ?a1 ?i1 ?l1 ?c1 ?k1 ?a2 ?i2 ?l2 ?c2 ?k2 ?pg ?hd ?po ?sa ?mk ?kc ?Oq
   case aC|a0|i0|l0|c0|k0|a1|i1|l1|c1|k1|a2|i2|l2|c2|k2|pg|hd|po|sa|mk|kc|Oq=>k_is
  obtain⟨_,_,_,_,_,_,_,adZ⟩:=abm;have lw:∃fd:FuncData,L2.gO (L2.KOf KX) "law" "law" My.Km fa fd/\∀(s:Shared) (v:Value),BindsTo s fd ⟨[v],[]⟩ [("_law_script",v)]:=by
   dsimp only[L2.KOf];refine' L2.ae1 KX G hmg ?a ?l ?c ?k ?b
   case a|l|c|k=>k_is
   (case b=>exact λ_ _ _ _ _ _ _=>rfl)
  obtain⟨fd,F,hb⟩:=lw;exact⟨0,fd,hb,λbase _ _=>My.adH (L2.nK KX G) (L2.nK KX G) (L2.nK KX G) (L2.nK KX G) (L2.nK KX G) (L2.nK KX G) (L2.nK KX G) (L2.nK KX G) (L2.nK KX G) (L2.nK KX G) (L2.nK KX G) (L2.nK KX G) (L2.nK KX G) (L2.nK KX G) (L2.nK KX G) (L2.gS KX G) (L2.gS KX G) (L2.gI KX G) (L2.gS KX G) (L2.gI KX G) (L2.dK KX G) (L2.dK KX G) (L2.dK KX G) (L2.dK KX G) (L2.dK KX G) (L2.dK KX G) (L2.dK KX G) (L2.dK KX G) (L2.dK KX G) (L2.dK KX G) (L2.dK KX G) (L2.dK KX G) (L2.dK KX G) (L2.dK KX G) (L2.dK KX G) (L2.dK KX G) (L2.dK KX G) (L2.dK KX G) (L2.dK KX G) (L2.dK KX G) (L2.dK KX G) (L2.dK KX G) (L2.dK KX G) (L2.dK KX G) (L2.dK KX G) (L2.dK KX G) (L2.dK KX G) (L2.dK KX G) (L2.dK KX G) (L2.dK KX G) (L2.dK KX G) (L2.dK KX G) (L2.dK KX G) (L2.dK KX G) (L2.dK KX G) (L2.dK KX G) (L2.dK KX G) (L2.dK KX G) (L2.dK KX G) (L2.dK KX G) (L2.dK KX G) (L2.dK KX G) (L2.dK KX G) (L2.dK KX G) (L2.dK KX G) (L2.dK KX G) abl adZ F⟩
