import PyProof.Rows.All
import Wide.All
import OpenK.AllK
import Wide.FinOn
import Lean
import PyProof.EqAt
import PyProof.EqKinds
import PyProof.TupleCall
import PyProof.ZipIter
import PyProof.DictWalks
import PyProof.StrOps2
import KE.IntTextLaws
import PyProof.StrBlockI
import PyProof.StrLawsIn
import PyProof.AutoSeq1
import PyProof.WalkInts
import PyProof.Rows.SetFrom
import PyProof.SetKind
import PyProof.CollectWalk
import PyProof.MinMaxWalk
import PyProof.TupleKey
import PyProof.FString5
import KE.KDictOf
import PyProof.AttrMissHeap
import KE.KSortTup
import PyProof.MeetsSeq3
import PyProof.DictUpdate
import PyProof.StrLawsChain
import PyProof.StrLawsTight
import PyProof.Rows.StrItems
import PyProof.ExcInit
import PyProof.ExcClass3
import PyProof.ExcBaseAll.ValueError
import PyProof.FString
import PyProof.Rows.FStr
import PyProof.RaisesMany
import PyProof.RulesAs
import PyProof.NsDelKeeps
import PyProof.ExcAttrAll.ValueError
import PyProof.Rows.SumAny
import PySem.Challenge.RW_digmatrix_k85_whole_text_to_witness
theorem Z{α:Sort u}{a:α}:a=a:=rfl
local macro_rules|`(tactic|exists $es,*)=>`(tactic|refine ⟨$es,* ,?_⟩)
set_option hygiene false
local macro_rules|`(tactic|kt_k)=>`(tactic|(decide +kernel))
local macro_rules|`(tactic|kd_p)=>`(tactic|(try dsimp only [zz]))
local macro_rules|`(tactic|w_up)=>`(tactic|(dsimp only [zz]))
local macro_rules|`(tactic|walk)=>`(tactic|(decide))
local macro_rules|`(tactic|fin2)=>`(tactic|(dsimp only))
local macro_rules|`(tactic|x_go)=>`(tactic|(try dsimp only))
local macro_rules|`(tactic|z_go)=>`(tactic|(exact this))
local macro_rules|`(tactic|k_go)=>`(tactic|(subst e))
local macro_rules|`(tactic|k_in)=>`(tactic|(with_unfolding_all rfl))
local macro_rules|`(tactic|k_ne)=>`(tactic|(kernel_rfl))
local macro_rules|`(tactic|left)=>`(tactic|(constructor))
local macro_rules|`(19)=>`(s.heap.objs.size)|`(20)=>`(Tx K mg w C_Reading zn zk zx zq zm zr zo zv zw zh)|`(28)=>`(model prog w)|`(50)=>`(by decide +kernel)|`(55)=>`(Inv X pins σ H s)|`(79)=>`(keysOf ts (aJ us))|`(80)=>`(by lia)|`(81)=>`(by simp)|`(82)=>`(by decide)|`(83)=>`(model X.prog X.w)|`(84)=>`(xs.length)|`(85)=>`(some o)|`(86)=>`(zg K Z)|`(87)=>`(ts.zip az)|`(88)=>`(List Str)|`(89)=>`(sizeLine)|`(91)=>`(s.heap)|`(92)=>`(fs.zip af)|`(93)=>`(C_Reading)|`(94)=>`(false)|`(96)=>`("_law_telling")|`(97)=>`(by rfl)|`(98)=>`(.ref a)|`(99)=>`(List V)|`(101)=>`(.ref p)
local macro_rules|`(103)=>`(starEach es X.env)|`(104)=>`(s.heap.get? b)|`(105)=>`(items.size)|`(106)=>`(X.env)|`(107)=>`(es.size)|`(108)=>`(j.heap.objs.size)|`(109)=>`(us.length)|`(110)=>`("telling")|`(111)=>`(rs.length)|`(112)=>`(Value.none)|`(113)=>`(kvs.length)|`(114)=>`(V.str)|`(115)=>`("list")|`(116)=>`("_law_label")|`(118)=>`("tuple")|`(119)=>`(X.env.locals)|`(120)=>`(x.length)|`(121)=>`(ys.length)|`(122)=>`(V.ref)|`(123)=>`(h.objs.size)|`(124)=>`(s.toks)|`(125)=>`(A.handled)|`(126)=>`(X.prog)|`(127)=>`(ps.length)|`(129)=>`(ts.length)
local macro_rules|`(130)=>`(fs.length)|`(131)=>`(X.dB.heap.objs.size)|`(132)=>`(keys.length)|`(133)=>`("list_reverseiterator")|`(134)=>`("enumerate")|`(135)=>`(PySem.F.slot_list_append)|`(136)=>`(PySem.F.type_list_append)
abbrev aC:=PySem.W.Frag
abbrev ai:=PySem.Addr
abbrev aF:=PySem.Shared
abbrev au:=PySem.Value
abbrev bD:=PySem.Program
abbrev aP:=PySem.Value->PySem.Shared->Prop
abbrev bA:=List (PySem.Addr×PySem.Obj)
abbrev ah:=@PySem.wpAny_bind
abbrev ay:=@List.length_map
abbrev av:=@PySem.wpAny_pure
abbrev aX:=@PySem.Heap.get?_push_of_some
abbrev aO:=@decide_eq_true
abbrev aM:=@List.mem_cons
abbrev ao:=@if_neg
abbrev bM:=@List.mem_of_getElem?
abbrev cj:=@List.getElem?_eq_getElem
abbrev cE:=@List.getElem?_eq_some_iff
abbrev aZ:=@List.mem_cons_of_mem
abbrev aV:=@PySem.Heap.get?_push_size
abbrev aR:=@List.take_add_one
abbrev ak:=@if_pos
abbrev aT:=@List.getElem?_map
abbrev aB:=@Nat.le_refl
abbrev aN:=@decide_eq_false
abbrev aD:=@List.mem_map
abbrev aW:=@of_decide_eq_true
abbrev aE:=@PySem.Heap.lt_size
abbrev aU:=@List.map_append
abbrev bC:=@Bool.false_ne_true
abbrev bu:=@List.take_length
abbrev bN:=@List.length_append
abbrev aS:=@Nat.ne_of_lt
abbrev bE:=@List.not_mem_nil
abbrev bB:=@PySem.PassesOwn.never
abbrev bJ:=@List.mem_append
abbrev bP:=@List.length_take
abbrev cg:=@List.size_toArray
abbrev bV:=@List.mem_filter
abbrev cK:=@Array.length_toList
abbrev dP:=@PySem.Heap.get?_update_other
abbrev cJ:=@decide_eq_true_iff
abbrev cL:=@List.mem_singleton
abbrev bF:=@Nat.le_trans
abbrev aG:=@Ne.symm
abbrev bK:=@List.map_map
abbrev d9:=@PySem.Heap.get?_update_self
abbrev c8:=@List.mem_cons_self
abbrev cQ:=@PySem.wpAny_newObj_type
abbrev dm:=@Nat.lt_of_lt_of_le
abbrev b7:=@List.map_cons
abbrev cR:=@List.length_cons
abbrev gv:=@Decidable.byContradiction
abbrev c9:=@Bool.and_eq_true
abbrev fQ:=@List.length_filter_le
abbrev dQ:=@PySem.wpAny_call_entry
abbrev ic:=@Array.getElem?_eq_getElem
abbrev gH:=@PySem.wpAny_callSpecial?_slot
abbrev iW:=@Array.getElem?_eq_some_iff
abbrev dR:=@Option.some.inj
abbrev eV:=@List.all_eq_true
abbrev bw:=@congrArg
abbrev je:=@List.getD_eq_getElem?_getD
abbrev ig:=@PyProof.Rows.boot_list
abbrev gw:=@List.map_congr_left
abbrev e9:=@List.append_nil
abbrev dS:=@PySem.wpAny_holding
abbrev gx:=@List.filter_append
abbrev gI:=@beq_eq_false_iff_ne
abbrev ir:=@List.mem_append_left
abbrev iu:=@PySem.Around.under_plainId
abbrev jV:=@List.getElem?_zip_eq_some
abbrev fh:=@PySem.Heap.size_push
abbrev gy:=@List.append_assoc
abbrev gJ:=@PySem.Obj.data_mapFields
abbrev iw:=@PySem.Heap.SameBut.update
abbrev eW:=@Nat.lt_irrefl
abbrev dh:=@PySem.wpAny_field
abbrev fF:=@PySem.wpAny_seqItems
abbrev bT:=@or_false
abbrev jf:=@PySem.Obj.isFreed_of_fields
abbrev gg:=@PySem.codeAny_builtin
abbrev fR:=@Bool.false_and
abbrev cT:=@PySem.wpAny_mono
abbrev gh:=@PySem.wpAny_setField
abbrev jW:=@List.mem_append_right
abbrev gz:=@List.mem_range
abbrev jX:=@PySem.codeAny_call_builtin
abbrev jg:=@List.pairwise_cons
abbrev oO:=@PyProof.Rows.slot_tuple_getitem
abbrev fj:=@Nat.zero_le
abbrev kJ:=@List.mem_iff_getElem?
abbrev jY:=@List.length_pos_iff
abbrev mD:=@List.length_eq_zero_iff
abbrev iX:=@decide_eq_decide
abbrev jh:=@PySem.wpAny_truthy_bool
abbrev iy:=@List.lt_irrefl
abbrev iY:=@List.length_zip
abbrev ji:=@List.getElem_mem
abbrev gK:=@PySem.plainId_quiet
abbrev mE:=@Array.getElem?_toList
abbrev jZ:=@Nat.lt_succ_of_lt
abbrev cU:=@PySem.boot_len
abbrev j0:=@Nat.le_succ_of_le
abbrev mF:=@PySem.Heap.get?_none_of_le
abbrev jj:=@List.nodup_cons
abbrev jk:=@PySem.wpAny_updateSeq
abbrev j3:=@PySem.wpAny_isInstance
abbrev lC:=@List.getElem?_append_left
abbrev jl:=@List.filterMap_cons
abbrev dz:=@PySem.wpAny_rule
abbrev j9:=@PyProof.Rows.boot_str
abbrev lE:=@PyProof.Rows.boot_sorted
abbrev fH:=@PySem.codeAny_mono
abbrev gP:=@List.of_mem_zip
abbrev nh:=@PySem.F.slot_dict_keyiterator_next
abbrev jm:=@Bool.false_eq_true
abbrev jo:=@Int.emod_lt_of_pos
abbrev iJ:=@Nat.lt_succ_self
abbrev fk:=@Nat.le_succ
abbrev kc:=@List.mem_iff_getElem
abbrev lF:=@List.filter_cons_of_pos
abbrev lG:=@List.filter_cons_of_neg
abbrev ni:=@PyProof.Rows.callWith_type1
abbrev gA:=@PySem.wpAny_attempt
abbrev nj:=@List.getElem?_append_right
abbrev gQ:=@PySem.isSubtype_type
abbrev lH:=@List.take_of_length_le
abbrev jq:=@List.nodup_append
abbrev jr:=@PySem.wpAny_loadPart_at
abbrev fJ:=@Int.le_refl
abbrev kg:=@Nat.lt_of_le_of_lt
abbrev jt:=@List.any_eq_true
abbrev iK:=@List.nodup_nil
abbrev fZ:=@PySem.wpAny_letGo
abbrev o5:=@PySem.wpAny_typeNameOfWhole_keyiter
abbrev kh:=@List.length_range
abbrev ki:=@decide_eq_true_eq
abbrev ju:=@List.forIn_cons
abbrev jv:=@Int.emod_nonneg
abbrev o6:=@PyProof.Rows.boot_isinstance
abbrev lI:=@List.filter_sublist
abbrev rE:=@PyProof.Rows.F.plain_set_update_loop
abbrev gR:=@Nat.ne_of_gt
abbrev nv:=@PySem.wpAny_pyNext_list_item
abbrev gS:=@PySem.wpAny_typeOf
abbrev ny:=@PySem.Calls.callWith_builtin
abbrev nA:=@Array.getElem?_eq_none
abbrev gB:=@PySem.sizeLine_eq
abbrev iL:=@List.any_cons
abbrev kj:=@PySem.F.plain_max_loop
abbrev ko:=@PySem.F.plain_min_loop
abbrev f6:=@PySem.wpAny_call
abbrev lJ:=@PySem.wpAny_Call_Name_kw
abbrev o7:=@PySem.F.slot_tuple_iterator_next
abbrev lK:=@PySem.wpAny_setField_rec
abbrev lO:=@of_decide_eq_false
abbrev jw:=@PySem.wpAny_tryCatch
abbrev nB:=@PySem.builtinLookup_eq_fast
abbrev nC:=@PyProof.Rows.boot_min
abbrev kq:=@PySem.wpAny_passesOwn
abbrev kr:=@Bool.eq_iff_iff
abbrev lP:=@PySem.wpAny_pyIter_list
abbrev lQ:=@Int.toNat_natCast
abbrev nD:=@PySem.Calls.evalArgs_plain
abbrev gT:=@PySem.wpAny_of_eq
abbrev lS:=@PySem.wpAny_setState_of
abbrev nE:=@PySem.wpAny_setEntries_of
abbrev o8:=@PySem.wpAny_getItem_str_slice
abbrev lT:=@Nat.succ_le_succ
abbrev lU:=@PySem.wpAny_askSetting
abbrev rF:=@Array.eq_empty_of_size_eq_zero
abbrev jx:=@Nat.le_of_lt
abbrev o9:=@List.getElem?_set_self
abbrev gU:=@beq_iff_eq
abbrev nF:=@PySem.Calls.spliced_cons
abbrev nG:=@PySem.tupleKind_room_in1
abbrev nH:=@PySem.Code.quiet_builtin
abbrev fK:=@if_false
abbrev lV:=@List.find?_cons
abbrev ku:=@PySem.wpAny_standAt
abbrev pq:=@List.getElem?_eq_none
abbrev pA:=@PyProof.Rows.boot_max
abbrev pB:=@PyProof.Rows.boot_set
abbrev nI:=@Nat.lt_trichotomy
abbrev jy:=@Sum.inr.inj
abbrev pC:=@List.getElem?_set_ne
abbrev lW:=@PySem.wpAny_fieldsOf
abbrev pD:=@PySem.F.slot_list_reversed
abbrev kB:=@List.map_nil
abbrev nJ:=@Nat.not_lt_of_le
abbrev rG:=@Classical.byContradiction
abbrev pF:=@List.filter_eq_self
abbrev pG:=@PySem.wpAny_isSubtype_exc
abbrev lX:=@PySem.wpAny_onRaise
abbrev lY:=@Bool.true_and
abbrev nK:=@PySem.wpAny_execs_nil
abbrev nM:=@PySem.codeAny_of_tree
abbrev nN:=@PySem.typeLookup_type
abbrev jz:=@PySem.typeIs_str
abbrev pH:=@PySem.wpAny_tupleItemsOf
abbrev rH:=@List.getElem?_cons_succ
abbrev pI:=@Option.isSome_map
abbrev pJ:=@PySem.Obj.cls_mapFields
abbrev nO:=@List.forIn_nil
abbrev nP:=@PySem.isSubtype_stop
abbrev pK:=@PySem.wpAny_pyIter_slot
abbrev pL:=@PySem.wpAny_dictEntries
abbrev rJ:=@List.find?_cons_of_neg
abbrev pM:=@List.foldl_append
abbrev nQ:=@Bool.and_false
abbrev pN:=@Bool.eq_false_iff
abbrev rK:=@PySem.wpAny_pyNext_list_end
abbrev rL:=@PySem.weight_type_call_type
abbrev rM:=@PySem.StrLaws.glued_eq_join
abbrev pO:=@List.length_drop
abbrev pP:=@List.lookup_cons
abbrev pQ:=@beq_self_eq_true
abbrev pR:=@Nat.le_add_right
abbrev pS:=@List.filter_cons
abbrev nR:=@Bool.or_false
abbrev nS:=@PySem.wpAny_handled
abbrev pT:=@PySem.wpAny_specialOf
abbrev pU:=@PySem.post_val_or_str
abbrev pV:=@PySem.F.slot_zip_next
abbrev pW:=@PySem.wpAny_dictEpoch
abbrev gW:=@if_true
set_option Elab.async false
set_option linter.all false
set_option maxRecDepth 100000
set_option maxHeartbeats 16000000
def PySem.W.Fast.tw14661678652543908603:Unit:=()
def PySem.W.Fast.tw9454434305779877238:Unit:=()
def PySem.W.Fast.tw16670440261562168725:Unit:=()
def PySem.W.Fast.tw11408544977849381316:Unit:=()
def PySem.W.Fast.tw9945738008006701556:Unit:=()
def PySem.W.Fast.tw8269713970454873331:Unit:=()
def PySem.W.Fast.tw9271276449225451071:Unit:=()
def PySem.W.Fast.tw5895651876427432482:Unit:=()
def PySem.W.Fast.tw11557906773669255312:Unit:=()
def PySem.W.Fast.tw5662021719799514077:Unit:=()
def PySem.W.Fast.tw11977604255803286988:Unit:=()
def PySem.W.Fast.tw14195411674492249798:Unit:=()
def PySem.W.Fast.tw3273245629965971483:Unit:=()
def PySem.W.Fast.tw12448112120769298399:Unit:=()
def PySem.W.Fast.tw3432298285292978332:Unit:=()
def PySem.W.Fast.tw5071066477710485887:Unit:=()
def PySem.W.Fast.tw1974233203163073592:Unit:=()
def PySem.W.Fast.tw10514487094289452050:Unit:=()
def PySem.W.Fast.tw7965026577948698066:Unit:=()
def PySem.W.Fast.tw10788093354510380301:Unit:=()
def PySem.W.Fast.tw17225981719792208742:Unit:=()
def PySem.W.Fast.tw10624899988039656784:Unit:=()
def PySem.W.Fast.tw13555939766367121848:Unit:=()
def PySem.W.Fast.tw13978984613158976087:Unit:=()
def PySem.W.Fast.tw8570451536669289682:Unit:=()
def PySem.W.Fast.tw5276644452389864327:Unit:=()
def PySem.W.Fast.tw10420358785826106194:Unit:=()
def PySem.W.Fast.tw15577185339849202487:Unit:=()
def PySem.W.Fast.tw3878110505652277694:Unit:=()
def PySem.W.Fast.tw14453446841328386786:Unit:=()
def PySem.W.Fast.tw13142602942441996679:Unit:=()
def PySem.W.Fast.tw9795436287920465501:Unit:=()
def PySem.W.Fast.tw10966079976022920624:Unit:=()
def PySem.W.Fast.tw18278870692253422881:Unit:=()
def PySem.W.Fast.tw13936135104787292100:Unit:=()
def PySem.W.Fast.tw11102030993716603728:Unit:=()
def PySem.W.Fast.tw14460686322374625539:Unit:=()
def PySem.W.Fast.tw8060481207470753021:Unit:=()
def PySem.W.Fast.tw10596558013040366019:Unit:=()
def PySem.W.Fast.tw4176352308491903840:Unit:=()
def PySem.W.Fast.tw16158171539767497066:Unit:=()
def PySem.W.Fast.tw12090315492009963908:Unit:=()
def PySem.W.Fast.tw4361612759010622376:Unit:=()
def PySem.W.Fast.tw9419931786887887758:Unit:=()
def PySem.W.Fast.tw3931032007391270943:Unit:=()
def PySem.W.Fast.tw17555914060231650318:Unit:=()
def PySem.W.Fast.tw3221250087020358646:Unit:=()
def PySem.W.Fast.tw16392931326702361172:Unit:=()
def PySem.W.Fast.tw13160918622485569659:Unit:=()
def PySem.W.Fast.tw7971914525355883205:Unit:=()
def PySem.W.Fast.tw13723354197809054777:Unit:=()
def PySem.W.Fast.tw16002745617399262601:Unit:=()
def PySem.W.Fast.tw17872174450835839734:Unit:=()
def PySem.W.Fast.tw3884704265766255681:Unit:=()
def PySem.W.Fast.tw16512588773661895378:Unit:=()
def PySem.W.Fast.tw10231031375662937942:Unit:=()
def PySem.W.Fast.tw17674375588416329532:Unit:=()
def PySem.W.Fast.tw11873687812741336416:Unit:=()
def PySem.W.Fast.tw1576365244178564331:Unit:=()
def PySem.W.Fast.tw6475309095836922265:Unit:=()
def PySem.W.Fast.tw3484071462785804991:Unit:=()
def PySem.W.Fast.tw16225775920755441247:Unit:=()
def PySem.W.Fast.tw6166723725834430189:Unit:=()
def PySem.W.Fast.tw2626714339447825978:Unit:=()
def PySem.W.Fast.tw16633963592710435278:Unit:=()
def PySem.W.Fast.tw5040939365917225726:Unit:=()
def PySem.W.Fast.tw8452452472144447833:Unit:=()
def PySem.W.Fast.tw3337706241284862775:Unit:=()
def PySem.W.Fast.tw5285416590917621191:Unit:=()
def PySem.W.Fast.tw13382565728006781477:Unit:=()
def PySem.W.Fast.tw33352813100896463:Unit:=()
def PySem.W.Fast.tw13801460372907381751:Unit:=()
def PySem.W.Fast.tw3876269970727824192:Unit:=()
def PySem.W.Fast.tw5888769645358427759:Unit:=()
def PySem.W.Fast.tw17534444307376325353:Unit:=()
def PySem.W.Fast.tw15028649809007924549:Unit:=()
def PySem.W.Fast.tw6585619399575632892:Unit:=()
def PySem.W.Fast.tw1531229220416099140:Unit:=()
def PySem.W.Fast.tw11410414523681392627:Unit:=()
def PySem.W.Fast.tw10375559973968015988:Unit:=()
def PySem.W.Fast.tw17798314750280589339:Unit:=()
def PySem.W.Fast.tw2657759452826162017:Unit:=()
def PySem.W.Fast.tw2483027269016374057:Unit:=()
def PySem.W.Fast.tw14801498365935698470:Unit:=()
def PySem.W.Fast.tw15763216540702078978:Unit:=()
def PySem.W.Fast.tw17591089924200018181:Unit:=()
def PySem.W.Fast.tw5406181010682055092:Unit:=()
def PySem.W.Fast.tw5877168196457056417:Unit:=()
def PySem.W.Fast.tw8684769342310508835:Unit:=()
def PySem.W.Fast.tw16288742755273722827:Unit:=()
def PySem.W.Fast.tw4199423046645255565:Unit:=()
def PySem.W.Fast.tw10908717536449629147:Unit:=()
def PySem.W.Fast.tw1080212585396061778:Unit:=()
def PySem.W.Fast.tw1520014961077638008:Unit:=()
def PySem.W.Fast.tw7666924407683854712:Unit:=()
def PySem.W.Fast.tw9811822831821678352:Unit:=()
def PySem.W.Fast.tw2337937728496167744:Unit:=()
def PySem.W.Fast.tw6459848687687625402:Unit:=()
def PySem.W.Fast.tw6999969973259383403:Unit:=()
def PySem.W.Fast.tw212147383468598498:Unit:=()
def PySem.W.Fast.tw17310328654856904937:Unit:=()
def PySem.W.Fast.tw9265982503964709764:Unit:=()
def PySem.W.Fast.tw4760425593686594535:Unit:=()
def PySem.W.Fast.tw17452188976786355726:Unit:=()
def PySem.W.Fast.tw16190299602404273233:Unit:=()
def PySem.W.Fast.tw10209485882259130587:Unit:=()
def PySem.W.Fast.tw6452410471243938217:Unit:=()
def PySem.W.Fast.tw14599208368378489954:Unit:=()
def PySem.W.Fast.tw13400056400921991872:Unit:=()
def PySem.W.Fast.tw7400595963109988618:Unit:=()
def PySem.W.Fast.tw1490451344131685857:Unit:=()
def PySem.W.Fast.tw13376328088737989370:Unit:=()
def PySem.W.Fast.tw3251603167505512971:Unit:=()
def PySem.W.Fast.tw1147261735272204838:Unit:=()
def PySem.W.Fast.tw14605789665258388578:Unit:=()
def PySem.W.Fast.tw14886286738502641333:Unit:=()
def PySem.W.Fast.tw16335925206442301223:Unit:=()
def PySem.W.Fast.tw9362613232596926880:Unit:=()
def PySem.W.Fast.tw3196095962852003512:Unit:=()
def PySem.W.Fast.tw7285620277699519452:Unit:=()
def PySem.W.Fast.tw3759198907509824792:Unit:=()
def PySem.W.Fast.tw6874734782260199159:Unit:=()
def PySem.W.Fast.tw8225584593663375682:Unit:=()
def PySem.W.Fast.tw7686820756514157160:Unit:=()
def PySem.W.Fast.tw12744167827603440850:Unit:=()
def PySem.W.Fast.tw10536762321506849878:Unit:=()
def PySem.W.Fast.tw6632408655305736671:Unit:=()
namespace L2
open PySem PySem.Spec PyProof.Rows
abbrev Key:=Sum Int Str
def Aj:Key->au->Bool|.inl k,v=>Value.isInt k v|.inr x,v=>Value.isStrOf x v
def Ij(w:World):Key->Int|.inl k=>hashInt k|.inr x=>hashStr w x
theorem w6:∀{k}{v},Aj k v=true->(∃i t,k=Sum.inl i/\v=Value.int i t)\/(∃x t,k=Sum.inr x/\v=Value.str x t)|.inl i,v,h=>by obtain⟨t,e⟩:=Value.isInt_shape (k:=i) (v:=v) h;exact .inl ⟨i,t,Z,e⟩|.inr x,v,h=>by obtain⟨t,e⟩:=Value.isStrOf_shape (x:=x) (v:=v) h;exact .inr ⟨x,t,Z,e⟩
theorem Tz i(t:Tok):Aj (.inl i) (.int i t)=true:=by simp[Aj,Value.isInt]
theorem TF x(t:Tok):Aj (.inr x) (.str x t)=true:=by simp[Aj,Value.isStrOf]
theorem TJ a b:decide ((Sum.inl a:Key)=Sum.inl b)=(a==b):=by by_cases e:a=b;{k_go;simp};{have h:¬(Sum.inl a:Key)=Sum.inl b:=λq=>e (Sum.inl.inj q);rw[aN h];exact(gI.mpr e).symm}
theorem TL a b:decide ((Sum.inr a:Key)=Sum.inr b)=decide (a=b):=by by_cases e:a=b;{k_go;simp};{have h:¬(Sum.inr a:Key)=Sum.inr b:=λq=>e (jy q);rw[aN h,aN e]}
theorem TM a b:decide ((Sum.inl a:Key)=Sum.inr b)=94:=aN (λq=>nomatch q)
theorem TN a b:decide ((Sum.inr a:Key)=Sum.inl b)=94:=aN (λq=>nomatch q)
def oA (prog:bD) (w:World):PySem.KeyKind prog w Key where
  is:=Aj
  hash:=Ij w
  inj:=fun v a b L J=>by
    rcases w6 L with ⟨i,t,rfl,rfl⟩ | ⟨x,t,rfl,rfl⟩
    · rcases w6 J with ⟨j,u,rfl,e⟩ | ⟨y,u,rfl,e⟩
      · injection e with q _;rw[q]
      · exact nomatch e
    · rcases w6 J with ⟨j,u,rfl,e⟩ | ⟨y,u,rfl,e⟩
      · exact nomatch e
      · injection e with q _;rw[q]
  byValue:=fun k v h=>by
    rcases w6 h with ⟨i,t,rfl,rfl⟩ | ⟨x,t,rfl,rfl⟩<;>rfl
  pyHash:=fun B h=>by
    rcases w6 B with ⟨i,t,rfl,rfl⟩ | ⟨x,t,rfl,rfl⟩
    · exact wpAny_pyHash_int h
    · exact wpAny_pyHash_str h
  eqBool:=fun O B h=>by
    rcases w6 O with ⟨i,t,rfl,rfl⟩ | ⟨x,t,rfl,rfl⟩
    · rcases w6 B with ⟨j,u,rfl,rfl⟩ | ⟨y,u,rfl,rfl⟩
      · rw[TJ] at h;exact wpAny_eqBool_int h
      · rw[TM] at h;exact SeqAt.EqAt.int_str i t y u _ _ _ _ h
    · rcases w6 B with ⟨j,u,rfl,rfl⟩ | ⟨y,u,rfl,rfl⟩
      · rw[TN] at h;exact SeqAt.EqAt.str_int x t j u _ _ _ _ h
      · rw[TL] at h;exact wpAny_eqBool_str h
  «strs»:=fun k x t v h=>by
    rcases w6 h with ⟨i,u,rfl,e⟩ | ⟨y,u,rfl,e⟩
    · exact nomatch e
    · injection e with q _
      subst q
      cases v<;>rfl
theorem TQ prog w i(t:Tok):(oA prog w).is (.inl i) (.int i t)=true:=Tz i t
theorem Ik prog w x(t:Tok):(oA prog w).is (.inr x) (.str x t)=true:=TF x t
inductive V where|cz|bl(b:Bool)|int(i:Int)|str(x:Str)|tY(b:Array UInt8)|yX(b:UInt64)|ref(a:ai)|ty(n:String)deriving DecidableEq
def RelV:V->au->Prop|.cz,u=>u=Value.none|.bl b,u=>u=Value.bool b|.int i,u=>∃t,u=Value.int i t|.str x,u=>∃t,u=Value.str x t|.tY b,u=>∃t,u=Value.bytes b t|.yX b,u=>∃t,u=Value.float b t|.ref a,u=>u=Value.ref a|.ty n,u=>u=Value.type n
abbrev Vals:99->List au->Prop:=Paired RelV
theorem Vals.length(r:Vals xs us):84=109:=Paired.length r
theorem Vals.get:∀{xs:99}{us:List au}{i:Nat}{x:V},Vals xs us->xs[i]?=some x->∃u,us[i]?=some u/\RelV x u|_,_,_,_,.nil,e=>by simp at e|_,_,0,_,.cons r _,e=>by simp at e;k_go;exact⟨_,Z,r⟩|_,_,i+1,x,.cons _ t,e=>by obtain⟨u,h1,h2⟩:=Vals.get (i:=i) (x:=x) t (by simpa using e);exact⟨u,by simpa using h1,h2⟩
theorem Vals.append:∀{xs ys:99}{us ws:List au},Vals xs us->Vals ys ws->Vals (xs++ys) (us++ws)|_,_,_,_,.nil,s=>s|_,_,_,_,.cons r t,s=>.cons r (Vals.append t s)
theorem Vals.take:∀{xs}{us}n,Vals xs us->Vals (xs.take n) (us.take n)|_,_,0,_=>.nil|_,_,_+1,.nil=>.nil|_,_,n+1,.cons r t=>.cons r (Vals.take n t)
theorem Vals.drop:∀{xs}{us}n,Vals xs us->Vals (xs.drop n) (us.drop n)|_,_,0,r=>r|_,_,_+1,.nil=>.nil|_,_,n+1,.cons _ t=>Vals.drop n t
def gE:Option V->Option au->Prop|some v,some u=>RelV v u|none,none=>True|_,_=>False
def KV{κ:Type}:List (κ×V)->List (κ×au)->Prop:=Paired λ(p:κ×V)(q:κ×au)=>p.1=q.1/\RelV p.2 q.2
def kV:Key->V|.inl i=>.int i|.inr x=>.str x
inductive HO where|lst(xs:99)|tup(xs:99)|dK(kvs:List (Key×V))|dT(kvs:List (List Key×V))|set(S:Int->Bool)(n:Nat)|ins(C dx:ai)(fs:List (Str×V))|own(x:ai)|xd(fs:List (Str×V))|met(f x:ai)|Il(lo hi:Int)|fL(o:Obj)(u:HO)|Ak(ps:Array au)|ext(φ:Heap->Prop)
abbrev Hp:=ai->Option HO
def upd(H:Hp)(a:ai)(o:HO):Hp:=λb=>if b=a then 85 else H b
theorem zb:upd H a o a=85:=by unfold upd;rw[ak Z]
theorem zi(h:b≠a):upd H a o b=H b:=by unfold upd;rw[ao h]
theorem TR:upd (upd H a o) a u=upd H a u:=by funext b;unfold upd;split<;>rfl
theorem jO{H:Hp}(h:H a=85)(h':H b=some u)(d:o≠u):a≠b:=by intro e;k_go;rw[h]at h';exact d<|dR h'
theorem zj{H:Hp}(h:H a=85)(h':H b=none):a≠b:=by intro e;k_go;rw[h]at h';cases h'
section
variable(P:bD)(w:World)
def bQ(H:Hp)(h:Heap)(a:ai):HO->Prop|.lst xs=>84<=89/\∃(j:List au)(n:Nat),Vals xs j/\h.get? a=some {cls:=.type 115,data:=.seq j.toArray n}|.tup xs=>84<=89/\∃j:List au,Vals xs j/\IsTup h a j.toArray|.dK kvs=>113<=89/\(a==sysModules)=94/\∃J,KV kvs J/\h.DictOf (oA P w) a J|.dT kvs=>113<=89/\(a==sysModules)=94/\∃xs:List (List Key×ai×au),Paired (λ(p:List Key×V)(q:List Key×ai×au)=>p.1=q.1/\H q.2.1=some (.tup<|p.1.map kV)/\RelV p.2 q.2.2) kvs xs/\∃o es L,h.get? a=85/\o.ExactDict/\o.data=.dict es L/\es.toList=xs.map (entryOfKey<|tupleKind<|oA P w)/\(xs.map (·.1)).Nodup|.set S n=>h.SetOf (intKind P w) a S n|.ins C dx fs=>H dx=some (.own a)/\130<=1000/\dx≠a/\h.get? a=some (PySem.W.instObj C dx)/\∃mA,h.Ns1 dx mA/\(∀f,gE (fs.lookup f) (mA f))/\PySem.Within mA (fs.map (·.1))|.own _=>∃o,h.get? a=some o|.xd fs=>∃mA,h.Ns1 a mA/\∀f,gE (fs.lookup f) (mA f)|.Il lo hi=>∃t u v,h.get? a=some {cls:=.type "range",data:=.fields #[.int lo t,.int hi u,.int 1 v]}|.fL o u=>h.get? a=85/\bQ H h a u|.Ak ps=>h.get? a=some {cls:=.none,data:=.fields ps}|.met f x=>h.get? a=some (PySem.W.methodObj (.ref f) (.ref x))|.ext B=>B h/\(∃o,h.get? a=85)/\∀h1 h2:Heap,B h1->(∀o,h1.get? a=85->h2.get? a=85)->B h2
def j4(H:Hp)(h:Heap):Prop:=∀a o,H a=85->bQ P w H h a o
end
section
variable{P:bD}{w:World}{H H':Hp}{h h':Heap}{a:ai}{o:HO}
theorem bQ.lt(x:bQ P w H h a o):a<123:=by cases o with|lst xs=>obtain⟨_,_,_,_,e⟩:=x;exact aE e|tup xs=>obtain⟨_,_,_,p⟩:=x;exact p.lt|dK kvs=>obtain⟨_,_,_,_,o,_,_,e,_⟩:=x;exact aE e|dT kvs=>obtain⟨_,_,_,_,o,_,_,e,_⟩:=x;exact aE e|set S n=>obtain⟨o,_,_,_,e,_⟩:=x;exact aE e|ins C dx fs=>obtain⟨_,_,_,e,_⟩:=x;exact aE e|own y=>obtain⟨_,e⟩:=x;exact aE e|xd fs=>obtain⟨_,⟨_,_,_,e,_⟩,_⟩:=x;exact aE e|Il lo hi=>obtain⟨_,_,_,e⟩:=x;exact aE e|fL j u=>obtain⟨e,_⟩:=x;exact aE e|Ak ps=>exact aE<|show h.get? a=some _ from x|met f y=>exact aE<|show h.get? a=some _ from x|ext q=>obtain⟨_,⟨_,e⟩,_⟩:=x;exact aE e
theorem Paired.fS{B J:Type}{F G:B->J->Prop}:∀{j:List B}{q:List J},Paired F j q->(∀a b,F a b->G a b)->Paired G j q|_,_,.nil,_=>.nil|_,_,.cons r t,f=>.cons (f _ _ r) (Paired.fS t f)
theorem bQ.fC(x:bQ P w H h a o)(k:∀b u,(b=a\/H b=some (.own a))->h.get? b=some u->h'.get? b=some u)(O:∀b,H b=some (.own a)->H' b=some (.own a))(U:∀b xs,H b=some (.tup xs)->H' b=some (.tup xs)):bQ P w H' h' a o:=by induction o with|lst xs=>obtain⟨z,J,n,r,e⟩:=x;exact⟨z,J,n,r,k _ _ (.inl Z) e⟩|tup xs=>obtain⟨z,J,r,j,e,c⟩:=x;exact⟨z,J,r,j,k _ _ (.inl Z) e,c⟩|dK kvs=>obtain⟨z,y,vs,r,j,es,B,e,c⟩:=x;exact⟨z,y,vs,r,j,es,B,k _ _ (.inl Z) e,c⟩|dT kvs=>obtain⟨z,y,xs,r,j,es,B,e,c⟩:=x;exact⟨z,y,xs,Paired.fS r λp q z=>⟨z.1,U _ _ z.2.1,z.2.2⟩,j,es,B,k _ _ (.inl Z) e,c⟩|set S n=>obtain⟨j,es,B,t,e,c⟩:=x;exact⟨j,es,B,t,k _ _ (.inl Z) e,c⟩|ins C dx fs=>obtain⟨d,z,Y,e,mA,⟨od,es,B,L,c⟩,r⟩:=x;exact⟨O _ d,z,Y,k _ _ (.inl Z) e,mA,⟨od,es,B,k _ _ (.inr d) L,c⟩,r⟩|own y=>obtain⟨j,e⟩:=x;exact⟨j,k _ _ (.inl Z) e⟩|xd fs=>obtain⟨mA,⟨od,es,B,e,c⟩,r⟩:=x;exact⟨mA,⟨od,es,B,k _ _ (.inl Z) e,c⟩,r⟩|Il lo hi=>obtain⟨t,u,v,e⟩:=x;exact⟨t,u,v,k _ _ (.inl Z) e⟩|fL j u W=>obtain⟨e,q⟩:=x;exact⟨k _ _ (.inl Z) e,W q⟩|Ak ps=>have e:h.get? a=some {cls:=.none,data:=.fields ps}:=x;show h'.get? a=some {cls:=.none,data:=.fields ps};exact k a _ (.inl Z) e|met f y=>have e:h.get? a=some (PySem.W.methodObj (.ref f)<|.ref y):=x;show h'.get? a=some (PySem.W.methodObj (.ref f)<|.ref y);exact k a _ (.inl Z) e|ext φ=>obtain⟨p,⟨o,e⟩,st⟩:=x;exact⟨st _ _ p λo q=>k _ _ (.inl Z) q,⟨o,k _ _ (.inl Z) e⟩,st⟩
theorem j4.lt(x:j4 P w H h)(e:H a=85):a<123:=(x a o e).lt
theorem j4.fresh(x:j4 P w H h)(e:123<=a):H a=none:=by cases q:H a with|none=>rfl|some u=>exact absurd (dm (x.lt q) e)<|eW _
theorem j4.kept(x:j4 P w H h)(k:∀b u,h.get? b=some u->h'.get? b=some u):j4 P w H h':=λa o e=>(x a o e).fC (λb u _ q=>k b u q) (λ_ q=>q) λ_ _ q=>q
theorem j4.laid(x:j4 P w H h)(k:∀b u,h.get? b=some u->h'.get? b=some u)(L:123<=a)(j:bQ P w (upd H a o) h' a o):j4 P w (upd H a o) h':=λb u e=>by have J:=x.fresh L;by_cases B:b=a;{subst B;rw[zb]at e;cases e;exact j};{rw[zi B]at e;exact(x b u e).fC (λc v _ q=>k c v q) (λc q=>by rw[zi (zj q J)];exact q) λc xs q=>by rw[zi (zj q J)];exact q}
end
def Rd(H:Hp)(a:ai)(u:HO):Prop:=H a=some u\/∃o,H a=some (.fL o u)
theorem Rd.ok(r:Rd H a u)(x:j4 P w H h):bQ P w H h a u:=by rcases r with r|⟨o,r⟩;{exact x a u r};{obtain⟨_,q⟩:=x a _ r;exact q}
def CN:Option HO->Prop|some (.lst _)=>True|some (.dK _)=>True|some (.dT _)=>True|some (.set _ _)=>True|some (.ins _ _ _)=>True|some (.ext _)=>True|_=>False
section
variable{P:bD}{w:World}{H:Hp}{h h':Heap}{x e:ai}{o':HO}
theorem j4.write(ok:j4 P w H h)(S:CN (H x))(Y:e=x\/H e=some (.own x))(k:∀b u,b≠e->h.get? b=some u->h'.get? b=some u)(U:∃u,h'.get? e=some u)(W:bQ P w (upd H x o') h' x o'):j4 P w (upd H x o') h':=λb u q=>by(have B:∀c y,H c=some (.own y)->c≠x:=λc y r z=>by subst z;rw[r]at S;exact S);(have J:∀c xs,H c=some (.tup xs)->c≠x:=λc xs r z=>by subst z;rw[r]at S;exact S);by_cases L:b=x;{subst L;rw[zb]at q;cases q;exact W};{rw[zi L]at q;by_cases j:b=e;{(have q':H b=some (.own x):=by rcases Y with z|z;{exact absurd (j.trans z) L};{rw[j];exact z});rw[q]at q';cases q';obtain⟨v,hv⟩:=U;exact⟨v,by rw[j];exact hv⟩};{(refine(ok b u q).fC (λc v O r=>k c v ?_ r) (λc r=>by rw[zi (B c b r)];exact r) λc xs r=>by rw[zi (J c xs r)];exact r);rcases O with rfl|O;{exact j};{rintro rfl;rcases Y with z|z;{exact B c b O z};{rw[O]at z;cases z;exact L Z}}}}
end
structure Un (fs ex:List ai) (H H':Hp) (h h':Heap):Prop where
  keep:∀b o,h.get? b=some o->H b=none->b ∉ fs->b ∉ ex->h'.get? b=some o
  slot:∀b o,h.get? b=some o->H b=none->b∈fs->b ∉ ex->∃sl,h'.get? b=some { o with slots:=sl }
  free:∀b o,h.get? b=some o->H b=none->b ∉ ex->H' b=none
  there:∀b o,h.get? b=some o->b ∉ ex->∃o',h'.get? b=some o'
  mK:∀b xs,H b=some (.tup xs)->H' b=some (.tup xs)
  lZ:∀b o u,H b=some (.fL o u)->H' b=some (.fL o u)
  mL:∀b ps,H b=some (.Ak ps)->∃more,H' b=some (.Ak (ps++more))
section
variable{fs xF ex Im:List ai}{H H1 H2:Hp}{h h1 h2 h':Heap}{a x e:ai}{o:HO}
theorem Un.any(u:Un fs ex H H1 h h1)(q:h.get? b=some ob)(n:H b=none)(B:b∉ex):∃J,h1.get? b=some {ob with slots:=J}:=by by_cases j:b∈fs;{exact u.slot b ob q n j B};{exact⟨ob.slots,u.keep b ob q n j B⟩}
theorem Un.kept(k:∀b u,h.get? b=some u->h'.get? b=some u):Un fs ex H H h h':=⟨λb j q _ _ _=>k b j q,λb j q _ _ _=>⟨j.slots,k b j q⟩,λ_ _ _ n _=>n,λb j q _=>⟨j,k b j q⟩,λ_ _ q=>q,λ_ _ _ q=>q,λ_ ps q=>⟨#[],by rw[q];simp⟩⟩
theorem Un.refl:Un fs ex H H h h:=Un.kept λ_ _ q=>q
theorem Un.laid (k:∀b u,h.get? b=some u->h'.get? b=some u) (B:h.objs.size<=a) (j:H a=none):Un fs ex H (upd H a o) h h' where
  keep:=fun b u q _ _ _=>k b u q
  slot:=fun b u q _ _ _=>⟨u.slots,k b u q⟩
  free:=fun b u q n _=>by rw[zi (aS (dm (aE q) B))];exact n
  there:=fun b u q _=>⟨u,k b u q⟩
  mK:=fun b xs q=>by rw[zi (zj q j)];exact q
  lZ:=fun b u xs q=>by rw[zi (zj q j)];exact q
  mL:=fun b ps q=>⟨#[],by rw[zi (zj q j),q];simp⟩
theorem Un.write(B:CN (H x))(U:e=x\/H e=some (.own x))(k:∀b u,b≠e->h.get? b=some u->h'.get? b=some u)(J:∃u,h'.get? e=some u):Un fs ex H (upd H x o) h h':=by(have S:∀b,H b=none->b≠x:=λb n z=>by subst z;rw[n]at B;exact B);(have O:∀b,H b=none->b≠e:=λb n z=>by subst z;rcases U with r|r;{exact S b n r};{rw[n]at r;cases r});(have L:∀b u,H b=some u->¬CN (some u)->b≠x:=λb u q nm z=>by subst z;rw[q]at B;exact nm B);refine⟨λb u q n _ _=>k b u (O b n) q,λb u q n _ _=>⟨u.slots,k b u (O b n) q⟩,λb u q n _=>by rw[zi (S b n)];exact n,λb u q _=>?_,λb xs q=>by rw[zi (L b _ q λz=>z)];exact q,λb u xs q=>by rw[zi (L b _ q λz=>z)];exact q,λb ps q=>⟨#[],by rw[zi (L b _ q λz=>z),q];simp⟩⟩;by_cases j:b=e;{subst j;exact J};{exact⟨u,k b u j q⟩}
end
def FT(h:Heap)(H:Hp):List ai:=(List.range 123).filter λa=>(H a).isSome
def pX(h:Heap)(H:Hp):Heap:=PySem.W.hideAll h (FT h H)
theorem TU h H:(pX h H).objs.size=123:=PySem.W.hideAll_size _ _
theorem TV(e:h.get? b=85)(n:H b=none):(pX h H).get? b=85:=PySem.W.hideAll_get _ e λj=>by have q:(H b).isSome=true:=(bV.mp j).2;rw[n]at q;simp at q
theorem TX(e:(pX h H).get? b=85):h.get? b=85/\H b=none:=by have j:h.get? b=85:=PySem.W.of_hideAll (FT h H) e;exists j;cases q:H b with|none=>rfl|some x=>have B:b∈FT h H:=bV.mpr ⟨gz.mpr<|aE j,by simp[q]⟩;have z:(pX h H).get? b=none:=PySem.W.hideAll_none (FT h H) B;rw[z]at e;cases e
def TY(g h:Heap)(L:ai):bA:=(List.range 123).filterMap λa=>if a=L\/(g.get? a).isSome=true then none else(h.get? a).map λo=>(a,o)
def rest(g h:Heap)(L d:ai):bA:=(TY g h L).filter λp=>decide (p.1≠d)
structure Mod (K:aC) (mg:Str->Option au) (base:Heap):Prop where
  xG:K.In base
  glob:base.Ns mainGlobals mg
  blt:∃mb,base.Ns builtinsNs mb/\∀x:Str,x≠"__name__"->mb x=bootBuiltins x
  nolimit:base.NoLimit
structure Cx where
  prog:bD
  w:World
  K:aC
  mg:Str->Option au
  base:Heap
  A:Around
  N:List Str
  dB:aF
  qC:Hp
  env:Env
  outer:List Env
  stack:List Env
  ex:List ai
  fn:Str->Bool
  calm:Bool
  pn:bA
  xe:aP
def jP(l:List Env):List ai:=l.filterMap (·.frame)
abbrev Cx.fs(X:Cx):List ai:=jP X.outer
def Io(sc:Scope)(x:Str):Prop:=sc.names.lookup x=some .local\/sc.names.lookup x=some .cell\/sc.names.lookup x=some .free
def Loc(sc:Scope)(x:Str):Prop:=sc.names.lookup x=some .local\/sc.names.lookup x=some .cell
def Look(env:Env)(h:Heap)(m:Str->Option au)(x:Str)(u:au):Prop:=(env.kindOf x=some .local/\m x=some u)\/((env.kindOf x=some .cell\/env.kindOf x=some .free)/\∃c,env.cells.lookup x=some c/\h.IsCell c (some u))
structure Cx.Ok (X:Cx):Prop where
  mod:Mod X.K X.mg X.base
  kind:X.env.scope.kind = .function
  glob:X.env.globals=mainGlobals
  blt:X.env.builtins=builtinsNs
  above:X.dB.heap.objs.size<=X.env.locals
  inj:∀x y c,X.env.cells.lookup x=some c->X.env.cells.lookup y=some c->x=y
  has:∀x,(X.env.kindOf x=some .cell\/X.env.kindOf x=some .free)->∃c,X.env.cells.lookup x=some c
  Al:∀x c,X.fn x=true->X.env.cells.lookup x=some c->X.dB.heap.objs.size<=c
  hd:X.calm=true->X.A.handled=none
  frames:X.A.frames=some X.stack
  BJ:X.stack=X.outer\/(X.stack=X.env::X.outer/\X.env.frame=some X.env.locals)
  FU:∀b∈X.ex,b≠X.env.locals/\∀x c,X.env.cells.lookup x=some c->c≠b
  bs:∀b o,X.base.get? b=some o->X.dB.heap.get? b=some o/\X.qC b=none
  vc:X.base.objs.size<=X.dB.heap.objs.size
  qD:∀b o,X.base.get? b=some o->b ∉ X.ex
  tZ:∀b∈X.ex,b ∉ X.fs
  kK:X.dB.heap.FunFrames X.base X.outer
  xH:∀b∈X.fs,X.qC b=none
structure Inv (X:Cx) (pins:bA) (σ:List (Option V)) (H:Hp) (s:aF):Prop where
  ok:X.Ok
  os:s.os=X.dB.os
  bare:AllBare s.gens
  base:Un X.fs X.ex X.qC H X.dB.heap s.heap
  loc:∃m,s.heap.Ns X.env.locals m/\∀(i:Nat) (x:Str) (v:V),X.N[i]? = some x->σ[i]? = some (some v)->Io X.env.scope x->∃u,RelV v u/\Look X.env s.heap m x u
  cell:∀x c,X.env.cells.lookup x=some c->∃v,s.heap.IsCell c v
  free:H X.env.locals=none
  fT:∀x c,X.env.cells.lookup x=some c->H c=none
  pin:∀p∈X.pn++pins,s.heap.get? p.1=some p.2/\H p.1=none/\p.1≠X.env.locals/\p.1 ∉ X.fs/\∀v,p.2.data≠.cell v
  bG:j4 X.prog X.w H s.heap
  len:σ.length=X.N.length
section
variable{X:Cx}{pins:bA}{σ:List (Option V)}{H H':Hp}{s:aF}{h':Heap}
theorem Cx.Ok.Ip(q:X.Ok)(e:X.base.get? b=85):b∉X.fs:=λj=>by have:=(q.kK.mem j).1;rw[e]at this;cases this
theorem Inv.bs(I:55):∀b o,X.base.get? b=85->104=85/\H b=none:=λb o e=>⟨I.base.keep b o (I.ok.bs b o e).1 (I.ok.bs b o e).2 (I.ok.Ip e)<|I.ok.qD b o e,I.base.free b o (I.ok.bs b o e).1 (I.ok.bs b o e).2<|I.ok.qD b o e⟩
theorem Inv.bk(I:55):∀b o,X.base.get? b=85->104=85:=λb o e=>(I.bs b o e).1
theorem Inv.mod(I:55):Mod X.K X.mg X.base:=I.ok.mod
theorem Inv.iM(I:55):X.K.In 91:=I.ok.mod.xG.keeps I.bk
theorem Inv.lt(I:55):119<19:=let⟨_,j,_⟩:=I.loc;j.lt
theorem Inv.sz(I:55):131<=19:=bF I.ok.above (jx I.lt)
theorem Inv.Iq(I:55){a:ai}(h:19<=a):a∉X.fs:=λj=>by obtain⟨_,o,q,_⟩:=I.ok.kK.mem j;exact absurd (dm (aE q)<|bF I.sz h)<|eW _
theorem Inv.yY(I:55):∀x c,X.env.cells.lookup x=some c->c≠119:=λx c e z=>by obtain⟨v,o,J,B⟩:=I.cell x c e;obtain⟨m,⟨o',es,L,q,j,_⟩,_⟩:=I.loc;rw[z,q]at J;cases J;rw[j]at B;cases B
theorem Inv.kK(I:55):s.heap.FunFrames X.base X.outer:=by(have j:∀(l:List Env),(∀b∈jP l,b∈X.fs)->X.dB.heap.FunFrames X.base l->s.heap.FunFrames X.base l:=by intro l;induction l with|nil=>intro _ _;trivial|cons env r ih=>intro hs U;obtain⟨S,⟨L,o,J,W,Y,O⟩,hr⟩:=U;have q:L∈X.fs:=hs L (by unfold jP;rw[jl,J];exact c8);obtain⟨sl,e⟩:=I.base.slot L o Y (I.ok.xH L q) q λz=>I.ok.tZ L z q;exact⟨S,⟨L,_,J,W,e,O⟩,ih (λb B=>hs b (by unfold jP;rw[jl,J];exact aZ _ B)) hr⟩);exact j X.outer (λ_ B=>B) I.ok.kK
theorem Inv.stack(I:55):s.heap.FunFrames X.base X.stack:=by rcases I.ok.BJ with e|⟨e,j⟩;{rw[e];exact I.kK};{rw[e];obtain⟨m,q,_⟩:=I.loc;refine .cons (by rw[I.ok.kind];walk) j q ?_ I.kK;exact mF<|bF I.ok.vc I.ok.above}
theorem Inv.pY(I:55):∀b∈jP X.stack,b∈119::X.fs:=λb j=>by rcases I.ok.BJ with e|⟨e,q⟩;{rw[e]at j;exact aZ _ j};{rw[e]at j;unfold jP at j;rw[jl,q]at j;exact j}
theorem Inv.mV(I:55):∀b∈jP X.stack,H b=none:=λb j=>by rcases aM.mp (I.pY b j)with e|j;{rw[e];exact I.free};{obtain⟨_,o,q,_⟩:=I.ok.kK.mem j;exact I.base.free b o q (I.ok.xH b j) λz=>I.ok.tZ b z j}
theorem Inv.step{ch:List ai}(I:55)(J:∀b∈ch,(b∈X.ex\/131<=b)/\b≠119/\(∀x c,X.env.cells.lookup x=some c->c≠b)/\∀p∈X.pn++pins,p.1≠b)(keep:∀b o,b≠119->b∉X.fs->b∉ch->104=85->H b=none->h'.get? b=85)(slot:∀b o,b≠119->b∈X.fs->b∉ch->104=85->H b=none->∃sl,h'.get? b=some {o with slots:=sl})(free:∀b o,b∉ch->104=85->H b=none->H' b=none)(there:∀b o,b∉ch->104=85->∃o',h'.get? b=some o')(mK:∀b xs,H b=some (.tup xs)->H' b=some (.tup xs))(lZ:∀b o u,H b=some (.fL o u)->H' b=some (.fL o u))(mL:∀b ps,H b=some (.Ak ps)->∃more,H' b=some (.Ak<|ps++more))(ns:∀m,s.heap.Ns 119 m->h'.Ns 119 m)(bG:j4 126 X.w H' h')(hg:AllBare g'):Inv X pins σ H' {s with heap:=h',gens:=g',drawn:=d',toks:=t'}:=by have MZ:∀b o,X.dB.heap.get? b=85->b≠119:=λb o e=>aS (dm (aE e) I.ok.above);(have S:∀b o,X.dB.heap.get? b=85->b∉X.ex->b∉ch:=λb o e j U=>by rcases(J b U).1 with z|z;{exact j z};{exact absurd (dm (aE e) z)<|eW _});(have B:∀x c,X.env.cells.lookup x=some c->∀v,s.heap.IsCell c v->h'.IsCell c v:=λx c e v⟨o,W,hd⟩=>by have L:c∉ch:=λz=>(J c z).2.2.1 x c e Z;by_cases hc:c∈X.fs;{obtain⟨sl,q⟩:=slot c o (I.yY x c e) hc L W (I.fT x c e);exact⟨_,q,hd⟩};{exact⟨o,keep c o (I.yY x c e) hc L W<|I.fT x c e,hd⟩});refine⟨I.ok,I.os,hg,⟨λb o e n U j=>?_,λb o e n U j=>?_,λb o e n j=>?_,λb o e j=>?_,λb xs e=>mK b xs<|I.base.mK b xs e,λb o xs e=>lZ b o xs<|I.base.lZ b o xs e,λb ps e=>?_⟩,?_,λx c e=>?_,?_,λx c e=>?_,λp hp=>?_,bG,I.len⟩;{exact keep b o (MZ b o e) U (S b o e j) (I.base.keep b o e n U j)<|I.base.free b o e n j};{obtain⟨sl,O⟩:=I.base.slot b o e n U j;obtain⟨Ir,Y⟩:=slot b _ (MZ b o e) U (S b o e j) O (I.base.free b o e n j);exact⟨Ir,Y⟩};{obtain⟨o',O⟩:=I.base.there b o e j;exact free b o' (S b o e j) O<|I.base.free b o e n j};{obtain⟨o',O⟩:=I.base.there b o e j;exact there b o' (S b o e j) O};{obtain⟨m1,O⟩:=I.base.mL b ps e;obtain⟨m2,Y⟩:=mL b _ O;exact⟨m1++m2,by rw[Y,Array.append_assoc]⟩};{obtain⟨m,hn,hl⟩:=I.loc;refine⟨m,ns m hn,λi x v O Y e3=>?_⟩;obtain⟨u,r,l⟩:=hl i x v O Y e3;exists u,r;rcases l with l|⟨k,c,e,z⟩;{exact .inl l};{exact .inr ⟨k,c,e,B x c e _ z⟩}};{obtain⟨v,z⟩:=I.cell x c e;exact⟨v,B x c e v z⟩};{obtain⟨m,⟨o,_,_,W,_⟩,_⟩:=I.loc;exact free _ o (λz=>(J _ z).2.1 Z) W I.free};{obtain⟨v,o,W,hd⟩:=I.cell x c e;exact free c o (λz=>(J c z).2.2.1 x c e Z) W<|I.fT x c e};{obtain⟨e,n,ne,nf,d⟩:=I.pin p hp;have L:p.1∉ch:=λz=>(J p.1 z).2.2.2 p hp Z;exact⟨keep p.1 p.2 ne nf L e n,free p.1 p.2 L e n,ne,nf,d⟩}
theorem Inv.un(I:55)(u:Un X.fs [] H H' 91 h')(L:j4 126 X.w H' h'):Inv X pins σ H' {s with heap:=h',toks:=t'}:=by obtain⟨m,⟨o,es,Y,O,r⟩,_⟩:=id I.loc;obtain⟨sl,S⟩:=u.any O I.free 81;exact I.step (g':=s.gens) (d':=s.drawn) (ch:=[]) (λ_ z=>nomatch z) (λb o _ J _ e n=>u.keep b o e n J 81) (λb o _ J _ e n=>u.slot b o e n J 81) (λb o _ e n=>u.free b o e n 81) (λb o _ e=>u.there b o e 81) u.mK u.lZ u.mL (λm' U=>by obtain⟨o',B,q,j,W⟩:=U;rw[O]at j;cases j;exact⟨_,B,q,S,W⟩) L I.bare
theorem Inv.call(I:55)(u:Un (jP X.stack) ch H H' 91 h')(S:j4 126 X.w H' h')(Y:AllBare g')(q:∀b∈ch,(b∈X.ex\/131<=b)/\b≠119/\(∀x c,X.env.cells.lookup x=some c->c≠b)/\∀p∈X.pn++pins,p.1≠b):Inv X pins σ H' {s with heap:=h',gens:=g',drawn:=d',toks:=t'}:=by obtain⟨m,⟨o,es,ep,U,r⟩,_⟩:=id I.loc;obtain⟨sl,O⟩:=u.any U I.free λz=>(q _ z).2.1 Z;exact I.step (ch:=ch) q (λb o O W j e n=>u.keep b o e n (λz=>(aM.mp<|I.pY b z).elim O W) j) (λb o _ _ j e n=>u.any e n j) (λb o j e n=>u.free b o e n j) (λb o j e=>u.there b o e j) u.mK u.lZ u.mL (λm' hm=>by obtain⟨o',L,J,B,r'⟩:=hm;rw[U]at B;cases B;exact⟨_,L,J,O,r'⟩) S Y
theorem Inv.turned(I:55)(k:∀b o,b≠it->104=85->h'.get? b=85)(W:H it=none)(J:it≠119)(h1:it∈X.ex\/131<=it)(h2:∀x c,X.env.cells.lookup x=some c->c≠it)(O:∀p∈X.pn++pins,p.1≠it):Inv X pins σ H {s with heap:=h',toks:=t'}:=by(have B:∀b u,H b=some u->b≠it:=λb u e z=>by rw[z,W]at e;cases e);refine I.step (g':=s.gens) (d':=s.drawn) (ch:=[it]) (λb S=>?_) (λb o _ _ j e _=>k b o (λz=>j (by simp[z])) e) (λb o _ _ j e _=>⟨o.slots,k b o (λz=>j (by simp[z])) e⟩) (λ_ _ _ _ n=>n) (λb o j e=>⟨o,k b o (λz=>j (by simp[z])) e⟩) (λ_ _ e=>e) (λ_ _ _ e=>e) (λb ps e=>⟨#[],by rw[e];simp⟩) (λm U=>?_) (λb u e=>?_) I.bare;{(have e:b=it:=by simpa using S);k_go;exact⟨h1,J,h2,O⟩};{obtain⟨o,es,L,Y,r⟩:=U;exact⟨o,es,L,k _ o (aG J) Y,r⟩};{refine(I.bG b u e).fC (λc v j q=>k c v ?_ q) (λ_ q=>q) λ_ _ q=>q;rcases j with z|z;{rw[z];exact B b u e};{exact B c _ z}}
theorem Inv.tok(I:55)t:Inv X pins σ H {s with toks:=t}:=I.un (h':=91) (t':=t) Un.refl I.bG
theorem Inv.kept(I:55)(k:∀b u,104=some u->h'.get? b=some u):Inv X pins σ H {s with heap:=h',toks:=t'}:=I.un (Un.kept k) (I.bG.kept k)
theorem Inv.laid{a:ai}(I:55)(k:∀b u,104=some u->h'.get? b=some u)(j:19<=a)(q:bQ 126 X.w (upd H a o) h' a o):Inv X pins σ (upd H a o) {s with heap:=h',toks:=t'}:=I.un (Un.laid k j<|I.bG.fresh j) (I.bG.laid k j q)
theorem Inv.write(I:55)(J:CN (H x))(B:e=x\/H e=some (.own x))(k:∀b u,b≠e->104=some u->h'.get? b=some u)(j:∃u,h'.get? e=some u)(q:bQ 126 X.w (upd H x o) h' x o):Inv X pins σ (upd H x o) {s with heap:=h',toks:=t'}:=I.un (Un.write J B k j) (I.bG.write J B k j q)
theorem Inv.sY(I:55)(h:∀p∈j,s.heap.get? p.1=some p.2/\H p.1=none/\p.1≠119/\p.1∉X.fs/\∀v,p.2.data≠.cell v):Inv X j σ H s:=⟨I.ok,I.os,I.bare,I.base,I.loc,I.cell,I.free,I.fT,λp q=>(bJ.mp q).elim (λz=>I.pin p<|ir _ z)<|h p,I.bG,I.len⟩
theorem Iu{N:88}(J:N.Nodup){i j:Nat}(a:N[i]?=some x)(b:N[j]?=some x):i=j:=by obtain⟨h1,q⟩:=cE.mp a;obtain⟨h2,B⟩:=cE.mp b;exact(List.getElem_inj J).mp<|q.trans B.symm
theorem M0{M:Model}{A:Around}{E:aP}{i:Nat}{x:Str}{v:V}{u:au}{Q:Unit->aF->Prop}(I:55)(hN:X.N.Nodup)(hi:X.N[i]?=some x)(O:Loc X.env.scope x)(r:RelV v u)(h:∀s',Inv X pins (σ.set i<|some v) H s'->(∃a,Heap.SameBut a 91 s'.heap/\(a=119\/X.env.cells.lookup x=some a))->Q () s')(hf:X.fn x=true\/X.env.scope.names.lookup x=some .local:=by first|exact .inl Z|exact .inr Z|assumption):wpAny M A (storeName 106 x u) Q E s:=by obtain⟨m,hn,hl⟩:=id I.loc;(have Iv:(X.env.scope.kind==.class||(X.env.scope.kind==.module&&119 !=X.env.globals))=94:=by rw[I.ok.kind];rfl);(have W:i<σ.length:=by rw[I.len];exact(cE.mp hi).1);have yY:=I.yY;(have J:∀{a:ai}{h':Heap},(∃o,s.heap.get? a=85/\H a=none)->Heap.SameBut a 91 h'->j4 126 X.w H h':=λ{a h'}ha hs b ob e=>by obtain⟨_,_,S⟩:=ha;refine(I.bG b ob e).fC (λc w' L q=>(hs.2 c ?_).trans q) (λ_ q=>q) λ_ _ q=>q;rintro rfl;rcases L with rfl|L;{rw[S]at e;cases e};{rw[S]at L;cases L});rcases O with Y|Y;{refine wpAny_storeName_local Y hn (λh' TZ hs=>?_) Iv;obtain⟨oL,_,_,M1,_⟩:=id hn;refine h _ ⟨I.ok,I.os,I.bare,⟨λb o e n hb O=>?_,λb o e n hb O=>?_,I.base.free,λb o e O=>?_,I.base.mK,I.base.lZ,I.base.mL⟩,⟨_,TZ,λj y v' B U e3=>?_⟩,λy c e=>?_,I.free,I.fT,λp hp=>?_,J ⟨oL,M1,I.free⟩ hs,by simpa using I.len⟩ ⟨_,hs,.inl Z⟩;{exact(hs.2 b<|aS<|dm (aE e) I.ok.above).trans<|I.base.keep b o e n hb O};{obtain⟨sl,B⟩:=I.base.slot b o e n hb O;exact⟨sl,(hs.2 b<|aS<|dm (aE e) I.ok.above).trans B⟩};{obtain⟨o',B⟩:=I.base.there b o e O;exact⟨o',(hs.2 b<|aS<|dm (aE e) I.ok.above).trans B⟩};{by_cases hj:j=i;{subst hj;rw[hi]at B;cases B;rw[o9 W]at U;cases U;exact⟨u,r,.inl ⟨Y,81⟩⟩};{rw[pC (aG hj)]at U;obtain⟨u',r',q⟩:=hl j y v' B U e3;exists u',r';rcases q with⟨k,e⟩|⟨k,c,e,z⟩;{refine .inl ⟨k,?_⟩;have:y≠x:=λe=>hj (Iu hN B<|e▸hi);simp[this,e]};{exact .inr ⟨k,c,e,z.sameBut hs<|yY y c e⟩}}};{obtain⟨w',z⟩:=I.cell y c e;exact⟨w',z.sameBut hs<|yY y c e⟩};{obtain⟨e,n,ne,nf,d⟩:=I.pin p hp;exact⟨(hs.2 p.1 ne).trans e,n,ne,nf,d⟩}};{(have Iw:X.fn x=true:=by rcases hf with z|z;{exact z};{rw[z]at Y;cases Y});obtain⟨c,L⟩:=I.ok.has x (.inl Y);obtain⟨w',z⟩:=I.cell x c L;refine wpAny_storeName_cell I.ok.kind Y L z λh' M3 hs=>?_;obtain⟨oc,M4,Iz⟩:=id z;refine h {s with heap:=h'} ⟨I.ok,I.os,I.bare,⟨λb o e n hb O=>?_,λb o e n hb O=>?_,I.base.free,λb o e O=>?_,I.base.mK,I.base.lZ,I.base.mL⟩,⟨m,hn.sameBut hs<|aG<|yY x c L,λj y v' B U e3=>?_⟩,λy c' e=>?_,I.free,I.fT,λp hp=>?_,J ⟨oc,M4,I.fT x c L⟩ hs,by simpa using I.len⟩ ⟨c,hs,.inr L⟩;{exact(hs.2 b<|aS<|dm (aE e)<|I.ok.Al x c Iw L).trans<|I.base.keep b o e n hb O};{obtain⟨sl,B⟩:=I.base.slot b o e n hb O;exact⟨sl,(hs.2 b<|aS<|dm (aE e)<|I.ok.Al x c Iw L).trans B⟩};{obtain⟨o',B⟩:=I.base.there b o e O;exact⟨o',(hs.2 b<|aS<|dm (aE e)<|I.ok.Al x c Iw L).trans B⟩};{by_cases hj:j=i;{subst hj;rw[hi]at B;cases B;rw[o9 W]at U;cases U;exact⟨u,r,.inr ⟨.inl Y,c,L,M3⟩⟩};{rw[pC (aG hj)]at U;obtain⟨u',r',q⟩:=hl j y v' B U e3;exists u',r';rcases q with q|⟨k,c',e,z'⟩;{exact .inl q};{refine .inr ⟨k,c',e,z'.sameBut hs ?_⟩;rintro rfl;exact hj<|Iu hN B<|I.ok.inj _ _ _ e L▸hi}}};{by_cases M5:c'=c;{subst M5;exact⟨_,M3⟩};{obtain⟨w2,z2⟩:=I.cell y c' e;exact⟨w2,z2.sameBut hs M5⟩}};{obtain⟨e,n,ne,nf,d⟩:=I.pin p hp;refine⟨(hs.2 p.1 ?_).trans e,n,ne,nf,d⟩;intro q;rw[q,M4]at e;have q':oc=p.2:=dR e;exact d w' (by rw[←q'];exact Iz)}}
theorem BK{M:Model}{A:Around}{E:aP}{i:Nat}{x:Str}{v:V}{u:au}{Q:Unit->aF->Prop}(I:55)(q:X.N.Nodup)(hi:X.N[i]?=some x)(J:Loc X.env.scope x)(r:RelV v u)(h:∀s',Inv X pins (σ.set i<|some v) H s'->Q () s')(B:X.fn x=true\/X.env.scope.names.lookup x=some .local:=by first|exact .inl Z|exact .inr Z|assumption):wpAny M A (storeName 106 x u) Q E s:=M0 I q hi J r (λs' j _=>h s' j) B
theorem Inv.sZ(I:55)(J:s'.os=s.os)(u:Un (jP X.stack) ch H H' 91 s'.heap)(q:j4 126 X.w H' s'.heap)(B:AllBare s'.gens)(j:∀b∈ch,(b∈X.ex\/131<=b)/\b≠119/\(∀x c,X.env.cells.lookup x=some c->c≠b)/\∀p∈X.pn++pins,p.1≠b):Inv X pins σ H' s':=by obtain⟨h',g',d',t',o'⟩:=s';have e:o'=s.os:=J;k_go;exact I.call (g':=g') (t':=t') (d':=d') u q B j
end
abbrev XK:=au->Option ai->Hp->Prop
abbrev St:=List (Option V)
abbrev VK:=V->Hp->Prop
abbrev TE:=St->Hp->VK->Prop
abbrev TT:=St->Hp->(Bool->Hp->Prop)->Prop
abbrev TA:=St->Hp->(99->Hp->Prop)->Prop
structure Ends where
  nx:St->Hp->Prop
  rt:VK
  bk:St->Hp->Prop:=fun _ _=>False
  ct:St->Hp->Prop:=fun _ _=>False
abbrev TS:=Ends->St->Hp->Prop
def EP(X:Cx)(pins:bA)(σ:St)(Q:VK)(u:au)(s':aF):Prop:=∃v H',Inv X pins σ H' s'/\RelV v u/\Q v H'
def TP(X:Cx)(pins:bA)(σ:St)(Q:Bool->Hp->Prop)(b:Bool)(s':aF):Prop:=∃H',Inv X pins σ H' s'/\Q b H'
def AP(X:Cx)(pins:bA)(σ:St)(Q:99->Hp->Prop)(us:List au)(s':aF):Prop:=∃j H',Inv X pins σ H' s'/\Vals j us/\Q j H'
def SP(X:Cx)(pins:bA)(D:Ends)(f:Flow)(s':aF):Prop:=match f with|.next=>∃j H',Inv X pins j H' s'/\D.nx j H'|.brk=>∃j H',Inv X pins j H' s'/\D.bk j H'|.cont=>∃j H',Inv X pins j H' s'/\D.ct j H'|.ret u=>∃v j H',Inv X pins j H' s'/\RelV v u/\D.rt v H'
def PE(X:Cx)(e:Expr)(t:TE):Prop:=∀pins s(σ:St)H Q,55->t σ H Q->wpAny 83 X.A (eval e 106) (EP X pins σ Q) X.xe s
def PT(X:Cx)(e:Expr)(t:TT):Prop:=∀pins s(σ:St)H Q,55->t σ H Q->wpAny 83 X.A (isTrue e 106<|eval e 106) (TP X pins σ Q) X.xe s
def PW(X:Cx)(e:Expr)(t:TT):Prop:=∀j pins s(σ:St)H Q,55->t σ H Q->wpAny 83 X.A (isTrue e 106 j) (TP X pins σ Q) X.xe s
theorem PW.pt(h:PW X e t):PT X e t:=h _
def PA(X:Cx)(es:List Expr)(t:TA):Prop:=∀pos pins s(σ:St)H Q,55->t σ H Q->wpAny 83 X.A (spliced<|backTo pos 103) (AP X pins σ Q) X.xe s
def PS(X:Cx)(st:Stmt)(t:TS):Prop:=∀pins s(σ:St)H D,55->t D σ H->wpAny 83 X.A (exec st 106) (SP X pins D) X.xe s
def qo(X:Cx)(st:List Stmt)(t:TS):Prop:=∀pins s(σ:St)H D,55->t D σ H->wpAny 83 X.A (execs st 106) (SP X pins D) X.xe s
theorem bR{Q j:B->aF->Prop}(h:wpAny M A t Q E s)(q:∀a s,Q a s->j a s):wpAny M A t j E s:=cT h q λ_ _ x=>x
section
variable{X:Cx}
theorem bin(S:PE X a ta)(U:PE X b tb){σ:St}{R:V->V->Hp->Prop}(I:55)(h:ta σ H λx H1=>tb σ H1 λy H2=>R x y H2){f:au->au->Sem α}(W:∀v u J x y H2,Inv X pins σ H2 J->RelV x v->RelV y u->R x y H2->wpAny 83 X.A (f v u) Q X.xe J):wpAny 83 X.A (eval a 106) (λv q=>wpAny 83 X.A (eval b 106) (λu B=>wpAny 83 X.A (f v u) Q X.xe B) X.xe q) X.xe s:=by refine bR (S pins s σ H _ I h) λv s1 j=>?_;obtain⟨x,H1,L,r1,Y⟩:=j;refine bR (U pins s1 σ H1 _ L Y) λu J j=>?_;obtain⟨y,H2,O,r2,q2⟩:=j;exact W v u J x y H2 O r1 r2 q2
inductive CO(i:Nat)(σ:St)(H:Hp)(Q:VK):Prop|mk v(_:σ[i]?=some (some v))(_:Q v H)
def vJ(i:Nat):TE:=λσ H Q=>CO i σ H Q
def tC(v:V):TE:=λ_ H Q=>Q v H
theorem T4{i:Nat}{x:Str}{pos:Pos}(S:X.N[i]?=some x)(hv:Io X.env.scope x)(L:(x==("__debug__":Str))=94:=by walk)(J:(x==("__classdict__":Str))=94:=by walk):PE X (.Name x pos) (vJ i):=by intro pins s σ H Q I h;obtain⟨v,e,h⟩:=h;obtain⟨m,Y,U⟩:=I.loc;obtain⟨u,r,l⟩:=U i x v S e hv;have q:EP X pins σ Q u s:=⟨v,H,I,r,h⟩;rcases l with⟨B,W⟩|⟨B,c,O,j⟩;{exact wpAny_Name (wpAny_loadName_local I.ok.kind B Y W q) L};{rcases B with B|B;{exact wpAny_Name (wpAny_loadName_cell I.ok.kind B O j q) L};{exact wpAny_Name (wpAny_loadName_free I.ok.kind B O j q J) L}}
theorem ze:PE X (.Constant (.int i) j pos) (tC<|.int i):=λ_ _ _ H _ I h=>wpAny_Constant_int ⟨.int i,H,I.tok _,⟨_,Z⟩,h⟩
theorem ly:PE X (.Constant (.bool b) j pos) (tC<|.bl b):=λ_ _ _ H _ I h=>Constant_bool ⟨.bl b,H,I,Z,h⟩
theorem Am:PE X (.Constant .none j pos) (tC .cz):=λ_ _ _ H _ I h=>Constant_none ⟨.cz,H,I,Z,h⟩
theorem eO:PE X (.Constant (.str x) j pos) (tC<|.str x):=λ_ _ _ H _ I h=>Calls.Constant_str ⟨.str x,H,I.tok _,⟨_,Z⟩,h⟩
def Gl(X:Cx)(x:Str):Prop:=X.env.kindOf x=some .globalImplicit
theorem xJ{E:aP}{pins:bA}{s:aF}{σ:St}{H:Hp}{x:Str}{u:au}{pos:Pos}{Q:aP}(I:55)(q:Gl X x)(B:X.mg x=some u)(h:Q u s)(j:(x==("__debug__":Str))=94:=by walk):wpAny 83 X.A (eval (.Name x pos) 106) Q E s:=Calls.Name_function_global I.ok.kind q (Calls.loadGlobal_global (by rw[I.ok.glob];exact I.mod.glob.keeps I.bk) B h) j
theorem yZ{E:aP}{pins:bA}{s:aF}{σ:St}{H:Hp}{x:Str}{u:au}{pos:Pos}{Q:aP}(I:55)(q:Gl X x)(B:X.mg x=none)(L:bootBuiltins x=some u)(h:Q u s)(J:x≠"__name__":=by walk)(j:(x==("__debug__":Str))=94:=by walk):wpAny 83 X.A (eval (.Name x pos) 106) Q E s:=by obtain⟨O,h1,h2⟩:=I.mod.blt;exact Calls.Name_function_global I.ok.kind q (Calls.loadGlobal_builtin (by rw[I.ok.glob];exact I.mod.glob.keeps I.bk) B (by rw[I.ok.blt];exact h1.keeps I.bk) ((h2 x J).trans L) h) j
theorem FW{x:Str}{v:V}{u:au}{pos:Pos}(q:Gl X x)(B:X.mg x=some u)(r:RelV v u)(j:(x==("__debug__":Str))=94:=by walk):PE X (.Name x pos) (tC v):=λ_ _ _ H _ I h=>xJ I q B ⟨v,H,I,r,h⟩ j
theorem FY{x:Str}{v:V}{u:au}{pos:Pos}(q:Gl X x)(B:X.mg x=none)(L:bootBuiltins x=some u)(r:RelV v u)(J:x≠"__name__":=by walk)(j:(x==("__debug__":Str))=94:=by walk):PE X (.Name x pos) (tC v):=λ_ _ _ H _ I h=>yZ I q B L ⟨v,H,I,r,h⟩ J j
variable{a b:Expr}{ta tb:TE}{pos:Pos}
def PC(X:Cx)(op:CmpOp)(a b:Expr)(t:TE):Prop:=∀pins s(σ:St)H Q,55->t σ H Q->wpAny 83 X.A (eval a 106) (λv j=>wpAny 83 X.A (eval b 106) (λu q=>wpAny 83 X.A (compareOp op v u) (EP X pins σ Q) X.xe q) X.xe j) X.xe s
theorem M6 b(h:op≠.In)(h2:op≠.NotIn):behindInMarks op b=94:=by(have j:(op==CmpOp.In)=94:=by cases op<;>first|rfl|exact absurd Z h);(have q:(op==CmpOp.NotIn)=94:=by cases op<;>first|rfl|exact absurd Z h2);cases b<;>simp[behindInMarks,j,q]
def IA(ta:TE):TE:=λσ H Q=>ta σ H λx H1=>Q (.bl<|decide<|x=.cz) H1
def T5(ta:TE):TE:=λσ H Q=>ta σ H λx H1=>Q (.bl<|!decide (x=.cz)) H1
theorem RelV.qE(r:RelV x v):(v==112)=decide (x=.cz):=by cases x with|cz=>cases r;rfl|bl _=>cases r;rfl|int _=>obtain⟨t,rfl⟩:=r;rfl|str _=>obtain⟨t,rfl⟩:=r;rfl|tY _=>obtain⟨t,rfl⟩:=r;rfl|yX _=>obtain⟨t,rfl⟩:=r;rfl|ref _=>cases r;rfl|ty _=>cases r;rfl
theorem y9(J:PE X a ta):PC X .Is a (.Constant .none j pos') (IA ta):=by intro pins s σ H Q I h;refine bR (J pins s σ H _ I h) λv S q=>?_;obtain⟨x,H1,B,O,L⟩:=q;exact Constant_none<|is_none_gen ⟨.bl _,H1,B,by rw[O.qE];rfl,L⟩
theorem T6(J:PE X a ta):PC X .IsNot a (.Constant .none j pos') (T5 ta):=by intro pins s σ H Q I h;refine bR (J pins s σ H _ I h) λv S q=>?_;obtain⟨x,H1,B,O,L⟩:=q;exact Constant_none<|isnot_none_gen ⟨.bl _,H1,B,by rw[O.qE];rfl,L⟩
def tB(t:TE):TT:=λσ H Q=>t σ H λx H1=>∃c,x=.bl c/\Q c H1
theorem IB{op:CmpOp}{t:TE}(h:PC X op a b t)(h1:behindInMarks op b=94:=by first|exact M6 _ 82 82|rfl):PE X (.Compare a [op] [b] pos) t:=λpins s σ H Q I j=>wpAny_Compare1 (h pins s σ H Q I j) h1
theorem qF{op:CmpOp}{t:TE}(h:PC X op a b t)(h1:behindInMarks op b=94:=by first|exact M6 _ 82 82|rfl):PT X (.Compare a [op] [b] pos) (tB t):=by intro pins s σ H Q I J;refine wpAny_isTrue_Compare1 (bR (h pins s σ H _ I J) λv S h1=>bR h1 λu U h2=>bR h2 λc W j=>?_) h1;obtain⟨x,H1,B,O,L⟩:=j;obtain⟨d,rfl,q⟩:=L;cases O;exact jh ⟨H1,B,q⟩
theorem pZ{e:Expr}{t:TE}(h:PE X e t)(L:∀j,isTrue e 106 j=(do let v←j;standAt e.pos;holding [v] (truthy v)):=by intro _;rfl):PT X e (tB t):=by intro pins s σ H Q I O;refine isTrue_plain (bR (h pins s σ H _ I O) λv W B=>?_)<|L _;obtain⟨x,H1,J,U,S⟩:=B;obtain⟨d,rfl,q⟩:=S;cases U;exact jh ⟨H1,J,q⟩
variable{tA FZ:TT}{rest:List Expr}
def IC(t u:TT):TT:=λσ H Q=>t σ H λc H1=>if c=true then u σ H1 Q else Q 94 H1
def T7(t u:TT):TT:=λσ H Q=>t σ H λc H1=>if c=true then Q true H1 else u σ H1 Q
def ID(t:TT):TT:=λσ H Q=>t σ H λc H1=>Q (!c) H1
theorem vd(j:PT X a tA):PW X (.BoolOp .And [a] pos) tA:=by intro B pins s σ H Q I h;refine isTrue_and<|bR (j pins s σ H Q I h) λc q e=>?_;cases c with|true=>exact isTrue_and_nil e|false=>exact e
theorem uc(j:PT X a tA):PW X (.BoolOp .Or [a] pos) tA:=by intro B pins s σ H Q I h;refine isTrue_or<|bR (j pins s σ H Q I h) λc q e=>?_;cases c with|false=>exact isTrue_or_nil e|true=>exact e
theorem tu(J:PT X a tA)(L:PW X (.BoolOp .And (b::rest) pos) FZ):PW X (.BoolOp .And (a::b::rest) pos) (IC tA FZ):=by intro S pins s σ H Q I h;refine isTrue_and<|bR (J pins s σ H _ I h) λc O j=>?_;obtain⟨H1,q,B⟩:=j;cases c with|true=>exact L S pins O σ H1 Q q B|false=>exact⟨H1,q,B⟩
theorem p5(J:PT X a tA)(L:PW X (.BoolOp .Or (b::rest) pos) FZ):PW X (.BoolOp .Or (a::b::rest) pos) (T7 tA FZ):=by intro S pins s σ H Q I h;refine isTrue_or<|bR (J pins s σ H _ I h) λc O j=>?_;obtain⟨H1,q,B⟩:=j;cases c with|true=>exact⟨H1,q,B⟩|false=>exact L S pins O σ H1 Q q B
theorem p6(j:PT X a tA):PT X (.UnaryOp .Not a pos) (ID tA):=by intro pins s σ H Q I h;exact isTrue_not<|j pins s σ H (λc H1=>Q (!c) H1) I h
def T9(ta tb:TE):TE:=λσ H Q=>ta σ H λx H1=>∃c,x=.bl c/\if c=true then tb σ H1 Q else Q (.bl 94) H1
def IE(ta tb:TE):TE:=λσ H Q=>ta σ H λx H1=>∃c,x=.bl c/\if c=true then Q (.bl true) H1 else tb σ H1 Q
theorem BL(h:PE X a t):PE X (.BoolOp op [a] pos) t:=λpins s σ H Q I j=>BoolOp_one (h pins s σ H Q I j)
theorem CP(J:PE X a ta)(L:PE X (.BoolOp .And (b::rest) pos) tb):PE X (.BoolOp .And (a::b::rest) pos) (T9 ta tb):=by intro pins s σ H Q I h;refine BoolOp_and<|bR (J pins s σ H _ I h) λv S q=>?_;obtain⟨x,H1,B,O,j⟩:=q;obtain⟨c,rfl,j⟩:=j;cases O;refine jh ?_;cases c with|true=>exact L pins S σ H1 Q B j|false=>exact⟨.bl 94,H1,B,Z,j⟩
theorem Ua(J:PE X a ta)(L:PE X (.BoolOp .Or (b::rest) pos) tb):PE X (.BoolOp .Or (a::b::rest) pos) (IE ta tb):=by intro pins s σ H Q I h;refine BoolOp_or<|bR (J pins s σ H _ I h) λv S q=>?_;obtain⟨x,H1,B,O,j⟩:=q;obtain⟨c,rfl,j⟩:=j;cases O;refine jh ?_;cases c with|false=>exact L pins S σ H1 Q B j|true=>exact⟨.bl true,H1,B,Z,j⟩
def Ub(t:TT)(ta tb:TE):TE:=λσ H Q=>t σ H λc H1=>if c=true then ta σ H1 Q else tb σ H1 Q
theorem M7(S:PT X c tA)(L:PE X a ta)(O:PE X b tb):PE X (.IfExp c a b pos) (Ub tA ta tb):=by intro pins s σ H Q I h;refine wpAny_IfExp<|bR (S pins s σ H _ I h) λd J j=>?_;obtain⟨H1,q,B⟩:=j;cases d with|true=>exact L pins J σ H1 Q q B|false=>exact O pins J σ H1 Q q B
end
def aH(K:aC)(H:Hp)(a:ai)(xs:99):Prop:=Rd H a (.lst xs)\/∃o j n,K.lookup a=85/\o.cls=.type 115/\o.dict=none/\o.data=.seq j n/\j.size<=89/\Vals xs j.toList
def aI(K:aC)(H:Hp)(a:ai)(xs:99):Prop:=Rd H a (.tup xs)\/∃o j n,K.lookup a=85/\o.cls=.type 118/\o.data=.seq j n/\j.size<=89/\Vals xs j.toList
def CQ:au->Option V|.none=>some .cz|.bool b=>some (.bl b)|.int i _=>some (.int i)|.str x _=>some (.str x)|.bytes b _=>some (.tY b)|.float b _=>some (.yX b)|.ref a=>some (.ref a)|.type n=>some (.ty n)|_=>none
theorem RelV.abs(r:RelV x u):CQ u=some x:=by cases x with|cz=>cases r;rfl|bl _=>cases r;rfl|int _=>obtain⟨t,rfl⟩:=r;rfl|str _=>obtain⟨t,rfl⟩:=r;rfl|tY _=>obtain⟨t,rfl⟩:=r;rfl|yX _=>obtain⟨t,rfl⟩:=r;rfl|ref _=>cases r;rfl|ty _=>cases r;rfl
theorem RelV.inj(r:RelV x u)(q:RelV y u):x=y:=dR (r.abs.symm.trans q.abs)
theorem Vals.inj:∀{xs ys:99}{us:List au},Vals xs us->Vals ys us->xs=ys|_,_,_,.nil,.nil=>rfl|_,_,_,.cons r t,.cons j q=>by rw[r.inj j,Vals.inj t q]
section
variable{X:Cx}{pins:bA}{σ:St}{H:Hp}{s:aF}{a:ai}{xs ys:99}
theorem aH.of{K:aC}(h:H a=some (.lst xs)):aH K H a xs:=.inl (.inl h)
theorem aI.of{K:aC}(h:H a=some (.tup xs)):aI K H a xs:=.inl (.inl h)
theorem Inv.list(I:55)(h:aH X.K H a xs):∃its,Vals xs its/\PlainL 91 a its.toArray/\84<=89:=by rcases h with h|⟨o,its,n,B,j,q,hs,J,r⟩;{obtain⟨z,its,n,r,e⟩:=h.ok I.bG;exact⟨its,r,⟨_,n,e,Z,Z,Z⟩,z⟩};{exists its.toList,r,⟨o,n,I.iM a o B,j,q,by simpa using hs⟩;have e:=r.length;simp only[cK]at e;lia}
theorem Inv.tuple(I:55)(h:aI X.K H a xs):∃its,Vals xs its/\IsTup 91 a its.toArray/\84<=89:=by rcases h with h|⟨o,its,n,q,j,hs,B,r⟩;{obtain⟨z,its,r,p⟩:=h.ok I.bG;exact⟨its,r,p,z⟩};{exists its.toList,r,⟨o,I.iM a o q,j,n,by simpa using hs⟩;have e:=r.length;simp only[cK]at e;lia}
theorem Inv.iz(I:55)(h:aH X.K H a xs)(h':aH X.K H a ys):xs=ys:=by obtain⟨q,r,⟨o,n,e,_,_,d⟩,_⟩:=I.list h;obtain⟨j,O,⟨o',S,J,_,_,B⟩,_⟩:=I.list h';rw[e]at J;cases J;rw[d]at B;injection B with L _;(have:q=j:=by simpa using bw Array.toList L);subst this;exact r.inj O
theorem Inv.l5(I:55)(h:aI X.K H a xs)(h':aI X.K H a ys):xs=ys:=by obtain⟨q,r,⟨o,e,_,n,d⟩,_⟩:=I.tuple h;obtain⟨j,O,⟨o',J,_,S,B⟩,_⟩:=I.tuple h';rw[e]at J;cases J;rw[d]at B;injection B with L _;(have:q=j:=by simpa using bw Array.toList L);subst this;exact r.inj O
end
abbrev Cx.oB(X:Cx)(E:aP):Cx:={X with xe:=E}
abbrev Cx.BN(X:Cx):Cx:=X.oB λ_ _=>False
theorem Cx.Ok.oB{X:Cx}(j:X.Ok)E:(X.oB E).Ok:=⟨j.mod,j.kind,j.glob,j.blt,j.above,j.inj,j.has,j.Al,j.hd,j.frames,j.BJ,j.FU,j.bs,j.vc,j.qD,j.tZ,j.kK,j.xH⟩
theorem Cx.Ok.jA{X:Cx}(j:(X.oB E).Ok):X.Ok:=⟨j.mod,j.kind,j.glob,j.blt,j.above,j.inj,j.has,j.Al,j.hd,j.frames,j.BJ,j.FU,j.bs,j.vc,j.qD,j.tZ,j.kK,j.xH⟩
section
variable{X:Cx}{pins:bA}{σ:St}{H:Hp}{s:aF}{E:aP}
theorem Inv.oB(I:55)E:Inv (X.oB E) pins σ H s:=⟨I.ok.oB E,I.os,I.bare,I.base,I.loc,I.cell,I.free,I.fT,I.pin,I.bG,I.len⟩
theorem Inv.jA(I:Inv (X.oB E) pins σ H s):55:=⟨I.ok.jA,I.os,I.bare,I.base,I.loc,I.cell,I.free,I.fT,I.pin,I.bG,I.len⟩
theorem SP.jA(h:SP (X.oB E) pins D f s'):SP X pins D f s':=by cases f with|next=>obtain⟨j,H',I,q⟩:=h;exact⟨j,H',I.jA,q⟩|brk=>obtain⟨j,H',I,q⟩:=h;exact⟨j,H',I.jA,q⟩|cont=>obtain⟨j,H',I,q⟩:=h;exact⟨j,H',I.jA,q⟩|ret u=>obtain⟨v,j,H',I,r,q⟩:=h;exact⟨v,j,H',I.jA,r,q⟩
theorem qo.BN{st:List Stmt}(h:qo X.BN st t):qo X st t:=λpins s σ H D I j=>cT (h pins s σ H D (I.oB _) j) (λ_ _ q=>q.jA) λ_ _ z=>False.elim z
end
section
variable{X:Cx}{st:Stmt}{rest:List Stmt}{t u:TS}{e:Expr}{te:TE}{pos:Pos}
def mO:TS:=λD σ H=>D.nx σ H
def An(t u:TS):TS:=λD σ H=>t {D with nx:=u D} σ H
theorem d8:qo X [] mO:=λ_ _ σ H _ I h=>nK ⟨σ,H,I,h⟩
theorem zc(h1:PS X st t)(h2:qo X rest u):qo X (st::rest) (An t u):=by intro pins s σ H D I h;refine wpAny_execs_cons<|bR (h1 pins s σ H {D with nx:=u D} I h) λf J q=>?_;cases f with|next=>obtain⟨j,H',B,q⟩:=q;exact h2 pins J j H' D B q|ret v=>exact q|brk=>exact q|cont=>exact q
theorem zf(h1:PS X st t):qo X [st] t:=by intro pins s σ H D I h;refine wpAny_execs_cons<|bR (h1 pins s σ H D I h) λf j q=>?_;cases f with|next=>exact nK q|ret v=>exact q|brk=>exact q|cont=>exact q
theorem Inv.quiet{σ:St}(I:55):interactive 106=94:=by simp[interactive,I.ok.kind]
def Uc(te:TE):TS:=λD σ H=>te σ H λ_ H1=>D.nx σ H1
theorem mW(q:PE X e te)(hs:swapsWith e none pos.line 106=pure 94:=by rfl):PS X (.Expr e pos) (Uc te):=by intro pins s σ H D I h;exact wpAny_Expr_any (bR (q pins s σ H _ I h) λv L⟨x,H1,j,J,B⟩=>⟨σ,H1,j,B⟩) I.quiet hs
def CS(te:TE):TS:=λD σ H=>te σ H D.rt
theorem cH(q:PE X e te):PS X (.Return (some e) pos) (CS te):=by intro pins s σ H D I h;exact wpAny_Return_some<|bR (q pins s σ H _ I h) λv L⟨x,H1,j,J,B⟩=>⟨x,σ,H1,j,J,B⟩
def xK(c:TT)(t u:TS):TS:=λD σ H=>c σ H λb H1=>if b=true then t D σ H1 else u D σ H1
theorem dj(S:PT X c tc)(L:qo X a t)(O:qo X b u):PS X (.If c a b pos) (xK tc t u):=by intro pins s σ H D I h;refine wpAny_If<|bR (S pins s σ H _ I h) λd J j=>?_;obtain⟨H1,q,B⟩:=j;cases d with|true=>exact L pins J σ H1 D q B|false=>exact O pins J σ H1 D q B
def Ud:TS:=λ_ _ _=>False
theorem ud:PS X st Ud:=λ_ _ _ _ _ _ h=>h.elim
end
abbrev TG:=V->St->Hp->(St->Hp->Prop)->Prop
abbrev zA:=99->St->Hp->(St->Hp->Prop)->Prop
def PG(X:Cx)(j:Expr)(t:TG):Prop:=∀pins s(σ:St)H v u Q,55->RelV v u->t v σ H Q->wpAny 83 X.A (assign j 106 u) (λ_ s'=>∃q H',Inv X pins q H' s'/\Q q H') X.xe s
def CT(X:Cx)(ts:List Expr)(t:zA):Prop:=∀pins s(σ:St)H q us Q,55->Vals q us->t q σ H Q->wpAny 83 X.A (assignInOrder ((assignEach ts 106).map (·.2)) us) (λ_ s'=>∃j H',Inv X pins j H' s'/\Q j H') X.xe s
section
variable{X:Cx}{pos:Pos}
def zz(i:Nat):TG:=λv σ H Q=>Q (σ.set i<|some v) H
theorem oQ{i:Nat}{x:Str}(q:X.N.Nodup)(hi:X.N[i]?=some x)(J:Loc X.env.scope x)(B:X.fn x=true\/X.env.scope.names.lookup x=some .local:=by first|exact .inl Z|exact .inr Z|assumption):PG X (.Name x pos) (zz i):=by intro pins s σ H v u Q I r h;exact wpAny_assign_Name<|BK I q hi J r (λs' j=>⟨_,H,j,h⟩) B
def CU:zA:=λj σ H Q=>j=[]/\Q σ H
def IF(t:TG)(u:zA):zA:=λq σ H Q=>∃v r,q=v::r/\t v σ H λj H'=>u r j H' Q
theorem qX:CT X [] CU:=by intro pins s σ H j us Q I r h;obtain⟨e,h⟩:=h;k_go;cases r;exact assignInOrder_nil ⟨σ,H,I,h⟩
theorem jB{e:Expr}{es:List Expr}{t:TG}{u:zA}(h1:PG X e t)(h2:CT X es u)(hs:(assignEach (e::es) 106).map (·.2)=assign e 106::(assignEach es 106).map (·.2):=by rfl):CT X (e::es) (IF t u):=by intro pins s σ H W us Q I r h;obtain⟨v,U,J,h⟩:=h;subst J;cases r with|cons r O=>rw[hs];refine assignInOrder_cons<|bR (h1 pins s σ H _ _ _ I r h) λ_ S j=>?_;obtain⟨q,H1,B,L⟩:=j;exact h2 pins S q H1 _ _ Q B O L
def Ao(K:aC)(n:Nat)(t:zA):TG:=λv σ H Q=>∃a xs,v=98/\aI K H a xs/\84=n/\t xs σ H Q
theorem Ue{es:List Expr}{k:Nat}{t:zA}{n:Nat}(O:X.calm=true)(h:CT X es t)(U:(assignEach es 106).length=n:=by rfl)(j:(assignEach es 106).findIdx? (·.1)=none:=by rfl):PG X (.Tuple es k pos) (Ao X.K n t):=by intro pins s σ H v u Q I r q;obtain⟨a,xs,L,W,S,q⟩:=q;subst L;cases r;obtain⟨its,B,Y,hz⟩:=I.tuple W;refine assign_Tuple_tuple (I.ok.hd O) Y (by simp[U,←S,B.length]) j λh' hx=>?_;have J:Inv X pins σ H {s with heap:=h'}:=I.kept (t':=124) λb o e=>hx b o (aS<|aE e) e;exact h pins _ σ H xs _ Q J (by simpa using B) q
def xM(te:TE)(g:TG):TS:=λD σ H=>te σ H λx H1=>g x σ H1 D.nx
theorem BO{tg e:Expr}{te:TE}{g:TG}(J:PE X e te)(L:PG X tg g)(hs:swapsWithSole [tg] e pos.line 106=pure 94:=by rfl)(hw:swappedStores [tg] e 106=pure none:=by rfl)(h1:(assignEach [tg] 106).map (·.2)=[assign tg 106]:=by rfl):PS X (.Assign [tg] e pos) (xM te g):=by intro pins s σ H D I h;refine wpAny_Assign_stores (bR (J pins s σ H _ I h) λv U j=>?_) hs hw;obtain⟨x,H1,B,S,O⟩:=j;rw[h1];exact bR (L pins U σ H1 x v _ B S O) λ_ W q=>q
theorem Ug{i:Nat}{x:Str}{e:Expr}{te:TE}{pos':Pos}(J:X.N.Nodup)(hi:X.N[i]?=some x)(S:Loc X.env.scope x)(L:PE X e te)(hs:swapsWith e (some<|.Name x pos') pos.line 106=pure 94:=by rfl)(O:X.fn x=true\/X.env.scope.names.lookup x=some .local:=by first|exact .inl Z|exact .inr Z|assumption):PS X (.Assign [.Name x pos'] e pos) (xM te<|zz i):=by intro pins s σ H D I h;refine wpAny_Assign_Name (bR (L pins s σ H _ I h) λv Y j=>?_) hs;obtain⟨y,H1,q,W,U⟩:=j;exact BK q J hi S W (λs2 B=>⟨_,H1,B,U⟩) O
def IG(i j:Nat)(ta:TA):TS:=λD σ H=>ta σ H λq H1=>∃v w,q=[v,w]/\D.nx ((σ.set i<|some v).set j<|some w) H1
theorem Uh{i j:Nat}{x y:Str}{a b:Expr}{ta:TA}{px py pt:Pos}{Y k2 B}(hc:X.calm=true)(hN:X.N.Nodup)(hi:X.N[i]?=some x)(hj:X.N[j]?=some y)(S:i≠j)(hx:X.env.scope.names.lookup x=some .local)(hy:X.env.scope.names.lookup y=some .local)(ha:PA X [a,b] ta)(hw:swappedStores [.Tuple [.Name x px,.Name y py] Y pt] (.Tuple [a,b] k2 B) 106=pure (some [x,y]))(hs:swapsWithSole [.Tuple [.Name x px,.Name y py] Y pt] (.Tuple [a,b] k2 B) pos.line 106=pure 94:=by rfl):PS X (.Assign [.Tuple [.Name x px,.Name y py] Y pt] (.Tuple [a,b] k2 B) pos) (IG i j ta):=by intro pins s σ H D I h;rw[exec_Assign_arm];refine ah<|ku ?_;rw[hs];refine ah<|av ?_;rw[ao 82];refine ah<|Tuple_<|bR (ha _ pins s σ H _ I h) λus J U=>?_;obtain⟨vs,H1,I1,r1,q1⟩:=U;obtain⟨v,w,e1,q1⟩:=q1;subst e1;(obtain⟨L,O,rfl,rv,CV⟩:∃L O,us=[L,O]/\RelV v L/\RelV w O:=by cases r1 with|cons p q=>cases q with|cons p' q'=>cases q';exact⟨_,_,Z,p,p'⟩);refine cQ ?_ (by show 2<=89;walk);have I2:Inv X pins σ H1 {J with heap:=J.heap.push {cls:=.type 118,data:=.seq [L,O].toArray}}:=I1.kept (t':=J.toks) λb o e=>aX _ e;rw[hw];refine ah<|av ?_;show wpAny 83 X.A (do rule "assign.swapped-stores";let items←unpackItems (.ref J.heap.objs.size) 2 none;assignInOrder [λv=>bindName 106 y v,λv=>bindName 106 x v] items.reverse;pure Flow.next) _ _ _;refine ah<|dz<|ah<|unpackItems_tuple (items:=#[L,O]) (I.ok.hd hc) (IsTup.new J.heap _) λh' W=>?_;have I3:=I2.kept (h':=h') (t':=J.toks) λb o e=>W b o (aS<|aE e) e;show wpAny _ _ (assignInOrder [λv=>bindName 106 y v,λv=>bindName 106 x v] [O,L]>>=λ_=>pure Flow.next) _ _ _;refine ah<|assignInOrder_cons<|wpAny_bindName<|BK I3 hN hj (.inl hy) CV (λs2 I4=>?_)<|.inr hy;refine assignInOrder_cons<|wpAny_bindName<|BK I4 hN hi (.inl hx) rv (λs3 I5=>assignInOrder_nil<|av ?_)<|.inr hx;rw[List.set_comm _ _ (aG S)]at I5;exact⟨_,H1,I5,q1⟩
end
section
variable{X:Cx}{pos:Pos}
def Ui(c:TT)(tb:TS):TS:=λD σ H=>∃W:Nat->St->Hp->Prop,(∃m,W m σ H)/\∀m σ H,W m σ H->c σ H λb H1=>if b=true then∃N,(∀j H',N j H'->∃q,q<m/\W q j H')/\tb {D with nx:=N,ct:=N,bk:=D.nx} σ H1 else D.nx σ H1
theorem II(hp:PassesOwn 83 X.A 106 X.xe)(hc:PT X c tc)(hb:qo X body tb):PS X (.While c body [] pos) (Ui tc tb):=by intro pins s σ H D I h;obtain⟨W,⟨m0,w0⟩,J⟩:=h;refine wpAny_While<|codeAny_whileLoop (λn s'=>∃L H',Inv X pins L H' s'/\W n L H') ?_ m0 ⟨σ,H,I,w0⟩;rintro n s1⟨q,H1,I1,w1⟩;refine kq hp<|bR (hc pins s1 q H1 _ I1<|J n q H1 w1) λb s2 tD=>?_;obtain⟨H2,I2,O⟩:=tD;cases b with|true=>obtain⟨N,hN,O⟩:=O;rw[ak Z];refine kq hp<|bR (hb pins s2 q H2 _ I2 O) λf s3 S=>?_;(cases f with|next=>obtain⟨j,B,U,n3⟩:=S;obtain⟨m',Y,w3⟩:=hN j B n3;exact⟨m',Y,j,B,U,w3⟩|cont=>obtain⟨j,B,U,n3⟩:=S;obtain⟨m',Y,w3⟩:=hN j B n3;exact⟨m',Y,j,B,U,w3⟩|brk=>exact S|ret v=>exact S)|false=>rw[ao bC];exact nK ⟨q,H2,I2,O⟩
end
structure It where
  go:Nat->Hp->Prop
  vf:Nat->Hp->V->Hp->Prop
  stop:Nat->Hp->Prop
def gF(X:Cx)(pins:bA)(H:Hp)(b:ai):Prop:=H b=none/\b≠119/\b∉X.fs/\(b∈X.ex\/131<=b)/\(∀x c,X.env.cells.lookup x=some c->c≠b)/\∀p∈X.pn++pins,p.1≠b
theorem Inv.mP{σ:St}{b:ai}(I:55)(j:19<=b)(B:H' b=none):gF X pins H' b:=by refine⟨B,gR<|dm I.lt j,I.Iq j,.inr<|bF I.sz j,λx c e z=>?_,λp J z=>?_⟩;{obtain⟨v,q⟩:=I.cell x c e;exact absurd (dm q.lt (by rw[z];exact j))<|eW _};{exact absurd (dm (aE (I.pin p J).1) (by rw[z];exact j))<|eW _}
structure Turn (P:bD) (w:World) (K:aC) (tg:Expr) (J:It) (fp:List ai) (it:ai) (tn:Nat->Heap->Prop):Prop where
  mem:it∈fp
  obj:∀i h,tn i h->∀b∈fp,∃o,h.get? b=some o/\∀v,o.data≠.cell v
  keep:∀i h h',tn i h->(∀b∈fp,∀o,h.get? b=some o->h'.get? b=some o)->tn i h'
  item:∀(X:Cx),X.prog=P->X.w=w->X.K=K->X.calm=true->∀(i:Nat) (pins:bA) (s:aF) (σ:St) (H:Hp) (E:aP),Inv X pins σ H s->(∀b∈fp,gF X pins H b)->tn i s.heap->J.go i H->
    wpAny (model P w) X.A (pyNext (.ref it)) (fun r s1=>∃u,r=some u/\
      wpAny (model P w) X.A (letOwnedTupleGo tg (.ref it) u) (fun _ s2=>∃x H',Inv X pins σ H' s2/\RelV x u/\J.vf i H x H'/\tn (i+1) s2.heap/\∀b∈fp,H' b=none) E s1) E s
  done:∀(X:Cx),X.prog=P->X.w=w->X.K=K->X.calm=true->∀(i:Nat) (pins:bA) (s:aF) (σ:St) (H:Hp) (E:aP),Inv X pins σ H s->(∀b∈fp,gF X pins H b)->tn i s.heap->J.stop i H->
    wpAny (model P w) X.A (pyNext (.ref it)) (fun r s1=>r=none/\Inv X pins σ H s1) E s
  self:∀(A:Around) (i:Nat) (s:aF) (Q:aP) (E:aP),tn i s.heap->Q (.ref it) s->wpAny (model P w) A (pyIter (.ref it)) Q E s
abbrev TI:=St->Hp->(It->Hp->Prop)->Prop
def F0(X:Cx)(pins:bA)(σ:St)(tg:Expr)(R:It->Hp->Prop)(j:au)(B:aF):Prop:=∃q fp L J H',j=.ref q/\Inv X pins σ H' B/\Turn 126 X.w X.K tg J fp q L/\L 0 B.heap/\(∀b∈fp,gF X pins H' b)/\R J H'
def PI(X:Cx)(tg iter:Expr)(wi:TI):Prop:=∀pins s(σ:St)H R,55->wi σ H R->wpAny 83 X.A (eval iter 106) (λv j=>wpAny 83 X.A (pyIter v) (F0 X pins σ tg R) X.xe j) X.xe s
theorem BP(L:s.heap.get? it=85)(q:o.cls=.type n)(B:o.data=.fields vs)(J:[134,"zip","dict_itemiterator","dict_reverseitemiterator","odict_iterator","itertools.zip_longest","itertools.pairwise"].contains n=94)(j:Q () s):wpAny M A (letOwnedTupleGo tg (.ref it) u) Q E s:=by unfold letOwnedTupleGo;cases tg<;>first|exact av j|cases u<;>first|exact av j|refine ah<|wpAny_load L ?_;rw[q,B];show wpAny M A (if([134,"zip","dict_itemiterator","dict_reverseitemiterator","odict_iterator","itertools.zip_longest","itertools.pairwise"].contains n&&vs[0]?==some (rawInt _))=true then _ else _) Q E s;rw[ao (by intro h;rw[J,fR]at h;cases h)];exact av j
def BQ(K:aC)(a:ai):It:=⟨λi H=>∃xs x,aH K H a xs/\xs[i]?=some x,λi H x H'=>H'=H/\∀xs,aH K H a xs->xs[i]?=some x,λi H=>∃xs,aH K H a xs/\84<=i⟩
def IJ(K:aC)(a:ai):It:=⟨λi H=>∃xs x,aI K H a xs/\xs[i]?=some x,λi H x H'=>H'=H/\∀xs,aI K H a xs->xs[i]?=some x,λi H=>∃xs,aI K H a xs/\84<=i⟩
def Aq(lo:Int)(n:Nat):It:=⟨λi _=>i<n,λi H x H'=>H'=H/\x=.int (lo+i),λi _=>n<=i⟩
theorem Uj   {K:aC}   a it  : Turn P w K tg (BQ K a) [it] it (fun i h=>h.IsListIter it a i) where
  mem:=by simp
  obj:=fun i h st b j=>by
    have e:b=it:=by simpa using j
    subst e
    obtain⟨o,e,c,d⟩:=st
    exact⟨o,e,fun v z=>by rw[d] at z;cases z⟩
  keep:=fun i h h' st k=>st.at fun o e=>k it (by simp) o e
  item:=by
    intro X hP hw Y hc i pins s σ H E I B st hg
    subst hP hw Y
    obtain⟨xs,x,J,hx⟩:=hg
    obtain⟨its,rv,p,hz⟩:=I.list J
    obtain⟨u,hu,ru⟩:=rv.get hx
    obtain⟨L,O,f2,S,U,W⟩:=B it (by simp)
    refine nv st p.isList (x:=u) (by simpa using hu) fun h' q sb=>?_
    have I1:Inv X pins σ H { s with heap:=h' }:=I.turned (t':=s.toks) (fun b o j e=>(sb.2 b j).trans e) L O S U W
    obtain⟨o,e,c,d⟩:=id q
    exact⟨u,rfl,BP (s:={ s with heap:=h' }) e c d (by decide) ⟨x,H,I1,ru,⟨rfl,fun ys hy=>by rw[I.iz hy J];exact hx⟩,q,fun b j=>(B b j).1⟩⟩
  done:=by
    intro X hP hw Y hc i pins s σ H E I B st hg
    subst hP hw Y
    obtain⟨xs,J,hx⟩:=hg
    obtain⟨its,rv,p,hz⟩:=I.list J
    obtain⟨L,O,f2,S,U,W⟩:=B it (by simp)
    have hl:=rv.length
    exact rK (I.ok.hd hc) st p.isList (by simp;lia) fun h' eb=>⟨rfl,I.turned (t':=s.toks) (fun b o j e=>eb b o j e) L O S U W⟩
  self:=fun _ _ _ _ _ st h=>wpAny_pyIter_listiter st h
theorem Uk   {K:aC}   a it  : Turn P w K tg (IJ K a) [it] it (fun i h=>h.IsTupleIter it a i) where
  mem:=by simp
  obj:=fun i h st b j=>by
    have e:b=it:=by simpa using j
    subst e
    obtain⟨o,e,c,d⟩:=st
    exact⟨o,e,fun v z=>by rw[d] at z;cases z⟩
  keep:=fun i h h' st k=>st.at fun o e=>k it (by simp) o e
  item:=by
    intro X hP hw hK hc i pins s σ H E I J st hg
    subst hP hw hK
    obtain⟨xs,x,L,hx⟩:=hg
    obtain⟨q,rv,p,hz⟩:=I.tuple L
    obtain⟨u,hu,ru⟩:=rv.get hx
    obtain⟨O,S,f2,U,W,Y⟩:=J it (by simp)
    refine wpAny_pyNext_tuple_item st (show s.heap.IsTuple a q.toArray from p) (x:=u) (by simpa using hu) fun h' B sb=>?_
    have I1:Inv X pins σ H { s with heap:=h' }:=I.turned (t':=s.toks) (fun b o j e=>(sb.2 b j).trans e) O S U W Y
    obtain⟨o,e,c,d⟩:=id B
    exact⟨u,rfl,BP (s:={ s with heap:=h' }) e c d (by decide) ⟨x,H,I1,ru,⟨rfl,fun ys hy=>by rw[I.l5 hy L];exact hx⟩,B,fun b j=>(J b j).1⟩⟩
  done:=by
    intro X hP hw hK hc i pins s σ H E I J st hg
    subst hP hw hK
    obtain⟨xs,L,hx⟩:=hg
    obtain⟨q,rv,p,hz⟩:=I.tuple L
    obtain⟨O,S,f2,U,W,Y⟩:=J it (by simp)
    have hl:=rv.length
    exact wpAny_pyNext_tuple_end (I.ok.hd hc) st (show s.heap.IsTuple a q.toArray from p) (by simp;lia) fun h' eb=>⟨rfl,I.turned (t':=s.toks) (fun b o j e=>eb b o j e) O S U W Y⟩
  self:=fun _ _ _ _ _ st h=>wpAny_pyIter_tupleiter st h
theorem Ul   {K:aC}   it   lo   n  : Turn P w K tg (Aq lo n) [it] it (fun i h=>IsRangeIter h it (lo+(i:Nat) * 1) ((n:Int)-(i:Nat)) 1) where
  mem:=by simp
  obj:=fun i h st b j=>by
    have e:b=it:=by simpa using j
    subst e
    exact⟨_,st,fun v z=>by
      have z':Data.fields _=Data.cell v:=z
      cases z'⟩
  keep:=fun i h h' st k=>k it (by simp) _ st
  item:=by
    intro X hP hw Y hc i pins s σ H E I B st hg
    subst hP hw Y
    obtain⟨J,L,f2,O,S,U⟩:=B it (by simp)
    have W:=Walks.range (prog:=X.prog) (w:=X.w) (I.ok.hd hc) it lo 1 n
    refine W.item i s _ _ hg st fun v h' tk hv q kk=>?_
    obtain⟨t,rfl⟩:=hv
    have I1:Inv X pins σ H { s with heap:=h',toks:=tk }:=I.turned (fun b o j e=>kk b o (by simpa using j) e) J L O S U
    refine⟨_,rfl,BP (s:={ s with heap:=h',toks:=tk }) (n:="range_iterator") q rfl rfl (by decide) ⟨.int (lo+i),H,I1,⟨t,?_⟩,⟨rfl,rfl⟩,q,fun b j=>(B b j).1⟩⟩
    rw[Int.mul_one]
  done:=by
    intro X hP hw Y hc i pins s σ H E I B st hg
    subst hP hw Y
    obtain⟨J,L,f2,O,S,U⟩:=B it (by simp)
    exact wpAny_pyNext_range_end (I.ok.hd hc) st (by have:n<=i:=hg;lia) fun h' eb=>⟨rfl,I.turned (t':=s.toks) (fun b o j e=>eb b o j e) J L O S U⟩
  self:=fun _ _ _ _ _ st h=>wpAny_pyIter_rangeiter st h
section
variable{X:Cx}{tg:Expr}
def M8(K:aC)(tl:TE):TI:=λσ H R=>tl σ H λx H1=>∃a,x=98/\(∃xs,aH K H1 a xs)/\R (BQ K a) H1
def CW(K:aC)(tl:TE):TI:=λσ H R=>tl σ H λx H1=>∃a,x=98/\(∃xs,aI K H1 a xs)/\R (IJ K a) H1
theorem Um(O:PE X l tl):PI X tg l (M8 X.K tl):=by intro pins s σ H R I h;refine bR (O pins s σ H _ I h) λv B J=>?_;obtain⟨x,H1,j,Y,W⟩:=J;obtain⟨a,e,⟨xs,S⟩,q⟩:=W;k_go;cases Y;obtain⟨U,rv,p,hz⟩:=j.list S;refine lP p.isList ?_;refine⟨B.heap.objs.size,[B.heap.objs.size],_,_,H1,Z,j.kept (t':=B.toks) λb o e=>aX _ e,Uj a _,⟨_,aV _ Z,Z,Z⟩,λb L=>?_,q⟩;(have e:b=B.heap.objs.size:=by simpa using L);k_go;exact j.mP (aB _)<|j.bG.fresh<|aB _
theorem Uo(S:PE X l tl):PI X tg l (CW X.K tl):=by intro pins s σ H R I h;refine bR (S pins s σ H _ I h) λv j J=>?_;obtain⟨x,H1,B,Y,W⟩:=J;obtain⟨a,e,⟨xs,U⟩,q⟩:=W;k_go;cases Y;obtain⟨L,rv,p,hz⟩:=B.tuple U;refine wpAny_pyIter_tuple (show j.heap.IsTuple a L.toArray from p) ?_;refine⟨108,[108],_,_,H1,Z,B.kept (t':=j.toks) λb o e=>aX _ e,Uk a _,⟨_,aV _ Z,Z,Z⟩,λb O=>?_,q⟩;(have e:b=108:=by simpa using O);k_go;exact B.mP (aB _)<|B.bG.fresh<|aB _
theorem M9{σ:St}{lo hi:Int}(I:55)(h1:-(2^62)<=lo)(h2:lo<2^62)(L:-(2^62)<=hi)(O:hi<2^62)(q:R (Aq lo (hi-lo).toNat) H):wpAny 83 X.A (pyIter<|.ref 19) (F0 X pins σ tg R) E {s with heap:=s.heap.push {cls:=.type "range",data:=.fields #[.int lo t,.int hi u,.int 1 v]},toks:=tk}:=by refine wpAny_pyIter_range (IsRange.new ..) (small_one h1 h2 L O) ?_;have j:Inv X pins σ H {s with heap:=s.heap.push {cls:=.type "range",data:=.fields #[.int lo t,.int hi u,.int 1 v]},toks:=tk}:=I.kept λb o e=>aX _ e;refine⟨(s.heap.push {cls:=.type "range",data:=.fields #[.int lo t,.int hi u,.int 1 v]}).objs.size,[(s.heap.push {cls:=.type "range",data:=.fields #[.int lo t,.int hi u,.int 1 v]}).objs.size],_,_,H,Z,j.kept (t':=tk) λb o e=>aX _ e,Ul _ lo (hi-lo).toNat,?_,λb S=>?_,q⟩;{(have B:lo+((0:Nat):Int)*1=lo:=by simp);(have J:(((hi-lo).toNat:Nat):Int)-((0:Nat):Int)=Builtin.Range.rangeSize lo hi 1:=by rw[rangeSize_one];split<;>lia);show IsRangeIter _ _ (lo+((0:Nat):Int)*1) ((((hi-lo).toNat:Nat):Int)-((0:Nat):Int)) 1;rw[B,J];exact aV _ Z};{(have e:b=(s.heap.push {cls:=.type "range",data:=.fields #[.int lo t,.int hi u,.int 1 v]}).objs.size:=by simpa using S);k_go;exact j.mP (aB _)<|j.bG.fresh<|aB _}
def Uq(ta:TA):TI:=λσ H R=>ta σ H λq H1=>∃j,q=[.int j]/\-(2^62)<=j/\j<2^62/\R (Aq 0 j.toNat) H1
def Ur(ta:TA):TI:=λσ H R=>ta σ H λq H1=>∃i j,q=[.int i,.int j]/\(-(2^62)<=i/\i<2^62/\-(2^62)<=j/\j<2^62)/\R (Aq i (j-i).toNat) H1
theorem CY{a:Expr}{ta:TA}{p pos:Pos}(S:Gl X "range")(U:X.mg "range"=none)(O:PA X [a] ta)(hs:starEach [a] 106=[(false,eval a 106)]:=by rfl):PI X tg (.Call (.Name "range" p) [a] [] pos) (Uq ta):=by intro pins s σ H R I h;refine Call_<|yZ I S U boot_range<|ni (bR (O pos pins s σ H _ I h) λus s1 B=>?_) hs Z;obtain⟨vs,H1,L,Y,J⟩:=B;obtain⟨j,e,J,W,q⟩:=J;k_go;cases Y with|cons r rr=>cases rr;obtain⟨t,rfl⟩:=r;exact call_range_1<|M9 L 80 80 J W (by simpa using q)
theorem Us{a b:Expr}{ta:TA}{p pos:Pos}(W:Gl X "range")(Y:X.mg "range"=none)(U:PA X [a,b] ta)(hs:starEach [a,b] 106=[(false,eval a 106),(false,eval b 106)]:=by rfl)(B:starEach [b] 106=[(false,eval b 106)]:=by rfl):PI X tg (.Call (.Name "range" p) [a,b] [] pos) (Ur ta):=by intro pins s σ H R I h;refine Call_<|yZ I W Y boot_range<|ni (bR (U pos pins s σ H _ I h) λus s1 J=>?_) (by rw[hs,B]) (by rw[B];rfl);obtain⟨vs,H1,S,r1,L⟩:=J;obtain⟨i,j,e,⟨L,q2,q3,q4⟩,q⟩:=L;k_go;cases r1 with|cons r O=>cases O with|cons r' O=>cases O;obtain⟨t,rfl⟩:=r;obtain⟨t',rfl⟩:=r';exact call_range_2<|M9 S L q2 q3 q4 q
def IK(wi:TI)(g:TG)(tb:TS):TS:=λD σ H=>wi σ H λJ H1=>∃W:Nat->Nat->St->Hp->Prop,(∃m,W 0 m σ H1)/\∀i m σ H,W i m σ H->(J.stop i H/\D.nx σ H)\/(J.go i H/\∃N,(∀j H',N j H'->∃B,B<m/\W (i+1) B j H')/\∀x H',J.vf i H x H'->g x σ H' λq H2=>tb {D with nx:=N,ct:=N,bk:=D.nx} q H2)
def CZ(fp:List ai)(h:Heap):bA:=fp.filterMap λb=>(h.get? b).map λo=>(b,o)
theorem F4(j:b∈fp)(e:h.get? b=85):(b,o)∈CZ fp h:=List.mem_filterMap.mpr ⟨b,j,by rw[e];rfl⟩
theorem Ut(J:p∈CZ fp h):p.1∈fp/\h.get? p.1=some p.2:=by obtain⟨b,B,e⟩:=List.mem_filterMap.mp J;cases q:h.get? b with|none=>rw[q]at e;cases e|some o=>rw[q]at e;have j:(b,o)=p:=dR e;subst j;exact⟨B,q⟩
theorem Inv.pinned{σ:St}(I:55)(O:∀b∈fp,gF X pins H b)(S:∀b∈fp,∃o,104=85/\∀v,o.data≠.cell v):Inv X (pins++CZ fp 91) σ H s:=I.sY λp U=>(bJ.mp U).elim (λz=>I.pin p<|jW _ z) λz=>by obtain⟨q,e⟩:=Ut z;obtain⟨B,J,L,_⟩:=O p.1 q;obtain⟨o,j,d⟩:=S p.1 q;rw[e]at j;cases j;exact⟨e,B,J,L,d⟩
theorem Inv.kL{σ:St}(I:Inv X (pins++pl) σ H s):55:=I.sY λp j=>I.pin p (jW _<|ir _ j)
theorem iA{iter:Expr}{body:List Stmt}{wi:TI}{g:TG}{tb:TS}{pos:Pos}(hp:PassesOwn 83 X.A 106 X.xe)(hc:X.calm=true)(hi:PI X tg iter wi)(hg:PG X tg g)(O:qo X body tb)(hs:∀x,foldedSetIterable iter 106 x=pure x:=by intro _;rfl):PS X (.For tg iter body [] pos) (IK wi g tb):=by intro pins s σ H D I h;refine wpAny_For (bR (hi pins s σ H _ I h) λv s1 h1=>bR h1 λGa s2 h2=>?_) hs;obtain⟨it,fp,tn,J,H2,e,I2,T,Gb,f2,W,⟨m0,w0⟩,turn⟩:=h2;k_go;have S:∀{H':Hp},(∀b∈fp,H' b=none)->∀b∈fp,gF X pins H' b:=λhn b O=>⟨hn b O,(f2 b O).2⟩;refine codeAny_forLoop_any (λn s'=>∃i U H',Inv X pins U H' s'/\tn i s'.heap/\(∀b∈fp,H' b=none)/\W i n U H') ?_ m0 ⟨0,σ,H2,I2,Gb,λb O=>(f2 b O).1,w0⟩;rintro n s3⟨i,Y,H3,I3,Na,BR,w3⟩;rcases turn i n Y H3 w3 with⟨stop,qn⟩|⟨go,N,hN,step⟩;{refine kq hp<|bR (T.done X Z Z Z hc i pins s3 Y H3 X.xe I3 (S BR) Na stop) λr s4 q=>?_;obtain⟨hr,I4⟩:=q;subst hr;exact nK ⟨Y,H3,I4,qn⟩};{refine kq hp<|bR (T.item X Z Z Z hc i pins s3 Y H3 X.xe I3 (S BR) Na go) λr s4 q=>?_;obtain⟨u,hr,h4⟩:=q;subst hr;refine kq hp<|bR h4 λ_ s5 q=>?_;obtain⟨x,H5,I5,r5,y5,BS,Gd⟩:=q;have Uu:=I5.pinned (S Gd) (T.obj _ _ BS);refine kq hp<|bR (hg _ s5 Y H5 x u _ Uu r5<|step x H5 y5) λ_ s6 q=>?_;obtain⟨Uv,H6,I6,q6⟩:=q;refine kq hp<|bR (O _ s6 Uv H6 _ I6 q6) λf s7 q7=>?_;(have again:∀{j:St}{B:Hp},Inv X (pins++CZ fp s5.heap) j B s7->N j B->∃m,m<n/\∃i U H',Inv X pins U H' s7/\tn i s7.heap/\(∀b∈fp,H' b=none)/\W i m U H':=λ{j B}L n7=>by obtain⟨m',hm,w7⟩:=hN j B n7;refine⟨m',hm,i+1,j,B,L.kL,T.keep _ _ _ BS λb O o e=>(L.pin (b,o)<|jW _<|jW _<|F4 O e).1,λb O=>?_,w7⟩;obtain⟨o,e,d⟩:=T.obj _ _ BS b O;exact(L.pin (b,o)<|jW _<|jW _<|F4 O e).2.1);cases f with|next=>obtain⟨j,B,L,n7⟩:=q7;exact again L n7|cont=>obtain⟨j,B,L,n7⟩:=q7;exact again L n7|brk=>obtain⟨j,B,L,q7⟩:=q7;exact⟨j,B,L.kL,q7⟩|ret v=>obtain⟨x7,j,B,L,r7,q7⟩:=q7;exact⟨x7,j,B,L.kL,r7,q7⟩}
end
theorem mG{K:aC}{g:TG}{tb:TS}{D:Ends}(j:Nat->St->Hp->Prop)(S:j 0 σ H)(Y:∀i σ H,i<=84->j i σ H->aH K H a xs)(hs:∀i x σ H,xs[i]?=some x->j i σ H->g x σ H λJ H2=>tb {D with nx:=j (i+1),ct:=j (i+1),bk:=D.nx} J H2)(U:∀σ H,j 84 σ H->D.nx σ H):∃W:Nat->Nat->St->Hp->Prop,(∃m,W 0 m σ H)/\∀i m σ H,W i m σ H->((BQ K a).stop i H/\D.nx σ H)\/((BQ K a).go i H/\∃N,(∀B H',N B H'->∃O,O<m/\W (i+1) O B H')/\∀x H',(BQ K a).vf i H x H'->g x σ H' λJ H2=>tb {D with nx:=N,ct:=N,bk:=D.nx} J H2):=by existsλi m σ H=>m=84-i/\i<=84/\j i σ H,⟨84,81,fj _,S⟩;rintro i m σ H⟨rfl,hi,p⟩;have q:=Y i σ H hi p;by_cases L:i<84;{refine .inr ⟨⟨xs,xs[i],q,by simp[L]⟩,j<|i+1,λB H' p'=>⟨84-(i+1),80,Z,L,p'⟩,λx H' y=>?_⟩;obtain⟨e,y⟩:=y;k_go;exact hs i x σ _ (y xs q) p};{(have e:i=84:=by lia);k_go;exact .inl ⟨⟨xs,q,aB _⟩,U σ H p⟩}
theorem BU{lo:Int}{g:TG}{tb:TS}{D:Ends}(j:Nat->St->Hp->Prop)(O:j 0 σ H)(hs:∀i σ H,i<n->j i σ H->g (.int<|lo+i) σ H λJ H2=>tb {D with nx:=j (i+1),ct:=j (i+1),bk:=D.nx} J H2)(S:∀σ H,j n σ H->D.nx σ H):∃W:Nat->Nat->St->Hp->Prop,(∃m,W 0 m σ H)/\∀i m σ H,W i m σ H->((Aq lo n).stop i H/\D.nx σ H)\/((Aq lo n).go i H/\∃N,(∀B H',N B H'->∃L,L<m/\W (i+1) L B H')/\∀x H',(Aq lo n).vf i H x H'->g x σ H' λJ H2=>tb {D with nx:=N,ct:=N,bk:=D.nx} J H2):=by existsλi m σ H=>m=n-i/\i<=n/\j i σ H,⟨n,81,fj _,O⟩;rintro i m σ H⟨rfl,hi,p⟩;by_cases q:i<n;{refine .inr ⟨q,j<|i+1,λB H' U=>⟨n-(i+1),80,Z,q,U⟩,λx H' y=>?_⟩;obtain⟨e,y⟩:=y;subst e y;exact hs i σ _ q p};{(have e:i=n:=by lia);k_go;exact .inl ⟨aB _,S σ H p⟩}
abbrev R2:=V->V->Hp->VK->Prop
def i9(X:Cx)(f:au->au->Sem au)(r:R2):Prop:=∀pins s(σ:St)H x y v u Q,55->RelV x v->RelV y u->r x y H Q->wpAny 83 X.A (f v u) (EP X pins σ Q) X.xe s
def IL(X:Cx)(f:au->Sem au)(r:V->Hp->VK->Prop):Prop:=∀pins s(σ:St)H x v Q,55->RelV x v->r x H Q->wpAny 83 X.A (f v) (EP X pins σ Q) X.xe s
def jH(X:Cx)(f:au)(r:99->Hp->VK->Prop):Prop:=∀pins s(σ:St)H xs us Q,55->Vals xs us->r xs H Q->wpAny 83 X.A (call f us) (EP X pins σ Q) X.xe s
def C0(r:R2)(ta tb:TE):TE:=λσ H Q=>ta σ H λx H1=>tb σ H1 λy H2=>r x y H2 Q
def Uw(r:V->Hp->VK->Prop)(ta:TE):TE:=λσ H Q=>ta σ H λx H1=>r x H1 Q
def rI(C:Int->Int->Prop)(g:Int->Int->V):R2:=λx y H Q=>∃i j,x=.int i/\y=.int j/\C i j/\Q (g i j) H
inductive IM(g:Int->Int->V)(x y:V)(H:Hp)(Q:VK):Prop|mk i j(_:x=.int i)(_:y=.int j)(_:Q (g i j) H)
def Ar(g:Int->Int->V):R2:=λx y H Q=>IM g x y H Q
def rU(g:Int->V):V->Hp->VK->Prop:=λx H Q=>∃i,x=.int i/\Q (g i) H
section
variable{X:Cx}{a b c:Expr}{ta tb tc:TE}{pos:Pos}
theorem As(S:PE X a ta)(U:PE X b tb){σ:St}{R:V->V->Hp->Prop}(I:55)(h:ta σ H λx H1=>tb σ H1 λy H2=>R x y H2){f:au->au->Sem au}(W:∀v u J x y H2,Inv X pins σ H2 J->RelV x v->RelV y u->R x y H2->wpAny 83 X.A (f v u) Q X.xe J):wpAny 83 X.A (eval a 106) (λv q=>wpAny 83 X.A (eval b 106) (λu B=>wpAny 83 X.A (f v u) Q X.xe B) X.xe q) X.xe s:=by refine bR (S pins s σ H _ I h) λv s1 j=>?_;obtain⟨x,H1,L,r1,Y⟩:=j;refine bR (U pins s1 σ H1 _ L Y) λu J j=>?_;obtain⟨y,H2,O,r2,q2⟩:=j;exact W v u J x y H2 O r1 r2 q2
theorem fm(L:i9 X (binaryOp op) r)(B:PE X a ta)(J:PE X b tb):PE X (.BinOp a op b pos) (C0 r ta tb):=by intro pins s σ H Q I h;exact wpAny_BinOp<|As B J I h λv u U x y H2 j O S q=>L pins U σ H2 x y v u Q j O S q
theorem Au(B:IL X (unaryOp op) r)(q:PE X a ta):PE X (.UnaryOp op a pos) (Uw r ta):=by intro pins s σ H Q I h;exact UnaryOp_<|bR (q pins s σ H _ I h) λv O⟨x,H1,j,L,J⟩=>B pins O σ H1 x v Q j L J
theorem IP{g:Int->Int->Int}(rule:∀i j t u s Q E,C i j->Q (.int (g i j) 124) {s with toks:=124+1}->wpAny 83 X.A (f (.int i t)<|.int j u) Q E s):i9 X f (rI C λi j=>.int (g i j)):=by intro pins s σ H x y v u Q I J L h;obtain⟨i,j,rfl,rfl,B,q⟩:=h;obtain⟨t,rfl⟩:=J;obtain⟨O,rfl⟩:=L;exact rule i j t O s _ _ B ⟨.int<|g i j,H,I.tok _,⟨_,Z⟩,q⟩
theorem C2{g:Int->Int->Int}(rule:∀i j t u s Q E,Q (.int (g i j) 124) {s with toks:=124+1}->wpAny 83 X.A (f (.int i t)<|.int j u) Q E s):i9 X f (Ar λi j=>.int (g i j)):=by intro pins s σ H x y v u Q I B J h;obtain⟨i,j,rfl,rfl,q⟩:=h;obtain⟨t,rfl⟩:=B;obtain⟨L,rfl⟩:=J;exact rule i j t L s _ _ ⟨.int<|g i j,H,I.tok _,⟨_,Z⟩,q⟩
theorem Av{g:Int->Int->Bool}(rule:∀i j t u s Q E,Q (.bool<|g i j) s->wpAny 83 X.A (f (.int i t)<|.int j u) Q E s):i9 X f (Ar λi j=>.bl (g i j)):=by intro pins s σ H x y v u Q I B J h;obtain⟨i,j,rfl,rfl,q⟩:=h;obtain⟨t,rfl⟩:=B;obtain⟨L,rfl⟩:=J;exact rule i j t L s _ _ ⟨.bl<|g i j,H,I,Z,q⟩
def IQ(i j:Int):Prop:=0<=j/\j<=1000000/\i.natAbs<2^64
def Aw(i j:Int):Prop:=(-(2^64)<i/\i<2^64)\/(-(2^64)<j/\j<2^64)
theorem Aw.ok(h:Aw i j):IntMulOk i j:=by rcases h with⟨h1,h2⟩|⟨h1,h2⟩;{exact .of_left<|intBits_le_64 h1 h2};{exact .of_right<|intBits_le_64 h1 h2}
theorem qG:i9 X (binaryOp .Add) (Ar λi j=>.int (i+j)):=C2 λ_ _ _ _ _ _ _ q=>add_int q
theorem BV:i9 X (binaryOp .Sub) (Ar λi j=>.int (i-j)):=C2 λ_ _ _ _ _ _ _ q=>sub_int q
theorem Ge:i9 X (binaryOp .Mult) (rI Aw λi j=>.int (i*j)):=IP λ_ _ _ _ _ _ _ B q=>mul_int q B.ok
theorem xN:i9 X (binaryOp .Mod) (rI (λ_ j=>0<j) λi j=>.int (i%j)):=IP λi j _ _ _ _ _ B q=>by have h1:(0:Int)<j:=B;exact mod_int' 80 (by rw[Int.fmod_eq_emod_of_nonneg i 80];exact q)
theorem Nc:i9 X (binaryOp .Pow) (rI IQ λi j=>.int (i^j.toNat)):=IP λ_ _ _ _ _ _ _ B q=>pow_int_small B.1 B.2.1 B.2.2 q
theorem Ux{g:Int->Int}(rule:∀i t s Q E,Q (.int (g i) 124) {s with toks:=124+1}->wpAny 83 X.A (f<|.int i t) Q E s):IL X f (rU λi=>.int (g i)):=by intro pins s σ H x v Q I j h;obtain⟨i,rfl,q⟩:=h;obtain⟨t,rfl⟩:=j;exact rule i t s _ _ ⟨.int<|g i,H,I.tok _,⟨_,Z⟩,q⟩
theorem Ax:IL X (unaryOp .USub) (rU λi=>.int (-i)):=Ux λ_ _ _ _ _ q=>neg_int q
end
def C3:V->V->Bool|.cz,.cz=>true|.cz,.int _=>true|.int _,.cz=>true|.cz,.bl _=>true|.bl _,.cz=>true|.cz,.str _=>true|.str _,.cz=>true|.int _,.int _=>true|.bl _,.bl _=>true|.str _,.str _=>true|.tY _,.tY _=>true|.int _,.str _=>true|.str _,.int _=>true|.bl _,.str _=>true|.str _,.bl _=>true|_,_=>false
def Uy:R2:=λx y H Q=>C3 x y=true/\Q (.bl<|decide<|x=y) H
def Uz:R2:=λx y H Q=>C3 x y=true/\Q (.bl<|!decide (x=y)) H
theorem Nd:decide (V.int i=V.int j)=(i==j):=by rw[kr];simp
theorem Nf:decide (V.bl i=V.bl j)=(i==j):=by rw[kr];simp
theorem Ng:decide (V.str i=V.str j)=(i==j):=by rw[kr];simp
theorem Nh:decide (V.tY i=V.tY j)=(i.toList==j.toList):=by rw[kr];cases i;cases j;simp
section
variable{X:Cx}{a b c:Expr}{ta tb tc:TE}{pos:Pos}
theorem kC{σ:St}(I:55)(q:Q (.bl k) H)(e:k=j):EP X pins σ Q (.bool j) s:=by k_go;exact⟨.bl k,H,I,Z,q⟩
theorem kM:i9 X (compareOp .Eq) Uy:=by intro pins s σ H x y v u Q I L B h;obtain⟨hs,q⟩:=h;cases x with|cz=>cases L;(cases y with|cz=>cases B;exact PySem.EqNone.eq_none_none<|kC I q 81|bl j=>cases B;exact PySem.EqNone.eq_none_bool<|kC I q 81|int j=>obtain⟨J,rfl⟩:=B;exact PySem.EqNone.eq_none_int<|kC I q 81|str j=>obtain⟨J,rfl⟩:=B;exact PySem.EqNone.eq_none_str<|kC I q 81|_=>exact absurd (show 94=true from hs) bC)|bl i=>cases L;(cases y with|cz=>cases B;exact PySem.EqNone.eq_bool_none<|kC I q 81|bl j=>cases B;exact eq_bool<|kC I q Nf|str j=>obtain⟨J,rfl⟩:=B;exact PySem.EqMixed.eq_bool_str<|kC I q 81|_=>exact absurd (show 94=true from hs) bC)|int i=>obtain⟨t,rfl⟩:=L;(cases y with|cz=>cases B;exact PySem.EqNone.eq_int_none<|kC I q 81|int j=>obtain⟨J,rfl⟩:=B;exact eq_int<|kC I q Nd|str j=>obtain⟨J,rfl⟩:=B;exact PySem.EqMixed.eq_int_str<|kC I q 81|_=>exact absurd (show 94=true from hs) bC)|str i=>obtain⟨t,rfl⟩:=L;(cases y with|cz=>cases B;exact PySem.EqNone.eq_str_none<|kC I q 81|bl j=>cases B;exact PySem.EqMixed.eq_str_bool<|kC I q 81|int j=>obtain⟨J,rfl⟩:=B;exact PySem.EqMixed.eq_str_int<|kC I q 81|str j=>obtain⟨J,rfl⟩:=B;exact eq_str<|kC I q Ng|_=>exact absurd (show 94=true from hs) bC)|tY i=>obtain⟨t,rfl⟩:=L;(cases y with|tY j=>obtain⟨J,rfl⟩:=B;exact PySem.W.eq_bytes<|kC I q Nh|_=>exact absurd (show 94=true from hs) bC)|_=>cases y<;>exact absurd (show 94=true from hs) bC
theorem vg:i9 X (compareOp .NotEq) Uz:=by intro pins s σ H x y v u Q I L B h;obtain⟨hs,q⟩:=h;cases x with|cz=>cases L;(cases y with|cz=>cases B;exact PySem.EqNone.ne_none_none<|kC I q 81|bl j=>cases B;exact PySem.EqNone.ne_none_bool<|kC I q 81|int j=>obtain⟨J,rfl⟩:=B;exact PySem.EqNone.ne_none_int<|kC I q 81|str j=>obtain⟨J,rfl⟩:=B;exact PySem.EqNone.ne_none_str<|kC I q 81|_=>exact absurd (show 94=true from hs) bC)|bl i=>cases L;(cases y with|cz=>cases B;exact PySem.EqNone.ne_bool_none<|kC I q 81|bl j=>cases B;exact ne_bool<|kC I q<|bw not Nf|str j=>obtain⟨J,rfl⟩:=B;exact PySem.EqMixed.ne_bool_str<|kC I q 81|_=>exact absurd (show 94=true from hs) bC)|int i=>obtain⟨t,rfl⟩:=L;(cases y with|cz=>cases B;exact PySem.EqNone.ne_int_none<|kC I q 81|int j=>obtain⟨J,rfl⟩:=B;exact ne_int<|kC I q<|bw not Nd|str j=>obtain⟨J,rfl⟩:=B;exact PySem.EqMixed.ne_int_str<|kC I q 81|_=>exact absurd (show 94=true from hs) bC)|str i=>obtain⟨t,rfl⟩:=L;(cases y with|cz=>cases B;exact PySem.EqNone.ne_str_none<|kC I q 81|bl j=>cases B;exact PySem.EqMixed.ne_str_bool<|kC I q 81|int j=>obtain⟨J,rfl⟩:=B;exact PySem.EqMixed.ne_str_int<|kC I q 81|str j=>obtain⟨J,rfl⟩:=B;exact ne_str<|kC I q<|bw not Ng|_=>exact absurd (show 94=true from hs) bC)|tY i=>obtain⟨t,rfl⟩:=L;(cases y with|tY j=>obtain⟨J,rfl⟩:=B;exact PySem.W.ne_bytes<|kC I q<|bw not Nh|_=>exact absurd (show 94=true from hs) bC)|_=>cases y<;>exact absurd (show 94=true from hs) bC
theorem w9:i9 X (compareOp .Lt) (Ar λi j=>.bl (decide<|i<j)):=Av λ_ _ _ _ _ _ _ q=>lt_int q
theorem zB:i9 X (compareOp .LtE) (Ar λi j=>.bl (decide<|i<=j)):=Av λ_ _ _ _ _ _ _ q=>le_int q
theorem xO:i9 X (compareOp .Gt) (Ar λi j=>.bl (decide<|j<i)):=Av λ_ _ _ _ _ _ _ q=>gt_int q
theorem UA:i9 X (compareOp .In) (λx y H Q=>∃i j,x=.str i/\y=.str j/\Q (.bl<|!(Builtin.Str.occurrences j i 0 j.length 1).isEmpty) H):=by intro pins s σ H x y v u Q I B J h;obtain⟨i,j,rfl,rfl,q⟩:=h;obtain⟨t,rfl⟩:=B;obtain⟨L,rfl⟩:=J;exact in_str<|kC I q Z
theorem c6(b:Expr){op:CmpOp}(h:op≠.In:=by walk)(h2:op≠.NotIn:=by walk):behindInMarks op b=94:=by(have j:(op==CmpOp.In)=94:=by cases op<;>first|rfl|exact absurd Z h);(have q:(op==CmpOp.NotIn)=94:=by cases op<;>first|rfl|exact absurd Z h2);cases b<;>simp[behindInMarks,j,q]
theorem xg(O:i9 X (compareOp op) r)(B:PE X a ta)(J:PE X b tb)(L:behindInMarks op b=94):PE X (.Compare a [op] [b] pos) (C0 r ta tb):=by intro pins s σ H Q I h;exact wpAny_Compare1 (As B J I h λv u W x y H2 j S U q=>O pins W σ H2 x y v u Q j S U q) L
def Ni(t:TE):TT:=λσ H Q=>t σ H λx H'=>∃k,x=.bl k/\Q k H'
theorem zy(U:i9 X (compareOp op) r)(L:PE X a ta)(O:PE X b tb)(S:behindInMarks op b=94):PT X (.Compare a [op] [b] pos) (Ni<|C0 r ta tb):=by intro pins s σ H Q I h;refine wpAny_isTrue_Compare1 (bR (L pins s σ H _ I h) λv s1⟨x,H1,q,r1,W⟩=>bR (O pins s1 σ H1 _ q W) λu s2⟨y,H2,B,r2,Y⟩=>bR (U pins s2 σ H2 x y v u _ B r1 r2 Y) λc s3⟨z,j,J,r3,k,e,q3⟩=>?_) S;k_go;cases r3;exact jh ⟨j,J,q3⟩
def Nj(r B:R2)(ta tb tc:TE):TE:=λσ H Q=>ta σ H λx H1=>tb σ H1 λy H2=>r x y H2 λz j=>∃k,z=.bl k/\(if k=true then tc σ j λJ q=>B y J q Q else Q (.bl 94) j)
theorem UB{op j:CmpOp}{r O:R2}(ho:i9 X (compareOp op) r)(q:i9 X (compareOp j) O)(ha:PE X a ta)(hb:PE X b tb)(hc:PE X c tc)(hm:lastMarks [op,j] [b,c]=94:=by k_in):PE X (.Compare a [op,j] [b,c] pos) (Nj r O ta tb tc):=by intro pins s σ H Q I h;refine Compare_chain (bR (ha pins s σ H _ I h) λv s1⟨x,H1,W,r1,q1⟩=>chain_link (bR (hb pins s1 σ H1 _ W q1) λu s2⟨y,H2,Y,S,q2⟩=>bR (ho pins s2 σ H2 x y v u _ Y r1 S q2) λd s3⟨z,B,J,r3,k,e,L⟩=>?_)) hm;k_go;cases r3;refine jh ?_;cases k with|false=>exact ite_ff ⟨.bl 94,B,J,Z,L⟩|true=>exact ite_tt<|chain_last<|bR (hc pins s3 σ B _ J L) λw' s4⟨z',U,I4,r4,q4⟩=>q pins s4 σ U y z' u w' Q I4 S r4 q4
theorem IT{op j:CmpOp}{r S:R2}(ho:i9 X (compareOp op) r)(q:i9 X (compareOp j) S)(ha:PE X a ta)(hb:PE X b tb)(hc:PE X c tc)(hm:lastMarks [op,j] [b,c]=94:=by k_in):PT X (.Compare a [op,j] [b,c] pos) (Ni<|Nj r S ta tb tc):=by intro pins s σ H Q I h;refine isTrue_chain (bR (ha pins s σ H _ I h) λv s1⟨x,H1,I1,r1,q1⟩=>test_link (bR (hb pins s1 σ H1 _ I1 q1) λu s2⟨y,H2,I2,U,q2⟩=>bR (ho pins s2 σ H2 x y v u _ I2 r1 U q2) λd s3⟨z,J,L,r3,k,e,O⟩=>?_)) hm;k_go;cases r3;refine jh ?_;cases k with|false=>obtain⟨k',e',q'⟩:=O;cases e';exact ite_ff ⟨J,L,q'⟩|true=>refine ite_tt<|test_last<|bR (hc pins s3 σ J _ L O) λw' s4⟨z',W,I4,r4,q4⟩=>bR (q pins s4 σ W y z' u w' _ I4 U r4 q4) λd' s5 B=>?_;obtain⟨z2,Y,I5,r5,k2,e2,q5⟩:=B;subst e2;cases r5;exact jh ⟨Y,I5,q5⟩
theorem C4:(89:Nat)<2^63:=by rw[gB];walk
theorem xP:i9 X (binaryOp .Add) (λx y H Q=>∃i j,x=.str i/\y=.str j/\i.length+j.length<=89/\Q (.str<|i++j) H):=by intro pins s σ H x y v u Q I J L h;obtain⟨i,j,rfl,rfl,B,q⟩:=h;obtain⟨t,rfl⟩:=J;obtain⟨O,rfl⟩:=L;exact add_str (λO tk=>⟨.str<|i++j,H,I.tok _,⟨_,Z⟩,q⟩) B
theorem kO(r:Vals [x] us):∃u,us=[u]/\RelV x u:=by cases r with|cons j q=>cases q;exact⟨_,Z,j⟩
theorem Ay(r:Vals [x,y] us):∃u j,us=[u,j]/\RelV x u/\RelV y j:=by cases r with|cons q B=>cases B with|cons J L=>cases L;exact⟨_,_,Z,q,J⟩
theorem Nk(J:X.calm=true):jH X (.builtin "max") (λxs H Q=>∃i j,xs=[.int i,.int j]/\Q (.int<|if j>i then j else i) H):=by intro pins s σ H xs us Q I r h;obtain⟨i,j,rfl,q⟩:=h;obtain⟨u,O,rfl,⟨t,rfl⟩,⟨L,rfl⟩⟩:=Ay r;refine max_two_ints (I.ok.hd J) λh' tk k=>⟨_,H,I.kept k,?_,q⟩;by_cases B:j>i;{rw[ak B,ak B];exact⟨_,Z⟩};{rw[ao B,ao B];exact⟨_,Z⟩}
theorem UC(J:X.calm=true):jH X (.builtin "min") (λxs H Q=>∃i j,xs=[.int i,.int j]/\Q (.int<|if j<i then j else i) H):=by intro pins s σ H xs us Q I r h;obtain⟨i,j,rfl,q⟩:=h;obtain⟨u,O,rfl,⟨t,rfl⟩,⟨L,rfl⟩⟩:=Ay r;refine min_two_ints (I.ok.hd J) λh' tk k=>⟨_,H,I.kept k,?_,q⟩;by_cases B:j<i;{rw[ak B,ak B];exact⟨_,Z⟩};{rw[ao B,ao B];exact⟨_,Z⟩}
theorem Gf:jH X (.type "str") (λxs H Q=>∃i,xs=[.int i]/\i.natAbs.log2<1920/\Q (.str<|toString i) H):=by intro pins s σ H xs us Q I r h;obtain⟨i,rfl,j,q⟩:=h;obtain⟨u,rfl,t,rfl⟩:=kO r;exact PySem.P.str_of_int j ⟨.str _,H,I.tok _,⟨_,Z⟩,q⟩
end
structure rN (h:Heap) (x dx C:ai) (mA:Str->Option au):Prop where
  obj:h.get? x=some (PySem.W.instObj C dx)
  ns:h.Ns1 dx mA
  ne:dx≠x
theorem Nl{h:Heap}(n:h.Ns1 dx mA):∃od,h.get? dx=some od/\∀name,PySem.W.lookIn name od=some (mA name):=by obtain⟨o,es,W,S,J,L,_,O⟩:=n;refine⟨o,S,λname=>?_⟩;have e:=O name;unfold nsFind findBy at e;rw[←Array.find?_toList]at e;unfold PySem.W.lookIn;rw[J];fin2;split;{rename_i y q;rw[q]at e;exact bw some e};{rename_i q;rw[q]at e;(have a:es.toList.any (·.refKey)=94:=by rw[List.any_eq_false];intro y U;obtain⟨z,t,j⟩:=L y (Array.mem_toList_iff.mp U);simp[DictEntry.refKey,j]);(have B:¬es.toList.any (·.refKey)=true:=by rw[a];exact bC);rw[ao B];exact bw some e}
theorem rN.look    (I:rN h x dx C mA):∃od,PySem.W.InstAt h x (PySem.W.instObj C dx) C (some od)/\∀name,PySem.W.lookIn name od=some (mA name):=
  let ⟨od,q,j⟩:=Nl I.ns
  ⟨od,⟨I.obj,rfl,rfl,q⟩,j⟩
section
variable{prog:bD}{w:World}{A:Around}{E:aP}{s:aF}{K:aC}{x dx C f:ai}{mA:Str->Option au}{name:Str}{v:au}
theorem UD(X:K.In 91)(I:rN 91 x dx C mA)(B:PySem.W.plainGet K C name=true)(L:PySem.W.hasDictIn K C=true)(q:PySem.W.findIn K (.ref C) name=some none)(S:mA name=some v)(j:PySem.W.handedIn v=true)(h:Q v {s with toks:=124+1}):wpAny 28 A (getAttr (.ref x) name expr) Q E s:=by obtain⟨od,J,O⟩:=I.look;exact PySem.W.get_value X J (PySem.W.plainGet_of B).1 (PySem.W.findObj_own L q Z (by rw[O,S])) j h
theorem UE(X:K.In 91)(I:rN 91 x dx C mA)(j:PySem.W.plainGet K C name=true)(q:PySem.W.findIn K (.ref C) name=some (some<|.ref f))(L:PySem.W.isFn K (.ref f)=true)(O:mA name=none)(h:Q (.ref f,[.ref x]) s):wpAny 28 A (getMethod (.ref x) name pl) Q E s:=by obtain⟨od,J,B⟩:=I.look;exact PySem.W.method_fn X J (PySem.W.plainGet_of j).1 (PySem.W.plainGet_of j).2 q (gU.mp L) (by show(PySem.W.lookIn name od).map (·.isSome)=some 94;rw[B,O];rfl) h
theorem UG(X:K.In 91)(I:rN 91 x dx C mA)(hs:PySem.W.findIn K (.ref C) "__setattr__"=some (some<|.builtin "object.__setattr__"))(hp:PySem.W.plainOver K C=true)(ht:PySem.W.takerIn K C name=some none)(hh:PySem.W.hasDictIn K C=true)(hw:PySem.Within mA ns)(hsz:ns.length<=89)(h:∀h',rN h' x dx C (λy=>if y=name then some v else mA y)->Heap.SameBut dx 91 h'->Q () {s with heap:=h',toks:=124+2}):wpAny 28 A (setAttr (.ref x) name v) Q E s:=by obtain⟨od,J,hl⟩:=I.look;refine PySem.W.set_plain X J hs<|PySem.W.osa_open (s:={s with toks:=124+1}) (r:=none) X J hp ht λb=>?_;obtain⟨cd,Y,L⟩:=PySem.W.any_some hh;have hx:s.heap.get? x=some ⟨.ref C,some dx,.plain,#[]⟩:=I.obj;refine ah<|av<|ah<|ah<|wpAny_loadPart hx<|ah<|PySem.W.Looks.here (s:={s with toks:=124+1}) (PySem.W.looks_clsIn X Y) ?_;rw[L];refine av (a:=some dx)<|ah<|av<|ah ?_;refine wpAny_nsSet1 (s:={s with toks:=124+1}) I.ns λh' j q=>?_;obtain⟨oD,W,U,S,O,B⟩:=j.count (PySem.Within.cons name v hw);refine ah<|wpAny_lookBehind S (by rw[O];exact pastItsLine_dict<|bF B (by rw[cR];lia)) ?_;exact av<|h _ ⟨(q.2 _<|aG I.ne).trans I.obj,j,I.ne⟩ q
theorem UH(X:K.In 91)(J:PySem.W.makesIn K C=true)(hi:PySem.W.findIn K (.ref C) "__init__"=some (some<|.ref f))(B:PySem.W.typeIn K (.ref f)=some (.type "function"))(h:codeAny 28 (A.under<|.builtin "type.__call__" ⟨.ref C::vs,q⟩) (.call (.ref f) ⟨.ref (19+1)::vs,q⟩) (PySem.W.InitBack (19+1) R) {s with heap:=(s.heap.push PySem.W.emptyDict).push (PySem.W.instObj C 19)}):codeAny 28 A (.call (.ref C) ⟨vs,q⟩) R s:=by obtain⟨L,g,d,t,os⟩:=s;exact PySem.W.make_core (PySem.W.makes_of X J) (PySem.W.looks_findIn X hi) (λj=>PySem.W.bind_fn X j B) (.inl Z) h
end
def cM(f:Str)(v:V):List (Str×V)->List (Str×V)|[]=>[(f,v)]|(g,x)::r=>if g=f then(g,v)::r else(g,x)::cM f v r
theorem Nm f g v:∀fs,(cM f v fs).lookup g=if g=f then some v else fs.lookup g|[]=>by show List.lookup g [(f,v)]=_;by_cases h:g=f;{have j:(g==f)=true:=gU.mpr h;simp only[List.lookup,j,ak h]};{have j:(g==f)=94:=gI.mpr h;simp only[List.lookup,j,ao h]}|(k,x)::r=>by have B:=Nm f g v r;rw[show cM f v ((k,x)::r)=(if k=f then(k,v)::r else(k,x)::cM f v r)from rfl];by_cases q:k=f;{rw[ak q];by_cases h:g=k;{have j:(g==k)=true:=gU.mpr h;simp only[List.lookup,j,ak (h.trans q)]};{have j:(g==k)=94:=gI.mpr h;simp only[List.lookup,j,ao (λe:g=f=>h<|e.trans q.symm)]}};{rw[ao q];by_cases h:g=k;{have j:(g==k)=true:=gU.mpr h;simp only[List.lookup,j,ao (λe:g=f=>q<|h.symm.trans e)]};{have j:(g==k)=94:=gI.mpr h;simp only[List.lookup,j];exact B}}
theorem IU f v:∀fs,f∈(cM f v fs).map (·.1)/\∀g,g∈fs.map (·.1)->g∈(cM f v fs).map (·.1)|[]=>⟨by simp[cM],λg h=>by simp at h⟩|(k,x)::r=>by obtain⟨i1,i2⟩:=IU f v r;rw[show cM f v ((k,x)::r)=(if k=f then(k,v)::r else(k,x)::cM f v r)from rfl];by_cases j:k=f;{rw[ak j];subst j;exact⟨81,λg h=>by simpa using h⟩};{rw[ao j];refine⟨?_,λg h=>?_⟩;{rw[b7];exact aZ _ i1};{rw[b7]at h⊢;rcases aM.mp h with e|e;{exact aM.mpr<|.inl e};{exact aZ _<|i2 g e}}}
theorem C5 f v:∀fs,(cM f v fs).length<=130+1|[]=>by simp[cM]|(k,x)::r=>by have q:=C5 f v r;rw[show cM f v ((k,x)::r)=(if k=f then(k,v)::r else(k,x)::cM f v r)from rfl];by_cases j:k=f;{rw[ak j,cR,cR];lia};{rw[ao j,cR,cR];lia}
theorem gE.some_of(r:gE (some v) o):∃u,o=some u/\RelV v u:=by cases o with|none=>exact(show False from r).elim|some u=>exact⟨u,Z,r⟩
theorem gE.none_of(r:gE none o):o=none:=by cases o with|none=>rfl|some u=>exact(show False from r).elim
theorem Nn(r:RelV v u):PySem.W.handedIn u=true:=by cases v with|cz=>cases(show u=112 from r);rfl|bl b=>cases(show u=Value.bool b from r);rfl|int i=>obtain⟨t,e⟩:=(show∃t,u=Value.int i t from r);cases e;rfl|str x=>obtain⟨t,e⟩:=(show∃t,u=Value.str x t from r);cases e;rfl|tY b=>obtain⟨t,e⟩:=(show∃t,u=Value.bytes b t from r);cases e;rfl|yX b=>obtain⟨t,e⟩:=(show∃t,u=Value.float b t from r);cases e;rfl|ref a=>cases(show u=Value.ref a from r);rfl|ty n=>cases(show u=Value.type n from r);rfl
section
variable{P:bD}{w:World}{H H':Hp}{h h':Heap}{a C dx:ai}{fs xF:List (Str×V)}
theorem Gg(j:j4 P w H h)(e:H a=some (.ins C dx fs)):∃mA,rN h a dx C mA/\(∀f,gE (fs.lookup f) (mA f))/\PySem.Within mA (fs.map (·.1))/\130<=1000/\H dx=some (.own a):=by obtain⟨d,z,B,J,mA,n,r,q⟩:=(show bQ P w H h a (.ins C dx fs)from j a _ e);exact⟨mA,⟨J,n,B⟩,r,q,z,d⟩
end
structure tE (K:aC) (C:ai):Prop where
  pg:PySem.W.plainGet K C Str.empty=true
  hd:PySem.W.hasDictIn K C=true
  po:PySem.W.plainOver K C=true
  sa:PySem.W.findIn K (.ref C) "__setattr__" = some (some (.builtin "object.__setattr__"))
theorem tE.get{K:aC}(c:tE K C)f:PySem.W.plainGet K C f=true:=c.pg
def cA(K:aC)(C:ai)(f:Str):Prop:=PySem.W.findIn K (.ref C) f=some none
theorem cA.zC{K:aC}(n:cA K C f):PySem.W.takerIn K C f=some none:=by unfold PySem.W.takerIn;rw[show PySem.W.findIn K (.ref C) f=some none from n];rfl
structure Meth (K:aC) (C:ai) (m:Str) (f:ai):Prop where
  at_:PySem.W.findIn K (.ref C) m=some (some (.ref f))
  fn:PySem.W.isFn K (.ref f)=true
  kp:PySem.W.keepIn K (.ref f)=true
section
variable{X:Cx}{pins:bA}{σ:St}{H:Hp}{s:aF}{a C dx:ai}{fs:List (Str×V)}{f:Str}{v:V}{A:Around}{E:aP}
theorem UI(I:55)(e:H a=some (.ins C dx fs))(c:tE X.K C)(n:cA X.K C f)(l:fs.lookup f=some v)(h:∀u s',Inv X pins σ H s'->RelV v u->Q u s'):wpAny 83 A (getAttr 98 f b) Q E s:=by obtain⟨mA,O,r,_,_,_⟩:=Gg I.bG e;obtain⟨u,q,j⟩:=gE.some_of (v:=v) (o:=mA f) (by rw[←l];exact r f);exact UD I.iM O (c.get f) c.hd n q (Nn j)<|h u _ (I.tok _) j
theorem IV(I:55)(e:H a=some (.ins C dx fs))(c:tE X.K C)(k:Meth X.K C m g)(l:fs.lookup m=none)(h:Q (.ref g,[98]) s):wpAny 83 A (getMethod 98 m pl) Q E s:=by obtain⟨mA,O,r,_,_,_⟩:=Gg I.bG e;have j:mA m=none:=gE.none_of (by rw[←l];exact r m);exact UE I.iM O (c.get m) k.at_ k.fn j h
theorem UJ(I:55)(e:H a=some (.ins C dx fs))(c:tE X.K C)(n:cA X.K C f)(hl:130<1000)(Y:RelV y u)(h:∀s',Inv X pins σ (upd H a<|.ins C dx<|cM f y fs) s'->Q () s'):wpAny 83 A (setAttr 98 f u) Q E s:=by obtain⟨mA,O,r,wi,_,B⟩:=Gg I.bG e;(have W:(fs.map (·.1)).length<=89:=by rw[ay,gB];lia);refine UG I.iM O c.sa c.po n.zC c.hd wi W λh' j sb=>h _ ?_;have S:∃o,h'.get? dx=85:=let⟨o,_,_,J,_⟩:=j.ns;⟨o,J⟩;refine I.write (x:=a) (e:=dx) (by rw[e];exact True.intro) (.inr B) (λb q L z=>(sb.2 b L).trans z) S ?_;refine⟨by rw[zi O.ne];exact B,?_,O.ne,j.obj,_,j.ns,λg=>?_,λg U=>?_⟩;{have:=C5 f y fs;lia};{show gE ((cM f y fs).lookup g) (if g=f then some u else mA g);rw[Nm];by_cases q:g=f;{rw[ak q,ak q];exact Y};{rw[ao q,ao q];exact r g}};{by_cases q:g=f;{rw[q];exact(IU f y fs).1};{refine(IU f y fs).2 g<|wi g λz=>U ?_;show(if g=f then some u else mA g)=none;rw[ao q];exact z}}
theorem Inv.made(I:55):Inv X pins σ (upd (upd H 19<|.own<|19+1) (19+1)<|.ins C 19 []) {s with heap:=(s.heap.push PySem.W.emptyDict).push (PySem.W.instObj C 19)}:=by have j:(s.heap.push PySem.W.emptyDict).get? 19=some PySem.W.emptyDict:=aV 91 Z;(have L:((s.heap.push PySem.W.emptyDict).push<|PySem.W.instObj C 19).get? (19+1)=some (PySem.W.instObj C 19):=by have:=aV (s.heap.push PySem.W.emptyDict) (o:=PySem.W.instObj C 19) Z;rwa[fh]at this);have O:(s.heap.push PySem.W.emptyDict).Ns 19 (λ_=>none):=⟨PySem.W.emptyDict,#[],_,j,Z,(λe S=>absurd S 81),λ_=>Z⟩;have J:=I.laid (a:=19) (o:=.own (19+1)) (h':=s.heap.push PySem.W.emptyDict) (t':=124) (λb u q=>aX _ q) (aB _) ⟨_,j⟩;refine J.laid (a:=19+1) (o:=.ins C 19 []) (t':=124) (λb u q=>aX _ q) (Nat.le_of_eq<|fh _ _) ?_;have B:19≠19+1:=aS (iJ _);refine⟨by rw[zi B,zb],fj _,B,L,λ_=>none,(Heap.Ns1.of_empty O).at λo q=>aX _ q,λ_=>True.intro,λy U=>absurd Z U⟩
theorem Np(q:attributeBase e f env (eval e env)=eval e env)(h:wpAny 28 A (eval e env) (λo j=>wpAny 28 A (getAttr o f true) Q E j) E s):wpAny 28 A (eval (.Attribute e f pos) env) Q E s:=Attribute_any_ h (by rw[arm_eval_Attribute,q])
end
def IW(K:aC)(ta:TE)(f:Str):TE:=λσ H Q=>ta σ H λx H1=>∃a C dx fs v,x=98/\H1 a=some (.ins C dx fs)/\tE K C/\cA K C f/\fs.lookup f=some v/\Q v H1
def IX(K:aC)(ta tv:TE)(f:Str):TS:=λD σ H=>tv σ H λy H1=>ta σ H1 λx H2=>∃a C dx fs,x=98/\H2 a=some (.ins C dx fs)/\tE K C/\cA K C f/\130<1000/\D.nx σ (upd H2 a<|.ins C dx<|cM f y fs)
section
variable{X:Cx}{o e value:Expr}{f:Str}{pos pos' p7:Pos}{ta tv:TE}
theorem ue(S:PE X e ta)(O:attributeBase e f 106 (eval e 106)=eval e 106):PE X (.Attribute e f pos) (IW X.K ta f):=by intro pins s σ H Q I h;refine Np O<|bR (S pins s σ H _ I h) λu Y j=>?_;obtain⟨x,H1,B,W,a,C,dx,fs,v,ex,L,c,n,l,q⟩:=j;subst ex;obtain rfl:u=Value.ref a:=W;exact UI B L c n l λu' s2 J U=>⟨v,H1,J,U,q⟩
theorem C6(S:PE X o ta)(U:PE X value tv)(hs:swapsWith value (some<|.Attribute o f pos') pos.line 106=pure 94):PS X (.Assign [.Attribute o f pos'] value pos) (IX X.K ta tv f):=by intro pins s σ H D I h;refine plainObj_wpAny_Assign_Attribute (bR (U pins s σ H _ I h) λu s1⟨y,H1,B,ry,q⟩=>bR (S pins s1 σ H1 _ B q) λW s2 j=>?_) hs;obtain⟨x,H2,J,rx,a,C,dx,fs,ex,O,c,n,l,Y⟩:=j;subst ex;obtain rfl:W=Value.ref a:=rx;exact UJ J O c n l ry λs3 L=>⟨σ,_,L,Y⟩
theorem z1c {pl:Sem Bool}{m:Str}{apos:Pos}{args:List Expr}{pins:bA}{s:aF}{σ:St}{H:Hp}{Q:aP}{te:TE}(S:PE X e te) (I:Inv X pins σ H s)
    (h:te σ H fun x H1=>∃a C dx fs g,x = .ref a/\H1 a=some (.ins C dx fs)/\tE X.K C/\Meth X.K C m g/\fs.lookup m=none/\
      ∀j,Inv X pins σ H1 j->wpAny (model X.prog X.w) X.A (callWith pos (.ref g) [.ref a] (backTo pos (starEach args X.env)) (backToKw pos (keywordEach [] X.env))) Q X.xe j)
    (U:eval (.Call (.Attribute e m apos) args [] pos) X.env=(do
      let L ←eval e X.env
      standAt apos.atName
      let (f,first) ←holding [L] (getMethod L m pl)
      callWith pos f first (backTo pos (starEach args X.env)) (backToKw pos (keywordEach [] X.env)))) :
    wpAny (model X.prog X.w) X.A (eval (.Call (.Attribute e m apos) args [] pos) X.env) Q X.xe s:=by
  refine PySem.W.methodCall_KW (pl:=pl) (bR (S pins s σ H _ I h) fun u j B=>?_) U
  obtain⟨x,H1,J,W,a,C,dx,fs,g,ex,O,c,k,l,q⟩:=B
  subst ex
  obtain rfl:u=Value.ref a:=W
  exact IV J O c k l (q j J)
end
section
variable{X:Cx}{pins:bA}{σ:St}{H:Hp}{s:aF}{A:Around}{E:aP}{Q:aP}{c:au}{b:Bool}
inductive kP(K:aC)(H:Hp):V->au->Prop where|cz:kP K H .cz (.type "NoneType")|bl(x:Bool):kP K H (.bl x) (.type "bool")|int(i:Int):kP K H (.int i) (.type "int")|str(x:Str):kP K H (.str x) (.type "str")|yX(x:UInt64):kP K H (.yX x) (.type "float")|lst{a:ai}{xs:99}(e:H a=some (.lst xs)):kP K H 98 (.type 115)|fL{a:ai}{o:Obj}{xs:99}(e:H a=some (.fL o<|.lst xs)):kP K H 98 (.type 115)|tup{a:ai}{xs:99}(e:H a=some (.tup xs)):kP K H 98 (.type 118)|dK{a:ai}{kvs:List (Key×V)}(e:H a=some (.dK kvs)):kP K H 98 (.type "dict")|dT{a:ai}{kvs:List (List Key×V)}(e:H a=some (.dT kvs)):kP K H 98 (.type "dict")|ins{a C dx:ai}{fs:List (Str×V)}(e:H a=some (.ins C dx fs))(cl:tE K C)(ha:PySem.W.findIn K (.ref C) "__class__"=some (some<|.builtin "object.__class__"))(hn:PySem.W.specialIn K (.builtin "object.__class__") "__get__"=some (some<|.builtin "getset_descriptor.__get__"))(htk:PySem.W.takesIn K (.builtin "object.__class__")=some true)(hm:PySem.W.mroIn K C (.type "object")=some true):kP K H 98 (.ref C)
theorem UK(I:55)(B:RelV x u)(ty:kP X.K H x t)(e:PySem.W.kitOne X.K t c=some b)(h:∀tk,Q (.bool b) {s with toks:=tk}):wpAny 83 A (call (.builtin "isinstance") [u,c]) Q E s:=by cases ty with|cz=>cases(show u=112 from B);exact PySem.W.kia_one PySem.W.kitx_none I.iM True.intro e (λz=>nomatch z) h|bl y=>cases(show u=Value.bool y from B);exact PySem.W.kia_one PySem.W.kitx_bool I.iM True.intro e (λz=>nomatch z) h|int i=>obtain⟨t,q⟩:=(show∃t,u=Value.int i t from B);cases q;exact PySem.W.kia_one PySem.W.kitx_int I.iM True.intro e (λz=>nomatch z) h|str y=>obtain⟨t,q⟩:=(show∃t,u=Value.str y t from B);cases q;exact PySem.W.kia_one PySem.W.kitx_str I.iM True.intro e (λz=>nomatch z) h|yX y=>obtain⟨t,q⟩:=(show∃t,u=Value.float y t from B);cases q;exact PySem.W.kia_one PySem.W.kitx_float I.iM True.intro e (λz=>nomatch z) h|@lst a xs j=>cases(show u=Value.ref a from B);obtain⟨_,_,n,_,h1⟩:=(show bQ 126 X.w H 91 a (.lst xs)from I.bG a _ j);exact PySem.W.kia_one PySem.W.kitx_list I.iM ⟨_,h1,Z⟩ e (λz=>nomatch z) h|@fL a ob xs j=>cases(show u=Value.ref a from B);obtain⟨_,_,_,n,_,h1⟩:=(show bQ 126 X.w H 91 a (.fL ob<|.lst xs)from I.bG a _ j);exact PySem.W.kia_one PySem.W.kitx_list I.iM ⟨_,h1,Z⟩ e (λz=>nomatch z) h|@tup a xs j=>cases(show u=Value.ref a from B);obtain⟨_,_,_,p⟩:=(show bQ 126 X.w H 91 a (.tup xs)from I.bG a _ j);obtain⟨o,h1,h2,_⟩:=p;exact PySem.W.kia_one PySem.W.kitx_tuple I.iM ⟨o,h1,h2⟩ e (λz=>nomatch z) h|@dK a kvs j=>cases(show u=Value.ref a from B);obtain⟨_,_,vs,_,p⟩:=(show bQ 126 X.w H 91 a (.dK kvs)from I.bG a _ j);obtain⟨o,es,U,h1,h2,_⟩:=p;exact PySem.W.kia_one PySem.W.kitx_dict I.iM ⟨o,h1,h2.1⟩ e (λz=>nomatch z) h|@dT a kvs j=>cases(show u=Value.ref a from B);obtain⟨_,_,xs,_,o,es,U,h1,h2,_⟩:=(show bQ 126 X.w H 91 a (.dT kvs)from I.bG a _ j);exact PySem.W.kia_one PySem.W.kitx_dict I.iM ⟨o,h1,h2.1⟩ e (λz=>nomatch z) h|@ins a C dx fs j S W hn L Y=>cases(show u=Value.ref a from B);obtain⟨mA,O,_⟩:=Gg I.bG j;obtain⟨od,J,_⟩:=O.look;exact PySem.W.kia_one (PySem.W.kitx_own (S.get _) S.hd W hn L Y) I.iM J e (λz=>nomatch z) h
end
structure cI (k:Nat) (A:Around):Prop where
  hd:A.handled=none
  dp:A.depth+3 * k+5<recursionLimit
  un:A.units+16 * k+200<cLine
theorem cI.mono(r:cI k A)(h:j<=k):cI j A:=⟨r.hd,by have:=r.dp;lia,by have:=r.un;lia⟩
theorem cI.deeper(r:cI (k+1) A)(env:Env):cI k (A.deeper env):=⟨r.hd,by have:=r.dp;show A.depth+1+3*k+5<_;lia,by have:=r.un;show A.units+3+16*k+200<_;lia⟩
theorem UL{A:Around}:(A.under<|.builtin "type.__call__" ⟨.ref C::us,j⟩).depth=A.depth+1:=by first|rfl|simp[Around.under,Code.weight,Code.isCreation,Code.isGuard,Code.isCaller,Code.frames,Code.isFrame,guardIds]
theorem UM{A:Around}:(A.under<|.builtin "type.__call__" ⟨.ref C::us,j⟩).units=A.units+1:=by first|rfl|simp[Around.under,Code.cUnits,Code.frames,Code.isFrame]
theorem cI.make(r:cI (k+1) A)C us j:cI k (A.under<|.builtin "type.__call__" ⟨.ref C::us,j⟩):=⟨r.hd,by have:=r.dp;rw[UL];lia,by have:=r.un;rw[UM];lia⟩
theorem cI.depth(r:cI k A):A.depth<recursionLimit:=by have:=r.dp;lia
theorem cI.units(r:cI k A):A.units+64<cLine:=by have:=r.un;lia
def rO:TA:=λ_ H Q=>Q [] H
def IY(ta:TE)(j:TA):TA:=λσ H Q=>ta σ H λx H1=>j σ H1 λxs H2=>Q (x::xs) H2
section
variable{X:Cx}{e:Expr}{es:List Expr}{te:TE}{t:TA}{pos:Pos}
theorem zd:PA X [] rO:=λ_ _ _ _ H Q I h=>Calls.spliced_nil ⟨[],H,I,.nil,h⟩
theorem za(J:PE X e te)(L:PA X es t)(hs:starEach (e::es) 106=(false,eval e 106)::103:=by rfl):PA X (e::es) (IY te t):=by intro pos pins s σ H Q I h;rw[hs];show wpAny _ _ (spliced<|(false,eval e 106)::backTo pos 103) _ _ s;refine nF<|bR (J pins s σ H _ I h) λu Y j=>?_;obtain⟨x,H1,q,U,O⟩:=j;exact bR (L pos pins Y σ H1 _ q O) λus s2⟨xs,H2,B,W,S⟩=>⟨x::xs,H2,B,.cons U W,S⟩
def IZ(t:TA):TE:=λσ H Q=>t σ H λxs H1=>84<=89/\∀p,H1 p=none->Q 101 (upd H1 p<|.tup xs)
def I0(t:TA):TE:=λσ H Q=>t σ H λxs H1=>84<=89/\∀p,H1 p=none->Q 101 (upd H1 p<|.lst xs)
theorem jI(h:PA X es t):PE X (.Tuple es O pos) (IZ t):=by intro pins s σ H Q I L;refine wpAny_Tuple_spliced<|bR (h pos pins s σ H _ I L) λus j⟨xs,H1,B,r,z,q⟩=>⟨by rw[←r.length];exact z,?_⟩;have J:H1 108=none:=B.bG.fresh (aB _);refine⟨.ref 108,upd H1 108<|.tup xs,B.laid (t':=j.toks) (λb u e=>aX _ e) (aB _) ?_,Z,q _ J⟩;exact⟨z,us,r,⟨_,aV _ Z,Z,_,Z⟩⟩
theorem gG(h:PA X es t):PE X (.List es pos) (I0 t):=by intro pins s σ H Q I L;refine wpAny_List_spliced<|bR (h pos pins s σ H _ I L) λus j⟨xs,H1,B,r,z,q⟩=>⟨by rw[←r.length];exact z,?_⟩;have J:H1 108=none:=B.bG.fresh (aB _);refine⟨.ref 108,upd H1 108<|.lst xs,B.laid (t':=j.toks) (λb u e=>aX _ e) (aB _) ?_,Z,q _ J⟩;exact⟨z,us,0,r,aV _ Z⟩
end
abbrev Sp:=99->Hp->VK->XK->Prop
abbrev vK:=List Env->Hp->aF->XK->aP
structure rP (P:bD) (w:World) (K:aC) (mg:Str->Option au) (base:Heap) (A:Around) (outer:List Env) (s:aF) (H:Hp):Prop where
  frames:A.frames=some outer
  mod:Mod K mg base
  bs:∀b o,base.get? b=some o->s.heap.get? b=some o/\H b=none
  vc:base.objs.size<=s.heap.objs.size
  kK:s.heap.FunFrames base outer
  xH:∀b∈jP outer,H b=none
  bG:j4 P w H s.heap
  bare:AllBare s.gens
def CE(outer:List Env)(P:bD)(w:World)(H:Hp)(s:aF)(Q:VK)(u:au)(s':aF):Prop:=∃v H',s'.os=s.os/\AllBare s'.gens/\Un (jP outer) [] H H' 91 s'.heap/\j4 P w H' s'.heap/\RelV v u/\Q v H'
def CR(CX:vK)(outer:List Env)(P:bD)(w:World)(H:Hp)(s:aF)(Q:VK)(E:XK)(r:Result)(s':aF):Prop:=match r with|.ok (.ret u)=>CE outer P w H s Q u s'|.ok _=>False|.error e=>CX outer H s E e s'
structure kD (P:bD) (w:World) (K:aC) (mg:Str->Option au) (base:Heap) (CX:vK) (k:Nat) (f:ai) (fd:FuncData) (ps:List Str) (sp:Sp):Prop where
  len:∀vs H Q E,sp vs H Q E->vs.length=ps.length
  run:∀(A:Around) (outer:List Env) (s:aF) (H:Hp) (args:Args) (us:List au) (vs:List V) (Q:VK) (E:XK),cI k A->rP P w K mg base A outer s H->BindsTo s fd args (ps.zip us)->Vals vs us->sp vs H Q E->
    codeAny (model P w) A (.call (.ref f) args) (CR CX outer P w H s Q E) s
theorem rP.make{K:aC}(e:rP P w K mg base A outer s H)C us j:rP P w K mg base (A.under<|.builtin "type.__call__" ⟨.ref C::us,j⟩) outer s H:=⟨by first|exact e.frames|simpa[Around.under,Code.envs,Code.isFrame,pushEnvs]using e.frames,e.mod,e.bs,e.vc,e.kK,e.xH,e.bG,e.bare⟩
section
variable{X:Cx}{pins:bA}{σ:St}{H:Hp}{s s':aF}
theorem Inv.xQ(I:55):rP 126 X.w X.K X.mg X.base X.A X.stack s H:=⟨I.ok.frames,I.ok.mod,I.bs,bF I.ok.vc I.sz,I.stack,I.mV,I.bG,I.bare⟩
theorem Inv.after(I:55)(h:CE X.stack 126 X.w H s Q u s'):EP X pins σ Q u s':=by obtain⟨v,H',os,j,O,B,r,q⟩:=h;obtain⟨L,g,d,t,J⟩:=s';obtain rfl:J=s.os:=os;exact⟨v,H',I.call (h':=L) (g':=g) (d':=d) (t':=t) (ch:=[]) O B j λb z=>absurd z 81,r,q⟩
end
def Gh(sp:Sp)(kT:99)(E:XK)(t:TA):TE:=λσ H Q=>t σ H λj H1=>sp (j++kT) H1 Q E
def Gi(C:ai)(m:Str)(sp:Sp)(kT:99)(E:XK)(ta:TE)(t:TA):TE:=λσ H Q=>ta σ H λx H1=>∃a dx fs,x=98/\H1 a=some (.ins C dx fs)/\fs.lookup m=none/\t σ H1 λj H2=>sp (x::(j++kT)) H2 Q E
def Nq(C:ai)(sp:Sp)(kT:99)(E:XK)(t:TA):TE:=λσ H Q=>t σ H λj H1=>∀x dx,H1 x=none->H1 dx=none->dx≠x->sp (.ref x::(j++kT)) (upd (upd H1 dx<|.own x) x<|.ins C dx []) (λv H2=>v=.cz/\Q (.ref x) H2) E
def Binds(K:aC)(fd:FuncData)(ps:88)(ds:List au):Prop:=∀s us,K.In 91->(us++ds).length=127->BindsTo s fd ⟨us,[]⟩ (ps.zip<|us++ds)
theorem Binds.all{K:aC}(h:∀us,109=127->bindArgs fd ⟨us,[]⟩=pure (ps.zip us)):Binds K fd ps []:=λs us _ j=>by rw[e9]at j⊢;exact .of_eq<|h us j
def xR(CX:vK)(X:Cx)(E:XK):Prop:=∀pins(σ:St)H s e s',55->CX X.stack H s E e s'->X.xe e s'
section
variable{X:Cx}{CX:vK}{k:Nat}{f C:ai}{fd:FuncData}{ps:88}{sp:Sp}{kT:99}{ds:List au}{E:XK}{x m:Str}{p pos apos:Pos}{e o:Expr}{es:List Expr}{ta:TE}{t:TA}
theorem Ja{σ:St}(F:kD 126 X.w X.K X.mg X.base CX k f fd ps sp)(S:cI k X.A)(J:Binds X.K fd ps ds)(L:Vals kT ds)(U:xR CX X E)(I:55)(r:Vals vs us)(h:sp (vs++kT) H Q E):wpAny 83 X.A (call (.ref f) us) (EP X pins σ Q) X.xe s:=by have q:Vals (vs++kT) (us++ds):=r.append L;(have O:(us++ds).length=127:=by rw[←q.length];exact F.len _ _ _ _ h);refine f6<|fH (F.run X.A X.stack s H ⟨us,[]⟩ (us++ds) (vs++kT) Q E S I.xQ (J s us I.iM O) q h) λr s' j=>?_;cases r with|error e=>exact U pins σ H s e s' I j|ok B=>cases B with|ret u=>exact I.after j|next=>exact False.elim j|brk=>exact False.elim j|cont=>exact False.elim j
theorem Nr(F:kD 126 X.w X.K X.mg X.base CX k f fd ps sp)(hr:cI k X.A)(W:Gl X x)(hm:X.mg x=some (.ref f))(Y:PySem.W.keepIn X.K (.ref f)=true)(O:Binds X.K fd ps ds)(S:Vals kT ds)(hx:xR CX X E)(L:PA X (e::es) t)(j:(x==("__debug__":Str))=94:=by walk)(U:starEach (e::es) 106=(false,eval e 106)::103:=by rfl)(B:(backTo pos 103).any (·.1)=94:=by rfl):PE X (.Call (.Name x p) (e::es) [] pos) (Gh sp kT E t):=by intro pins s σ H Q I h;refine lJ<|xJ I W hm ?_ j;refine PySem.W.callWith_K (h₀:=X.base) I.ok.mod.xG Y (bR (L pos pins s σ H _ I h) λus s1⟨vs,H1,J,r,q⟩=>⟨J.iM,?_⟩) U B;exact Ja F hr O S hx J r q
theorem UN {pl:Sem Bool}(he:PE X o ta) (c:tE X.K C) (S:Meth X.K C m f) (F:kD X.prog X.w X.K X.mg X.base CX k f fd ps sp) (hr:cI k X.A) (hb:Binds X.K fd ps ds) (hd:Vals kT ds) (hx:xR CX X E) (Y:PA X (e::es) t)
    (J:starEach (e::es) X.env=(false,eval e X.env)::starEach es X.env:=by rfl) (j:(backTo pos (starEach es X.env)).any (·.1)=false:=by rfl)
    (ht:eval (.Call (.Attribute o m apos) (e::es) [] pos) X.env=(do
      let U ←eval o X.env
      standAt apos.atName
      let (f,first) ←holding [U] (getMethod U m pl)
      callWith pos f first (backTo pos (starEach (e::es) X.env)) (backToKw pos (keywordEach [] X.env))):=by rfl) :
    PE X (.Call (.Attribute o m apos) (e::es) [] pos) (Gi C m sp kT E ta t):=by
  intro pins s σ H Q I h
  refine PySem.W.methodCall_KW (pl:=pl) (bR (he pins s σ H _ I h) fun u s1 B=>?_) ht
  obtain⟨x,H1,L,rx,a,dx,fs,ex,W,l,q⟩:=B
  subst ex
  obtain rfl:u=Value.ref a:=rx
  refine IV L W c S l ?_
  refine PySem.W.callWith_K (first:=[.ref a]) (h₀:=X.base) I.ok.mod.xG S.kp (bR (Y pos pins s1 σ H1 _ L q) fun us s2 ⟨vs,H2,O,r,q2⟩=>⟨O.iM,?_⟩) J j
  exact Ja (us:=.ref a::us) (vs:=.ref a::vs) F hr hb hd hx O (.cons rfl r) q2
theorem UO {pl:Sem Bool}(W:PE X o ta) (c:tE X.K C) (J:Meth X.K C m f) (F:kD X.prog X.w X.K X.mg X.base CX k f fd ps sp) (Y:cI k X.A) (S:Binds X.K fd ps ds) (U:Vals kT ds) (hx:xR CX X E)
    (ht:eval (.Call (.Attribute o m apos) [] [] pos) X.env=(do
      let L ←eval o X.env
      standAt apos.atName
      let (f,first) ←holding [L] (getMethod L m pl)
      callWith pos f first (backTo pos (starEach [] X.env)) (backToKw pos (keywordEach [] X.env))):=by rfl) :
    PE X (.Call (.Attribute o m apos) [] [] pos) (Gi C m sp kT E ta rO):=by
  intro pins s σ H Q I h
  refine PySem.W.methodCall_KW (pl:=pl) (bR (W pins s σ H _ I h) fun u s1 B=>?_) ht
  obtain⟨x,H1,j,rx,a,dx,fs,ex,O,l,q⟩:=B
  subst ex
  obtain rfl:u=Value.ref a:=rx
  refine IV j O c J l ?_
  exact PySem.W.callWith_K0 (first:=[.ref a]) j.iM J.kp (Ja (us:=[.ref a]) (vs:=[.ref a]) F Y S U hx j (.cons rfl .nil) q)
structure Mk (K:aC) (C f:ai):Prop where
  makes:PySem.W.makesIn K C=true
  init:PySem.W.findIn K (.ref C) "__init__" = some (some (.ref f))
  fn:PySem.W.isFn K (.ref f)=true
  kp:PySem.W.keepIn K (.ref C)=true
theorem UP{σ:St}(M:Mk X.K C f)(F:kD 126 X.w X.K X.mg X.base CX k f fd ps sp)(hr:cI (k+1) X.A)(U:Binds X.K fd ps ds)(W:Vals kT ds)(hx:xR CX X E)(I:55)(r:Vals vs us)(h:∀x dx,H x=none->H dx=none->dx≠x->sp (.ref x::(vs++kT)) (upd (upd H dx<|.own x) x<|.ins C dx []) (λv H2=>v=.cz/\Q (.ref x) H2) E):wpAny 83 X.A (call (.ref C) us) (EP X pins σ Q) X.xe s:=by have B:=h (19+1) 19 (I.bG.fresh<|fk _) (I.bG.fresh<|aB _) (aS<|iJ _);have q:=Inv.made (C:=C) I;have J:Vals (V.ref (19+1)::(vs++kT)) (Value.ref (19+1)::(us++ds)):=.cons Z (r.append W);(have Y:(Value.ref (19+1)::us++ds).length=127:=by have e:=J.length;rw[F.len _ _ _ _ B]at e;exact e.symm);refine f6<|UH (f:=f) I.iM M.makes M.init (gU.mp M.fn)<|fH (F.run _ X.stack _ _ ⟨Value.ref (19+1)::us,[]⟩ (Value.ref (19+1)::(us++ds)) _ _ E (hr.make C us []) (q.xQ.make C us []) (U _ (Value.ref (19+1)::us) q.iM Y) J B) λr s' j=>?_;cases r with|error e=>exact hx pins σ _ _ e s' q j|ok S=>cases S with|ret u=>obtain⟨v,H',L,rv,O,q3⟩:=q.after j;subst O;exact⟨rv,⟨V.ref<|19+1,H',L,Z,q3⟩⟩|next=>exact False.elim j|brk=>exact False.elim j|cont=>exact False.elim j
theorem UQ(M:Mk X.K C f)(F:kD 126 X.w X.K X.mg X.base CX k f fd ps sp)(O:cI (k+1) X.A)(J:Gl X x)(L:X.mg x=some (.ref C))(q:Binds X.K fd ps ds)(B:Vals kT ds)(S:xR CX X E)(j:(x==("__debug__":Str))=94:=by walk):PE X (.Call (.Name x p) [] [] pos) (Nq C sp kT E rO):=by intro pins s σ H Q I h;refine lJ<|xJ I J L ?_ j;exact PySem.W.callWith_K0 I.iM M.kp<|UP (us:=[]) M F O q B S I .nil h
end
def PK(X:Cx)(C7:List Keyword)(t:TA):Prop:=∀pos pins s(σ:St)H Q,55->t σ H Q->wpAny 83 X.A (evalAll ((backToKw pos<|keywordEach C7 106).map (·.2))) (AP X pins σ Q) X.xe s
section
variable{X:Cx}{CX:vK}{k:Nat}{f C:ai}{fd:FuncData}{ps ks:88}{sp:Sp}{E:XK}{x m:Str}{p pos apos kpos:Pos}{e o:Expr}{es:List Expr}{C7:List Keyword}{te ta:TE}{t tk:TA}{nm:Option Str}
theorem UR:PK X [] rO:=λ_ _ _ _ H Q I h=>wpAny_evalAll_nil ⟨[],H,I,.nil,h⟩
theorem US(B:PE X e te)(J:PK X C7 t):PK X (⟨nm,e,kpos⟩::C7) (IY te t):=by intro pos pins s σ H Q I h;show wpAny _ _ (evalAll ((do let v←eval e 106;standAt pos;pure v)::(backToKw pos<|keywordEach C7 106).map (·.2))) _ _ s;refine wpAny_evalAll_cons<|ah<|bR (B pins s σ H _ I h) λu W⟨x,H1,j,S,L⟩=>ah (ku<|av ?_);exact bR (J pos pins W σ H1 _ j L) λus Y⟨xs,H2,q,U,O⟩=>⟨x::xs,H2,q,.cons S U,O⟩
variable{g:List au->List au->List au}{gV:99->99->99}
end
structure aA (N P:List Str) (sc:Scope):Prop where
  kind:sc.kind = .function
  co:sc.isCoroutine=false
  gen:sc.isGenerator=false
  nd:N.Nodup
  pre:N.take P.length=P
  par:∀x∈P,sc.names.lookup x=some .local\/sc.names.lookup x=some .cell
  Az:∀y∈sc.names,y.2≠.free
theorem Nt{kindOf:Str->Option NameKind}:∀{j}{m},(∀v,(x,v)∉j)->bindL kindOf j m x=m x|[],_,_=>rfl|(n,v)::r,m,h=>by unfold bindL;rw[Nt λw q=>h w (aZ _ q)];split;{(have:x≠n:=by rintro rfl;exact h v c8);simp[this]};{rfl}
theorem Nu{kindOf:Str->Option NameKind}:∀{j}{m},(∀v,(x,v)∉j)->bindC kindOf j m x=m x|[],_,_=>rfl|(n,v)::r,m,h=>by unfold bindC;rw[Nu λw q=>h w (aZ _ q)];split;{rfl};{(have:x≠n:=by rintro rfl;exact h v c8);simp[this]}
theorem Nv{kindOf:Str->Option NameKind}{x:Str}{v:au}:∀{P:88}{vs:List au}{i:Nat}{m:Str->Option au},P.Nodup->P[i]?=some x->vs[i]?=some v->kindOf x=some .local->bindL kindOf (P.zip vs) m x=some v|[],_,_,_,_,h,_,_=>by simp at h|_::_,[],_,_,_,_,h,_=>by simp at h|p::P,w::vs,0,m,q,h1,h2,j=>by simp at h1 h2;subst h1;subst h2;show bindL kindOf ((p,w)::P.zip vs) m p=_;unfold bindL;rw[Nt λv B=>(jj.mp q).1 (gP B).1,ak j];simp|p::P,w::vs,i+1,m,q,h1,h2,j=>by show bindL kindOf ((p,w)::P.zip vs) m x=_;unfold bindL;exact Nv (i:=i) (jj.mp q).2 (by simpa using h1) (by simpa using h2) j
theorem Nx{kindOf:Str->Option NameKind}{x:Str}{v:au}:∀{P:88}{vs:List au}{i:Nat}{m:Str->Option au},P.Nodup->P[i]?=some x->vs[i]?=some v->kindOf x≠some .local->bindC kindOf (P.zip vs) m x=some v|[],_,_,_,_,h,_,_=>by simp at h|_::_,[],_,_,_,_,h,_=>by simp at h|p::P,w::vs,0,m,q,h1,h2,j=>by simp at h1 h2;subst h1;subst h2;show bindC kindOf ((p,w)::P.zip vs) m p=_;unfold bindC;rw[Nu λv B=>(jj.mp q).1 (gP B).1,ao j];simp|p::P,w::vs,i+1,m,q,h1,h2,j=>by show bindC kindOf ((p,w)::P.zip vs) m x=_;unfold bindC;exact Nx (i:=i) (jj.mp q).2 (by simpa using h1) (by simpa using h2) j
def start(N:88)(vs:99):St:=vs.map some++List.replicate (N.length-vs.length) none
def oE (CX:vK) (P:bD) (w:World) (K:aC) (mg:Str->Option au) (base:Heap) (N:List Str) (j:Str) (scope:Scope) (f:ai) (B:au) (A:Around) (outer:List Env) (s:aF) (H:Hp) (E:XK):Cx where
  prog:=P
  w:=w
  K:=K
  mg:=mg
  base:=base
  A:=A.deeper (envOfC j scope s.heap.objs.size f B)
  N:=N
  dB:=s
  qC:=H
  env:=envOfC j scope s.heap.objs.size f B
  outer:=outer
  stack:=envOfC j scope s.heap.objs.size f B::outer
  ex:=[]
  calm:=true
  fn:=fun _=>true
  pn:=[]
  xe:=fun e s'=>wpAny (model P w) (A.deeper (envOfC j scope s.heap.objs.size f B)) (leaving (envOfC j scope s.heap.objs.size f B) e) (fun _ q=>CX outer H s E e q) (fun J q=>CX outer H s E J q) s'
theorem Ny{sc:Scope}(h:sc.names.lookup x=some .cell):∃c,(cellsFrom n sc.names []).lookup x=some c:=by have q:=PySem.W.cellsFrom_some sc.names n [] (.inl h);exact Option.isSome_iff_exists.mp q
theorem UT{K:aC}(S:aA N ps scope)(hd:125=none)(B:rP P w K mg base A outer s H)(hl:vs.length=127)(r:Vals vs us)(x:InCallC s 19 (bindL (envOfC j scope 19 f W).kindOf (ps.zip us) λ_=>none) (cellsFrom (19+1) scope.names []) (bindC (envOfC j scope 19 f W).kindOf (ps.zip us) λ_=>none) s1):Inv (oE CX P w K mg base N j scope f W A outer s H E) [] (start N vs) H s1:=by(have mX:127<=N.length:=by have:=bw List.length S.pre;rw[bP]at this;lia);obtain⟨h1,tk,rfl,Y⟩:=x.done;have L:∀b:ai,b∉(oE CX P w K mg base N j scope f W A outer s H E).ex:=λb z=>absurd (show b∈([]:List ai)from z) 81;exists⟨B.mod,S.kind,Z,Z,aB _,λy z c h1 h2=>?_,λy J=>?_,λy c _ h=>?_,λ_=>hd,Around.frames_deeper B.frames,.inr ⟨Z,Z⟩,λb z=>absurd z<|L b,B.bs,B.vc,λb _ _=>L b,λb z=>absurd z<|L b,B.kK,B.xH⟩,Z,B.bare,Un.kept Y,⟨_,x.toInCall.ns,λi y v h1 h2 h3=>?_⟩,λy c h=>⟨_,x.cell y c h⟩,B.bG.fresh<|aB _,λy c h=>?_,λp O=>absurd (show p∈([]:bA)from O) 81,B.bG.kept Y;{exact name_of_addr x.apart (PySem.mem_of_lookup h1)<|PySem.mem_of_lookup h2};{have J:scope.names.lookup y=some .cell\/scope.names.lookup y=some .free:=J;rcases J with J|J;{exact Ny J};{exact absurd Z<|S.Az _<|PySem.mem_of_lookup J}};{exact jx<|x.above y c<|PySem.mem_of_lookup h};{(have hi:i<vs.length:=by unfold start at h2;by_cases hi:i<vs.length;{exact hi};{rw[nj (by simpa using hi)]at h2;rw[List.getElem?_replicate]at h2;split at h2<;>cases h2});(have ha:vs[i]?=some v:=by unfold start at h2;rw[lC (by simpa using hi),aT]at h2;cases e:vs[i]? with|none=>rw[e]at h2;cases h2|some a=>rw[e]at h2;cases h2;rfl);obtain⟨u,hu,rv⟩:=r.get ha;(have O:ps[i]?=some y:=by rw[←S.pre,List.getElem?_take_of_lt 80];exact h1);(have U:ps.Nodup:=by rw[←S.pre];exact S.nd.sublist<|List.take_sublist _ _);exists u,rv;rcases S.par y (bM O)with k|k;{exact .inl ⟨k,Nv U O hu k⟩};{obtain⟨c,e⟩:=Ny (n:=19+1) k;refine .inr ⟨.inl k,c,e,?_⟩;have q:=x.cell y c e;rw[Nx U O hu (by show scope.names.lookup y≠_;rw[k];walk)]at q;exact q}};{exact B.bG.fresh<|jx<|x.above y c<|PySem.mem_of_lookup h};{unfold start;show _=N.length;rw[bN,ay,List.length_replicate];lia}
theorem Nz{K:aC}{dV kV Y pm B ct oc:au}(lk:K.lookup f=some ⟨oc,od,.func<|PySem.W.fnOf name j L body scope dV kV Y pm an B ct,BW⟩)(C8:PySem.W.codeIn K B j=true)(S:aA N ps scope)(len:∀vs H Q E,sp vs H Q E->vs.length=127)(U:∀A outer s H vs Q E,cI k (A.deeper<|envOfC j scope 19 f B)->sp vs H Q E->∃t,qo (oE CX P w K mg base N j scope f B A outer s H E) body t/\t {nx:=λ_ H'=>Q .cz H',rt:=Q} (start N vs) H):kD P w K mg base CX (k+1) f (PySem.W.fnOf name j L body scope dV kV Y pm an B ct) ps sp:=by refine⟨len,λA outer s H args us vs Q E hr e0 hb r BX=>?_⟩;have hl:=len _ _ _ _ BX;have KX:K.In 91:=e0.mod.xG.keeps λb o e=>(e0.bs b o e).1;have lim:s.heap.NoLimit:=e0.mod.nolimit.keeps λb o e=>(e0.bs b o e).1;(have W:∀y∈ps.zip us,scope.names.lookup y.1=some .local\/(scope.names.lookup y.1=some .cell/\((cellsFrom (19+1) scope.names []).lookup y.1).isSome=true):=λ⟨n,v⟩hy=>by rcases S.par n (gP hy).1 with q|q;{exact .inl q};{exact .inr ⟨q,PySem.W.cellsFrom_some _ _ _<|.inl q⟩});refine codeAny_call_function hr.depth (KX _ _ lk) Z S.co S.gen Z (PySem.W.codeRec_of KX C8)<|hb _ _ _ _ ?_;refine wpAny_newFunctionEnv_cells S.kind W λenv he s1 x=>?_;subst he;refine⟨lim.keeps x.toInCall.keep,codeAny_func ?_⟩;obtain⟨t,ht,hq⟩:=U A outer s H vs Q E (hr.deeper _) BX;have I:Inv (oE CX P w K mg base N j scope f B A outer s H E) [] (start N vs) H s1:=UT S hr.hd e0 hl r x;refine cT (ht [] s1 (start N vs) H _ I hq) (λfl s' hs=>?_) λe s' hs=>hs;have fin:∀{O:St}{H':Hp}{v:V}{u:au},Inv (oE CX P w K mg base N j scope f B A outer s H E) [] O H' s'->RelV v u->Q v H'->CE outer P w H s Q u s':=λ{O H' v u}J rv q=>⟨v,H',J.os,J.bare,J.base,J.bG,rv,q⟩;cases fl with|ret u=>obtain⟨v,O,H',J,rv,q⟩:=hs;exact fin J rv q|next=>obtain⟨O,H',J,q⟩:=hs;exact fin (v:=V.cz) (u:=112) J Z q|brk=>obtain⟨_,_,_,q⟩:=hs;exact False.elim q|cont=>obtain⟨_,_,_,q⟩:=hs;exact False.elim q
section
variable{X:Cx}{x:Str}{p pos:Pos}{e:Expr}{es:List Expr}{t:TA}{id T:String}{r:99->Hp->VK->Prop}
def Jb(r:99->Hp->VK->Prop)(t:TA):TE:=λσ H Q=>t σ H λj H1=>r j H1 Q
theorem gC(L:jH X (.builtin id) r)(S:Gl X x)(U:X.mg x=none)(Y:bootBuiltins x=some (.builtin id))(J:PA X (e::es) t)(W:x≠"__name__":=by walk)(j:(x==("__debug__":Str))=94:=by walk)(O:starEach (e::es) 106=(false,eval e 106)::103:=by rfl)(q:(backTo pos 103).any (·.1)=94:=by rfl):PE X (.Call (.Name x p) (e::es) [] pos) (Jb r t):=by intro pins s σ H Q I h;refine lJ<|yZ I S U Y ?_ W j;exact PyProof.Rows.callWith_builtin1 (bR (J pos pins s σ H _ I h) λus s1⟨vs,H1,B,r1,q1⟩=>L pins s1 σ H1 vs us Q B r1 q1) O q
theorem nU(L:jH X (.type T) r)(S:Gl X x)(U:X.mg x=none)(Y:bootBuiltins x=some (.type T))(J:PA X (e::es) t)(W:x≠"__name__":=by walk)(j:(x==("__debug__":Str))=94:=by walk)(O:starEach (e::es) 106=(false,eval e 106)::103:=by rfl)(q:(backTo pos 103).any (·.1)=94:=by rfl):PE X (.Call (.Name x p) (e::es) [] pos) (Jb r t):=by intro pins s σ H Q I h;refine lJ<|yZ I S U Y ?_ W j;exact ni (bR (J pos pins s σ H _ I h) λus s1⟨vs,H1,B,r1,q1⟩=>L pins s1 σ H1 vs us Q B r1 q1) O q
end
end L2
namespace HT
open PySem PyProof.Rows
section
open PySem.SeqAt
open PySem.AutoSeq1(wpAny_loadPart')
open PySem.MeetsSeq PySem.MeetsSeq2 PySem.MeetsSeq3
end
section
variable{prog:bD}{w:World}{A:Around}{E:aP}{s:aF}
theorem xS(ht:IsTup 91 t vs.toArray)(hb:IsTup 91 b ws.toArray)(hv:vs≠[])(h1:ws=[]->Q (.ref t) s)(h2:ws≠[]->Q (.ref 19) {s with heap:=s.heap.push {cls:=.type 118,data:=.seq (vs++ws).toArray}})(hsz:vs.length+ws.length<=89):wpAny 28 A (binaryOp .Add (.ref t)<|.ref b) Q E s:=by obtain⟨⟨cls,W,data,sl⟩,O,Y,n,hd⟩:=id ht;obtain⟨⟨U,q,data2,L⟩,j,B,n2,J⟩:=id hb;simp only at Y hd B J;subst Y hd B J;(have e:vs.toArray++ws.toArray=(vs++ws).toArray:=by simp);by_cases S:ws=[];{exact concat_meets ⟨_,O,Z⟩ ⟨_,j,Z⟩ noFill_tuple_add seq_tuple_add PySem.F.slot_tuple_add PySem.F.entry_tuple_add (PySem.F.args_tuple_add_2 _ _) (tuple_addW1 t b vs.toArray ws.toArray n n2 W q sl L (by simpa using hv) (by simp[S])) ⟨O,j,h1 S⟩};{refine concat_meets ⟨_,O,Z⟩ ⟨_,j,Z⟩ noFill_tuple_add seq_tuple_add PySem.F.slot_tuple_add PySem.F.entry_tuple_add (PySem.F.args_tuple_add_2 _ _) (tuple_addW2 t b vs.toArray ws.toArray n n2 W q sl L (by simpa using hv) (by simpa using S) (by rw[cg,cg];exact hsz)) ⟨O,j,?_⟩;rw[e];exact h2 S}
def cN(n d:Nat):Option Int->Nat|none=>d|some v=>if v<0 then(v+(n:Int)).toNat else min v.toNat n
theorem tF(n d k:Nat):cN n d (some (k:Int))=min k n:=by show(if(k:Int)<0 then((k:Int)+(n:Int)).toNat else min (k:Int).toNat n)=min k n;rw[ao 80,lQ]
theorem UU n d(q:d<=n)o:cN n d o<=n:=by cases o with|none=>exact q|some v=>show(if v<0 then(v+(n:Int)).toNat else min v.toNat n)<=n;by_cases j:v<0;{rw[ak j];lia};{rw[ao j];exact Nat.min_le_right _ _}
theorem NB v(n d:Nat):(if v<0 then max (v+(n:Int)) 0 else min v (n:Int))=((cN n d (some v):Nat):Int):=by show(if v<0 then max (v+(n:Int)) 0 else min v (n:Int))=(((if v<0 then(v+(n:Int)).toNat else min v.toNat n):Nat):Int);by_cases j:v<0;{simp only[ak j];lia};{simp only[ao j];lia}
theorem UW lo hi(n:Nat):Builtin.Slice.sliceAdjust lo hi 1 (n:Int)=(((cN n 0 lo:Nat):Int),((cN n n hi:Nat):Int)):=by(have h1:¬((1:Int)<0):=by lia);unfold Builtin.Slice.sliceAdjust;simp only[h1,fK];refine Prod.ext ?_ ?_;{cases lo with|none=>rfl|some v=>exact NB v n 0};{cases hi with|none=>rfl|some v=>exact NB v n n}
theorem UX(i j:Nat):Builtin.Slice.slicePlaces (i:Int) (j:Int) 1=j-i:=by unfold Builtin.Slice.slicePlaces;(have h1:(1:Int)>0:=by lia);simp only[h1,gW,Int.ediv_one];split<;>lia
theorem NC(p:IsPart v o)(h:Q o s):wpAny 28 A (Builtin.Slice.slicePartIndex v) Q E s:=by cases p with|none=>exact slicePart_none h|int i t=>exact slicePart_int h
theorem ND{lo hi:Option Int}{Q:Int×Int×Nat->aF->Prop}(hs:s.heap.IsSliceOf O B J .none)(pl:IsPart B lo)(pu:IsPart J hi)(h:Q (((cN n 0 lo:Nat):Int),1,cN n n hi-cN n 0 lo) s):wpAny 28 A (Builtin.Slice.sliceApplied (.ref O)<|pure (n:Int)) Q E s:=by obtain⟨os,q,L,j⟩:=id hs;unfold Builtin.Slice.sliceApplied Builtin.Slice.sliceFields;refine ah<|ah<|dh q j (x:=B) Z<|ah<|dh q j (x:=J) Z<|ah<|dh q j (x:=.none) Z<|av ?_;refine ah<|slicePart_none ?_;show wpAny _ _ (if((1:Int)==0)=true then _ else _) _ _ s;rw[ao 82];refine ah<|NC pl<|ah<|NC pu<|ah<|av ?_;show wpAny _ _ (match Builtin.Slice.sliceAdjust lo hi 1 (n:Int)with|(lo,hi)=>pure (lo,(1:Int),Builtin.Slice.slicePlaces lo hi 1)) _ _ s;rw[UW lo hi n];show wpAny _ _ (pure (((cN n 0 lo:Nat):Int),(1:Int),Builtin.Slice.slicePlaces ((cN n 0 lo:Nat):Int) ((cN n n hi:Nat):Int) 1)) _ _ s;rw[UX];exact av h
theorem UY(xs:Array au)(i k:Nat):((List.range k).filterMap λ(m:Nat)=>xs[((i:Int)+(m:Int)*1).toNat]?).toArray=((xs.toList.drop i).take k).toArray:=by(have e:(λ(m:Nat)=>xs[((i:Int)+(m:Int)*1).toNat]?)=λm=>xs[i+m]?:=by funext m;(have:((i:Int)+(m:Int)*1).toNat=i+m:=by lia);rw[this]);rw[e];have:=pick_run xs i k;rw[List.filterMap_map]at this;have j:((λx=>xs[x]?)∘λx=>i+x)=λm=>xs[i+m]?:=rfl;rw[j]at this;rw[this]
theorem kU{lo hi:Option Int}(B:IsTup 91 t items)(hs:s.heap.IsSliceOf U Y vu .none)(pl:IsPart Y lo)(pu:IsPart vu hi)(hw:¬(cN 105 0 lo=0/\cN 105 105 hi=105))(h:Q (.ref 19) {s with heap:=s.heap.push {cls:=.type 118,data:=.seq ((items.toList.drop<|cN 105 0 lo).take<|cN 105 105 hi-cN 105 0 lo).toArray}})(hsz:105<=89):wpAny 28 A (getItem (.ref t)<|.ref U) Q E s:=by(have j:sizeOk (.seq ((items.toList.drop<|cN 105 0 lo).take<|cN 105 105 hi-cN 105 0 lo).toArray):=by show((items.toList.drop<|cN 105 0 lo).take<|cN 105 105 hi-cN 105 0 lo).toArray.size<=89;rw[cg,bP,pO,cK];lia);have hj:cN 105 105 hi<=105:=UU _ _ (aB _) hi;obtain⟨os,S,L,W⟩:=id hs;have J:s.TypeIs (.ref U) "slice":=⟨os,S,L⟩;unfold getItem;(try with_reducible refine dS ?_);(first|refine ah<|av ?_|skip);refine ah<|wpAny_sequenceKey B.typeIs 82 ?_;refine ah<|gH (name:=Str.ofString "__getitem__") B.typeIs oO<|dQ oO B.typeIs entry_tuple_getitem ?_<|args_tuple_getitem _ _;show wpAny _ _ (Builtin.Tuple.tupleItemsOf (.ref t)>>=_) _ _ s;refine ah<|tupleItemsOf_ B ?_;refine ah<|gS J ?_;rw[ak 82];refine ah<|ND hs pl pu ?_;(have O:¬((((cN 105 0 lo:Nat):Int)==0&&(1:Int)==1&&(cN 105 105 hi-cN 105 0 lo)==105)=true):=by intro q;rw[c9,c9]at q;have q1:((cN 105 0 lo:Nat):Int)=0:=eq_of_beq q.1.1;have q2:cN 105 105 hi-cN 105 0 lo=105:=eq_of_beq q.2;exact hw ⟨80,80⟩);show wpAny _ _ (if(((cN 105 0 lo:Nat):Int)==0&&(1:Int)==1&&(cN 105 105 hi-cN 105 0 lo)==105)=true then _ else _) _ _ s;rw[ao O,UY];first|exact ah (m:=Builtin.Tuple.tupleExact _)<|cQ (av ⟨_,Z,av h⟩) j|exact ah (m:=Builtin.Tuple.tupleExact _)<|cQ (ah<|av<|av ⟨_,Z,av h⟩) j|exact ah<|ah (m:=Builtin.Tuple.tupleExact _)<|cQ (av<|av ⟨_,Z,av h⟩) j|exact ah<|ah (m:=Builtin.Tuple.tupleExact _)<|cQ (av ⟨_,Z,av h⟩) j
end
end HT
namespace L2
open PySem PySem.Spec PyProof.Rows
abbrev TO:=St->Hp->(Option Int->Hp->Prop)->Prop
def PO(X:Cx)(e:Option Expr)(t:TO):Prop:=∀pins s(σ:St)H Q,55->t σ H Q->wpAny 83 X.A (evalPart e 106) (λu s'=>∃o H',Inv X pins σ H' s'/\IsPart u o/\Q o H') X.xe s
def NF:TO:=λ_ H Q=>Q none H
def NG(t:TE):TO:=λσ H Q=>t σ H λx H1=>∃i,x=.int i/\Q (some i) H1
theorem Jc:∀{us},Vals (j.map V.int) us->IntsAre us j:=by induction j with|nil=>intro us r;rw[kB]at r;cases r;exact .nil|cons n j q=>intro us r;rw[b7]at r;cases r with|cons B J=>obtain⟨t,e⟩:=B;k_go;exact .cons n t<|q J
section
variable{X:Cx}{e:Expr}{te:TE}{lo hi:Option Expr}{tl th:TO}{pos p2:Pos}
theorem AA:PO X none NF:=by intro pins s σ H Q I h;rw[evalPart_none];exact av ⟨none,H,I,.none,h⟩
theorem xT(h:PE X e te):PO X (some e) (NG te):=by intro pins s σ H Q I J;rw[evalPart_some];refine bR (h pins s σ H _ I J) λu S j=>?_;obtain⟨x,H1,B,O,L⟩:=j;obtain⟨i,rfl,q⟩:=L;obtain⟨t,rfl⟩:=O;exact⟨some i,H1,B,.int i t,q⟩
def AB(X:Cx)(r:V->Option Int->Option Int->Hp->VK->Prop):Prop:=∀pins s(σ:St)H x v q B lo hi j Q,55->RelV x v->s.heap.IsSliceOf j q B .none->IsPart q lo->IsPart B hi->r x lo hi H Q->∃T id,typeLookup (.type T) "__getitem__"=pure (some<|.builtin id)/\s.TypeIs v T/\wpAny 83 X.A (getItem v<|.ref j) (EP X pins σ Q) X.xe s
def NH(r:V->Option Int->Option Int->Hp->VK->Prop)(te:TE)(tl th:TO):TE:=λσ H Q=>te σ H λx H1=>tl σ H1 λl H2=>th σ H2 λu j=>r x l u j Q
theorem zD(hr:AB X r)(he:PE X e te)(hl:PO X lo tl)(hu:PO X hi th):PE X (.Subscript e (.Slice lo hi none p2) pos) (NH r te tl th):=by intro pins s σ H Q I h;refine Subscript_<|bR (he pins s σ H _ I h) λv s1 B=>?_;obtain⟨x,H1,S,r1,q1⟩:=B;refine wpAny_Slice<|bR (hl pins s1 σ H1 _ S q1) λJ s2⟨l,H2,U,pl,q2⟩=>bR (hu pins s2 σ H2 _ U q2) λL j B=>?_;obtain⟨u,O,W,pu,q3⟩:=B;rw[evalPart_none];refine av ?_;have Y:Inv X pins σ O {j with heap:=j.heap.push {cls:=.type "slice",data:=.fields #[J,L,.none]}}:=W.kept (t':=j.toks) λb ob q=>aX _ q;obtain⟨T,id,hT,ht,hg⟩:=hr pins {j with heap:=j.heap.push {cls:=.type "slice",data:=.fields #[J,L,.none]}} σ O x v J L l u 108 Q Y r1 (Heap.IsSliceOf.new ..) pl pu q3;show wpAny 83 X.A (subscriptTail e (.Slice lo hi none p2) v<|.ref 108) (EP X pins σ Q) X.xe {j with heap:=j.heap.push {cls:=.type "slice",data:=.fields #[J,L,.none]}};exact tail_any (ops:=[.ref 108,v]) ht hT hg (by k_in)
def gX(xs:99)(lo hi:Option Int):99:=(xs.drop<|HT.cN 84 0 lo).take (HT.cN 84 84 hi-HT.cN 84 0 lo)
theorem NI xs lo hi:(gX xs lo hi).length<=84:=by unfold gX;rw[bP,pO];lia
def C9(K:aC):V->Option Int->Option Int->Hp->VK->Prop:=λx lo hi H Q=>∃a xs,x=98/\aI K H a xs/\¬(HT.cN 84 0 lo=0/\HT.cN 84 84 hi=84)/\∀p,H p=none->Q 101 (upd H p<|.tup<|gX xs lo hi)
theorem NJ:AB X (C9 X.K):=by intro pins s σ H x v vl vu lo hi Y Q I U hs pl pu h;obtain⟨a,xs,rfl,S,O,q⟩:=h;cases U;obtain⟨B,r,J,L⟩:=I.tuple S;(have j:B.toArray.size=84:=by rw[cg];exact r.length.symm);exists 118,_,oO.lookup,J.typeIs;refine HT.kU J hs pl pu (by rw[j];exact O) ?_ (by rw[j];exact L);rw[j];refine⟨.ref 19,_,I.laid (t':=124) (o:=.tup (gX xs lo hi)) (λb W q=>aX _ q) (aB _) ?_,Z,q _<|I.bG.fresh<|aB _⟩;exact⟨bF (NI xs lo hi) L,_,(r.drop<|HT.cN 84 0 lo).take<|HT.cN 84 84 hi-HT.cN 84 0 lo,IsTup.new _ _⟩
def NK(K:aC):R2:=λx y H Q=>∃a b xs ys,x=98/\y=.ref b/\aI K H a xs/\aI K H b ys/\xs≠[]/\84+121<=89/\(ys=[]->Q 98 H)/\(ys≠[]->∀p,H p=none->Q 101 (upd H p<|.tup<|xs++ys))
theorem Vals.iN(r:Vals xs us):us=[]↔xs=[]:=by cases r with|nil=>simp|cons _ _=>simp
theorem UZ:i9 X (binaryOp .Add) (NK X.K):=by intro pins s σ H x y v u Q I rx ry h;obtain⟨a,b,xs,ys,rfl,rfl,O,S,U,J,q1,q2⟩:=h;cases rx;cases ry;obtain⟨W,B,Y,_⟩:=I.tuple O;obtain⟨L,j,p2,_⟩:=I.tuple S;refine HT.xS Y p2 (λz=>U<|B.iN.mp z) (λz=>⟨98,H,I,Z,q1<|j.iN.mp z⟩) (λz=>?_) (by rw[←B.length,←j.length];exact J);refine⟨.ref 19,_,I.laid (t':=124) (o:=.tup (xs++ys)) (λb ob q=>aX _ q) (aB _) ?_,Z,q2 (λw=>z<|j.iN.mpr w) _<|I.bG.fresh<|aB _⟩;exact⟨by rw[bN];exact J,_,B.append j,IsTup.new _ _⟩
end
def vL(n:Nat)(i:Int):Option Nat:=if 0<=i then(if i<n then some i.toNat else none)else if-(n:Int)<=i then some (i+n).toNat else none
def iZ{q:Type}(xs:List q)(i:Int):Option q:=(vL 84 i).bind λj=>xs[j]?
theorem U1(h:vL n i=some j):seqIndex? i n=some j/\j<n/\-(n:Int)<=i/\i<n:=by unfold vL at h;by_cases q:0<=i;{rw[ak q]at h;by_cases h1:i<n;{rw[ak h1]at h;have e:i.toNat=j:=dR h;exact⟨by rw[seqIndex_of q h1,e],80,80,h1⟩};{rw[ao h1]at h;cases h}};{rw[ao q]at h;by_cases h1:-(n:Int)<=i;{rw[ak h1]at h;have e:(i+n).toNat=j:=dR h;exact⟨by rw[seqIndex_neg 80 h1,e],80,h1,80⟩};{rw[ao h1]at h;cases h}}
theorem Jd{v:J}(h:iZ xs i=some v):∃j,seqIndex? i 84=some j/\xs[j]?=some v/\j<84/\-(84:Int)<=i/\i<84:=by unfold iZ at h;cases e:vL 84 i with|none=>rw[e]at h;cases h|some j=>rw[e]at h;obtain⟨h1,h2,q,B⟩:=U1 e;exact⟨j,h1,h,h2,q,B⟩
theorem vh{j:Nat}{v:B}(h:xs[j]?=some v):iZ xs (j:Int)=some v:=by have q:j<84:=(cE.mp h).1;(have e:vL 84 (j:Int)=some j:=by unfold vL;rw[ak 80,ak 80];simp);unfold iZ;rw[e];exact h
theorem NL xs(v:q):iZ (xs++[v]) (-1)=some v:=by(have j:(xs++[v]).length=84+1:=by simp);(have e:vL (xs++[v]).length (-1)=some 84:=by unfold vL;rw[j,ao 82,ak 80];congr 1;lia);unfold iZ;rw[e];show(xs++[v])[84]?=some v;simp
def NN(b:Expr):Prop:=∀o i,subscripted b 94 o i=operate [o,i] (getItem o i)
def AD(X:Cx)(r:R2):Prop:=∀value j pins s(σ:St)H x y v u Q,55->RelV x v->RelV y u->r x y H Q->subscripted j 94 v u=operate [v,u] (getItem v u)->wpAny 83 X.A (subscriptTail value j v u) (EP X pins σ Q) X.xe s
def xU(X:Cx)(id:String)(r:V->99->Hp->VK->Prop):Prop:=∀pins s(σ:St)H x xs v us Q,55->RelV x v->Vals xs us->r x xs H Q->wpAny 83 X.A (call (.builtin id)<|v::us) (EP X pins σ Q) X.xe s
section
variable{X:Cx}{a b:Expr}{ta tb:TE}{pos:Pos}
theorem U3(L:AD X r)(B:PE X a ta)(J:PE X b tb)(hs:NN b):PE X (.Subscript a b pos) (C0 r ta tb):=by intro pins s σ H Q I h;exact Subscript_<|As B J I h λv u U x y H2 j O S q=>L a b pins U σ H2 x y v u Q j O S q (hs _ _)
inductive Dd(K:aC)(x y:V)(H:Hp)(Q:VK):Prop|mk p xs i v(_:x=101)(_:y=.int i)(_:aH K H p xs)(_:iZ xs i=some v)(_:Q v H)
def De(K:aC):R2:=λx y H Q=>Dd K x y H Q
inductive Dg(K:aC)(x y:V)(H:Hp)(Q:VK):Prop|mk p xs i v(_:x=101)(_:y=.int i)(_:aI K H p xs)(_:iZ xs i=some v)(_:Q v H)
def Dh(K:aC):R2:=λx y H Q=>Dg K x y H Q
def Je:R2:=λx y H Q=>∃z i c,x=.str z/\y=.int i/\z.length<=89/\iZ z.cps.toList i=some c/\Q (.str ⟨#[c]⟩) H
theorem U4:AD X (De X.K):=by intro value S pins s σ H x y v u Q I rx ry h hs;obtain⟨p,xs,i,z,rfl,rfl,hq,he,q⟩:=h;cases rx;obtain⟨t,rfl⟩:=ry;obtain⟨L,r,pl,hz⟩:=I.list hq;obtain⟨j,h1,h2,h3,Y,h5⟩:=Jd he;obtain⟨w,U,O⟩:=r.get h2;have hl:=r.length;have hn:=C4;have B:EP X pins σ Q w s:=⟨z,H,I,O,q⟩;by_cases W:0<=i;{(have J:i.toNat=j:=by rw[seqIndex_of W h5]at h1;exact dR h1);exact item_listR pl.isList W 80 (by rw[J];simpa using U) B hs};{(have J:(i+(L.toArray.size:Int)).toNat=j:=by rw[seqIndex_neg 80 Y]at h1;rw[cg,←hl];exact dR h1);exact subscriptTail_builtinR (x:=w) pl.isList.typeIs slot_list_getitem.lookup (wpAny_getItem_list_neg (Q:=λr s'=>r=w/\EP X pins σ Q r s') pl.isList 80 (by rw[cg]<;>lia) 80 (by rw[J];simpa using U) ⟨Z,B⟩) hs}
theorem U7:AD X (Dh X.K):=by intro value L pins s σ H x y v u Q I rx ry h hs;obtain⟨p,xs,i,z,rfl,rfl,W,S,q⟩:=h;cases rx;obtain⟨t,rfl⟩:=ry;obtain⟨Y,r,pl,hz⟩:=I.tuple W;obtain⟨j,h1,h2,h3,h4,h5⟩:=Jd S;obtain⟨w,O,J⟩:=r.get h2;have U:=r.length;have hn:=C4;have B:EP X pins σ Q w s:=⟨z,H,I,J,q⟩;exact subscriptTail_builtinR (x:=w) pl.typeIs slot_tuple_getitem.lookup (getItem_tuple (j:=j) (Q:=λr s'=>r=w/\EP X pins σ Q r s') pl 80 80 (by rw[cg,←U];exact h1) (by simpa using O) ⟨Z,B⟩) hs
theorem U8:AD X Je:=by intro value B pins s σ H x y v u Q I Y ry h hs;obtain⟨z,i,c,rfl,rfl,hz,U,q⟩:=h;obtain⟨t,rfl⟩:=Y;obtain⟨t',rfl⟩:=ry;obtain⟨j,h1,h2,h3,O,S⟩:=Jd U;(have W:z.cps.toList.length=z.length:=by simp[Str.length]);rw[W]at h1 O S;have hn:=C4;exact tail_any (jz s z t) slot_str_getitem.lookup (getItem_str (c:=c) (by have J:decide (i< -(2^63:Int))=94:=aN 80;have L:decide (i≥2^63)=94:=aN 80;rw[J,L,nR]) (by rw[h1];simpa using h2) ⟨.str ⟨#[c]⟩,H,I.tok _,⟨_,Z⟩,q⟩) hs
theorem U9 lo hi n:(sliceBounds lo hi none n).1=((HT.cN n 0 lo:Nat):Int)/\(sliceBounds lo hi none n).2.1=((HT.cN n n hi:Nat):Int)/\(sliceBounds lo hi none n).2.2=1:=by refine⟨?_,?_,Z⟩;{cases lo with|none=>simp[sliceBounds,HT.cN]|some i=>simp only[sliceBounds,HT.cN,Option.getD_none,show(1:Int)>0 by walk,gW];by_cases h:i<0;{simp only[h,gW]<;>lia};{simp only[h,fK]<;>lia}};{cases hi with|none=>simp[sliceBounds,HT.cN]|some i=>simp only[sliceBounds,HT.cN,Option.getD_none,show(1:Int)>0 by walk,gW];by_cases h:i<0;{simp only[h,gW]<;>lia};{simp only[h,fK]<;>lia}}
theorem Va(its:List au)lo hi:slicePick its.toArray lo hi none=((its.drop<|HT.cN its.length 0 lo).take<|HT.cN its.length its.length hi-HT.cN its.length 0 lo).toArray:=by obtain⟨h1,h2,j⟩:=U9 lo hi its.toArray.size;unfold slicePick;rw[h1,h2,j];simp only[sliceRange_one,pick_run,cg]<;>rfl
def Di(K:aC):V->Option Int->Option Int->Hp->VK->Prop:=λx lo hi H Q=>∃a xs,x=98/\aH K H a xs/\∀p,H p=none->Q 101 (upd H p<|.lst<|gX xs lo hi)
theorem Vb:AB X (Di X.K):=by intro pins s σ H x v Y vu lo hi W Q I S hs pl pu h;obtain⟨a,xs,rfl,J,q⟩:=h;cases S;obtain⟨O,r,B,L⟩:=I.list J;have j:=r.length;exists 115,_,slot_list_getitem.lookup,B.isList.typeIs;refine wpAny_getItem_list_slice B.isList hs pl pu .none 81 ?_ (by rw[cg]<;>lia);rw[Va,←j];refine⟨.ref 19,_,I.laid (t':=124) (o:=.lst (gX xs lo hi)) (λb U q=>aX _ q) (aB _) ?_,Z,q _<|I.bG.fresh<|aB _⟩;exact⟨bF (NI xs lo hi) L,_,0,(r.drop<|HT.cN 84 0 lo).take<|HT.cN 84 84 hi-HT.cN 84 0 lo,aV _ Z⟩
def p8:V->Bool|.cz=>true|.bl _=>true|.int _=>true|.str _=>true|_=>false
def qp:V->V->Bool|.cz,.cz=>true|.bl a,.bl b=>a==b|.bl a,.int b=>(if a then 1 else 0)==b|.int a,.bl b=>a==(if b then 1 else 0)|.int a,.int b=>a==b|.str a,.str b=>a==b|_,_=>false
theorem NO(J:RelV y u)(j:RelV x v)(L:p8 y=true)(B:p8 x=true):SeqAt.EqAt A s u v (qp y x):=by cases y with|cz=>cases J;(cases x with|cz=>cases j;exact SeqAt.EqAt.same _|bl b=>cases j;exact SeqAt.EqAt.none_bool b|int b=>obtain⟨t,rfl⟩:=j;exact SeqAt.EqAt.none_int b t|str b=>obtain⟨t,rfl⟩:=j;exact SeqAt.EqAt.none_str b t|_=>exact absurd (show 94=true from B) bC)|bl a=>cases J;(cases x with|cz=>cases j;exact SeqAt.EqAt.bool_none a|bl b=>cases j;exact SeqAt.EqAt.bool_bool a b|int b=>obtain⟨t,rfl⟩:=j;exact SeqAt.EqAt.bool_int a b t|str b=>obtain⟨t,rfl⟩:=j;exact SeqAt.EqAt.bool_str a b t|_=>exact absurd (show 94=true from B) bC)|int a=>obtain⟨q,rfl⟩:=J;(cases x with|cz=>cases j;exact SeqAt.EqAt.int_none a q|bl b=>cases j;exact SeqAt.EqAt.int_bool a q b|int b=>obtain⟨t,rfl⟩:=j;exact SeqAt.EqAt.int_int a q b t|str b=>obtain⟨t,rfl⟩:=j;exact SeqAt.EqAt.int_str a q b t|_=>exact absurd (show 94=true from B) bC)|str a=>obtain⟨q,rfl⟩:=J;(cases x with|cz=>cases j;exact SeqAt.EqAt.str_none a q|bl b=>cases j;exact SeqAt.EqAt.str_bool a q b|int b=>obtain⟨t,rfl⟩:=j;exact SeqAt.EqAt.str_int a q b t|str b=>obtain⟨t,rfl⟩:=j;exact SeqAt.EqAt.str_str a q b t|_=>exact absurd (show 94=true from B) bC)|_=>exact absurd (show 94=true from L) bC
def rQ(x:V)(u:au):Bool:=match u with|.none=>qp .cz x|.bool b=>qp (.bl b) x|.int i _=>qp (.int i) x|.str z _=>qp (.str z) x|_=>false
theorem NP(r:RelV y u)(f:p8 y=true):rQ x u=qp y x:=by cases y with|cz=>cases r;rfl|bl b=>cases r;rfl|int i=>obtain⟨t,rfl⟩:=r;rfl|str z=>obtain⟨t,rfl⟩:=r;rfl|_=>exact absurd (show 94=true from f) bC
theorem Dj{x:V}:∀{xs:99}{us:List au},Vals xs us->xs.all p8=true->us.any (rQ x)=xs.any λy=>qp y x|_,_,.nil,_=>rfl|y::xs,u::us,.cons r t,f=>by rw[List.all_cons,c9]at f;rw[iL,iL,NP r f.1,Dj t f.2]
theorem Dk{A:Around}{s:aF}{x:V}{v:au}(B:RelV x v)(q:p8 x=true):∀{xs:99}{us:List au},Vals xs us->xs.all p8=true->∀u∈us,SeqAt.EqAt A s u v (rQ x u)|_,_,.nil,_=>λu j=>by cases j|y::xs,u::us,.cons r t,f=>λJ j=>by rw[List.all_cons,c9]at f;rcases aM.mp j with rfl|j;{rw[NP r f.1];exact NO r B f.1 q};{exact Dk B q t f.2 J j}
def xh(x:V)(xs:99):Bool:=xs.any λy=>qp y x
def Gj(K:aC)(j:Bool):R2:=λx y H Q=>∃p xs,y=101/\(aH K H p xs\/aI K H p xs)/\p8 x=true/\xs.all p8=true/\Q (.bl<|if j then !xh x xs else xh x xs) H
theorem Vc:i9 X (compareOp .In) (Gj X.K 94):=by intro pins s σ H x y v u Q I O U h;obtain⟨p,xs,rfl,B,L,fs,q⟩:=h;cases U;rcases B with B|B;{obtain⟨j,r,pl,S⟩:=I.list B;refine SeqAt.in_listAt (rQ x) pl.isList (λw J=>Dk O L r fs w (by simpa using J)) ⟨.bl _,H,I,Z,?_⟩;rw[show j.toArray.any (rQ x)=j.any (rQ x)by simp,Dj r fs];exact q};{obtain⟨j,r,pl,S⟩:=I.tuple B;refine SeqAt.in_tupleAt (rQ x) pl (λw J=>Dk O L r fs w (by simpa using J)) ⟨.bl _,H,I,Z,?_⟩;rw[show j.toArray.any (rQ x)=j.any (rQ x)by simp,Dj r fs];exact q}
theorem Vd:i9 X (compareOp .NotIn) (Gj X.K true):=by intro pins s σ H x y v u Q I O U h;obtain⟨p,xs,rfl,B,L,fs,q⟩:=h;cases U;rcases B with B|B;{obtain⟨j,r,pl,S⟩:=I.list B;refine SeqAt.notIn_listAt (rQ x) pl.isList (λw J=>Dk O L r fs w (by simpa using J)) ⟨.bl _,H,I,Z,?_⟩;rw[show j.toArray.any (rQ x)=j.any (rQ x)by simp,Dj r fs];exact q};{obtain⟨j,r,pl,S⟩:=I.tuple B;refine SeqAt.notIn_tupleAt (rQ x) pl (λw J=>Dk O L r fs w (by simpa using J)) ⟨.bl _,H,I,Z,?_⟩;rw[show j.toArray.any (rQ x)=j.any (rQ x)by simp,Dj r fs];exact q}
theorem Ve:jH X (.builtin "len") (λxs H Q=>∃p ys,xs=[101]/\(aH X.K H p ys\/aI X.K H p ys)/\Q (.int 121) H):=by intro pins s σ H xs us Q I r h;obtain⟨p,ys,rfl,B,q⟩:=h;obtain⟨u,rfl,S⟩:=kO r;cases S;have U:=C4;rcases B with B|B;{obtain⟨J,L,pl,O⟩:=I.list B;have j:=L.length;exact Calls.call_len_list pl.isList (by simp only[cg]<;>lia) ⟨.int 121,H,I.tok _,⟨124+1,by rw[cg,j]⟩,q⟩};{obtain⟨J,L,pl,O⟩:=I.tuple B;have j:=L.length;exact len_tuple pl (by simp only[cg]<;>lia) ⟨.int 121,H,I.tok _,⟨124+1,by rw[cg,j]⟩,q⟩}
theorem NQ:jH X (.builtin "len") (λxs H Q=>∃z,xs=[.str z]/\z.length<=89/\Q (.int z.length) H):=by intro pins s σ H xs us Q I r h;obtain⟨z,rfl,B,q⟩:=h;obtain⟨u,rfl,t,rfl⟩:=kO r;have j:=C4;exact len_str 80 ⟨.int z.length,H,I.tok _,⟨_,Z⟩,q⟩
theorem Vf:jH X (.type 115) (λxs H Q=>∃p ys,xs=[101]/\(aH X.K H p ys\/aI X.K H p ys)/\∀l,H l=none->Q (.ref l) (upd H l<|.lst ys)):=by intro pins s σ H xs us Q I r h;obtain⟨p,ys,rfl,O,q⟩:=h;obtain⟨u,rfl,rx⟩:=kO r;cases rx;have J:∀(j:List au),Vals ys j->121<=89->∀(h':Heap)(c':Nat),(∀b o',104=some o'->h'.get? b=some o')->h'.get? 19=some {cls:=.type 115,dict:=none,data:=.seq j.toArray c',slots:=#[]}->EP X pins σ Q (.ref 19) {s with heap:=h'}:=λj B S h' c' U e=>⟨.ref 19,_,I.laid (t':=124) U (aB _)<|show bQ 126 X.w _ h' _ (.lst ys)from⟨S,j,c',B,e⟩,Z,q _<|I.bG.fresh<|aB _⟩;rcases O with O|O;{obtain⟨j,B,pl,S⟩:=I.list O;have L:=B.length;obtain⟨o,ho,W,n,Y⟩:=pl.isList;exact call_list_seq p (.inl Z) ho W Y (λh' c' U e=>J j B S h' c' U e) (by simp only[cg]<;>lia)};{obtain⟨j,B,pl,S⟩:=I.tuple O;have L:=B.length;obtain⟨o,ho,W,n,Y⟩:=pl;exact call_list_seq p (.inr Z) ho W Y (λh' c' U e=>J j B S h' c' U e) (by simp only[cg]<;>lia)}
theorem Vg:jH X (.type 118) (λxs H Q=>∃p ys,xs=[101]/\((aH X.K H p ys/\∀l,H l=none->Q (.ref l) (upd H l<|.tup ys))\/(aI X.K H p ys/\Q 101 H))):=by intro pins s σ H xs us Q I r h;obtain⟨p,ys,rfl,h⟩:=h;obtain⟨u,rfl,Y⟩:=kO r;cases Y;rcases h with⟨B,q⟩|⟨B,q⟩;{obtain⟨j,J,pl,S⟩:=I.list B;have O:=J.length;refine call_tuple_list pl.isList (λh' W=>?_) (by simp only[cg]<;>lia);have L:Inv X pins σ H {s with heap:=h'}:=I.kept (t':=124) W;have U:Inv X pins σ (upd H h'.objs.size<|.tup ys) {s with heap:=h'.push {cls:=.type 118,data:=.seq j.toArray}}:=L.laid (t':=124) (λb o e=>aX _ e) (aB _) (show bQ 126 X.w _ _ _ (.tup ys)from⟨S,j,J,IsTup.new _ _⟩);exact⟨.ref h'.objs.size,_,U,Z,q _<|L.bG.fresh<|aB _⟩};{obtain⟨j,J,pl,S⟩:=I.tuple B;exact call_tuple_same pl ⟨101,H,I,Z,q⟩}
def Jf(K:aC)(T:String)(x:V)(H:Hp):Prop:=match x with|.str _=>T="str"|.int _=>T="int"|.ref p=>(T=115/\∃xs,aH K H p xs)\/(T=118/\∃o,K.lookup p=85/\o.cls=.type 118/\o.dict=none)\/(T="dict"/\((∃kvs,H p=some (.dK kvs))\/∃kvs,H p=some (.dT kvs)))\/(T="set"/\∃S n,H p=some (.set S n))|_=>False
theorem NR{σ:St}(I:55)(r:RelV x v)(ty:Jf X.K T x H):s.TypeIs v T/\∀a,v=98->∃ob,s.heap.get? a=some ob/\ob.dict=none:=by cases x with|str z=>obtain⟨t,rfl⟩:=r;cases(show T="str"from ty);exact⟨jz s z t,λ_ e=>nomatch e⟩|int i=>obtain⟨t,rfl⟩:=r;cases(show T="int"from ty);exact⟨typeIs_int s i t,λ_ e=>nomatch e⟩|ref p=>cases r;rcases ty with⟨rfl,xs,L⟩|⟨rfl,o,j,J,B⟩|⟨rfl,j⟩|⟨rfl,S,n,j⟩;{obtain⟨O,_,pl,_⟩:=I.list L;refine⟨pl.isList.typeIs,λa e=>?_⟩;cases e;obtain⟨o,n,e,c,B,_⟩:=pl;exact⟨o,e,B⟩};{refine⟨⟨o,I.iM p o j,J⟩,λa e=>?_⟩;cases e;exact⟨o,I.iM _ o j,B⟩};{(have z:∃o,s.heap.get? p=85/\o.ExactDict:=by rcases j with⟨kvs,j⟩|⟨kvs,j⟩;{obtain⟨_,_,_,_,o,_,_,e,ex,_⟩:=I.bG p _ j;exact⟨o,e,ex⟩};{obtain⟨_,_,_,_,o,_,_,e,ex,_⟩:=I.bG p _ j;exact⟨o,e,ex⟩});obtain⟨o,e,ex⟩:=z;refine⟨⟨o,e,ex.1⟩,λa q=>?_⟩;cases q;exact⟨o,e,ex.2.1⟩};{obtain⟨o,_,_,_,e,ex,_⟩:=I.bG p _ j;refine⟨⟨o,e,ex.1⟩,λa q=>?_⟩;cases q;exact⟨o,e,ex.2.1⟩}|_=>exact False.elim ty
def Dl(K:aC)(T:String)(r:V->99->Hp->VK->Prop)(to:TE):TE:=λσ H Q=>to σ H λx H1=>Jf K T x H1/\r x [] H1 Q
def NS(K:aC)(T:String)(r:V->99->Hp->VK->Prop)(to:TE)(t:TA):TE:=λσ H Q=>to σ H λx H1=>Jf K T x H1/\t σ H1 λxs H2=>r x xs H2 Q
variable{o e:Expr}{es:List Expr}{to:TE}{t:TA}{name:Str}{apos cD:Pos}{T id:String}{r:V->99->Hp->VK->Prop}
theorem Vh(W:PlainAttrs T)(slot:Slot T name id)(J:typeOf (.builtin id)=pure (.type "method_descriptor"))(S:xU X id r)(U:PE X o to)(j:attributeBase o name 106 (eval o 106)=eval o 106:=by rfl)(q:(apos.endLine==cD.line)=true:=by rfl):PE X (.Call (.Attribute o name apos) [] [] cD) (Dl X.K T r to):=by intro pins s σ H Q I h;refine wpAny_Call_method0_late j q<|bR (U pins s σ H _ I h) λv s1 B=>?_;obtain⟨x,H1,L,O,ty,Y⟩:=B;obtain⟨h1,h2⟩:=NR L O ty;exact⟨T,id,W,slot,J,h1,h2,ny Z<|PySem.evalArgs_none<|S pins s1 σ H1 x [] v [] Q L O .nil Y⟩
theorem Vi(pa:PlainAttrs T)(slot:Slot T name id)(O:typeOf (.builtin id)=pure (.type "method_descriptor"))(hm:xU X id r)(ho:PE X o to)(ha:PA X (e::es) t)(q:attributeBase o name 106 (eval o 106)=eval o 106:=by rfl)(J:((backTo cD<|starEach (e::es) 106).all (λx=>!x.1)&&(backToKw cD<|keywordEach [] 106).all (λx=>x.1.isSome)&&decide ((e::es).length+([]:List Keyword).length+(if([]:List Keyword).isEmpty then 0 else 1)<30))=true:=by rfl)(B:(apos.endLine==cD.line)=true:=by rfl)(hs:starEach (e::es) 106=(false,eval e 106)::103:=by rfl)(j:(backTo cD 103).any (·.1)=94:=by rfl):PE X (.Call (.Attribute o name apos) (e::es) [] cD) (NS X.K T r to t):=by intro pins s σ H Q I h;refine wpAny_Call_method_late q J B Z<|bR (ho pins s σ H _ I h) λv s1 L=>?_;obtain⟨x,H1,S,W,ty,q1⟩:=L;obtain⟨h1,h2⟩:=NR S W ty;exists T,id,pa,slot,O,h1,h2;have U:=ha cD pins s1 σ H1 _ S q1;rw[hs]at U⊢;refine ny (by show(94||(backTo cD 103).any (·.1))=94;rw[j]<;>rfl)<|nD ?_;exact bR U λus s2⟨vs,H2,Y,r2,q2⟩=>hm pins s2 σ H2 x vs v us Q Y W r2 q2
end
def Vj(X:Cx)(id:String)(r:V->99->Hp->VK->Prop):Prop:=∀pins s(σ:St)H x xs v us Q,55->RelV x v->Vals xs us->r x xs H Q->wpAny 83 X.A (call (.builtin id)<|v::us) (EP X pins σ Q) X.xe s
theorem Vals.one:∀{x}{us},Vals [x] us->∃u,us=[u]/\RelV x u|_,_,.cons r .nil=>⟨_,Z,r⟩
section
variable{X:Cx}{pins:bA}{σ:St}{H:Hp}{s:aF}{l b:ai}{xs ys zs:99}
theorem Inv.Jg{its its':List au}(I:55)(j:H l=some (.lst xs))(e:s.heap.get? l=some {cls:=.type 115,data:=.seq its.toArray n})(J:f its.toArray=its'.toArray)(O:Vals ys its')(hz:121<=89):Inv X pins σ (upd H l<|.lst ys) {s with heap:=s.heap.update l (Obj.mapSeq f),toks:=t'}:=by have q:=PySem.IsL.update e f;rw[J]at q;refine I.write (x:=l) (e:=l) (by rw[j];exact trivial) (.inl Z) (λS u B L=>(dP 91 (Obj.mapSeq f)<|aG B).trans L) ⟨_,q⟩ ?_;exact⟨hz,its',_,O,q⟩
theorem Inv.Dp(I:55)(j:Vals ys its)(hz:121<=89):Inv X pins σ (upd H 19<|.lst ys) {s with heap:=s.heap.push {cls:=.type 115,data:=.seq its.toArray},toks:=t'}:=I.laid (λ_ _ q=>aX _ q) (aB _) ⟨hz,its,0,j,aV _ Z⟩
theorem Inv.fresh(I:55):H 19=none:=I.bG.fresh (aB _)
theorem Inv.AE(I:55)(j:H l=some (.lst xs)):84<=89/\∃its n,Vals xs its/\84=its.length/\s.heap.get? l=some {cls:=.type 115,data:=.seq its.toArray n}:=by obtain⟨z,its,n,r,e⟩:=I.bG l _ j;exact⟨z,its,n,r,r.length,e⟩
theorem z7t(h:n<=89):Builtin.List.listTooLong n=94:=by unfold Builtin.List.listTooLong;exact aN 80
end
section
variable{X:Cx}
inductive vM(x:V)(vs:99)(H:Hp)(Q:VK):Prop|mk l xs y(_:x=.ref l)(_:vs=[y])(_:H l=some (.lst xs))(_:84<89)(_:Q .cz (upd H l<|.lst<|xs++[y]))
def Vk:V->99->Hp->VK->Prop:=λx j H Q=>vM x j H Q
theorem xj:Vj X "list.append" Vk:=by intro pins s σ H x W v us Q I O L h;obtain⟨l,xs,y,rfl,rfl,B,U,q⟩:=h;cases O;obtain⟨u,rfl,J⟩:=L.one;obtain⟨z,j,n,r,S,e⟩:=I.AE B;refine call_meets F.slot_list_append ⟨_,e,Z⟩ F.entry_list_append (F.args_list_append_2 _ _) (PySem.list_append l j.toArray n u (by rw[cg];lia)) ⟨e,?_⟩;refine⟨.cz,_,I.Jg (its':=j++[u]) B e 81 (r.append<|.cons J .nil) ?_,Z,q⟩;rw[bN,List.length_singleton];lia
def Jh:R2:=λx y H Q=>∃l b xs zs,x=.ref l/\y=.ref b/\H l=some (.lst xs)/\H b=some (.lst zs)/\84+zs.length<=89/\∀p,H p=none->Q 101 (upd H p<|.lst<|xs++zs)
theorem xm:i9 X (binaryOp .Add) Jh:=by intro pins s σ H x y v u Q I Y ry h;obtain⟨l,b,xs,zs,rfl,rfl,S,O,hz,q⟩:=h;cases Y;cases ry;obtain⟨z,B,n,r,hl,e⟩:=I.AE S;obtain⟨z2,j,n2,W,U,J⟩:=I.AE O;refine PySem.P.add_list e J ?_ (by rw[cg,cg];lia);(have L:B.toArray++j.toArray=(B++j).toArray:=by simp);rw[L];exact⟨.ref _,_,I.Dp (t':=124) (r.append W) (by rw[bN];lia),Z,q _ I.fresh⟩
end
section
variable{κ:Type}[DecidableEq κ]
def eB(kvs:List (κ×V))(k:κ):Option V:=(kvs.find? λj=>decide (j.1=k)).map (·.2)
def putK(kvs:List (κ×V))(k:κ)(v:V):List (κ×V):=if(kvs.any λj=>decide (j.1=k))=true then kvs.map (λj=>if j.1=k then(j.1,v)else j)else kvs++[(k,v)]
theorem Dq{p:κ×V}{r:List (κ×V)}{k:κ}(e:p.1=k):eB (p::r) k=some p.2:=by simp[eB,lV,e]
theorem Ji{p:κ×V}{r:List (κ×V)}{k:κ}(e:¬p.1=k):eB (p::r) k=eB r k:=by simp[eB,lV,e]
theorem Gk(k:κ):∀kvs:List (κ×V),(kvs.any λj=>decide (j.1=k))=(eB kvs k).isSome|[]=>rfl|p::r=>by rw[iL];by_cases e:p.1=k;{simp only[Dq e,aO e,Bool.true_or,Option.isSome_some]};{rw[Ji e,aN e,Bool.false_or];exact Gk k r}
theorem Jj(kvs:List (κ×V))(k:κ)(v:V):(putK kvs k v).length<=113+1:=by unfold putK;split;{rw[ay];lia};{rw[bN,cR,List.length_nil];lia}
theorem Jk{kvs:List (κ×V)}{k:κ}(v:V)(h:eB kvs k=none):putK kvs k v=kvs++[(k,v)]:=by unfold putK;rw[Gk,h];exact ao 82
theorem gE.iB(r:gE o u):o.isSome=u.isSome:=by cases o with|none=>(cases u with|none=>rfl|some _=>exact(show False from r).elim)|some _=>cases u with|none=>exact(show False from r).elim|some _=>rfl
theorem gE.getD(r:gE o u)(j:RelV d d'):RelV (o.getD d) (u.getD d'):=by cases o with|none=>(cases u with|none=>exact j|some _=>exact(show False from r).elim)|some _=>cases u with|none=>exact(show False from r).elim|some _=>exact r
theorem KV.val{kvs:List (κ×V)}{vs:List (κ×au)}(r:KV kvs vs)(k:κ):gE (eB kvs k) (valueAt vs k):=by unfold KV at r;induction r with|nil=>exact True.intro|@cons p q ps B h t J=>obtain⟨h1,h2⟩:=h;by_cases e:p.1=k;{have j:q.1=k:=h1.symm.trans e;(have b:valueAt (q::B) k=some q.2:=by simp[valueAt,lV,j]);rw[Dq e,b];exact h2};{have j:¬q.1=k:=λz=>e (h1.trans z);(have b:valueAt (q::B) k=valueAt B k:=by simp[valueAt,lV,j]);rw[Ji e,b];exact J}
theorem KV.any{kvs:List (κ×V)}{vs:List (κ×au)}(r:KV kvs vs)(k:κ):(kvs.any λj=>decide (j.1=k))=vs.any λj=>decide (j.1=k):=by unfold KV at r;induction r with|nil=>rfl|cons h t q=>rw[iL,iL,q,h.1]
theorem KV.AF{kvs:List (κ×V)}{vs:List (κ×au)}(r:KV kvs vs)(k:κ){y:V}{u:au}(J:RelV y u):KV (kvs.map λj=>if j.1=k then(j.1,y)else j) (vs.map λj=>if j.1=k then(j.1,u)else j):=by unfold KV at r⊢;induction r with|nil=>exact .nil|@cons p q ps L h t B=>rw[b7,b7];refine .cons ?_ B;obtain⟨h1,h2⟩:=h;by_cases e:p.1=k;{rw[ak e,ak (h1.symm.trans e)];exact⟨h1,J⟩};{rw[ao e,ao (λz=>e<|h1.trans z)];exact⟨h1,h2⟩}
theorem KV.put{kvs:List (κ×V)}{vs:List (κ×au)}(r:KV kvs vs)(k:κ){y:V}{u:au}(j:RelV y u):KV (putK kvs k y) (stored vs k u):=by unfold putK stored;rw[r.any k];by_cases e:(vs.any λq=>decide (q.1=k))=true;{rw[ak e,ak e];exact r.AF k j};{rw[ao e,ao e];exact Paired.snoc r ⟨Z,j⟩}
theorem KV.length{kvs:List (κ×V)}{vs:List (κ×au)}(r:KV kvs vs):113=vs.length:=Paired.length r
end
theorem xV(r:RelV (kV k) u):(oA P w).is k u=true:=by cases k with|inl i=>obtain⟨t,e⟩:=(show∃t,u=Value.int i t from r);k_go;exact TQ P w i t|inr x=>obtain⟨t,e⟩:=(show∃t,u=Value.str x t from r);k_go;exact Ik P w x t
theorem NT:∀{ks}{us},Vals (ks.map kV) us->ItemsAre (oA P w) ks us|[],_,r=>by rw[kB]at r;cases r;exact .nil|k::ks,_,r=>by rw[b7]at r;cases r with|cons h t=>exact .cons (xV h)<|NT t
abbrev KT(H:Hp):List (List Key×V)->List (List Key×ai×au)->Prop:=Paired λp q=>p.1=q.1/\H q.2.1=some (.tup<|p.1.map kV)/\RelV p.2 q.2.2
theorem KT.val(r:KT H kvs xs)k:gE (eB kvs k) ((atKey xs k).map (·.2)):=by induction r with|nil=>exact True.intro|@cons p q ps B h t J=>obtain⟨h1,_,h2⟩:=h;by_cases e:p.1=k;{have j:q.1=k:=h1.symm.trans e;(have b:atKey (q::B) k=some q.2:=by simp[atKey,lV,j]);rw[Dq e,b];exact h2};{have j:¬q.1=k:=λz=>e (h1.trans z);(have b:atKey (q::B) k=atKey B k:=by simp[atKey,lV,j]);rw[Ji e,b];exact J}
theorem KT.AF(r:KT H kvs xs)k(L:RelV y u):KT H (kvs.map λj=>if j.1=k then(j.1,y)else j) (xs.map<|putAt k u):=by induction r with|nil=>exact .nil|@cons p q ps O h t J=>rw[b7,b7];refine .cons ?_ J;obtain⟨h1,h2,B⟩:=h;unfold putAt;by_cases e:p.1=k;{rw[ak e,ak (h1.symm.trans e)];exact⟨h1,h2,L⟩};{rw[ao e,ao (λz=>e<|h1.trans z)];exact⟨h1,h2,B⟩}
theorem KT.put(r:KT H kvs xs)k(B:H b=some (.tup<|k.map kV))(j:RelV y u):KT H (putK kvs k y) (storedH xs k b u):=by(have e:(kvs.any λJ=>decide (J.1=k))=(atKey xs k).isSome:=by rw[Gk,(r.val k).iB,pI]);unfold putK storedH;rw[e];by_cases q:(atKey xs k).isSome=true;{rw[ak q,ak q];exact r.AF k j};{rw[ao q,ao q];exact Paired.snoc r ⟨Z,B,j⟩}
theorem KT.keeps(r:KT H kvs xs)(j:∀b ys,H b=some (.tup ys)->H' b=some (.tup ys)):KT H' kvs xs:=Paired.fS r λ_ _ z=>⟨z.1,j _ _ z.2.1,z.2.2⟩
section
variable{P:bD}{w:World}{H:Hp}{h:Heap}{a:ai}
theorem NU(j:j4 P w H h)(e:Rd H a u):bQ P w H h a u:=e.ok j
theorem vN(j:j4 P w H h)(e:Rd H a (.dK kvs)):113<=89/\(a==sysModules)=94/\∃vs,KV kvs vs/\h.DictOf (oA P w) a vs:=show bQ P w H h a (.dK kvs)from NU j e
theorem NV(j:j4 P w H h)(e:H a=some (.dK kvs)):113<=89/\(a==sysModules)=94/\∃vs,KV kvs vs/\h.DictOf (oA P w) a vs:=vN j (.inl e)
theorem BY(B:j4 P w H h)(e:H a=some (.tup<|ks.map kV)):(tupleKind<|oA P w).is h ks a:=by obtain⟨_,j,r,o,h1,h2,n,q⟩:=(show bQ P w H h a (.tup<|ks.map kV)from B a _ e);exact⟨o,j.toArray,n,h1,h2,q,by simpa using NT r⟩
theorem AG(L:j4 P w H h)(e:Rd H a (.dT kvs)):113<=89/\(a==sysModules)=94/\∃xs,KT H kvs xs/\h.DictOfH (tupleKind<|oA P w) a xs:=by obtain⟨z,y,xs,r,o,es,O,h1,h2,S,U,W⟩:=(show bQ P w H h a (.dT kvs)from NU L e);refine⟨z,y,xs,r,o,es,O,h1,h2,S,U,λx j=>?_,W⟩;(have B:∀{l:List (List Key×V)}{m:List (List Key×ai×au)},KT H l m->∀x∈m,(tupleKind<|oA P w).is h x.1 x.2.1:=by intro l m q;induction q with|nil=>intro x j;exact nomatch j|@cons p q ps qs J t Y=>intro x j;rcases aM.mp j with e|j;{k_go;exact BY L (by rw[←J.1];exact J.2.1)};{exact Y x j});exact B r x j
theorem Vl(j:j4 P w H h)(e:H a=some (.dT kvs)):113<=89/\(a==sysModules)=94/\∃xs,KT H kvs xs/\h.DictOfH (tupleKind<|oA P w) a xs:=AG j (.inl e)
end
def bL(H:Hp)(a:ai)(y:V)(r:Option V):Prop:=(∃kvs k,Rd H a (.dK kvs)/\y=kV k/\r=eB kvs k)\/∃kvs k b,Rd H a (.dT kvs)/\y=.ref b/\H b=some (.tup<|k.map kV)/\r=eB kvs k
def eE(H:Hp)(a:ai)(y v:V)(H':Hp):Prop:=(∃kvs k,H a=some (.dK kvs)/\y=kV k/\113<89/\H'=upd H a (.dK<|putK kvs k v))\/∃kvs k b,H a=some (.dT kvs)/\y=.ref b/\H b=some (.tup<|k.map kV)/\113<89/\H'=upd H a (.dT<|putK kvs k v)
theorem bL.k{k:Key}(e:H a=some (.dK kvs)):bL H a (kV k) (eB kvs k):=.inl ⟨kvs,k,.inl e,Z,Z⟩
theorem bL.t{k:List Key}(e:H a=some (.dT kvs))(j:H b=some (.tup<|k.map kV)):bL H a (.ref b) (eB kvs k):=.inr ⟨kvs,k,b,.inl e,Z,j,Z⟩
theorem eE.k{k:Key}(e:H a=some (.dK kvs))(j:113<89):eE H a (kV k) v (upd H a<|.dK<|putK kvs k v):=.inl ⟨kvs,k,e,Z,j,Z⟩
theorem eE.t{k:List Key}(e:H a=some (.dT kvs))(j:H b=some (.tup<|k.map kV))(q:113<89):eE H a (.ref b) v (upd H a<|.dT<|putK kvs k v):=.inr ⟨kvs,k,b,e,Z,j,q,Z⟩
section
variable{X:Cx}{pins:bA}{σ:St}{H:Hp}{s:aF}{a:ai}{y v:V}{u r:au}{o:Option V}{A:Around}{E:aP}
theorem Inv.big(I:55):sysModules<19:=by have h:mainGlobals<19:=(I.mod.glob.keeps I.bk).lt;exact Nat.lt_trans 82 h
theorem Vm(hu:A.units+1<cLine)(I:55)(g:bL H a y (some v))(S:RelV y u)(h:∀B s',Inv X pins σ H s'->RelV v B->Q B s'):wpAny 83 A (getItem 98 u) Q E s:=by rcases g with⟨kvs,k,e,J,l⟩|⟨kvs,k,b,e,J,U,l⟩;{subst J;obtain⟨z,W,vs,j,dd⟩:=vN I.bG e;obtain⟨B,O,q⟩:=gE.some_of (v:=v) (o:=valueAt vs k) (by rw[l];exact j.val k);exact wpAny_getItem_of (xV S) dd.mapOf O<|h B _ (I.tok _) q};{subst J;cases(show u=Value.ref b from S);obtain⟨z,W,xs,j,dd⟩:=AG I.bG e;obtain⟨B,O,q⟩:=gE.some_of (v:=v) (o:=(atKey xs k).map (·.2)) (by rw[l];exact j.val k);obtain⟨p,Y,L⟩:=Option.map_eq_some_iff.mp O;refine wpAny_getItem_heap (nG hu) (BY I.bG U) dd Y ?_;rw[L];exact h B _ (I.tok _) q}
theorem Jl(S:A.units+1<cLine)(I:55)(g:bL H a y o)(L:RelV y u)(h:∀s',Inv X pins σ H s'->Q (.bool o.isSome) s'):wpAny 83 A (compareOp .In u 98) Q E s:=by rcases g with⟨kvs,k,e,B,l⟩|⟨kvs,k,b,e,B,O,l⟩;{subst B;obtain⟨z,J,U,j,dd⟩:=vN I.bG e;refine wpAny_in_of (xV L) J dd.mapOf ?_;rw[←(j.val k).iB,←l];exact h _<|I.tok _};{subst B;cases(show u=Value.ref b from L);obtain⟨z,J,xs,j,dd⟩:=AG I.bG e;refine wpAny_in_heap (nG S) (BY I.bG O) J dd ?_;have q:=(j.val k).iB;rw[pI]at q;rw[←q,←l];exact h _<|I.tok _}
theorem Vn(S:A.units+1<cLine)(I:55)(g:bL H a y o)(L:RelV y u)(h:∀s',Inv X pins σ H s'->Q (.bool<|!o.isSome) s'):wpAny 83 A (compareOp .NotIn u 98) Q E s:=by rcases g with⟨kvs,k,e,B,l⟩|⟨kvs,k,b,e,B,O,l⟩;{subst B;obtain⟨z,J,U,j,dd⟩:=vN I.bG e;refine wpAny_notIn_of (xV L) J dd.mapOf ?_;rw[←(j.val k).iB,←l];exact h _<|I.tok _};{subst B;cases(show u=Value.ref b from L);obtain⟨z,J,xs,j,dd⟩:=AG I.bG e;refine wpAny_notIn_heap (nG S) (BY I.bG O) J dd ?_;have q:=(j.val k).iB;rw[pI]at q;rw[←q,←l];exact h _<|I.tok _}
theorem Jm(I:55)(L:CN (H a))(hs:Heap.SameBut a 91 h')(J:∃q,h'.get? a=some q)(j:bQ 126 X.w (upd H a ob) h' a ob):Inv X pins σ (upd H a ob) {s with heap:=h',toks:=t'}:=I.write (x:=a) (e:=a) L (.inl Z) (λb q B z=>(hs.2 b B).trans z) J j
theorem NW(z:113<=89)(j:(a==sysModules)=94)(rel:KV kvs vs)(dd:h'.DictOf (oA P w) a vs):bQ P w H' h' a (.dK kvs):=⟨z,j,vs,rel,dd⟩
theorem Vo(hu:A.units+1<cLine)(I:55)(g:eE H a y v H')(ry:RelV y u)(rv:RelV v r)(h:∀s',Inv X pins σ H' s'->Q () s'):wpAny 83 A (setItem 98 u r) Q E s:=by rcases g with⟨kvs,k,e,O,l,L⟩|⟨kvs,k,b,e,O,Y,l,L⟩;{subst O L;obtain⟨z,S,vs,j,dd⟩:=NV I.bG e;(have W:vs.length<=89:=by rw[←j.length];exact z);(have U:(putK kvs k v).length<=89:=by have:=Jj kvs k v;lia);refine wpAny_setItem_pairs (hsz:=W) (xV ry) dd λh' B hs=>h _ ?_;have he:∃q,h'.get? a=some q:=let⟨q,_,_,J,_⟩:=B;⟨q,J⟩;exact Jm I (by rw[e];exact True.intro) hs he<|NW U S (j.put k rv) B};{subst O L;cases(show u=Value.ref b from ry);obtain⟨z,S,xs,j,dd⟩:=Vl I.bG e;(have W:84<=89:=by rw[←Paired.length j];exact z);(have U:(putK kvs k v).length<=89:=by have:=Jj kvs k v;lia);refine wpAny_setItem_heap (hsz:=W) (nG hu) (BY I.bG Y) dd λh' B hs=>h _ ?_;obtain⟨q,es,ep,J,h2,h3,h4,_,h5⟩:=B;refine Jm I (by rw[e];exact True.intro) hs ⟨q,J⟩ ⟨U,S,_,(j.put k Y rv).keeps λc ys ec=>?_,q,es,ep,J,h2,h3,h4,h5⟩;rw[zi (jO ec e λz=>nomatch z)];exact ec}
end
section
variable{X:Cx}{pins:bA}{σ:St}{H:Hp}{s:aF}{a:ai}{kvs:List (Key×V)}{k:Key}{u:au}{A:Around}{E:aP}
theorem NX(I:55)(e:Rd H a (.dK kvs))(h:∀t s',Inv X pins σ H s'->Q (.int 113 t) s'):wpAny 83 A (call (.builtin "len") [98]) Q E s:=by obtain⟨z,q,B,j,dd⟩:=vN I.bG e;refine call_len_dict q dd (by rw[←j.length];rw[gB]at z;lia) ?_;rw[←j.length];exact h _ _<|I.tok _
end
def AH(i:Expr):Prop:=∀q j,subscripted i 94 q j=operate [q,j] (getItem q j)
theorem NY{T id:String}(Y:typeLookup (.type T) "__getitem__"=pure (some<|.builtin id))(hs:AH j)(h:wpAny 28 A (eval value env) (λo J=>wpAny 28 A (eval j env) (λi q=>q.TypeIs o T/\wpAny 28 A (getItem o i) Q E q) E J) E s):wpAny 28 A (eval (.Subscript value j pos) env) Q E s:=by refine Subscript_<|cT h (λo J S=>cT S (λi q B=>?_) λ_ _ x=>x) λ_ _ x=>x;obtain⟨W,B⟩:=B;unfold subscriptTail;refine ah ?_;rw[getitemInPython_of_ne W.not_modules];refine ah<|pT W Y ?_;(have O:wpAny 28 A (subscripted j 94 o i) (λr L=>wpAny 28 A (letTemporaryGo value o r>>=λ_=>pure r) Q E L) E q:=by rw[hs o i];exact wpAny_operating<|cT B (λr L U=>ah<|wpAny_letTemporaryGo<|av U) λ_ _ x=>x);first|exact av<|ah O|exact ah<|av<|ah O|exact ah O
theorem Vp{σ:St}(I:55)(g:bL H a y o):s.TypeIs 98 "dict":=by rcases g with⟨kvs,k,e,_,_⟩|⟨kvs,k,b,e,_,_,_⟩;{obtain⟨_,_,j,_,dd⟩:=vN I.bG e;exact dd.typeIs};{obtain⟨_,_,xs,_,dd⟩:=AG I.bG e;exact dd.typeIs}
def Vq(td ty:TE):TE:=λσ H Q=>td σ H λx H1=>ty σ H1 λy H2=>∃a v,x=98/\bL H2 a y (some v)/\Q v H2
def Jo(ty td:TE):TE:=λσ H Q=>ty σ H λy H1=>td σ H1 λx H2=>∃a o,x=98/\bL H2 a y o/\Q (.bl o.isSome) H2
def Vr(ty td:TE):TE:=λσ H Q=>ty σ H λy H1=>td σ H1 λx H2=>∃a o,x=98/\bL H2 a y o/\Q (.bl<|!o.isSome) H2
def Vs(td ty tv:TE):TS:=λD σ H=>tv σ H λv H1=>td σ H1 λx H2=>ty σ H2 λy q=>∃a j,x=98/\eE q a y v j/\D.nx σ j
section
variable{X:Cx}{o i e value:Expr}{pos pos' p7:Pos}{td ty tv:TE}
theorem eZ(S:X.A.units+1<cLine)(O:PE X o td)(hi:PE X i ty)(hs:AH i):PE X (.Subscript o i pos) (Vq td ty):=by intro pins s σ H Q I h;refine NY PySem.F.slot_dict_getitem.lookup hs<|bR (O pins s σ H _ I h) λu s1⟨x,H1,J,Y,U⟩=>bR (hi pins s1 σ H1 _ J U) λiv s2 j=>?_;obtain⟨y,H2,B,ry,a,v,ex,g,W⟩:=j;subst ex;obtain rfl:u=Value.ref a:=Y;exact⟨Vp B g,Vm S B g ry λw' s3 L q=>⟨v,H2,L,q,W⟩⟩
theorem BZ(O:X.A.units+1<cLine)(hi:PE X i ty)(L:PE X o td):PC X .In i o (Jo ty td):=by intro pins s σ H Q I h;refine bR (hi pins s σ H _ I h) λiv s1⟨y,H1,q,ry,U⟩=>bR (L pins s1 σ H1 _ q U) λu s2 j=>?_;obtain⟨x,H2,B,Y,a,S,ex,g,W⟩:=j;subst ex;obtain rfl:u=Value.ref a:=Y;exact Jl O B g ry λs3 J=>⟨.bl S.isSome,H2,J,Z,W⟩
theorem Gm(O:X.A.units+1<cLine)(hi:PE X i ty)(L:PE X o td):PC X .NotIn i o (Vr ty td):=by intro pins s σ H Q I h;refine bR (hi pins s σ H _ I h) λiv s1⟨y,H1,q,ry,U⟩=>bR (L pins s1 σ H1 _ q U) λu s2 j=>?_;obtain⟨x,H2,B,Y,a,S,ex,g,W⟩:=j;subst ex;obtain rfl:u=Value.ref a:=Y;exact Vn O B g ry λs3 J=>⟨.bl<|!S.isSome,H2,J,Z,W⟩
theorem mQ(U:X.A.units+1<cLine)(S:PE X o td)(hi:PE X i ty)(W:PE X value tv)(hs:swapsWith value (some<|.Subscript o i pos') pos.line 106=pure 94):PS X (.Assign [.Subscript o i pos'] value pos) (Vs td ty tv):=by intro pins s σ H D I h;refine wpAny_Assign_Subscript (bR (W pins s σ H _ I h) λr s1⟨v,H1,B,rv,Y⟩=>bR (S pins s1 σ H1 _ B Y) λu s2⟨x,H2,J,rx,q2⟩=>bR (hi pins s2 σ H2 _ J q2) λiv s3 j=>?_) hs;obtain⟨y,H3,L,ry,a,q,ex,g,q3⟩:=j;subst ex;obtain rfl:u=Value.ref a:=rx;exact Vo U L g ry rv λs4 O=>⟨σ,q,O,q3⟩
end
theorem Vt(h:Heap)(j:sysModules<123):bQ P w H (h.push {cls:=.type "dict",data:=.dict #[]}) 123 (.dK []):=⟨fj _,gI.mpr<|aG<|aS j,[],.nil,Heap.DictOf.new h⟩
theorem Vu(h:Heap)(j:sysModules<123):bQ P w H (h.push {cls:=.type "dict",data:=.dict #[]}) 123 (.dT []):=⟨fj _,gI.mpr<|aG<|aS j,[],.nil,_,#[],0,aV _ Z,⟨Z,Z,Z⟩,Z,Z,iK⟩
def Vv:TE:=λ_ H Q=>∀p,H p=none->Q 101 (upd H p<|.dK [])
def Vw:TE:=λ_ H Q=>∀p,H p=none->Q 101 (upd H p<|.dT [])
section
variable{X:Cx}{pos:Pos}
theorem oR:PE X (.Dict [] [] pos) Vv:=λpins s σ H Q I h=>wpAny_Dict_empty ⟨.ref 19,_,I.laid (a:=19) (o:=.dK []) (t':=124) (λ_ _ q=>aX _ q) (aB _)<|Vt 91 I.big,Z,h _<|I.bG.fresh<|aB _⟩
theorem Vx:PE X (.Dict [] [] pos) Vw:=λpins s σ H Q I h=>wpAny_Dict_empty ⟨.ref 19,_,I.laid (a:=19) (o:=.dT []) (t':=124) (λ_ _ q=>aX _ q) (aB _)<|Vu 91 I.big,Z,h _<|I.bG.fresh<|aB _⟩
end
structure M2 (X:Cx) (o:Expr) (m:Str) (apos:Pos) (e f:Expr) (cD:Pos):Prop where
  base:attributeBase o m X.env (eval o X.env)=eval o X.env
  NZ:((backTo cD (starEach [e,f] X.env)).all (fun x=>!x.1)&&(backToKw cD (keywordEach [] X.env)).all (fun x=>x.1.isSome)
    && decide (([e,f]:List Expr).length+([]:List Keyword).length+(if ([]:List Keyword).isEmpty then 0 else 1)<30))=true
  line:(apos.endLine == cD.line)=true
  trees:backTo cD (starEach [e,f] X.env) = [(false,eval e X.env),(false,eval f X.env)]
def Jp(H:Hp)(a:ai):Prop:=(∃kvs,Rd H a (.dK kvs))\/∃kvs,Rd H a (.dT kvs)
theorem N1{σ:St}(I:55)(d:Jp H a):s.TypeIs 98 "dict"/\(∀b,Value.ref a=.ref b->∃ob,104=some ob/\ob.dict=none)/\(a==sysModules)=94:=by rcases d with⟨kvs,e⟩|⟨kvs,e⟩;{obtain⟨_,j,B,_,dd⟩:=vN I.bG e;refine⟨dd.typeIs,λb q=>?_,j⟩;cases q;obtain⟨ob,_,_,h1,h2,_⟩:=dd;exact⟨ob,h1,h2.2.1⟩};{obtain⟨_,j,xs,_,dd⟩:=AG I.bG e;refine⟨dd.typeIs,λb q=>?_,j⟩;cases q;obtain⟨ob,_,_,h1,h2,_⟩:=dd;exact⟨ob,h1,h2.2.1⟩}
section
variable{X:Cx}{pins:bA}{σ:St}{H:Hp}{s:aF}{a:ai}{y d:V}{u r:au}{o:Option V}{A:Around}{E:aP}
theorem Vy(U:A.units+1<cLine)(I:55)(g:bL H a y o)(L:RelV y u)(J:RelV d r)(h:∀O s',Inv X pins σ H s'->RelV (o.getD d) O->Q O s'):wpAny 83 A (call (.builtin "dict.get") [98,u,r]) Q E s:=by rcases g with⟨kvs,k,e,q,l⟩|⟨kvs,k,b,e,q,S,l⟩;{subst q;obtain⟨z,B,W,j,dd⟩:=vN I.bG e;refine call_meetsIn PySem.F.slot_dict_get dd.typeIs PySem.F.entry_dict_get (PySem.F.args_dict_get_3 _ _ _) (meets_dict_get_default (oA 126 X.w) a (xV L) B r) ⟨_,dd.mapOf,h _ _ (I.tok _) ?_⟩;rw[l];exact(j.val k).getD J};{subst q;cases(show u=Value.ref b from L);obtain⟨z,B,xs,j,dd⟩:=AG I.bG e;refine call_meetsIn PySem.F.slot_dict_get dd.typeIs PySem.F.entry_dict_get (PySem.F.args_dict_get_3 _ _ _) (meetsH_dict_get_default (tupleKind<|oA 126 X.w) a b B r) ⟨nG U,k,xs,BY I.bG S,dd,h _ _ (I.tok _) ?_⟩;rw[l];exact(j.val k).getD J}
end
def Vz(td ty tx:TE):TE:=λσ H Q=>td σ H λx H1=>∃a,x=98/\Jp H1 a/\ty σ H1 λy H2=>tx σ H2 λz j=>∃o,bL j a y o/\Q (o.getD z) j
section
variable{X:Cx}{o e f:Expr}{apos cD:Pos}{td ty tx:TE}
theorem VA(hu:X.A.units+1<cLine)(Y:PE X o td)(U:PE X e ty)(W:PE X f tx)(m:M2 X o "get" apos e f cD):PE X (.Call (.Attribute o "get" apos) [e,f] [] cD) (Vz td ty tx):=by intro pins s σ H Q I h;refine wpAny_Call_method m.base m.NZ m.line PySem.F.plainAttrs_dict PySem.F.slot_dict_get PySem.F.type_dict_get<|bR (Y pins s σ H _ I h) λu s1 j=>?_;obtain⟨x,H1,B,rx,a,ex,d,q1⟩:=j;subst ex;obtain rfl:u=Value.ref a:=rx;obtain⟨t1,t2,_⟩:=N1 B d;exists t1,t2;rw[m.trees];refine ny Z<|nD<|nF<|bR (U pins s1 σ H1 _ B q1) λiv s2⟨y,H2,L,ry,q2⟩=>nF (bR (W pins s2 σ H2 _ L q2) λfv s3⟨z,J,O,rz,ov,g,q3⟩=>Calls.spliced_nil ?_);exact Vy hu O g ry rz λw' s4 S q=>⟨_,J,S,q,q3⟩
end
end L2
namespace N2
open PySem PySem.W PySem.Calls PyProof.Rows
theorem VB:∀j vs,WellAll P h vs (j.map WData.int)->IntsAre vs j:=by intro j;induction j with|nil=>intro vs w;rw[kB]at w;cases w;exact .nil|cons n j q=>intro vs w;rw[b7]at w;cases w with|cons a b=>cases a;exact .cons _ _<|q _ b
theorem VC{l:OpenLaw}(hn:l.most=some n)(B:l.row.toRowW.claim.pre args=true)(Y:WellAll P h O args):∃a vs j,O=[Value.ref a]/\args=[WData.list (j.map WData.int)]/\h.get? a=some {cls:=.type 115,data:=.seq vs.toArray}/\IntsAre vs j/\j.length<=n:=by have W:WShape.hasAll [] args [.list .int]=true:=(pre_splitW B).1;have hc:l.pre.holds [] {args:=args}=true:=(pre_splitW B).2;obtain⟨d,r,rfl,h1,h2⟩:=hasAllW_cons W;obtain rfl:=hasAllW_nil h2;obtain⟨xs,rfl,h3⟩:=hasW_list h1;obtain⟨j,rfl⟩:=items_int h3;(have L:j.length<=n:=by unfold OpenLaw.pre at hc;(have S:(WTm.not<|.lt (.lit<|.int (n:Int))<|.len<|.arg 0).holds [] {args:=[.list (j.map .int)]}=true:=by have S:=(holds_andW hc).1;rw[hn]at S;exact S);have U:=condW_of S (w_not<|w_lt w_lit<|w_len_list<|w_arg Z);rw[ay]at U;refine Nat.le_of_not_lt λq=>?_;(have q':(n:Int)<((j.length:Nat):Int):=by lia);first|rw[aO q']at U;exact absurd U 82|simp at U;lia);cases Y with|cons w1 w2=>cases w2;cases w1 with|list ho J=>exact⟨_,_,j,Z,Z,ho,VB j _ J,L⟩
theorem VD(l:OpenLaw)args:l.row.toRowW.claim.post args (.bool true) args=true:=postW_of (r:=l.row.toRowW) (X:=(true==true)) (show WShape.has [] (.bool true) .bool=true by first|rfl|walk|simp[WShape.has,WShape.arms,WShape.armsAll]) (show(WTm.eq .res<|.lit<|.bool true).value [] {args:=args,res:=some (.bool true),after:=args}=some (.bool<|true==true)from w_eq_bool (w_res Z) w_lit) Z
theorem qH{l:OpenLaw}(hn:l.most=some n)(VE:d.params.defaults=[])(call:∀w dB j mg mb O o pm cd B a vs ns,Ground q L [] XP w dB mg mb j.heap->YP w j.heap->j.heap.get? O=85->o.data=.func (docDef d.name d.params d.body d.scope pm cd B)->j.heap.CodeRec cd d.name->mg d.name=some (.ref O)->j.heap.get? a=some {cls:=.type 115,data:=.seq vs.toArray}->IntsAre vs ns->ns.length<=n->j.gens=#[]->codeAny (model l.prog w) callerA (.call (.ref O) ⟨[98],[]⟩) (λr s'=>r=.ok (.ret<|.bool true)/\OldK j.heap s'.heap/\s'.os=j.os/\AllBare s'.gens) j):WalkO q L XP YP l.row.toRowW d [] (λf vs=>PySem.call f vs):=by intro w dB j mg mb G Y O o pm cd B dV kV ho hd C8 hD Jq hg args vals as W VF hrd VG AI;obtain rfl:dV=.none:=Dflts.none hD VE;obtain rfl:kV=.none:=Dflts.noKw hD;obtain⟨a,vs,ns,rfl,rfl,U,J,S⟩:=VC hn W VG;refine enter_call<|fH (call w dB j mg mb O o pm cd B a vs ns G Y ho (fd_plain hd) C8 Jq U J S hg) λr s' hq=>?_;obtain⟨rfl,h2,h3,h4⟩:=hq;exact⟨.inl ⟨.bool true,.bool true,[],Z,λ_=>Z,.bool true,VD l _,λ_=>⟨List.Pairwise.nil,λ_ hm=>(nomatch hm)⟩⟩,h2,h3,h4⟩
end N2
namespace L2
open PySem PySem.Spec PyProof.Rows
theorem N3:∀{vs}{j},IntsAre vs j->Vals (j.map V.int) vs|_,_,.nil=>.nil|_,_,.cons n t h=>.cons ⟨t,Z⟩ (N3 h)
def xW(H:Hp):Prop:=∀b,H b=none\/∃o xs,H b=some (.fL o<|.lst xs)
theorem VH{K:aC}(KX:K.In j.heap)(N4:j.heap.Ns mainGlobals mg)(J:j.heap.Ns builtinsNs mb)(VI:∀x:Str,x≠"__name__"->mb x=bootBuiltins x)(Jr:j.heap.NoLimit)(hg:j.gens=#[])(ha:j.heap.get? a=some {cls:=.type 115,data:=.seq vs.toArray})(hi:IntsAre vs ns)(hl:ns.length<=89)(hr:cI k callerA)(F:∀base,K.In base->base.Ns mainGlobals mg->kD P w K mg base CX k fa fd [x] sp)(S:∀s u,BindsTo s fd ⟨[u],[]⟩ [(x,u)])(BX:∀H,xW H->aH K H a (ns.map V.int)->sp [98] H (λv _=>v=.bl true) λ_ _ _=>False)(VJ:∀H e s',CX [] H j (λ_ _ _=>False) e s'->False):codeAny (model P w) callerA (.call (.ref fa) ⟨[98],[]⟩) (λr s'=>r=.ok (.ret<|.bool true)/\OldK j.heap s'.heap/\s'.os=j.os/\AllBare s'.gens) j:=by have rv:=N3 hi;have Js:=hi.length;(have O:∀H:Hp,xW H->aH K H a (ns.map V.int)->j4 P w H j.heap->(∀b,H b≠none->b=a)->(H a≠none->K.lookup a=none)->codeAny (model P w) callerA (.call (.ref fa) ⟨[98],[]⟩) (λr s'=>r=.ok (.ret<|.bool true)/\OldK j.heap s'.heap/\s'.os=j.os/\AllBare s'.gens) j:=by intro H hO hS bG hA hK;have B:∀{b:ai}{o:Obj},j.heap.get? b=85->H b=none->(pX j.heap H).get? b=85:=λe n=>TV e n;(have VL:∀{b:ai}{o:Obj}{es:Array DictEntry}{W:Nat},j.heap.get? b=85->o.data=.dict es W->H b=none:=λ{b o es W}e d=>by cases q:H b with|none=>rfl|some u=>have e':b=a:=hA b (by rw[q];simp);subst e';rw[ha]at e;cases e;have d':Data.seq vs.toArray _=Data.dict es W:=d;cases d');have L:∀{b:ai}{m:Str->Option au},j.heap.Ns b m->(pX j.heap H).Ns b m:=λ{b m}⟨o,es,W,e,d,r⟩=>⟨o,es,W,B e<|VL e d,d,r⟩;have Y:K.In (pX j.heap H):=λb o e=>B (KX b o e) (by cases q:H b with|none=>rfl|some u=>have e':b=a:=hA b (by rw[q];simp);subst e';rw[hK (by rw[q];simp)]at e;cases e);have hM:Mod K mg (pX j.heap H):=⟨Y,L N4,⟨mb,L J,VI⟩,let⟨mc,h1,h2⟩:=Jr;⟨mc,L h1,h2⟩⟩;have e0:rP P w K mg (pX j.heap H) callerA [] j H:=⟨Z,hM,λb o e=>TX e,Nat.le_of_eq<|TU _ _,trivial,λb J=>absurd (show b∈([]:List ai)from J) 81,bG,.of_eq hg⟩;refine fH ((F _ Y<|L N4).run callerA [] j H ⟨[98],[]⟩ [98] [98] _ _ hr e0 (S j 98) (.cons Z .nil)<|BX H hO hS) λr s' h=>?_;cases r with|error e=>exact(VJ H e s' h).elim|ok fl=>cases fl with|next=>exact False.elim h|brk=>exact False.elim h|cont=>exact False.elim h|ret u=>obtain⟨v,H',os,U,un,Jt,r',q⟩:=h;have q':v=.bl true:=q;subst q';obtain rfl:u=Value.bool true:=r';refine⟨Z,OldK.of_keep λb o e=>?_,os,U⟩;cases q:H b with|none=>exact un.keep b o e q (by intro z;exact absurd (show b∈([]:List ai)from z) 81) 81|some u=>rcases hO b with z|⟨ob,xs,z⟩;{rw[q]at z;cases z};{have z2:=un.lZ b ob _ z;obtain⟨e1,_⟩:=bG b _ z;obtain⟨e2,_⟩:=Jt b _ z2;rw[e]at e1;cases e1;exact e2});cases hk:K.lookup a with|some o=>have e:=KX a o hk;rw[ha]at e;cases e;refine O (λ_=>none) (λ_=>.inl Z) (.inr ⟨_,vs.toArray,_,hk,Z,Z,Z,by rw[cg,Js];exact hl,by simpa using rv⟩) (λb u z=>by have z':(none:Option HO)=some u:=z;cases z') (λb z=>absurd Z z) λz=>absurd Z z|none=>refine O (λb=>if b=a then some (.fL {cls:=.type 115,data:=.seq vs.toArray}<|.lst<|ns.map V.int)else none) (λb=>?_) (.inl<|.inr ⟨{cls:=.type 115,data:=.seq vs.toArray},ak Z⟩) (λb u z=>?_) (λb z=>?_) λ_=>hk;{by_cases J:b=a;{exact .inr ⟨_,_,ak J⟩};{exact .inl<|ao J}};{by_cases J:b=a;{have z':=(ak J).symm.trans z;cases z';subst J;exact⟨ha,by rw[ay];exact hl,vs,_,rv,ha⟩};{have z':=(ao J).symm.trans z;cases z'}};{by_cases J:b=a;{exact J};{exact absurd (ao J) z}}
abbrev N5{K:aC}{h:Heap}(_:K.In h):aC:=K
theorem VM{l:PySem.W.OpenLaw}{K:Params->aC}{CX:World->vK}{sp:World->Sp}(hn:l.most=some n)(xX:n<=89)(W:d.params.defaults=[])(hr:cI k callerA)(hY:∀w h,YP w h->(K w.params).In h)(F:∀w mg O h,(K w.params).In h->h.Ns mainGlobals mg->mg d.name=some (.ref O)->∃fd,(∀s u,BindsTo s fd ⟨[u],[]⟩ [(x,u)])/\∀base,(K w.params).In base->base.Ns mainGlobals mg->kD l.prog w (K w.params) mg base (CX w) k O fd [x] (sp w))(BX:∀w H a(S:List Int),S.length<=n->xW H->aH (K w.params) H a (S.map V.int)->sp w [98] H (λv _=>v=.bl true) λ_ _ _=>False)(U:∀w H s e s',CX w [] H s (λ_ _ _=>False) e s'->False):PySem.W.WalkO q loose XP YP l.row.toRowW d [] (λf vs=>PySem.call f vs):=by refine N2.qH hn W λw dB L mg mb O o pm cd doc a vs S G Y ho hd C8 Jq J B j hg=>?_;have KX:=hY w _ Y;obtain⟨fd,hb,hF⟩:=F w mg O _ KX G.T.g Jq;exact VH KX G.T.g G.T.b G.T.builtins G.T.nolimit hg J B (bF j xX) hr hF hb (λH hO hS=>BX w H a S j hO hS) λH e s'=>U w H L e s'
theorem vO{l:PySem.W.OpenLaw}{K:Params->aC}{sp:aC->Sp}(hn:l.most=some n)(L:n<=89)(J:d.params.defaults=[])(hr:cI k callerA)(hY:∀w h,W w h->(K w.params).In h)(F:∀w mg U h,(K w.params).In h->h.Ns mainGlobals mg->mg d.name=some (.ref U)->∃fd,(∀s u,BindsTo s fd ⟨[u],[]⟩ [(x,u)])/\∀base,(K w.params).In base->base.Ns mainGlobals mg->kD l.prog w (K w.params) mg base CX k U fd [x] (sp<|K w.params))(O:∀K H a(j:List Int),j.length<=n->xW H->aH K H a (j.map V.int)->sp K [98] H (λv _=>v=.bl true) λ_ _ _=>False)(B:∀H s e s',CX [] H s (λ_ _ _=>False) e s'->False):PySem.W.WalkO q S XP W l.row.toRowW d [] (λf vs=>PySem.call f vs):=VM (K:=K) (CX:=λ_=>CX) (sp:=λw=>sp (K w.params)) hn L J hr hY F (λw H a j h1 h2 Y=>O (K w.params) H a j h1 h2 Y) λ_ H s e s'=>B H s e s'
def oS(s:Stmt)(j:Nat):Stmt:=match s with|.ClassDef _ _ _ body _ _ _ _ _ _ _=>body.getD j (.Pass ⟨0,0,0,0⟩)|_=>.Pass ⟨0,0,0,0⟩
def AJ(s:Stmt):Arguments:=match s with|.FunctionDef _ a _ _ _ _ _ _ _ _=>a|_=>{posonlyargs:=[],args:=[],vararg:=none,kwonlyargs:=[],kw_defaults:=[],kwarg:=none,defaults:=[]}
def vP(s:Stmt):List Stmt:=match s with|.FunctionDef _ _ b _ _ _ _ _ _ _=>b|_=>[]
def zp(s:Stmt):Scope:=match s with|.FunctionDef _ _ _ _ _ _ j _ _ _=>j|_=>{kind:=.function,names:=[],isGenerator:=false,isCoroutine:=false}
abbrev zE:vK:=λ_ _ _ _ _ _=>False
abbrev E0:XK:=λ_ _ _=>False
theorem Gn:xR zE X E0:=λ_ _ _ _ _ _ _ h=>h.elim
structure Dr (K:aC) (x qual:Str) (st:Stmt) (f:ai) (fd:FuncData):Prop where
  ex:∃(oc:au) (od:Option ai) (kV doc pm:au) (an:Option ai) (fU ct:au) (BW:Array (Option au)),
    fd=PySem.W.fnOf x qual (AJ st) (vP st) (zp st) .none kV doc pm an fU ct/\K.lookup f=some ⟨oc,od,.func fd,BW⟩/\PySem.W.codeIn K fU qual=true
  kp:PySem.W.keepIn K (.ref f)=true
section
variable{P:bD}{w:World}{K:aC}{mg:Str->Option au}{base:Heap}
theorem Dr.ok{st:Stmt}(F:Dr K x B st f fd)(S:aA N ps (zp st))(U:∀vs H Q E,sp vs H Q E->vs.length=127)(J:∀j A outer s H vs Q E,cI k (A.deeper<|envOfC B (zp st) 19 f j)->sp vs H Q E->∃t,qo (oE zE P w K mg base N B (zp st) f j A outer s H E).BN (vP st) t/\t {nx:=λ_ H'=>Q .cz H',rt:=Q} (start N vs) H):kD P w K mg base zE (k+1) f fd ps sp:=by obtain⟨oc,od,kV,W,pm,an,j,ct,BW,rfl,lk,L⟩:=F.ex;refine Nz lk L S U λA outer s H vs Q E Y O=>?_;obtain⟨t,h,q⟩:=J j A outer s H vs Q E Y O;exact⟨t,h.BN,q⟩
theorem N6{st:Stmt}{kV B pm q ct:au}(l:K.lookup f=some ⟨O,od,.func<|PySem.W.fnOf x j (AJ st) (vP st) (zp st) .none kV B pm L q ct,J⟩)(c:PySem.W.codeIn K q j=true)(k:PySem.W.keepIn K (.ref f)=true):Dr K x j st f (PySem.W.fnOf x j (AJ st) (vP st) (zp st) .none kV B pm L q ct):=⟨⟨O,od,kV,B,pm,L,q,ct,J,Z,l,c⟩,k⟩
end
theorem j5(j:cI k A):A.units+1<cLine:=kg (Nat.add_le_add_left (82:1<=64) _) j.units
theorem jC(h:n<=1000):n<89:=kg h 82
section
variable{X:Cx}
theorem pv(i:Nat){x:Str}{pos:Pos}(q:X.N[i]?=some x:=by rfl)(J:Io X.env.scope x:=by first|exact Or.inl Z|exact Or.inr<|Or.inl Z|exact Or.inr<|Or.inr Z)(B:(x==("__debug__":Str))=94:=by walk)(j:(x==("__classdict__":Str))=94:=by walk):PE X (.Name x pos) (vJ i):=T4 q J B j
end
theorem bh{A B:Prop}(h:B):if 94=true then A else B:=by rw[ao bC];exact h
theorem gi{A B:Prop}(h:A):if true=true then A else B:=by rw[ak Z];exact h
theorem bH{c A B:Prop}[Decidable c](h1:c->A)(h2:¬c->B):if c then A else B:=by by_cases h:c;{rw[ak h];exact h1 h};{rw[ao h];exact h2 h}
def aj(H H':Hp):Prop:=∀b o,H b=85->H' b=85
theorem aj.refl H:aj H H:=λ_ _ h=>h
theorem aj.trans(a:aj H H1)(b:aj H1 H2):aj H H2:=λc o h=>b c o (a c o h)
theorem aj.free(e:aj H H')(h:H' l=Option.none):H l=Option.none:=by cases q:H l with|none=>rfl|some o=>rw[e l o q]at h;cases h
theorem aj.seq{K:aC}(e:aj H H')(h:aH K H a xs):aH K H' a xs:=by rcases h with(h|⟨o,h⟩)|h;{exact .inl<|.inl<|e _ _ h};{exact .inl<|.inr ⟨o,e _ _ h⟩};{exact .inr h}
section
variable{X:Cx}
theorem Ju:jH X (.builtin "len") (λxs H Q=>∃a kvs,xs=[V.ref a]/\H a=some (.dK kvs)/\Q (.int 113) H):=by intro pins s σ H xs us Q I r h;obtain⟨a,kvs,rfl,B,q⟩:=h;obtain⟨u,rfl,J⟩:=kO r;cases J;exact NX I (.inl B) λt s' j=>⟨.int 113,H,j,⟨t,Z⟩,q⟩
end
def uf(j:List (Str×ai)):List (Str×NameKind)->List (Str×ai)->List (Str×ai)|[],q=>q|(n,k)::r,q=>uf j r (if(k==NameKind.free)=true then(match j.lookup n with|some c=>(n,c)::q|none=>q)else q)
theorem VN(h:∀x∈scope.names,x.2=.free->∃c,env.cells.lookup x.1=some c):closureFor scope env=pure (uf env.cells scope.names []):=by unfold closureFor;(have U:∀(j:List (Str×NameKind))(B:List (Str×ai)),(∀x∈j,x.2=.free->∃c,env.cells.lookup x.1=some c)->(forIn j B (λ(x:Str×NameKind)(r:List (Str×ai))=>if(x.2==NameKind.free)=true then(do let a←cellOf env x.1;pure (ForInStep.yield<|(x.1,a)::r))else pure (ForInStep.yield r)):Sem (List<|Str×ai))=pure (uf env.cells j B):=by intro j;induction j with|nil=>intro B _;rfl|cons x r O=>intro B J;obtain⟨n,k⟩:=x;have L:∀y∈r,y.2=.free->∃c,env.cells.lookup y.1=some c:=λy Y=>J y (aZ _ Y);rw[ju];cases e:(k==NameKind.free)with|true=>obtain⟨c,W⟩:=J (n,k) c8 (by simpa using e);have q:env.cells.lookup n=some c:=W;(have S:cellOf env n=pure c:=by unfold cellOf;rw[q]);show(_>>=_)=pure (uf env.cells r<|if(k==NameKind.free)=true then _ else _);rw[e,q];simp only[gW,S,pure_bind];exact O _ L|false=>show(_>>=_)=pure (uf env.cells r<|if(k==NameKind.free)=true then _ else _);rw[e];simp only[jm,fK,pure_bind];exact O _ L);exact(bw (·>>=λr=>pure r)<|U scope.names [] h).trans<|pure_bind _ _
theorem B0{j:Type}{c:j}{r:List (Str×j)}(h:y=n):((n,c)::r).lookup y=some c:=by subst h;simp
theorem Ds{j:Type}{c:j}{r:List (Str×j)}(h:¬y=n):((n,c)::r).lookup y=r.lookup y:=by rw[pP,gI.mpr h]
theorem N7{j:List (Str×ai)}{n:Str}{k:NameKind}{q:List (Str×ai)}(hs:∀y d,q.lookup y=some d->j.lookup y=some d):∀y d,(if(k==NameKind.free)=true then(match j.lookup n with|some c=>(n,c)::q|none=>q)else q).lookup y=some d->j.lookup y=some d:=by intro y d h;split at h;{split at h;{rename_i c J;by_cases B:y=n;{rw[B0 B]at h;rw[B,J];exact h};{rw[Ds B]at h;exact hs y d h}};{exact hs y d h}};{exact hs y d h}
theorem Jv(j:List (Str×ai)):∀(names:List (Str×NameKind))(q:List (Str×ai)),(∀y d,q.lookup y=some d->j.lookup y=some d)->∀y d,(uf j names q).lookup y=some d->j.lookup y=some d|[],_,hs,y,d,h=>hs y d h|(n,k)::r,q,hs,y,d,h=>Jv j r _ (N7 hs) y d h
theorem N8(j:List (Str×ai)){x:Str}{c:ai}(B:j.lookup x=some c):∀(names:List (Str×NameKind))(q:List (Str×ai)),(∀y d,q.lookup y=some d->j.lookup y=some d)->((x,NameKind.free)∈names\/q.lookup x=some c)->(uf j names q).lookup x=some c|[],_,_,h=>by rcases h with h|h;{cases h};{exact h}|(n,k)::r,q,hs,h=>by refine N8 j B r _ (N7 hs) ?_;by_cases O:(x,NameKind.free)=(n,k);{cases O;right;rw[ak 97,B];exact B0 Z};{rcases h with h|h;{rcases aM.mp h with h|h;{exact absurd h O};{exact .inl h}};{right;split;{split;{rename_i c' J;by_cases L:x=n;{rw[B0 L];rw[L,J]at B;exact B};{rw[Ds L];exact h}};{exact h}};{exact h}}}
theorem Jw(env:Env)(x:Str):∀names:List (Str×NameKind),(names.map λ(n,k)=>if(k==NameKind.free&&env.scope.kind==.function&&env.kindOf n==some .cell)then(n,NameKind.cell)else(n,k)).lookup x=(names.lookup x).map λk=>if(k==NameKind.free&&env.scope.kind==.function&&env.kindOf x==some .cell)then NameKind.cell else k|[]=>rfl|(n,k)::r=>by have B:=Jw env x r;rw[b7];by_cases q:x=n;{subst q;rw[B0 Z];show List.lookup x ((if(k==NameKind.free&&env.scope.kind==.function&&env.kindOf x==some .cell)=true then(x,NameKind.cell)else(x,k))::_)=some (if(k==NameKind.free&&env.scope.kind==.function&&env.kindOf x==some .cell)=true then NameKind.cell else k);by_cases j:(k==NameKind.free&&env.scope.kind==.function&&env.kindOf x==some .cell)=true;{rw[ak j,ak j];exact B0 Z};{rw[ao j,ao j];exact B0 Z}};{rw[Ds q,←B];show List.lookup x ((if(k==NameKind.free&&env.scope.kind==.function&&env.kindOf n==some .cell)=true then(n,NameKind.cell)else(n,k))::_)=_;by_cases j:(k==NameKind.free&&env.scope.kind==.function&&env.kindOf n==some .cell)=true;{rw[ak j];exact Ds q};{rw[ao j];exact Ds q}}
theorem VO(h:scope.names.lookup x=some .free):(relabel scope env).names.lookup x=some .cell\/(relabel scope env).names.lookup x=some .free:=by have e:=Jw env x scope.names;rw[h]at e;have j:(relabel scope env).names.lookup x=some (if(NameKind.free==NameKind.free&&env.scope.kind==.function&&env.kindOf x==some .cell)=true then NameKind.cell else NameKind.free):=e;rw[j];split;{exact .inl Z};{exact .inr Z}
theorem VP(B:∀y∈scope.names,y.2≠.cell)(h:(relabel scope env).names.lookup x=some .cell\/(relabel scope env).names.lookup x=some .free):(x,NameKind.free)∈scope.names:=by have e:=Jw env x scope.names;have j:(relabel scope env).names.lookup x=_:=e;cases q:scope.names.lookup x with|none=>rw[q]at j;rw[j]at h;rcases h with h|h<;>cases h|some k=>rw[q]at j;have m:=PySem.mem_of_lookup q;cases k with|free=>exact m|cell=>exact absurd Z<|B _ m|_=>rw[j]at h;rcases h with h|h<;>cases h
structure fM (scope mR:Scope) (cap:List Str):Prop where
  kind:scope.kind = .function
  vQ:∀y∈scope.names,y.2≠.cell
  loc:∀y∈scope.names,y.2 = .local->scope.names.lookup y.1=some .local
  free:∀y∈scope.names,y.2 = .free->mR.names.lookup y.1=some .cell\/mR.names.lookup y.1=some .free
  cap:∀x∈cap,scope.names.lookup x=some .free
def qq (X:Cx) (N:List Str) (scope:Scope) (C:ai) (s:aF) (H:Hp) (ex:List ai):Cx where
  prog:=X.prog
  w:=X.w
  K:=X.K
  mg:=X.mg
  base:=X.base
  A:=X.A
  N:=N
  dB:=s
  qC:=H
  env:=compEnvC scope (uf X.env.cells scope.names []) C X.env
  outer:=X.stack
  stack:=X.stack
  ex:=ex
  fn:=fun _=>false
  calm:=X.calm
  pn:=[]
  xe:=fun _ _=>False
def ug(own:88)(ix:List Nat)(σ:St):St:=own.map (λ_=>none)++ix.map λi=>(σ[i]?).join
theorem N9{σ:St}(I:55)(S:fM scope X.env.scope cap):closureFor scope 106=pure (uf X.env.cells scope.names []):=VN λx q j=>I.ok.has x.1 (S.free x q j)
theorem VQ{σ:St}{fp:List ai}(I:55)(S:fM scope X.env.scope cap)(lz:ix.map (λi=>X.N[i]?)=cap.map some)(hf:∀b∈fp,gF X pins H b)(rR:∀b∈fp,b<19)(hn:W.Ns 19 m)(hk:∀b o,104=85->W.get? b=85):Inv (qq X (own++cap) scope 19 s H fp) [] (ug own ix σ) H {s with heap:=W,toks:=tk}:=by have J:∀y d,(uf X.env.cells scope.names []).lookup y=some d->X.env.cells.lookup y=some d:=Jv _ _ _ (λy d h=>by cases h);have has:∀y c,(y,NameKind.free)∈scope.names->X.env.cells.lookup y=some c->(uf X.env.cells scope.names []).lookup y=some c:=λy c hy hc=>N8 _ hc _ _ (λy d h=>by cases h) (.inl hy);(have hlen:ix.length=cap.length:=by have:=bw List.length lz;simpa using this);exists⟨I.mod,S.kind,I.ok.glob,I.ok.blt,aB _,λx y c L B=>I.ok.inj x y c (J _ _ L)<|J _ _ B,λx hx=>?_,λx c z=>(by cases z),I.ok.hd,I.ok.frames,.inl Z,λb Y=>⟨aS<|rR b Y,λx c e=>(hf b Y).2.2.2.2.1 x c<|J _ _ e⟩,I.bs,bF I.ok.vc I.sz,λb o e Y=>?_,λb Y z=>?_,I.stack,I.mV⟩,Z,I.bare,Un.kept hk,⟨m,hn,λi x v L B e3=>?_⟩,λx c e=>?_,I.bG.fresh<|aB _,λx c e=>I.fT x c<|J _ _ e,λp hp=>absurd (show p∈([]:bA)from hp) 81,I.bG.kept hk;{have m':=VP (env:=106) S.vQ hx;obtain⟨c,hc⟩:=I.ok.has x (S.free _ m' Z);exact⟨c,has x c m' hc⟩};{obtain⟨f0,f1,f2,f3,f4,f5⟩:=hf b Y;rcases f3 with z|z;{exact I.ok.qD b o e z};{exact absurd (dm (dm (aE e) I.ok.vc) z)<|eW _}};{obtain⟨f0,f1,f2,f3,f4,f5⟩:=hf b Y;rcases aM.mp (I.pY b z)with z|z;{exact f1 z};{exact f2 z}};{have L:(own++cap)[i]?=some x:=L;unfold ug at B;by_cases hi:i<own.length;{rw[lC (by simpa using hi),aT]at B;cases q:own[i]? with|none=>rw[q]at B;cases B|some y=>rw[q]at B;cases B};{rw[nj (by simpa using hi)]at L;rw[nj (by simpa using hi),ay,aT]at B;generalize i-own.length=j at L B;cases q:ix[j]? with|none=>rw[q]at B;cases B|some k=>rw[q]at B;have B:(σ[k]?).join=some v:=dR B;(have VR:σ[k]?=some (some v):=by cases q2:σ[k]? with|none=>rw[q2]at B;cases B|some o=>rw[q2]at B;exact bw some B);(have eN:X.N[k]?=some x:=by have:=bw (λl=>l[j]?) lz;simp only[aT,q,L,Option.map_some]at this;exact dR this);have iO:=S.cap x (bM L);have O:=PySem.mem_of_lookup iO;have U:=S.free _ O Z;obtain⟨m0,hn0,hl⟩:=I.loc;obtain⟨u,r,l⟩:=hl k x v eN VR (.inr U);rcases l with⟨kd,_⟩|⟨kd,c,e,z⟩;{have kd:X.env.scope.names.lookup x=some .local:=kd;rcases U with ho|ho<;>(have ho:X.env.scope.names.lookup x=_:=ho;rw[kd]at ho;cases ho)};{exact⟨u,r,.inr ⟨VO iO,c,has x c O e,z.keeps hk⟩⟩}}};{obtain⟨v,q⟩:=I.cell x c (J _ _ e);exact⟨v,q.keeps hk⟩};{show(ug own ix σ).length=(own++cap).length;unfold ug;simp[hlen]}
theorem VS{σ W:St}(I:55)(hf:∀b∈fp,gF X pins H b)(J:Inv (qq X N scope 19 s H fp) [] W H' s')(hs:Heap.SameBut 19 s'.heap h'):Inv X pins σ H' {s' with heap:=h'}:=by have U:∀b o,104=85->b≠19:=λb o e=>aS (aE e);have B:Un (jP X.stack) fp H H' 91 s'.heap:=J.base;refine I.sZ (s':={s' with heap:=h'}) (ch:=fp) J.os ⟨λb o e n L O=>?_,λb o e n L O=>?_,B.free,λb o e O=>?_,B.mK,B.lZ,B.mL⟩ (λb ob e=>?_) J.bare λb L=>?_;{exact(hs.2 b<|U b o e).trans<|B.keep b o e n L O};{obtain⟨sl,S⟩:=B.slot b o e n L O;exact⟨sl,(hs.2 b<|U b o e).trans S⟩};{obtain⟨o',S⟩:=B.there b o e O;exact⟨o',(hs.2 b<|U b o e).trans S⟩};{have Y:H' 19=none:=J.free;refine(J.bG b ob e).fC (λc w' j q=>(hs.2 c ?_).trans q) (λ_ q=>q) λ_ _ q=>q;rintro rfl;rcases j with j|j;{rw[←j,Y]at e;cases e};{rw[Y]at j;cases j}};{obtain⟨f0,f1,f2,f3,f4,f5⟩:=hf b L;exact⟨f3,f1,f4,f5⟩}
def Dt(X:Cx)(ifs:List Expr)(t:TT):Prop:=∀pins s(σ:St)H Q,55->t σ H Q->wpAny 83 X.A (forIn ifs true λc r=>if r=true then do let j←isTrue c 106 (eval c 106);pure (ForInStep.yield j)else pure (ForInStep.yield r)) (TP X pins σ Q) X.xe s
def qa:TT:=λ_ H Q=>Q true H
theorem xq:Dt X [] qa:=λ_ s σ H Q I h=>wpAny_tests_nil ⟨H,I,h⟩
theorem AK(h:PT X c t):Dt X [c] t:=λpins s σ H Q I j=>wpAny_tests_one (h pins s σ H Q I j)
theorem zev{prog:bD}{w:World}{A:Around}{R:Result->aF->Prop}{s:aF}{elt j iter:Expr}{ifs:List Expr}{scope:Scope}{pos:Pos}{it Y:au}{env:Env}(I:Nat->aF->Prop)(turn:∀n s,I n s->wpAny 28 A (pyNext it) (λr q=>match r with|none=>R (.ok .next) q|some v=>wpAny 28 A (letOwnedTupleGo j it v) (λ_ B=>wpAny 28 A (assign j env v) (λ_ S=>wpAny 28 A (forIn ifs true λc r=>if r=true then do let ok←isTrue c env (eval c env);pure (ForInStep.yield ok)else pure (ForInStep.yield r)) (λok J=>if ok=true then wpAny 28 A (eval elt env) (λx U=>wpAny 28 A (call (.builtin "list.append") [Y,x]) (λ_ W=>∃m,m<n/\I m W) (notedBy 28 A env λe s'=>R (.error e) s') U) (notedBy 28 A env λe s'=>R (.error e) s') J else∃m,m<n/\I m J) (notedBy 28 A env λe s'=>R (.error e) s') S) (notedBy 28 A env λe s'=>R (.error e) s') B) (notedBy 28 A env λe s'=>R (.error e) s') q) (notedBy 28 A env λe s'=>R (.error e) s') s)(n:Nat)(h:I n s):codeAny 28 A (.compLoop (.ListComp elt [⟨j,iter,ifs,0⟩] scope pos) 0 it Y env) R s:=by refine codeAny_loop Z I (λn s hI=>?_) n h;show wpAny _ A ((compTurn (.ListComp elt [⟨j,iter,ifs,0⟩] scope pos) 0 it Y env).onRaise λx=>do noteFrame x env;theTreesLotGoes x) _ _ s;refine wpAny_noted ?_;rw[compTurn_list];refine ah<|ku<|ah<|cT (turn n s hI) (λr q L=>?_) λ_ _ h'=>h';cases r with|none=>exact av L|some v=>refine ah<|cT L (λ_ B Du=>?_) λ_ _ h'=>h';refine ah<|cT Du (λ_ S Jx=>ah<|cT Jx (λok J O=>?_) λ_ _ h'=>h') λ_ _ h'=>h';cases ok with|false=>exact av ⟨Z,O⟩|true=>exact ah<|ah<|cT O (λx U Jy=>ah<|cT Jy (λ_ W Jz=>av<|av ⟨Z,Jz⟩) λ_ _ h'=>h') λ_ _ h'=>h'
def Dv(own:88)(ix:List Nat)(J:It)(g:TG)(tc:TT)(te:TE)(σ:St)(H1:Hp)(D:ai)(Q:VK):Prop:=∃W:Nat->Nat->St->99->Hp->Prop,(∃m,W 0 m (ug own ix σ) [] (upd H1 D<|.lst []))/\∀i m B ys H',W i m B ys H'->H' D=some (.lst ys)/\((J.stop i H'/\Q (.ref D) H')\/(J.go i H'/\121<89/\∀x H2,J.vf i H' x H2->g x B H2 λj S=>tc j S λb L=>if b=true then te j L λy O=>O D=some (.lst ys)/\∃q,q<m/\W (i+1) q j (ys++[y]) (upd O D<|.lst<|ys++[y])else L D=some (.lst ys)/\∃q,q<m/\W (i+1) q j ys L))
def Oa(own:88)(ix:List Nat)(wi:TI)(g:TG)(tc:TT)(te:TE):TE:=λσ H Q=>wi σ H λJ H1=>∀D,H1 D=none->Dv own ix J g tc te σ H1 D Q
section
variable{X:Cx}{tg iter elt:Expr}{ifs:List Expr}{scope:Scope}{pos:Pos}{own cap:88}{ix:List Nat}{wi:TI}{g:TG}{tc:TT}{te:TE}
theorem Ob{RR:au->ai->Result->aF->Prop}(hc:X.calm=true)(S:fM scope X.env.scope cap)(lz:ix.map (λi=>X.N[i]?)=cap.map some)(hg:∀C s H ex,PG (qq X (own++cap) scope C s H ex) tg g)(ht:∀C s H ex,Dt (qq X (own++cap) scope C s H ex) ifs tc)(he:∀C s H ex,PE (qq X (own++cap) scope C s H ex) elt te)(h:F0 X pins σ tg (λJ H1=>∀D,H1 D=none->Dv own ix J g tc te σ H1 D Q) Ga s)(hR:∀D C s' H' m,s'.heap.Ns C m->gF X pins H' C->(∀h',Heap.SameBut C s'.heap h'->Inv X pins σ H' {s' with heap:=h'})->Q (.ref D) H'->RR (.ref D) C (.ok .next) s'):wpAny 83 X.A (newList []) (λacc JA=>wpAny 83 X.A (newFunctionEnv scope X.env.globals (uf X.env.cells scope.names []) [] X.env.qual none .none<|some 106) (λDw vR=>codeAny 83 X.A (.compStart (.ListComp elt [⟨tg,iter,ifs,0⟩] scope pos) 0 Ga acc {Dw with scope:=relabel scope 106}) (RR acc Dw.locals) vR) E JA) E s:=by obtain⟨it,fp,tn,J,H2,rfl,I2,T,Gb,f2,q2⟩:=h;refine cQ<|wpAny_newFunctionEnv S.vQ (by intro y hy;simp at hy) (λxY U Y=>?_) S.kind;dsimp only at U Y⊢;have hD:H2 19=none:=I2.bG.fresh (aB _);obtain⟨W,⟨m0,w0⟩,turn⟩:=q2 19 hD;have I3:Inv X pins σ (upd H2 19<|.lst []) {s with heap:=s.heap.push {cls:=.type 115,data:=.seq ([]:List au).toArray}}:=I2.Dp (t':=124) (its:=[]) .nil (fj _);(have Oc:∀b∈fp,b<19:=λb B=>by obtain⟨o,e,_⟩:=T.obj 0 _ Gb b B;exact aE e);have f3:∀b∈fp,gF X pins (upd H2 19<|.lst []) b:=λb B=>⟨by rw[zi (aS<|Oc b B)];exact(f2 b B).1,(f2 b B).2⟩;generalize hH:s.heap.push {cls:=.type 115,data:=.seq ([]:List au).toArray}=O at I3 U Y⊢;(have sz:O.objs.size=19+1:=by rw[←hH,fh]);have up:∀b o,O.get? b=85->xY.get? b=85:=λb o e=>Y.extBut b o (aS<|aE e) (aX _ e);have old:∀b o,104=85->xY.get? b=85:=λb o e=>up b o (by rw[←hH];exact aX _ e);(have Od:∀b∈fp,b<({s with heap:=O}:aF).heap.objs.size:=λb B=>by show b<O.objs.size;rw[sz];exact jZ<|Oc b B);have Oe:tn 0 xY:=T.keep _ _ _ Gb λb _ o e=>old b o e;have AL:∀{H':Hp},(∀b∈fp,H' b=none)->∀b∈fp,gF (qq X (own++cap) scope O.objs.size {s with heap:=O} (upd H2 19<|.lst []) fp) [] H' b:=λhn b B=>⟨hn b B,aS<|Od b B,λz=>(aM.mp<|I3.pY b z).elim (f2 b B).2.1 (f2 b B).2.2.1,.inl B,λx c e=>(f2 b B).2.2.2.2.1 x c<|Jv _ _ _ (λy d h=>by cases h) _ _ e,λp hp=>absurd (show p∈([]:bA)from hp) 81⟩;(have loop:∀vR:aF,vR={s with heap:=xY,toks:=124+([]:List (Str×au)).length}->codeAny 83 X.A (.compLoop (.ListComp elt [⟨tg,iter,ifs,0⟩] scope pos) 0 (.ref it) (.ref 19)<|compEnvC scope (uf X.env.cells scope.names []) O.objs.size 106) (RR (.ref 19) O.objs.size) vR:=by rintro vR rfl;have I4:=VQ (own:=own) (fp:=fp) (tk:=124+([]:List (Str×au)).length) I3 S lz f3 Od U up;refine zev (λn s'=>∃i L ys H',Inv (qq X (own++cap) scope O.objs.size {s with heap:=O} (upd H2 19<|.lst []) fp) [] L H' s'/\tn i s'.heap/\(∀b∈fp,H' b=none)/\W i n L ys H') ?_ m0 ⟨0,_,[],_,I4,Oe,λb B=>(f3 b B).1,w0⟩;rintro n s5⟨i,Gp,ys,H5,I5,BS,Gd,w5⟩;obtain⟨hD5,Dy⟩:=turn i n Gp ys H5 w5;rcases Dy with⟨stop,q⟩|⟨go,hz,step⟩;{refine bR (T.done (qq X (own++cap) scope O.objs.size {s with heap:=O} (upd H2 19<|.lst []) fp) Z Z Z hc i [] s5 Gp H5 _ I5 (AL Gd) BS stop) λr s6 j=>?_;obtain⟨hr,I6⟩:=j;subst hr;obtain⟨m6,VT,_⟩:=I6.loc;exact hR _ _ s6 H5 m6 VT (I3.mP (aB _) I6.free) (λh' hs=>VS I3 f3 I6 hs) q};{refine bR (T.item (qq X (own++cap) scope O.objs.size {s with heap:=O} (upd H2 19<|.lst []) fp) Z Z Z hc i [] s5 Gp H5 _ I5 (AL Gd) BS go) λr s6 j=>?_;obtain⟨u,hr,h6⟩:=j;subst hr;refine bR h6 λ_ s7 j=>?_;obtain⟨x,H7,I7,r7,y7,JB,VU⟩:=j;have VV:=I7.pinned (AL VU) (T.obj _ _ JB);refine cT (hg _ _ _ _ _ s7 Gp H7 x u _ VV r7<|step x H7 y7) (λ_ s8 j=>?_) λ_ _ z=>False.elim z;obtain⟨JC,H8,I8,q8⟩:=j;refine cT (ht _ _ _ _ _ s8 JC H8 _ I8 q8) (λok s9 j=>?_) λ_ _ z=>False.elim z;obtain⟨H9,I9,q9⟩:=j;(have again:∀{s':aF}{L:St}{H':Hp}{Gq:99}{m':Nat},Inv (qq X (own++cap) scope O.objs.size {s with heap:=O} (upd H2 19<|.lst []) fp) ([]++CZ fp s7.heap) L H' s'->m'<n->W (i+1) m' L Gq H'->∃m,m<n/\∃i L ys H',Inv (qq X (own++cap) scope O.objs.size {s with heap:=O} (upd H2 19<|.lst []) fp) [] L H' s'/\tn i s'.heap/\(∀b∈fp,H' b=none)/\W i m L ys H':=λ{s' L H' Gq m'}I' hm w'=>by refine⟨m',hm,i+1,L,Gq,H',I'.kL,T.keep _ _ _ JB λb B o e=>(I'.pin (b,o)<|jW _<|jW _<|F4 B e).1,λb B=>?_,w'⟩;obtain⟨o,e,d⟩:=T.obj _ _ JB b B;exact(I'.pin (b,o)<|jW _<|jW _<|F4 B e).2.1);cases ok with|false=>rw[ao bC]at q9⊢;obtain⟨_,m',hm,w'⟩:=q9;exact again I9 hm w'|true=>rw[ak Z]at q9⊢;refine cT (he _ _ _ _ _ s9 JC H9 _ I9 q9) (λv uh j=>?_) λ_ _ z=>False.elim z;obtain⟨y,xr,VW,VX,JD,m',hm,w'⟩:=j;refine cT (xj (X:=qq X (own++cap) scope O.objs.size {s with heap:=O} (upd H2 19<|.lst []) fp) _ uh JC xr (.ref 19) [y] (.ref 19) [v] (λ_ H'=>H'=upd xr 19 (.lst<|ys++[y])) VW Z (.cons VX .nil) ⟨_,ys,y,Z,Z,JD,hz,Z⟩) (λ_ zF⟨_,H11,VY,_,VZ⟩=>?_) λ_ _ z=>False.elim z;subst VZ;exact again VY hm w'});exact codeAny_compStart_list (loop _ Z)<|T.self _ 0 _ _ _ Oe<|loop _ Z
theorem rS{mR:Scope}(hc:X.calm=true)(Y:fM scope mR cap)(L:ix.map (λi=>X.N[i]?)=cap.map some)(hi:PI X tg iter wi)(hg:∀C s H ex,PG (qq X (own++cap) scope C s H ex) tg g)(ht:∀C s H ex,Dt (qq X (own++cap) scope C s H ex) ifs tc)(he:∀C s H ex,PE (qq X (own++cap) scope C s H ex) elt te)(hs:∀x,foldedSetIterable iter 106 x=pure x:=by intro _;rfl)(ho:X.env.scope=mR:=by rfl):PE X (.ListComp elt [⟨tg,iter,ifs,0⟩] scope pos) (Oa own ix wi g tc te):=by have S:fM scope X.env.scope cap:=ho▸Y;intro pins s σ H Q I h;rw[eval_ListComp];refine wpAny_comprehension_free (use:=none) Z hs (N9 I S) S.kind S.loc<|bR (hi pins s σ H _ I h) λxv U j=>bR j λGa W B=>?_;refine Ob (RR:=λJ C=>compPost 83 X.A X.xe none (EP X pins σ Q) J C) hc S L hg ht he B λD C s' H' m hn _ hI q=>?_;exact⟨m,hn,λh' O=>⟨.ref D,H',hI h' O,Z,q⟩⟩
theorem Of{mR:Scope}{i:Nat}{y:Str}{B j:Pos}(hc:X.calm=true)(hN:X.N.Nodup)(Gr:X.N[i]?=some y)(hy:X.env.scope.names.lookup y=some .local)(V0:swapsWith (.ListComp elt [⟨tg,iter,ifs,0⟩] scope pos) (some<|.Name y B) j.line 106=pure true)(S':fM scope mR cap)(lz:ix.map (λi=>X.N[i]?)=cap.map some)(hi:PI X tg iter wi)(hg:∀C s H ex,PG (qq X (own++cap) scope C s H ex) tg g)(ht:∀C s H ex,Dt (qq X (own++cap) scope C s H ex) ifs tc)(he:∀C s H ex,PE (qq X (own++cap) scope C s H ex) elt te)(hs:∀x,foldedSetIterable iter 106 x=pure x:=by intro _;rfl)(ho:X.env.scope=mR:=by rfl):PS X (.Assign [.Name y B] (.ListComp elt [⟨tg,iter,ifs,0⟩] scope pos) j) (xM (Oa own ix wi g tc te)<|zz i):=by have S:fM scope X.env.scope cap:=ho▸S';intro pins s σ H D I h;rw[exec_Assign_Name_used _ _ _ _ V0];refine ah<|ku<|ah ?_;show wpAny _ X.A (do let _←comprehension (.ListComp elt [⟨tg,iter,ifs,0⟩] scope pos) scope 106 _ (newList []) 94 (eval iter 106) (some<|assign (.Name y B) 106)) _ _ s;refine ah<|cT (wpAny_comprehension_free (use:=some (assign (.Name y B) 106)) (Q:=λ_ s'=>SP X pins D .next s') Z hs (N9 I S) S.kind S.loc<|bR (hi pins s σ H _ I h) λxv V1 O=>bR O λGa V2 U=>?_) (λ_ s' hq=>av<|av hq) λ_ _ e=>e;refine Ob (RR:=λY C=>compPost 83 X.A X.xe (some<|assign (.Name y B) 106) (λ_ s'=>SP X pins D .next s') Y C) hc S lz hg ht he U λD' C s' H' m hn hF hI q=>?_;show wpAny _ X.A (assign (.Name y B) 106<|.ref D') _ _ _;have I':Inv X pins σ H' s':=hI s'.heap (Heap.SameBut.refl ..);refine wpAny_assign_Name<|M0 I' hN Gr (.inl hy) (v:=.ref D') Z (λGs W tD=>?_)<|.inr hy;obtain⟨a,L,J⟩:=tD;obtain⟨f0,f1,f2,f3,f4,f5⟩:=hF;(have V3:C≠a:=by rcases J with J|J;{rw[J];exact f1};{exactλz=>f4 _ _ J z.symm});exact⟨m,hn.sameBut L V3,λh' V4=>⟨_,H',W.turned (t':=Gs.toks) (λb o hb e=>(V4.2 b hb).trans e) f0 f1 f3 f4 f5,q⟩⟩
end
structure Fix (J:It) (xs:List V) (P:Hp->Prop):Prop where
  go:∀i H,P H->i<xs.length->J.go i H
  vf:∀i H x H',P H->J.vf i H x H'->H'=H/\(i<xs.length->xs[i]? = some x)
  stop:∀i H,P H->xs.length<=i->J.stop i H
theorem xu{K:aC}:Fix (BQ K a) xs (λH=>aH K H a xs):=⟨λi H h hi=>⟨xs,xs[i],h,by simp[hi]⟩,λi H x H' h y=>⟨y.1,λ_=>y.2 xs h⟩,λi H h hi=>⟨xs,h,hi⟩⟩
theorem Og{K:aC}:Fix (IJ K a) xs (λH=>aI K H a xs):=⟨λi H h hi=>⟨xs,xs[i],h,by simp[hi]⟩,λi H x H' h y=>⟨y.1,λ_=>y.2 xs h⟩,λi H h hi=>⟨xs,h,hi⟩⟩
theorem Gu(F:Fix J xs P)p f(O:∀ys,P (upd H1 D<|.lst ys))(hz:84<=89)(ht:∀x∈xs,∀ys L,L (p x) (upd H1 D<|.lst ys)->tc ((ug own ix σ).set 0<|some x) (upd H1 D<|.lst ys) L)(he:∀x∈xs,p x=true->∀ys L,L (f x) (upd H1 D<|.lst ys)->te ((ug own ix σ).set 0<|some x) (upd H1 D<|.lst ys) L)(hQ:Q (.ref D) (upd H1 D<|.lst<|(xs.filter p).map f)):Dv own ix J (zz 0) tc te σ H1 D Q:=by existsλi m B ys H'=>m=84-i/\i<=84/\(∀z,B.set 0 z=(ug own ix σ).set 0 z)/\ys=((xs.take i).filter p).map f/\H'=upd H1 D (.lst ys),⟨84,81,fj _,λ_=>Z,81,Z⟩;rintro i m B ys H'⟨rfl,hi,U,rfl,rfl⟩;exists zb;by_cases j:i<84;{refine .inr ⟨F.go i _ (O _) j,?_,λx H2 y=>?_⟩;{rw[ay];have h1:((xs.take i).filter p).length<=(xs.take i).length:=fQ _ _;rw[bP]at h1;lia};{obtain⟨e,y'⟩:=F.vf i _ x H2 (O _) y;k_go;have Y:=y' j;have W:x∈xs:=bM Y;have tk:=take_succ_filter p xs i x Y;show tc (B.set 0<|some x) _ _;rw[U];refine ht x W _ _ ?_;have q:∀z,((ug own ix σ).set 0<|some x).set 0 z=(ug own ix σ).set 0 z:=λz=>List.set_set ..;cases S:p x with|true=>rw[ak Z];refine he x W S _ _ ⟨zb,84-(i+1),80,Z,j,q,?_,?_⟩;{rw[tk,S];simp};{rw[TR]}|false=>rw[ao bC];exists zb,84-(i+1),80,Z,j,q,?_;{rw[tk,S];simp};{rfl}}};{(have e:i=84:=by lia);k_go;refine .inl ⟨F.stop _ _ (O _)<|aB _,?_⟩;rw[bu];exact hQ}
def sg(c:Nat):V:=.str ⟨#[c]⟩
def Gv(x:Str):It:=⟨λi _=>i<120,λi H v H'=>H'=H/\∃c,x.cps.toList[i]?=some c/\v=sg c,λi _=>120<=i⟩
theorem V5:Fix (Gv x) (x.cps.toList.map sg) (λ_=>True):=by(have j:x.cps.toList.length=120:=by simp[Str.length]);refine⟨λi H _ hi=>?_,λi H v H' _ y=>⟨y.1,λ_=>?_⟩,λi H _ hi=>?_⟩;{rw[ay,j]at hi;exact hi};{obtain⟨_,c,q,rfl⟩:=y;rw[aT,q];rfl};{rw[ay,j]at hi;exact hi}
theorem Oh   {K:aC}   it   x  (t:Tok)  ty
    (V6 : ["enumerate","zip","dict_itemiterator","dict_reverseitemiterator","odict_iterator","itertools.zip_longest","itertools.pairwise"].contains ty=false)
    (hi:∀{A} {E} {s} {i c} {Q},s.heap.IsStrIter it ty x t i->x.cps[i]? = some c->
      (∀h',h'.IsStrIter it ty x t (i+1)->Heap.SameBut it s.heap h'->Q (some (.str ⟨#[c]⟩ s.toks)) { s with heap:=h',toks:=s.toks+1 })->wpAny (model P w) A (pyNext (.ref it)) Q E s)
    (hd:∀{A} {E} {s} {i} {Q},A.handled=none->s.heap.IsStrIter it ty x t i->x.cps[i]? = none->
      (∀h',Heap.ExtBut it s.heap h'->Q none { s with heap:=h' })->wpAny (model P w) A (pyNext (.ref it)) Q E s)
    (hs:∀{A} {E} {s} {i} {Q},s.heap.IsStrIter it ty x t i->Q (.ref it) s->wpAny (model P w) A (pyIter (.ref it)) Q E s) :
    Turn P w K tg (Gv x) [it] it (fun i h=>h.IsStrIter it ty x t i) where
  mem:=by simp
  obj:=fun i h st b q=>by
    have e:b=it:=by simpa using q
    subst e
    obtain⟨o,e,c,d⟩:=st
    exact⟨o,e,fun v z=>by rw[d] at z;cases z⟩
  keep:=fun i h h' st k=>let ⟨o,ho,r⟩:=st;⟨o,k it (by simp) o ho,r⟩
  item:=by
    intro X hP hw Y hc i pins s σ H E I J st j
    subst hP hw Y
    obtain⟨L,O,f2,S,U,W⟩:=J it (by simp)
    have j:i<x.cps.size:=j
    refine hi st (c:=x.cps[i]) (by simp[j]) fun h' B sb=>?_
    have I1:Inv X pins σ H { s with heap:=h',toks:=s.toks+1 }:=I.turned (fun b o q e=>(sb.2 b q).trans e) L O S U W
    obtain⟨o,e,c,d⟩:=id B
    exact⟨_,rfl,BP (s:={ s with heap:=h',toks:=s.toks+1 }) e c d V6 ⟨sg x.cps[i],H,I1,⟨_,rfl⟩,⟨rfl,x.cps[i],by simp[j],rfl⟩,B,fun b q=>(J b q).1⟩⟩
  done:=by
    intro X hP hw Y hc i pins s σ H E I J st j
    subst hP hw Y
    obtain⟨L,O,f2,S,U,W⟩:=J it (by simp)
    have j:x.cps.size<=i:=j
    exact hd (I.ok.hd hc) st (by simpa using j) fun h' eb=>⟨rfl,I.turned (t':=s.toks) (fun b o q e=>eb b o q e) L O S U W⟩
  self:=fun _ _ _ _ _ st h=>hs st h
def JE(tl:TE):TI:=λσ H R=>tl σ H λv H1=>∃x,v=.str x/\R (Gv x) H1
theorem V7(U:PE X l tl):PI X tg l (JE tl):=by intro pins s σ H R I h;refine bR (U pins s σ H _ I h) λv j L=>?_;obtain⟨y,H1,J,Y,W⟩:=L;obtain⟨x,rfl,q⟩:=W;obtain⟨t,rfl⟩:=Y;(have B:∀(ty:String),(Turn 126 X.w X.K tg (Gv x) [108] 108 λi h=>h.IsStrIter 108 ty x t i)->F0 X pins σ tg R (.ref 108) {j with heap:=j.heap.push {cls:=.type ty,data:=.fields #[.str x t,.int 0 0]}}:=λty T=>by refine⟨108,[108],_,_,H1,Z,J.kept (t':=j.toks) λb o e=>aX _ e,T,⟨_,aV _ Z,Z,Z⟩,λb S=>?_,q⟩;(have e:b=108:=by simpa using S);k_go;exact J.mP (aB _)<|J.bG.fresh<|aB _);cases O:x.cps.all (·<128);{exact wpAny_pyIter_wide O<|B "str_iterator"<|Oh _ x t _ 82 wpAny_pyNext_wide_item wpAny_pyNext_wide_end wpAny_pyIter_striter_wide};{exact wpAny_pyIter_ascii O<|B "str_ascii_iterator"<|Oh _ x t _ 82 wpAny_pyNext_ascii_item wpAny_pyNext_ascii_end wpAny_pyIter_striter_ascii}
section
variable{X:Cx}
theorem Oi:∀{bs:List Bool}{us},Vals (bs.map V.bl) us->us=bs.map Value.bool|[],_,r=>by cases r;rfl|b::bs,_,r=>by cases r with|cons j q=>rw[show _=Value.bool b from j,Oi q];rfl
theorem V8(bs:List Bool):((List.range bs.length).all λi=>(bs[i]?).getD true)=bs.all id:=by rw[kr,eV,eV];left;{intro h b q;obtain⟨i,hi,e⟩:=kc.mp q;have:=h i (gz.mpr hi);rw[cj hi,Option.getD_some,e]at this;z_go};{intro h i hi;have j:=gz.mp hi;rw[cj j,Option.getD_some];exact h _<|ji j}
theorem V9(Y:X.calm=true):jH X (.builtin "all") (λxs H Q=>∃(a:ai)(bs:List Bool),xs=[V.ref a]/\aH X.K H a (bs.map V.bl)/\Q (.bl<|bs.all id) H):=by intro pins s σ H xs us Q I r h;obtain⟨a,bs,rfl,W,q⟩:=h;obtain⟨u,rfl,ru⟩:=kO r;cases ru;obtain⟨O,rv,pl,hz⟩:=I.list W;have e:O=bs.map Value.bool:=Oi rv;k_go;have J:=pl.isList;(have L:a<19:=by obtain⟨_,e,_⟩:=J;exact aE e);refine call_all_walk<|lP J ?_;refine⟨19,[19,a],[19],(bs.map Value.bool).toArray.size,_,_,λi=>(bs[i]?).getD true,Z,Walks.list (A:=X.A.in1) (I.ok.hd Y) _ a (aS L) (bs.map Value.bool).toArray,⟨⟨_,aV _ Z,Z,Z⟩,J.push _⟩,λi v s' Q' E' U S=>?_,λh' tk hk=>?_⟩;{(have j:(bs.map Value.bool)[i]?=some v:=by simpa using U);rw[aT]at j;cases e:bs[i]? with|none=>rw[e]at j;cases j|some b=>rw[e]at j;cases j;simp only[e,Option.getD_some]at S;exact jh S};{(have e:((List.range (bs.map Value.bool).toArray.size).all λi=>(bs[i]?).getD true)=bs.all id:=by rw[cg,ay];exact V8 bs);rw[e];refine⟨.bl<|bs.all id,H,?_,Z,q⟩;exact I.kept λb o B=>hk b o (λz=>by rw[cL.mp z]at B;exact absurd (aE B)<|eW _) (aX _ B)}
theorem Wa:jH X (.type "int") (λxs H Q=>∃x n,xs=[V.str x]/\PySem.intText? x=some n/\120<=640/\Q (.int n) H):=by intro pins s σ H xs us Q I r h;obtain⟨x,n,rfl,B,j,q⟩:=h;obtain⟨u,rfl,t,rfl⟩:=kO r;exact PySem.W.KIN.call_text B j ⟨.int n,H,I.tok _,⟨_,Z⟩,q⟩
theorem JF:xU X "str.startswith" (λx xs H Q=>∃a b,x=V.str a/\xs=[V.str b]/\Q (.bl<|Txt.startswith a b) H):=by intro pins s σ H x xs v us Q I j rs h;obtain⟨a,b,rfl,rfl,q⟩:=h;obtain⟨t,rfl⟩:=j;obtain⟨u,rfl,B,rfl⟩:=kO rs;exact SC.startswith ⟨.bl _,H,I,Z,q⟩
theorem JG:∀{ys}{us},Vals (ys.map 114) us->StrsAre us ys|[],_,r=>by cases r;exact .nil|y::ys,_,r=>by cases r with|cons j q=>obtain⟨t,rfl⟩:=j;exact .cons y t<|JG q
theorem Wb:xU X "str.join" (λx xs H Q=>∃j p ys,x=V.str j/\xs=[V.ref p]/\aH X.K H p (ys.map 114)/\(ys.map (·.length)).sum+121*j.length<=16777216/\Q (.str<|Txt.join j ys) H):=by intro pins s σ H x xs v us Q I U rs h;obtain⟨j,p,ys,rfl,rfl,B,J,q⟩:=h;obtain⟨t,rfl⟩:=U;obtain⟨u,rfl,O⟩:=kO rs;cases O;obtain⟨L,S,pl,_⟩:=I.list B;exact PyProof.Rows.join_list pl.isList (by simpa using JG S) J λW k=>⟨.str _,H,I.tok _,⟨_,Z⟩,q⟩
def Dz:V->Option Int->Option Int->Hp->VK->Prop:=λx lo hi H Q=>∃z,x=.str z/\z.length<=89/\Q (.str<|Txt.slice z lo hi) H
theorem Wc:AB X Dz:=by intro pins s σ H x v Y vu lo hi W Q I U hs pl pu h;obtain⟨z,rfl,O,q⟩:=h;obtain⟨t,rfl⟩:=U;exists "str",_,F.slot_str_getitem.lookup,jz _ _ _;have j:∀(S:Tok)(k:Nat),EP X pins σ Q (.str (Txt.slice z lo hi) S) {s with toks:=k}:=λS k=>⟨.str _,H,I.tok k,⟨_,Z⟩,q⟩;obtain⟨o,L,B,J⟩:=hs;cases pl<;>cases pu;{exact o8 (l:=none) (u:=none) (st:=none) ⟨o,L,B,J⟩ Z<|pU ⟨bF (Txt.slice_le z _ _) O,j⟩};{exact o8 (l:=none) (u:=some (_,_)) (st:=none) ⟨o,L,B,J⟩ Z<|pU ⟨bF (Txt.slice_le z _ _) O,j⟩};{exact o8 (l:=some (_,_)) (u:=none) (st:=none) ⟨o,L,B,J⟩ Z<|pU ⟨bF (Txt.slice_le z _ _) O,j⟩};{exact o8 (l:=some (_,_)) (u:=some (_,_)) (st:=none) ⟨o,L,B,J⟩ Z<|pU ⟨bF (Txt.slice_le z _ _) O,j⟩}
theorem We:jH X (.builtin "isinstance") (λxs H Q=>∃x t n b,xs=[x,V.ty n]/\kP X.K H x t/\PySem.W.kitOne X.K t (.type n)=some b/\Q (.bl b) H):=by intro pins s σ H xs us Q I r h;obtain⟨x,t,n,b,rfl,ty,e,q⟩:=h;obtain⟨u,J,rfl,B,j⟩:=Ay r;cases j;exact UK I B ty e λtk=>⟨.bl b,H,I.tok tk,Z,q⟩
end
theorem xZ{j:List au->Prop}(h:∀a r,r.length=n->j (a::r)):∀us,109=n+1->j us:=λus e=>by cases us with|nil=>cases e|cons a r=>exact h a r<|Nat.succ.inj e
theorem eX{j:List au->Prop}(h:∀a,j [a]):∀us,109=1->j us:=xZ λa r e=>by cases r with|nil=>exact h a|cons=>cases e
theorem iP{j:List au->Prop}(h:∀a b,j [a,b]):∀us,109=2->j us:=xZ λa=>eX (h a)
theorem jQ{j:List au->Prop}(h:∀a b c,j [a,b,c]):∀us,109=3->j us:=xZ λa=>iP (h a)
theorem DA{j:List au->Prop}(h:∀a b c d,j [a,b,c,d]):∀us,109=4->j us:=xZ λa=>jQ (h a)
def Df(K:aC)(mg:Str->Option au)(x:Str)(st:Stmt)(ps:88):Prop:=∃f fd,Dr K x x st f fd/\mg x=some (.ref f)/\∀us,109=127->bindArgs fd ⟨us,[]⟩=pure (ps.zip us)
theorem aY{K:aC}(X:K.In h)(G:h.Ns mainGlobals mg){st:Stmt}{S kV dc pm q ct:au}(L:∀kV J pm j B ct us,109=127->bindArgs (PySem.W.fnOf x x (AJ st) (vP st) (zp st) .none kV J pm j B ct) ⟨us,[]⟩=pure (ps.zip us))(a:PySem.W.nsIn K mainGlobals x=some (some<|.ref f))(l:K.lookup f=some ⟨S,od,.func<|PySem.W.fnOf x x (AJ st) (vP st) (zp st) .none kV dc pm j q ct,U⟩)(c:PySem.W.codeIn K q x=true)(k:PySem.W.keepIn K (.ref f)=true):Df K mg x st ps:=⟨f,_,N6 l c k,PySem.W.mg_of X G a,λus O=>L kV dc pm j q ct us O⟩
theorem dD{K:aC}(X:K.In h)(G:h.Ns mainGlobals mg)(a:PySem.W.nsIn K mainGlobals x=some (some u)):mg x=some u:=PySem.W.mg_of X G a
theorem qb{K:aC}(X:K.In h)(G:h.Ns mainGlobals mg)(a:PySem.W.nsIn K mainGlobals x=some (some u))(r:RelV v u):∃u,mg x=some u/\RelV v u:=⟨u,PySem.W.mg_of X G a,r⟩
theorem dX{K:aC}(X:K.In h)(G:h.Ns mainGlobals mg)(a:PySem.W.nsIn K mainGlobals x=some none):mg x=none:=PySem.W.mg_none_of X G a
def fB(P:bD)(w:World)(K:aC)(mg:Str->Option au)(base:Heap)(x:Str)(ps:88)(k:Nat)(sp:Sp):Prop:=∃f fd,mg x=some (.ref f)/\PySem.W.keepIn K (.ref f)=true/\(∃q od j,K.lookup f=some ⟨q,od,.func fd,j⟩)/\(∀us,109=127->bindArgs fd ⟨us,[]⟩=pure (ps.zip us))/\kD P w K mg base zE k f fd ps sp
section
variable{P:bD}{w:World}{K:aC}{mg:Str->Option au}{base:Heap}
theorem Df.has{st:Stmt}(D:Df K mg x st ps)(S:aA N ps (zp st))(B:∀vs H Q E,sp vs H Q E->vs.length=127)(q:∀f j A outer s H vs Q E,cI k (A.deeper<|envOfC x (zp st) 19 f j)->sp vs H Q E->∃t,qo (oE zE P w K mg base N x (zp st) f j A outer s H E).BN (vP st) t/\t {nx:=λ_ H'=>Q .cz H',rt:=Q} (start N vs) H):fB P w K mg base x ps (k+1) sp:=by obtain⟨f,fd,F,a,b⟩:=D;obtain⟨W,od,kV,L,pm,Y,j,ct,J,e,U,O⟩:=id F.ex;exact⟨f,fd,a,F.kp,⟨W,od,J,U⟩,b,F.ok S B<|q f⟩
end
section
variable{X:Cx}{k:Nat}{ps:88}{sp:Sp}{x:Str}{p pos:Pos}{e:Expr}{es:List Expr}{t:TA}
theorem Wf(F:fB 126 X.w X.K X.mg X.base x ps k sp)(O:cI k X.A)(L:Gl X x)(B:PA X (e::es) t)(j:(x==("__debug__":Str))=94:=by walk)(J:starEach (e::es) 106=(false,eval e 106)::103:=by rfl)(q:(backTo pos 103).any (·.1)=94:=by rfl):PE X (.Call (.Name x p) (e::es) [] pos) (Gh sp [] E0 t):=by obtain⟨f,fd,a,S,U,b,G⟩:=F;exact Nr G O L a S (.all b) .nil Gn B j J q
end
theorem vS{l:PySem.W.OpenLaw}{K:Params->aC}{sp:aC->Sp}(hn:l.most=some 63)(S:d.params.defaults=[])(hr:cI k callerA)(hY:∀w h,YP w h->(K w.params).In h)(U:∀K H a(J:List Int),J.length<=63->aH K H a (J.map V.int)->sp K [98] H (λv _=>v=.bl true) λ_ _ _=>False)(F:∀w mg h,(K w.params).In h->h.Ns mainGlobals mg->∀base,(K w.params).In base->base.Ns mainGlobals mg->fB l.prog w (K w.params) mg base d.name [x] k (sp<|K w.params)):PySem.W.WalkO q W XP YP l.row.toRowW d [] (λf vs=>PySem.call f vs):=by refine L2.vO (n:=63) (k:=k) (x:=x) (CX:=zE) (sp:=sp) hn 82 S hr hY (λw mg fa h L G j=>?_) (λK H a J hl _ hS=>U K H a J hl hS) λ_ _ _ _ z=>z;obtain⟨f,fd,a,kp,⟨oc,od,BW,lk⟩,b,_⟩:=F w mg h L G h L G;(have O:fa=f:=by rw[j]at a;cases a;rfl);subst O;refine⟨fd,λs u=>.of_eq<|b [u] Z,λbase kb nb=>?_⟩;obtain⟨f',fd',Y,B8,⟨oc',od',Wg,B⟩,b',G'⟩:=F w mg h L G base kb nb;(have O:f'=fa:=by rw[j]at Y;cases Y;rfl);subst O;rw[lk]at B;cases B;exact G'
inductive dY(K:aC)(H:Hp):Nat->V->V->Bool->Prop where|flat{n:Nat}{x y:V}(fx:p8 x=true)(fy:p8 y=true):dY K H n x y (qp x y)|lst{n:Nat}{a b:ai}{xs ys:99}(e:Nat->Bool)(hx:aH K H a xs)(hy:aH K H b ys)(hl:84=121)(he:∀(i:Nat)x y,xs[i]?=some x->ys[i]?=some y->dY K H n x y (e i)):dY K H (n+1) 98 (.ref b) ((List.range 84).all e)|ya{n:Nat}{a b:ai}{xs ys:99}(hx:aH K H a xs)(hy:aH K H b ys)(hl:84≠121):dY K H (n+1) 98 (.ref b) 94|tup{n:Nat}{a b:ai}{xs ys:99}(e:Nat->Bool)(hx:aI K H a xs)(hy:aI K H b ys)(he:∀(i:Nat)x y,xs[i]?=some x->ys[i]?=some y->dY K H n x y (e i)):dY K H (n+1) 98 (.ref b) ((List.range<|min 84 121).all e&&84==121)|lt{n:Nat}{a b:ai}{xs ys:99}(hx:aH K H a xs)(hy:aI K H b ys):dY K H (n+1) 98 (.ref b) 94|tl{n:Nat}{a b:ai}{xs ys:99}(hx:aI K H a xs)(hy:aH K H b ys):dY K H (n+1) 98 (.ref b) 94
theorem JH(h:p8 x=true):qp x x=true:=by cases x<;>first|rfl|simp[p8]at h;done|simp[qp];done
section
variable{X:Cx}{pins:bA}{σ:St}{H:Hp}{s:aF}
theorem Oj(I:55)(B:aH X.K H a xs)(J:aI X.K H a ys):False:=by obtain⟨L,_,⟨o,n,e,c,_,_⟩,_⟩:=I.list B;obtain⟨q,_,⟨o',j,c',_⟩,_⟩:=I.tuple J;rw[e]at j;cases j;rw[c]at c';injection c' with c';exact absurd c' 82
theorem dY.refl(I:55)(h:dY X.K H n x y b):x=y->b=true:=by induction h with|flat O U=>intro e;k_go;exact JH O|lst e j B L S J=>intro q;cases q;have:=I.iz j B;subst this;rw[eV];intro i hi;have hi:=gz.mp hi;exact J i _ _ (cj hi) (cj hi) Z|ya j B L=>intro q;cases q;exact absurd (bw List.length<|I.iz j B) L|tup e j B S J=>intro q;cases q;have:=I.l5 j B;subst this;rw[Nat.min_self,pQ,Bool.and_true,eV];intro i hi;have hi:=gz.mp hi;exact J i _ _ (cj hi) (cj hi) Z|lt j B=>intro q;cases q;exact(Oj I j B).elim|tl j B=>intro q;cases q;exact(Oj I B j).elim
theorem Gw(A:Around):A.in1.units<=A.units+1:=by first|exact aB _|exact fk _|unfold Around.in1;simp
theorem dY.at(I:55){n:Nat}{x y:V}{b:Bool}(h:dY X.K H n x y b):∀{u v:au}{A:Around},RelV x u->RelV y v->A.units+n<cLine->SeqAt.EqAt A s u v b/\((∃p q,x=101/\y=.ref q)->SeqAt.RcAt A s u v b):=by induction h with|flat fx fy=>intro u v A W Y hu;refine⟨NO W Y fx fy,λtD=>?_⟩;obtain⟨p,q,e,_⟩:=tD;k_go;cases fx|@lst n a b xs ys e O S hl he ih=>intro u v A W Y hu;cases W;cases Y;obtain⟨J,r1,U,_⟩:=I.list O;obtain⟨B,r2,p2,_⟩:=I.list S;have l1:=r1.length;have l2:=r2.length;have h1:=Gw A;(have rc:SeqAt.RcAt A s 98 (.ref b) ((List.range 84).all e):=by have:=SeqAt.RcAt.lists (A:=A) (e:=e) U.isList p2.isList (by simp;lia) 80 (λj j1 j2=>by have g1:xs[j]?=some (xs[j]'(by simp at j1;lia)):=cj _;have g2:ys[j]?=some (ys[j]'(by simp at j2;lia)):=cj _;obtain⟨w1,q1,t1⟩:=r1.get g1;obtain⟨w2,q2,t2⟩:=r2.get g2;have:=(ih j _ _ g1 g2 t1 t2 (A:=A.in1) 80).1;(have z1:J.toArray[j]=w1:=by have:=cE.mp q1;obtain⟨_,z⟩:=this;simpa using z);(have z2:B.toArray[j]=w2:=by have:=cE.mp q2;obtain⟨_,z⟩:=this;simpa using z);rw[z1,z2];z_go);(have es:J.toArray.size=84:=by simp;lia);rw[es]at this;z_go);refine⟨?_,λ_=>rc⟩;by_cases L:a=b;{subst L;have:=(dY.lst e O S hl he).refl I Z;rw[this];exact .same _};{exact .of_refs L rc}|@ya n a b xs ys O S hl=>intro u v A W Y hu;cases W;cases Y;obtain⟨J,r1,U,_⟩:=I.list O;obtain⟨B,r2,p2,_⟩:=I.list S;have l1:=r1.length;have l2:=r2.length;have rc:SeqAt.RcAt A s 98 (.ref b) 94:=SeqAt.RcAt.lists_lengths U.isList p2.isList (by simp;lia) 80;refine⟨?_,λ_=>rc⟩;by_cases L:a=b;{subst L;exact absurd (bw List.length<|I.iz O S) hl};{exact .of_refs L rc}|@tup n a b xs ys e O S he ih=>intro u v A W Y hu;cases W;cases Y;obtain⟨J,r1,U,_⟩:=I.tuple O;obtain⟨B,r2,p2,_⟩:=I.tuple S;have l1:=r1.length;have l2:=r2.length;have h1:=Gw A;(have rc:SeqAt.RcAt A s 98 (.ref b) ((List.range<|min 84 121).all e&&84==121):=by have:=SeqAt.RcAt.tuples (A:=A) (e:=e) (show s.heap.IsTuple a J.toArray from U) (show s.heap.IsTuple b B.toArray from p2) 80 (λj j1 j2=>by have g1:xs[j]?=some (xs[j]'(by simp at j1;lia)):=cj _;have g2:ys[j]?=some (ys[j]'(by simp at j2;lia)):=cj _;obtain⟨w1,q1,t1⟩:=r1.get g1;obtain⟨w2,q2,t2⟩:=r2.get g2;have:=(ih j _ _ g1 g2 t1 t2 (A:=A.in1) 80).1;(have z1:J.toArray[j]=w1:=by have:=cE.mp q1;obtain⟨_,z⟩:=this;simpa using z);(have z2:B.toArray[j]=w2:=by have:=cE.mp q2;obtain⟨_,z⟩:=this;simpa using z);rw[z1,z2];z_go);(have es:J.toArray.size=84:=by simp;lia);(have Wh:B.toArray.size=121:=by simp;lia);rw[es,Wh]at this;z_go);refine⟨?_,λ_=>rc⟩;by_cases L:a=b;{subst L;have:=(dY.tup e O S he).refl I Z;rw[this];exact .same _};{exact .of_refs L rc}|@lt n a b xs ys O S=>intro u v A W Y hu;cases W;cases Y;obtain⟨J,r1,U,_⟩:=I.list O;obtain⟨B,r2,p2,_⟩:=I.tuple S;exact⟨SeqAt.EqAt.list_tuple U.isList (show s.heap.IsTuple b B.toArray from p2) 80,λ_=>SeqAt.RcAt.list_tuple U.isList (show s.heap.IsTuple b B.toArray from p2) 80⟩|@tl n a b xs ys O S=>intro u v A W Y hu;cases W;cases Y;obtain⟨J,r1,U,_⟩:=I.tuple O;obtain⟨B,r2,p2,_⟩:=I.list S;exact⟨SeqAt.EqAt.tuple_list (show s.heap.IsTuple a J.toArray from U) p2.isList 80,λ_=>SeqAt.RcAt.tuple_list (show s.heap.IsTuple a J.toArray from U) p2.isList 80⟩
end
section
variable{X:Cx}{pins:bA}{σ:St}{H:Hp}{s:aF}
theorem Ol(I:55){e:Nat->Bool}(L:Vals xs its)(O:Vals ys q)(S:∀i x y,xs[i]?=some x->ys[i]?=some y->dY X.K H n x y (e i))(U:A.units+n<cLine):∀j h1(h2:j<q.toArray.size),SeqAt.EqAt A s its.toArray[j] q.toArray[j] (e j):=λj W Y=>by have l1:=L.length;have l2:=O.length;have B:xs[j]?=some (xs[j]'(by simp at W;lia)):=cj _;have J:ys[j]?=some (ys[j]'(by simp at Y;lia)):=cj _;obtain⟨w1,q1,t1⟩:=L.get B;obtain⟨w2,q2,t2⟩:=O.get J;have:=((S j _ _ B J).at I t1 t2 (A:=A) U).1;(have z1:its.toArray[j]=w1:=by obtain⟨_,z⟩:=cE.mp q1;simpa using z);(have z2:q.toArray[j]=w2:=by obtain⟨_,z⟩:=cE.mp q2;simpa using z);rw[z1,z2];z_go
theorem dY.ne(I:55)(h:dY X.K H n 101 (.ref q) b)(hu:A.units+n<cLine):SeqAt.RcNeAt A s 101 (.ref q) (!b):=by have h1:=Gw A;cases h with|flat Y fy=>cases Y|lst e J L hl W=>obtain⟨B,S,O,_⟩:=I.list J;obtain⟨j,U,p2,_⟩:=I.list L;have l1:=S.length;have l2:=U.length;have:=SeqAt.RcNeAt.lists (A:=A) (e:=e) O.isList p2.isList (by simp;lia) 80 (Ol I S U W (A:=A.in1) 80);rw[cg,←l1]at this;z_go|ya J L hl=>obtain⟨B,S,O,_⟩:=I.list J;obtain⟨j,U,p2,_⟩:=I.list L;have l1:=S.length;have l2:=U.length;exact SeqAt.RcNeAt.lists_lengths O.isList p2.isList (by simp;lia) 80|tup e J L W=>obtain⟨B,S,O,_⟩:=I.tuple J;obtain⟨j,U,p2,_⟩:=I.tuple L;have l1:=S.length;have l2:=U.length;have:=SeqAt.RcNeAt.tuples (A:=A) (e:=e) (show s.heap.IsTuple p B.toArray from O) (show s.heap.IsTuple q j.toArray from p2) 80 (Ol I S U W (A:=A.in1) 80);rw[cg,cg,←l1,←l2]at this;z_go|lt J L=>obtain⟨B,S,O,_⟩:=I.list J;obtain⟨j,U,p2,_⟩:=I.tuple L;exact SeqAt.RcNeAt.list_tuple O.isList (show s.heap.IsTuple q j.toArray from p2) 80|tl J L=>obtain⟨B,S,O,_⟩:=I.tuple J;obtain⟨j,U,p2,_⟩:=I.list L;exact SeqAt.RcNeAt.tuple_list (show s.heap.IsTuple p B.toArray from O) p2.isList 80
end
section
variable{X:Cx}
def DB(K:aC):R2:=λx y H Q=>∃p q b,x=101/\y=.ref q/\dY K H 8 x y b/\Q (.bl b) H
theorem Wi(L:X.A.units+9<cLine):i9 X (compareOp .Eq) (DB X.K):=by intro pins s σ H x y v u Q I B J h;obtain⟨p,q,b,rfl,rfl,d,j⟩:=h;exact(d.at I B J (A:=X.A) 80).2 ⟨p,q,Z,Z⟩ 126 X.w _ _ ⟨.bl b,H,I,Z,j⟩
def DC(K:aC):R2:=λx y H Q=>∃p q b,x=101/\y=.ref q/\dY K H 8 x y b/\Q (.bl<|!b) H
theorem Wj(L:X.A.units+9<cLine):i9 X (compareOp .NotEq) (DC X.K):=by intro pins s σ H x y v u Q I B J h;obtain⟨p,q,b,rfl,rfl,d,j⟩:=h;cases B;cases J;exact d.ne I (A:=X.A) 80 126 X.w _ _ ⟨.bl<|!b,H,I,Z,j⟩
def DE(K:aC)(j:Bool):R2:=λx y H Q=>∃p xs e,y=101/\(aH K H p xs\/aI K H p xs)/\(∀z∈xs,dY K H 8 z x (e z))/\Q (.bl<|if j then !xs.any e else xs.any e) H
theorem Om:∀{xs:99}{us:List au}{u:au},Vals xs us->u∈us->∃x∈xs,RelV x u|_,_,_,.cons r t,h=>by rcases aM.mp h with h|h;{subst h;exact⟨_,c8 ..,r⟩};{obtain⟨x,j,q⟩:=Om t h;exact⟨x,aZ _ j,q⟩}
def oF(e:V->Bool)(u:au):Bool:=match CQ u with|some x=>e x|none=>false
theorem Oo(r:RelV x u):oF e u=e x:=by unfold oF;rw[r.abs]
theorem JI:∀{xs}{us},Vals xs us->us.any (oF e)=xs.any e|_,_,.nil=>rfl|_,_,.cons r t=>by rw[iL,iL,Oo r,JI t]
theorem Wl(hu:X.A.units+10<cLine):i9 X (compareOp .NotIn) (DE X.K true):=by intro pins s σ H x y v u Q I W Y h;obtain⟨p,xs,e,rfl,J,U,q⟩:=h;cases Y;have h1:=Gw X.A;(have B:∀{j:List au},Vals xs j->∀z,z∈j.toArray->SeqAt.EqAt X.A.in1 s z v (oF e z):=λ{j}r z O=>by obtain⟨x',L,S⟩:=Om r (by simpa using O);rw[Oo S];exact((U x' L).at I S W (A:=X.A.in1) 80).1);rcases J with J|J;{obtain⟨j,r,pl,O⟩:=I.list J;refine SeqAt.notIn_listAt (oF e) pl.isList (B r) ⟨.bl _,H,I,Z,?_⟩;rw[show j.toArray.any (oF e)=j.any (oF e)by simp,JI r];exact q};{obtain⟨j,r,pl,O⟩:=I.tuple J;refine SeqAt.notIn_tupleAt (oF e) pl (B r) ⟨.bl _,H,I,Z,?_⟩;rw[show j.toArray.any (oF e)=j.any (oF e)by simp,JI r];exact q}
end
def fG:V->Str|.str x=>x|.int i=>Str.ofString (toString i)|_=>Str.empty
def Wd(v:V):Prop:=(∃x,v=.str x/\120<=100)\/∃i,v=.int i/\i.natAbs<10^60
theorem Wd.flat(h:Wd v):p8 v=true:=by rcases h with⟨x,rfl,_⟩|⟨i,rfl,_⟩<;>rfl
theorem DF{i:Int}(h:i.natAbs<10^60):i.natAbs.log2<1920:=by by_cases j:i.natAbs=0;{rw[j];walk};{exact(Nat.log2_lt j).mpr<|dm h 82}
section
variable{X:Cx}
theorem Oq:jH X (.type "str") (λxs H Q=>∃v,xs=[v]/\Wd v/\Q (.str<|fG v) H):=by intro pins s σ H xs us Q I r h;obtain⟨v,rfl,j,q⟩:=h;rcases j with⟨x,rfl,_⟩|⟨i,rfl,hi⟩;{obtain⟨u,rfl,t,rfl⟩:=kO r;exact PySem.P.str_of_str ⟨.str x,H,I,⟨_,Z⟩,q⟩};{obtain⟨u,rfl,t,rfl⟩:=kO r;exact PySem.P.str_of_int (DF hi) ⟨.str _,H,I.tok _,⟨_,Z⟩,q⟩}
end
def DG(xs ys:99):Bool:=(List.range<|min 84 121).all (λi=>match xs[i]?,ys[i]? with|some x,some y=>qp x y|_,_=>true)&&84==121
theorem dY.tG{K:aC}(L:aI K H a xs)(O:aI K H b ys)(B:∀x∈xs,p8 x=true)(J:∀x∈ys,p8 x=true):dY K H (n+1) 98 (.ref b) (DG xs ys):=by refine dY.tup _ L O λi x y j q=>?_;rw[j,q];exact dY.flat (B x<|bM j)<|J y<|bM q
theorem JJ(h:∀x∈xs,p8 x=true):DG xs xs=true:=by unfold DG;rw[pQ,Bool.and_true,eV];intro i hi;rw[Nat.min_self]at hi;have hi:=gz.mp hi;rw[cj hi];exact JH<|h _<|ji hi
theorem dY.zG{K:aC}(B:aH K H a xs)(J:aH K H b xs)(h:∀x∈xs,dY K H n x x true):dY K H (n+1) 98 (.ref b) true:=by(have:=dY.lst (n:=n) (λ_=>true) B J Z λi x y j q=>by rw[j]at q;cases q;exact h x<|bM j);rw[show(List.range 84).all (λ_=>true)=true from eV.mpr λ_ _=>rfl]at this;z_go
theorem dY.DH{K:aC}(q:aI K H a xs)(B:aI K H b ys)(j:84=121)(h:∀(i:Nat)x y,xs[i]?=some x->ys[i]?=some y->dY K H n x y true):dY K H (n+1) 98 (.ref b) true:=by have:=dY.tup (n:=n) (λ_=>true) q B h;rw[show(List.range<|min 84 121).all (λ_=>true)=true from eV.mpr λ_ _=>rfl,j,pQ]at this;z_go
theorem aj.tup{K:aC}(e:aj H H')(h:aI K H a xs):aI K H' a xs:=by rcases h with(h|⟨o,h⟩)|h;{exact .inl<|.inl<|e _ _ h};{exact .inl<|.inr ⟨o,e _ _ h⟩};{exact .inr h}
theorem aj.new{H:Hp}{D:ai}{o:HO}(h:H D=none):aj H (upd H D o):=λb u e=>by rw[zi (zj e h)];exact e
theorem aj.upd{H H':Hp}{D:ai}{o:HO}(e:aj H H')(h:H D=none):aj H (upd H' D o):=λb u q=>by rw[zi (zj q h)];exact e b u q
section
variable{X:Cx}(K:aC)(h:X.K=K)
include h
theorem jD:AD X (De K):=h▸U4
theorem zg:AD X (Dh K):=h▸U7
theorem Ot:AB X (Di K):=h▸Vb
theorem Gx:AB X (C9 K):=h▸NJ
theorem Ou:i9 X (binaryOp .Add) (NK K):=h▸UZ
theorem Gy:i9 X (compareOp .In) (Gj K 94):=h▸Vc
theorem DI:i9 X (compareOp .NotIn) (Gj K true):=h▸Vd
theorem AM(j:X.A.units+9<cLine):i9 X (compareOp .Eq) (DB K):=h▸Wi j
theorem AN(j:X.A.units+9<cLine):i9 X (compareOp .NotEq) (DC K):=h▸Wj j
theorem JK(j:X.A.units+10<cLine):i9 X (compareOp .NotIn) (DE K true):=h▸Wl j
theorem qc:jH X (.builtin "len") (λxs H Q=>∃p ys,xs=[101]/\(aH K H p ys\/aI K H p ys)/\Q (.int 121) H):=h▸Ve
theorem Ov:jH X (.type 115) (λxs H Q=>∃p ys,xs=[101]/\(aH K H p ys\/aI K H p ys)/\∀l,H l=none->Q (.ref l) (upd H l<|.lst ys)):=h▸Vf
theorem Wm:jH X (.type 118) (λxs H Q=>∃p ys,xs=[101]/\((aH K H p ys/\∀l,H l=none->Q (.ref l) (upd H l<|.tup ys))\/(aI K H p ys/\Q 101 H))):=h▸Vg
theorem Gz:jH X (.builtin "isinstance") (λxs H Q=>∃x t n b,xs=[x,V.ty n]/\kP K H x t/\PySem.W.kitOne K t (.type n)=some b/\Q (.bl b) H):=h▸We
theorem Ow(j:X.calm=true):jH X (.builtin "all") (λxs H Q=>∃(a:ai)(bs:List Bool),xs=[V.ref a]/\aH K H a (bs.map V.bl)/\Q (.bl<|bs.all id) H):=h▸V9 j
theorem Ox:xU X "str.join" (λx xs H Q=>∃(j:Str)(p:ai)(ys:List Str),x=V.str j/\xs=[V.ref p]/\aH K H p (ys.map 114)/\(ys.map (·.length)).sum+121*j.length<=16777216/\Q (.str<|Txt.join j ys) H):=h▸Wb
variable{o e:Expr}{es:List Expr}{to:TE}{t:TA}{name:Str}{apos cD:Pos}{T id:String}{r:V->99->Hp->VK->Prop}
theorem DJ(O:PlainAttrs T)(slot:Slot T name id)(B:typeOf (.builtin id)=pure (.type "method_descriptor"))(J:xU X id r)(L:PE X o to)(j:attributeBase o name 106 (eval o 106)=eval o 106:=by rfl)(q:(apos.endLine==cD.line)=true:=by rfl):PE X (.Call (.Attribute o name apos) [] [] cD) (Dl K T r to):=h▸Vh O slot B J L j q
theorem qY(W:PlainAttrs T)(slot:Slot T name id)(L:typeOf (.builtin id)=pure (.type "method_descriptor"))(S:xU X id r)(U:PE X o to)(O:PA X (e::es) t)(q:attributeBase o name 106 (eval o 106)=eval o 106:=by rfl)(J:((backTo cD<|starEach (e::es) 106).all (λx=>!x.1)&&(backToKw cD<|keywordEach [] 106).all (λx=>x.1.isSome)&&decide ((e::es).length+([]:List Keyword).length+(if([]:List Keyword).isEmpty then 0 else 1)<30))=true:=by rfl)(B:(apos.endLine==cD.line)=true:=by rfl)(hs:starEach (e::es) 106=(false,eval e 106)::103:=by rfl)(j:(backTo cD 103).any (·.1)=94:=by rfl):PE X (.Call (.Attribute o name apos) (e::es) [] cD) (NS K T r to t):=h▸Vi W slot L S U O q J B hs j
end
section
variable{X:Cx}{tg:Expr}(K:aC)(h:X.K=K)
include h
theorem jd{l:Expr}{tl:TE}(j:PE X l tl):PI X tg l (M8 K tl):=h▸Um j
theorem Oz{l:Expr}{tl:TE}(j:PE X l tl):PI X tg l (CW K tl):=h▸Uo j
theorem qZ{es:List Expr}{k:Nat}{t:zA}{n:Nat}{pos:Pos}(q:X.calm=true)(h':CT X es t)(B:(assignEach es 106).length=n:=by rfl)(j:(assignEach es 106).findIdx? (·.1)=none:=by rfl):PG X (.Tuple es k pos) (Ao K n t):=h▸Ue q h' B j
end
theorem kF(j:cI k A):A.units+9<cLine:=kg (Nat.add_le_add_left (82:9<=64) _) j.units
theorem AO(j:cI k A):A.units+10<cLine:=kg (Nat.add_le_add_left (82:10<=64) _) j.units
theorem oU b(q:∀j,(∀H',aj H H'->j b H')->c σ H j)(hs:∀H',aj H H'->if b=true then t D σ H' else u D σ H'):xK c t u D σ H:=q _ hs
theorem yb b(q:∀j,j b H->c σ H j)(hs:if b=true then t D σ H else u D σ H):xK c t u D σ H:=q _ hs
theorem dY.nV{K:aC}(j:aH K H a xs)(q:aH K H b []):dY K H (n+1) 98 (.ref b) (decide<|xs=[]):=by by_cases h:xs=[];{subst h;exact dY.lst (λ_=>true) j q Z λi x y e _=>by simp at e};{rw[aN h];exact dY.ya j q λz=>h (mD.mp z)}
theorem vj{xs:List q}:iZ (x::xs) 0=some x:=by have:=vh (xs:=x::xs) (j:=0) (v:=x) Z;z_go
theorem JL:gX (x::xs) (some 1) none=xs:=by unfold gX HT.cN;simp
theorem i8(h:n<=1000):n<=89:=jx (jC h)
open Builtin Builtin.Str
theorem OA:∀ys k,Vals (ys.map 114) (strsFrom k ys)|[],_=>.nil|y::ys,k=>.cons ⟨k,Z⟩ (OA ys<|k+1)
section
variable{X:Cx}
theorem OB{σ:St}{ys:88}(I:55)(r:Vals (ys.map 114) us)(hz:121<=89)(q:∀p,H p=none->Q 101 (upd H p<|.lst<|ys.map 114)):EP X pins σ Q (.ref 19) {s with heap:=s.heap.push {cls:=.type 115,data:=.seq us.toArray n},toks:=k}:=⟨.ref 19,_,I.laid (t':=k) (o:=.lst (ys.map 114)) (λb u e=>aX _ e) (aB _) ⟨by rw[ay];exact hz,us,n,r,aV _ Z⟩,Z,q _<|I.bG.fresh<|aB _⟩
theorem OC:xU X "str.split" (λx xs H Q=>∃a b,x=V.str a/\xs=[V.str b]/\(b.length==0)=94/\a.length<=89/\(Txt.split a b).length<=89/\∀p,H p=none->Q 101 (upd H p<|.lst<|(Txt.split a b).map 114)):=by intro pins s σ H x xs v us Q I U rs h;obtain⟨a,b,rfl,rfl,O,S,J,q⟩:=h;obtain⟨t,rfl⟩:=U;obtain⟨u,rfl,L,rfl⟩:=kO rs;(have j:Txt.split a b=[a]->EP X pins σ Q (.ref 19) {s with heap:=s.heap.push {cls:=.type 115,data:=.seq [Value.str a t].toArray 0},toks:=s.toks}:=λe=>by rw[e]at q;exact OB I (ys:=[a]) (.cons ⟨t,Z⟩ .nil) (by show 1<=89;walk) q);cases h1:(decide (a.length<b.length)||decide (strKind a<strKind b));{cases B:(occurrences a b 0 a.length<|a.length+1).isEmpty;{(have e:Txt.split a b=partsBetween a (occurrences a b 0 a.length<|a.length+1) b.length:=by unfold Txt.split;rw[h1,B];rfl);rw[e]at J q;refine call_meets F.slot_str_split (jz _ _ _) F.entry_str_split (F.args_str_split_2 _ _) (meets_str_split_sep a b t L h1 O B S J) ?_;exact OB I (OA _ _) J q};{exact call_meets F.slot_str_split (jz _ _ _) F.entry_str_split (F.args_str_split_2 _ _) (meets_str_split_not_found a b t L h1 O B)<|j (by unfold Txt.split;rw[h1,B];rfl)}};{exact call_meets F.slot_str_split (jz _ _ _) F.entry_str_split (F.args_str_split_2 _ _) (meets_str_split_cannot_occur a b t L h1)<|j (by unfold Txt.split;rw[h1];rfl)}
end
section
variable{X:Cx}{pins:bA}{σ:St}{H:Hp}{s:aF}{h':Heap}
theorem Inv.kX{ch:List ai}(I:55)(k:∀b o,b∉ch->104=85->h'.get? b=85)(B:∀b∈ch,gF X pins H b):Inv X pins σ H {s with heap:=h',toks:=t'}:=by(have J:∀b u,H b=some u->b∉ch:=λb u e z=>by rw[(B b z).1]at e;cases e);refine I.step (g':=s.gens) (d':=s.drawn) (ch:=ch) (λb L=>⟨(B b L).2.2.2.1,(B b L).2.1,(B b L).2.2.2.2.1,(B b L).2.2.2.2.2⟩) (λb o _ _ j e _=>k b o j e) (λb o _ _ j e _=>⟨o.slots,k b o j e⟩) (λ_ _ _ _ n=>n) (λb o j e=>⟨o,k b o j e⟩) (λ_ _ e=>e) (λ_ _ _ e=>e) (λb ps e=>⟨#[],by rw[e];simp⟩) (λm S=>?_) (λb u e=>?_) I.bare;{obtain⟨o,es,O,U,r⟩:=S;exact⟨o,es,O,k _ o (λz=>(B _ z).2.1 Z) U,r⟩};{refine(I.bG b u e).fC (λc v j q=>k c v ?_ q) (λ_ q=>q) λ_ _ q=>q;rcases j with z|z;{rw[z];exact J b u e};{exact J c _ z}}
theorem Inv.oV{ch:List ai}{T:ai}(I:55)(k:∀b u,b∉ch->104=some u->h'.get? b=some u)(J:∀b∈ch,gF X pins H b)(U:19<=T)(S:bQ 126 X.w (upd H T o) h' T o):Inv X pins σ (upd H T o) {s with heap:=h',toks:=t'}:=by have L:H T=none:=I.bG.fresh U;(have O:∀b u,H b=some u->b∉ch:=λb u e z=>by rw[(J b z).1]at e;cases e);have neT:∀b u,104=some u->b≠T:=λb u e=>aS (dm (aE e) U);refine I.step (g':=s.gens) (d':=s.drawn) (ch:=ch) (λb j=>⟨(J b j).2.2.2.1,(J b j).2.1,(J b j).2.2.2.2.1,(J b j).2.2.2.2.2⟩) (λb u _ _ B e _=>k b u B e) (λb u _ _ B e _=>⟨u.slots,k b u B e⟩) (λb u _ e n=>by rw[zi (neT b u e)];exact n) (λb u B e=>⟨u,k b u B e⟩) (λb xs e=>by rw[zi (zj e L)];exact e) (λb u v e=>by rw[zi (zj e L)];exact e) (λb ps e=>⟨#[],by rw[zi (zj e L),e];simp⟩) (λm Y=>?_) (λb u e=>?_) I.bare;{obtain⟨u,es,W,ho,r⟩:=Y;exact⟨u,es,W,k _ u (λz=>(J _ z).2.1 Z) ho,r⟩};{by_cases j:b=T;{subst j;rw[zb]at e;cases e;exact S};{rw[zi j]at e;(refine(I.bG b u e).fC (λc v B q=>k c v ?_ q) (λc q=>by rw[zi (zj q L)];exact q) λc xs q=>by rw[zi (zj q L)];exact q);rcases B with z|z;{rw[z];exact O b u e};{exact O c _ z}}}
end
theorem Wn        {St:Nat->Heap->Prop}(D:Draws prog w A it fp n P St)  a  :
    Draws prog w A it fp (n+a) (fun i v=>P (i-a) v) (fun i h=>a<=i/\St (i-a) h) where
  live:=fun i h st=>D.live _ h st.2
  frame:=fun i h h' st k=>⟨st.1,D.frame _ h h' st.2 k⟩
  item:=fun i s Q E hi st B=>D.item (i-a) s Q E (by have:=st.1;lia) st.2 fun x h1 tk p q r=>B x h1 tk p ⟨by have:=st.1;lia,by
    have:i+1-a=i-a+1:=by have:=st.1;lia
    rw[this];exact q⟩ r
  done:=fun s Q E st j=>D.done s Q E (by have:=st.2;rwa [Nat.add_sub_cancel] at this) j
theorem Wo(L:125=none)(O:IsEnum 91 e it j old)(hi:s.heap.IsListIter it l i)(U:s.heap.IsList l items)(Y:items[i]?=none)(J:∀h1,Heap.ExtBut it 91 h1->Q none {s with heap:=h1}):wpAny 28 A (pyNext<|.ref e) Q E s:=by have D:Draws prog w A.in1 it [it,l] i (λ_ _=>False) (λk h=>(k<i->False)/\h.IsListIter it l i/\h.IsList l items):=⟨λ_ _ q=>let⟨o,W,_⟩:=q.2.1;⟨o,W⟩,λ_ _ _ q k=>⟨q.1,q.2.1.at λo x=>k it 81 o x,q.2.2.at λo x=>k l 81 o x⟩,λk _ _ _ S q _=>(q.1 S).elim,λs1 _ _ q B=>wpAny_nextOf_list_end (A:=A.in1) L q.2.1 q.2.2 Y B⟩;exact wpAny_pyNext_enum_endD D O ⟨λz=>eW _ z,hi,U⟩ J
def B9(K:aC)(a:ai)(st:Nat):It:=⟨λi H=>∃xs x,aH K H a xs/\xs[i]?=some x,λi H v H'=>∃T x,H T=none/\v=.ref T/\H'=upd H T (.tup [.int ((st+i:Nat):Int),x])/\∀xs,aH K H a xs->xs[i]?=some x,λi H=>∃xs,aH K H a xs/\84<=i⟩
theorem Wq   {K:aC}     a e it   st  (Y:e≠it) :
    Turn P w K (.Tuple elts ct pos) (B9 K a st) [e,it] e (fun i h=>(∃O,IsEnum h e it ((st+i:Nat):Int) O)/\h.IsListIter it a i) where
  mem:=by simp
  obj:=fun i h q b j=>by
    obtain⟨⟨O,S⟩,o,ho,c,d⟩:=q
    rcases aM.mp j with j | j
    · subst j
      exact⟨_,S,fun v z=>by cases z⟩
    · rw[cL] at j
      subst j
      exact⟨o,ho,fun v z=>by rw[d] at z;cases z⟩
  keep:=fun i h h' q k=>⟨let ⟨O,S⟩:=q.1;⟨O,k e (by simp) _ S⟩,q.2.at fun o x=>k it (by simp) o x⟩
  item:=by
    intro X hP hw hK hc i pins s σ H E I hf q hg
    subst hP hw hK
    obtain⟨xs,x,hq,hx⟩:=hg
    obtain⟨⟨O,S⟩,L⟩:=q
    obtain⟨W,rv,p,hz⟩:=I.list hq
    obtain⟨u,hu,ru⟩:=rv.get hx
    have hl:=p.isList
    have li:a≠it:=by
      rintro rfl
      obtain⟨o,ho,c,d⟩:=L
      obtain⟨o2,B,J,_⟩:=hl
      rw[ho] at B;cases B;rw[c] at J
      injection J with J
      exact absurd J (by decide)
    have le:e≠a:=by
      rintro rfl
      obtain⟨o2,B,J,_⟩:=hl
      rw[S] at B;cases B
      injection J with J
      exact absurd J (by decide)
    have hi:i<W.toArray.size:=by
      have:=(cE.mp hu).1
      simpa using this
    have zH:e<s.heap.objs.size:=aE S
    have Wr:it<s.heap.objs.size:=by obtain⟨o,ho,_⟩:=L;exact aE ho
    refine wpAny_pyNext_enum_itemD (Wn (Draws.list (A:=X.A.in1) (I.ok.hd hc) it a li W.toArray) st) S ⟨by lia,by rw[Nat.add_sub_cancel_left];exact⟨L,hl⟩⟩ (by lia) Y (by simp[Y,le]) fun y h1 tk py eo sy ht hsz kk=>?_
    have ey:y=u:=by
      have py:W.toArray[st+i-st]? = some y:=py
      rw[Nat.add_sub_cancel_left] at py
      have oG:W.toArray[i]? = some u:=by simpa using hu
      rw[oG] at py
      exact (dR py).symm
    subst ey
    refine⟨_,rfl,?_⟩
    have I1:Inv X pins σ (upd H s.heap.objs.size (.tup [.int ((st+i:Nat):Int),x])) { s with heap:=h1,toks:=tk+1 }:=
      I.oV (ch:=[e,it]) (o:=.tup [.int ((st+i:Nat):Int),x]) (fun b o j q=>kk b o (fun z=>j (by simp[z])) (fun z=>j (by simp[z])) q) hf (aB _) ⟨(by show 2<=sizeLine;decide),[_,y],.cons ⟨_,rfl⟩ (.cons ru .nil),_,ht,rfl,_,rfl⟩
    refine wpAny_letOwnedTupleGo_enum eo fun h2 yc OD=>?_
    have fn:∀b∈[e,it],upd H s.heap.objs.size (.tup [.int ((st+i:Nat):Int),x]) b=none:=fun b j=>by
      have rj:b≠s.heap.objs.size:=by
        rcases aM.mp j with z | z
        · subst z;exact aS zH
        · rw[cL] at z;subst z;exact aS Wr
      rw[zi rj]
      exact (hf b j).1
    have I2:=I1.kX (t':=tk+1) (h':=h2) (ch:=[e]) (fun b o j q=>(OD.2 b (fun z=>j (by simp[z]))).trans q) (fun b j=>by
      rw[cL] at j
      subst j
      exact⟨fn _ (by simp),(hf _ (by simp)).2⟩)
    have sy:=sy.2
    rw[show st+i+1-st=i+1 by lia] at sy
    refine⟨.ref s.heap.objs.size,_,I2,rfl,⟨_,x,I.bG.fresh (aB _),rfl,rfl,fun ys hy=>by rw[I.iz hy hq];exact hx⟩,⟨⟨y,?_⟩,sy.1.at fun o q=>(OD.2 it Y.symm).trans q⟩,fn⟩
    have:((st+(i+1):Nat):Int)=((st+i:Nat):Int)+1:=by lia
    rw[this]
    exact yc
  done:=by
    intro X hP hw hK hc i pins s σ H E I hf q hg
    subst hP hw hK
    obtain⟨xs,hq,hx⟩:=hg
    obtain⟨⟨O,S⟩,L⟩:=q
    obtain⟨W,rv,p,hz⟩:=I.list hq
    have hl:=rv.length
    have U:=p.isList
    have li:a≠it:=by
      rintro rfl
      obtain⟨o,ho,c,d⟩:=L
      obtain⟨o2,B,J,_⟩:=U
      rw[ho] at B;cases B;rw[c] at J
      injection J with J
      exact absurd J (by decide)
    exact Wo (I.ok.hd hc) S L U (by simp;lia) fun h1 eb=>⟨rfl,I.kX (t':=s.toks) (ch:=[it]) (fun b o j q=>eb b o (fun z=>j (by simp[z])) q) (fun b j=>hf b (by rw[cL] at j;simp[j]))⟩
  self:=fun _ _ _ _ _ q h=>let ⟨_,S⟩:=q.1;wpAny_pyIter_enum S h
def lA(b:Bool)(h:Heap)(it a:ai)(i:Nat):Prop:=if b=true then h.IsTupleIter it a i else h.IsListIter it a i
def l6(b:Bool)(h:Heap)(a:ai)(items:Array au):Prop:=if b=true then h.IsTuple a items else h.IsList a items
theorem lA.at(q:lA b h it a i)(k:∀o,h.get? it=85->h'.get? it=85):lA b h' it a i:=by cases b with|true=>exact Heap.IsTupleIter.at (show h.IsTupleIter it a i from q) k|false=>exact Heap.IsListIter.at (show h.IsListIter it a i from q) k
theorem l6.at(q:l6 b h a items)(k:∀o,h.get? a=85->h'.get? a=85):l6 b h' a items:=by cases b with|true=>obtain⟨o,j,r⟩:=show h.IsTuple a items from q;exact⟨o,k o j,r⟩|false=>exact Heap.IsList.at (show h.IsList a items from q) k
def GA(b:Bool):String:=if b=true then "tuple_iterator"else "list_iterator"
theorem lA.obj(q:lA b h it a i):∃o,h.get? it=85/\o.cls=.type (GA b)/\o.data=.fields #[.ref a,.int i 0]:=by cases b with|true=>obtain⟨o,j,c,d⟩:=show h.IsTupleIter it a i from q;exact⟨o,j,c,d⟩|false=>obtain⟨o,j,c,d⟩:=show h.IsListIter it a i from q;exact⟨o,j,c,d⟩
section
variable{prog:bD}{w:World}{A:Around}{E:aP}{s:aF}
theorem JM(hi:lA b 91 it a i)(O:l6 b 91 a items)(S:items[i]?=some x)(L:∀h1,lA b h1 it a (i+1)->Heap.SameBut it 91 h1->Q x {s with heap:=h1}):wpAny 28 A (Builtin.SmallTypes.nextOf<|.ref it) Q E s:=by cases b with|false=>exact wpAny_nextOf_list_item (show s.heap.IsListIter it a i from hi) (show s.heap.IsList a items from O) S L|true=>have hi:s.heap.IsTupleIter it a i:=hi;obtain⟨o,q,U,j⟩:=id hi;obtain⟨W,J,_,n,B⟩:=show s.heap.IsTuple a items from O;unfold Builtin.SmallTypes.nextOf;refine ah<|gH (name:=Str.ofString "__next__") hi.typeIs o7<|dQ o7 hi.typeIs F.entry_tuple_iterator_next ?_<|F.args_tuple_iterator_next_1 _;show wpAny 28 A.in1 (field (.ref it) 0>>=_) _ _ s;refine ah<|dh q j (x:=98) Z ?_;show wpAny 28 A.in1 (if(Value.ref a==112)=true then _ else _) _ _ s;rw[ao (show¬((Value.ref a==112)=true)from bC)];show wpAny 28 A.in1 (field (.ref it) 1>>=_) _ _ s;refine ah<|dh q j (x:=.int i 0) Z ?_;show wpAny 28 A.in1 (seqItems? 98>>=_) _ _ s;refine ah<|fF J B ?_;simp only[lQ,S];refine ah<|gh q j 81<|av ⟨x,Z,av<|L _ ?_<|iw ..⟩;exact⟨_,d9 _ q<|jf<|gJ j _,(pJ ..).trans U,by rw[gJ j];simp[rawInt]⟩
theorem OE(S:125=none)(hi:lA b 91 it a i)(O:l6 b 91 a items)(U:items[i]?=none)(L:∀h1 e,Heap.ExtBut it 91 h1->(∃o,h1.get? e=85/\o.cls=.type "StopIteration")->E (.ref e) {s with heap:=h1}):wpAny 28 A (Builtin.SmallTypes.nextOf<|.ref it) Q E s:=by cases b with|false=>exact wpAny_nextOf_list_end S (show s.heap.IsListIter it a i from hi) (show s.heap.IsList a items from O) U L|true=>have hi:s.heap.IsTupleIter it a i:=hi;obtain⟨o,B,W,j⟩:=id hi;obtain⟨Y,J,_,n,q⟩:=show s.heap.IsTuple a items from O;unfold Builtin.SmallTypes.nextOf;refine ah<|gH (name:=Str.ofString "__next__") hi.typeIs o7<|dQ o7 hi.typeIs F.entry_tuple_iterator_next ?_<|F.args_tuple_iterator_next_1 _;show wpAny 28 A.in1 (field (.ref it) 0>>=_) _ _ s;refine ah<|dh B j (x:=98) Z ?_;show wpAny 28 A.in1 (if(Value.ref a==112)=true then _ else _) _ _ s;rw[ao (show¬((Value.ref a==112)=true)from bC)];show wpAny 28 A.in1 (field (.ref it) 1>>=_) _ _ s;refine ah<|dh B j (x:=.int i 0) Z ?_;show wpAny 28 A.in1 (seqItems? 98>>=_) _ _ s;refine ah<|fF J q ?_;simp only[lQ,U];refine ah<|dz<|ah<|gh B j 81 ?_;show wpAny 28 A.in1 (newExc (.type "StopIteration") []>>=_) _ _ _;refine ah ?_;simp only[newExc,newTuple];refine ah<|cQ (ah (m:=firstArgMember _ _)<|gT (a:=112) (by first|rfl|simp only[firstArgMember];rfl)<|cQ ?_ (by size_fits)) (by size_fits);simp only[raiseNew];refine ah<|nS ?_;rw[show A.in1.handled=none from S];exact ah<|av<|wpAny_throw<|L _ _ (((iw ..).extBut.push _).push _) ⟨_,aV _ Z,Z⟩
end
structure Ca (z TI TO i1 i2:ai):Prop where
  a1:TI≠z
  a2:TO≠z
  a3:i1≠z
  a4:i2≠z
  a5:TI≠TO
  a6:TI≠i1
  a7:TI≠i2
  a8:TO≠i1
  a9:TO≠i2
  b1:i1≠i2
structure mS (l z TO i1 i2:ai):Prop where
  c1:l≠z
  c2:l≠TO
  c3:l≠i1
  c4:l≠i2
section
variable{prog:bD}{w:World}{A:Around}{E:aP}{s:aF}{z TI TO i1 i2 l1 l2:ai}{k1 k2:Nat}{xs ys:Array au}{x y a b:au}{t1 t2:Bool}
theorem Ws{Q:aP}(D:Ca z TI TO i1 i2)(O1:mS l1 z TO i1 i2)(O2:mS l2 z TO i1 i2)(hz:IsZip 91 z TI TO .none)(hI:IsPair 91 TI (.ref i1) (.ref i2))(hO:IsPair 91 TO a b)(h1:lA t1 91 i1 l1 k1)(h2:lA t2 91 i2 l2 k2)(q1:l6 t1 91 l1 xs)(q2:l6 t2 91 l2 ys)(hx:xs[k1]?=some x)(hy:ys[k2]?=some y)(hQ:∀g,IsZip g z TI TO (rawInt 19)->IsPair g TO x y->lA t1 g i1 l1 (k1+1)->lA t2 g i2 l2 (k2+1)->IsPair g 19 x y->(∀c o,c≠z->c≠TO->c≠i1->c≠i2->s.heap.get? c=85->g.get? c=85)->Q (.ref 19) {s with heap:=g}):wpAny 28 A (Builtin.«zip.__next__» ⟨[.ref z],[]⟩) (λfin s'=>∃v,fin=.done (.ret v)/\Q v s') E s:=by show wpAny 28 A (field (.ref z) 2>>=_) _ _ _;refine ah<|dh hz Z (x:=.bool 94) Z ?_;show wpAny 28 A (field (.ref z) 3>>=_) _ _ _;refine ah<|dh hz Z (x:=.ref TI) Z<|ah<|fF hI Z ?_;show wpAny 28 A (Builtin.SmallTypes.ownedTupleIsFree (.ref z)>>=_) _ _ _;unfold Builtin.SmallTypes.ownedTupleIsFree;refine ah<|ah<|dh hz Z (x:=.none) Z<|av ?_;simp only[gW];refine ah<|dz<|ah<|dh hz Z (x:=.ref TO) Z<|ah<|lK hz 81 λg1 z1 B=>?_;have z1:IsZip g1 z TI TO .ellipsis:=z1;have B:Heap.SameBut z 91 g1:=B;refine ah ?_;simp only[List.zipIdx_cons,List.zipIdx_nil,ju,nO];refine ah<|ah<|lX ?_;show wpAny 28 A (Builtin.SmallTypes.nextOf (.ref i1)>>=_) _ _ _;refine ah<|JM (h1.at λo q=>(B.2 _ D.a3).trans q) (q1.at λo q=>(B.2 _ O1.c1).trans q) hx λg2 j1 J=>av ?_;have J:Heap.SameBut i1 g1 g2:=J;have W:IsPair g2 TO a b:=(J.2 _ D.a8).trans ((B.2 _ D.a2).trans hO);refine ah<|fF W Z<|ah<|wpAny_updateSeq_pair W λg3 O3 L=>ah (fZ<|av ?_);have O3:IsPair g3 TO x b:=O3;have L:Heap.SameBut TO g2 g3:=L;refine ah<|ah<|lX ?_;show wpAny 28 A (Builtin.SmallTypes.nextOf (.ref i2)>>=_) _ _ _;refine ah<|JM (h2.at λo q=>(L.2 _ D.a9.symm).trans ((J.2 _ D.b1.symm).trans<|(B.2 _ D.a4).trans q)) (q2.at λo q=>(L.2 _ O2.c2).trans ((J.2 _ O2.c3).trans<|(B.2 _ O2.c1).trans q)) hy λg4 j2 S=>av ?_;have S:Heap.SameBut i2 g3 g4:=S;have O4:IsPair g4 TO x b:=(S.2 _ D.a9).trans O3;refine ah<|fF O4 Z<|ah<|wpAny_updateSeq_pair O4 λj Y U=>ah (fZ<|av<|av ?_);have Y:IsPair j TO x y:=Y;have U:Heap.SameBut TO g4 j:=U;refine ah<|fF Y Z<|ah<|wpAny_newTuple ?_;(have sz:j.objs.size=19:=by rw[U.1,S.1,L.1,J.1,B.1]);have z5:IsZip j z TI TO .ellipsis:=(U.2 _ D.a2.symm).trans ((S.2 _ D.a4.symm).trans<|(L.2 _ D.a2.symm).trans<|(J.2 _ D.a3.symm).trans z1);have k5:∀c o,c≠z->c≠TO->c≠i1->c≠i2->s.heap.get? c=85->j.get? c=85:=λc o O c2 c3 c4 q=>(U.2 _ c2).trans ((S.2 _ c4).trans<|(L.2 _ c2).trans<|(J.2 _ c3).trans<|(B.2 _ O).trans q);have Wt:lA t1 j i1 l1 (k1+1):=j1.at λo q=>(U.2 _ D.a8.symm).trans ((S.2 _ D.b1).trans<|(L.2 _ D.a8.symm).trans q);have Wu:lA t2 j i2 l2 (k2+1):=j2.at λo q=>(U.2 _ D.a9.symm).trans q;have zl:z<j.objs.size:=aE z5;show wpAny 28 A (Builtin.SmallTypes.ownedTupleHandOut (.ref z) (.ref j.objs.size)>>=_) _ _ _;unfold Builtin.SmallTypes.ownedTupleHandOut;have z6:IsZip (j.push {cls:=.type 118,data:=.seq #[x,y]}) z TI TO .ellipsis:=aX _ z5;refine ah<|ah<|lK z6 81 λg7 z7 e7=>?_;have z7:IsZip g7 z TI TO (rawInt j.objs.size):=z7;refine lK z7 81 λg8 z8 e8=>?_;have z8:IsZip g8 z TI TO (rawInt j.objs.size):=z8;have up:∀c o,c≠z->j.get? c=85->g8.get? c=85:=λc o O q=>(e8.2 c O).trans ((e7.2 c O).trans<|aX _ q);have T8:IsPair g8 j.objs.size x y:=(e8.2 _<|gR zl).trans ((e7.2 _<|gR zl).trans<|aV _ Z);rw[sz]at z8 T8;refine av ⟨_,Z,?_⟩;show Q (.ref j.objs.size) _;rw[sz];exact hQ g8 z8 (up _ _ D.a2 Y) (Wt.at λo q=>up _ o D.a3 q) (Wu.at λo q=>up _ o D.a4 q) T8 λc o O c2 c3 c4 q=>up c o O (k5 c o O c2 c3 c4 q)
theorem Wv(hd:125=none)(D:Ca z TI TO i1 i2)(O1:mS l1 z TO i1 i2)(O2:mS l2 z TO i1 i2)(hz:IsZip 91 z TI TO .none)(hI:IsPair 91 TI (.ref i1) (.ref i2))(hO:IsPair 91 TO a b)(h1:lA t1 91 i1 l1 k1)(h2:lA t2 91 i2 l2 k2)(q1:l6 t1 91 l1 xs)(q2:l6 t2 91 l2 ys)(Y:xs[k1]?=none\/ys[k2]?=none)(hE:∀g e,(∀c o,c≠z->c≠TO->c≠i1->c≠i2->s.heap.get? c=85->g.get? c=85)->(∃o,g.get? e=85/\o.cls=.type "StopIteration")->E (.ref e) {s with heap:=g}):wpAny 28 A (Builtin.«zip.__next__» ⟨[.ref z],[]⟩) Q E s:=by show wpAny 28 A (field (.ref z) 2>>=_) _ _ _;refine ah<|dh hz Z (x:=.bool 94) Z ?_;show wpAny 28 A (field (.ref z) 3>>=_) _ _ _;refine ah<|dh hz Z (x:=.ref TI) Z<|ah<|fF hI Z ?_;show wpAny 28 A (Builtin.SmallTypes.ownedTupleIsFree (.ref z)>>=_) _ _ _;unfold Builtin.SmallTypes.ownedTupleIsFree;refine ah<|ah<|dh hz Z (x:=.none) Z<|av ?_;simp only[gW];refine ah<|dz<|ah<|dh hz Z (x:=.ref TO) Z<|ah<|lK hz 81 λg1 z1 B=>?_;have z1:IsZip g1 z TI TO .ellipsis:=z1;have B:Heap.SameBut z 91 g1:=B;refine ah ?_;simp only[List.zipIdx_cons,List.zipIdx_nil,ju,nO];refine ah<|ah<|lX ?_;show wpAny 28 A (Builtin.SmallTypes.nextOf (.ref i1)>>=_) _ _ _;cases hx:xs[k1]? with|none=>refine ah<|OE hd (h1.at λo q=>(B.2 _ D.a3).trans q) (q1.at λo q=>(B.2 _ O1.c1).trans q) hx λW e J he=>?_;obtain⟨oe,j,L⟩:=he;have z2:IsZip W z TI TO .ellipsis:=J _ _ D.a3.symm z1;(have nz:e≠z:=by rintro rfl;rw[z2]at j;cases j;injection L with L;exact absurd L 82);exact lK z2 81 λg3 _ O=>hE g3 e (λc o U _ c3 _ q=>(O.2 c U).trans<|J c o c3<|(B.2 c U).trans q) ⟨oe,(O.2 e nz).trans j,L⟩|some x=>(have hy:ys[k2]?=none:=by rcases Y with h|h;{rw[hx]at h;cases h};{exact h});refine ah<|JM (h1.at λo q=>(B.2 _ D.a3).trans q) (q1.at λo q=>(B.2 _ O1.c1).trans q) hx λW j1 J=>av ?_;have J:Heap.SameBut i1 g1 W:=J;have S:IsPair W TO a b:=(J.2 _ D.a8).trans ((B.2 _ D.a2).trans hO);refine ah<|fF S Z<|ah<|wpAny_updateSeq_pair S λg3 O3 O=>ah (fZ<|av ?_);have O:Heap.SameBut TO W g3:=O;refine ah<|ah<|lX ?_;show wpAny 28 A (Builtin.SmallTypes.nextOf (.ref i2)>>=_) _ _ _;refine ah<|OE hd (h2.at λo q=>(O.2 _ D.a9.symm).trans ((J.2 _ D.b1.symm).trans<|(B.2 _ D.a4).trans q)) (q2.at λo q=>(O.2 _ O2.c2).trans ((J.2 _ O2.c3).trans<|(B.2 _ O2.c1).trans q)) hy λg4 e e4 he=>?_;obtain⟨oe,j,L⟩:=he;have z4:IsZip g4 z TI TO .ellipsis:=e4 _ _ D.a4.symm ((O.2 _ D.a2.symm).trans<|(J.2 _ D.a3.symm).trans z1);(have nz:e≠z:=by rintro rfl;rw[z4]at j;cases j;injection L with L;exact absurd L 82);exact lK z4 81 λg5 _ e5=>hE g5 e (λc o U c2 c3 c4 q=>(e5.2 c U).trans<|e4 c o c4<|(O.2 c c2).trans<|(J.2 c c3).trans<|(B.2 c U).trans q) ⟨oe,(e5.2 e nz).trans j,L⟩
end
section
variable{prog:bD}{w:World}{A:Around}{E:aP}{s:aF}{z TI TO i1 i2 l1 l2:ai}{k1 k2:Nat}{xs ys:Array au}{x y a b:au}{t1 t2:Bool}
theorem Ww(D:Ca z TI TO i1 i2)(j:mS l1 z TO i1 i2)(q:mS l2 z TO i1 i2)(hz:IsZip 91 z TI TO .none)(B:IsPair 91 TI (.ref i1) (.ref i2))(J:IsPair 91 TO a b)(h1:lA t1 91 i1 l1 k1)(h2:lA t2 91 i2 l2 k2)(U:l6 t1 91 l1 xs)(W:l6 t2 91 l2 ys)(O:xs[k1]?=some x)(S:ys[k2]?=some y)(L:∀g,IsZip g z TI TO (rawInt 19)->IsPair g TO x y->lA t1 g i1 l1 (k1+1)->lA t2 g i2 l2 (k2+1)->IsPair g 19 x y->(∀c o,c≠z->c≠TO->c≠i1->c≠i2->s.heap.get? c=85->g.get? c=85)->Q (some<|.ref 19) {s with heap:=g}):wpAny 28 A (pyNext<|.ref z) Q E s:=by have T:s.TypeIs (.ref z) "zip":=⟨_,hz,Z⟩;unfold pyNext;exact ah<|gA<|gH (name:=Str.ofString "__next__") T pV<|dQ pV T F.entry_zip_next (Ws D j q hz B J h1 h2 U W O S λg Y r2 r3 r4 r5 r6=>av (L g Y r2 r3 r4 r5 r6))<|F.args_zip_next_1 _
theorem Wx(S:125=none)(D:Ca z TI TO i1 i2)(q:mS l1 z TO i1 i2)(B:mS l2 z TO i1 i2)(hz:IsZip 91 z TI TO .none)(J:IsPair 91 TI (.ref i1) (.ref i2))(L:IsPair 91 TO a b)(h1:lA t1 91 i1 l1 k1)(h2:lA t2 91 i2 l2 k2)(q1:l6 t1 91 l1 xs)(q2:l6 t2 91 l2 ys)(j:xs[k1]?=none\/ys[k2]?=none)(O:∀g,(∀c o,c≠z->c≠TO->c≠i1->c≠i2->s.heap.get? c=85->g.get? c=85)->Q none {s with heap:=g}):wpAny 28 A (pyNext<|.ref z) Q E s:=by have T:s.TypeIs (.ref z) "zip":=⟨_,hz,Z⟩;unfold pyNext;refine ah<|gA<|gH (name:=Str.ofString "__next__") T pV<|dQ pV T F.entry_zip_next (Wv S D q B hz J L h1 h2 q1 q2 j λg e W U=>?_)<|F.args_zip_next_1 _;obtain⟨o,Y,c⟩:=U;exact ah<|j3 (T:="StopIteration") (b:=true) ⟨o,Y,c⟩ nP<|av<|O _ W
theorem DK{b:Bool}(h:l6 b 91 l items)(q:Q (.ref 19) {s with heap:=s.heap.push {cls:=.type (GA b),data:=.fields #[.ref l,.int 0 0]}}):wpAny 28 A (pyIter<|.ref l) Q E s:=by cases b with|true=>exact wpAny_pyIter_tuple (show s.heap.IsTuple l items from h) q|false=>exact lP (show s.heap.IsList l items from h) q
end
def tH(K:aC)(b:Bool)(H:Hp)(a:ai)(xs:99):Prop:=if b=true then aI K H a xs else aH K H a xs
section
variable{X:Cx}{pins:bA}{σ:St}{H:Hp}{s:aF}{a:ai}{xs ys:99}
theorem Inv.sq(I:55)(h:tH X.K b H a xs):∃its,Vals xs its/\l6 b 91 a its.toArray:=by cases b with|true=>obtain⟨its,r,p,_⟩:=I.tuple (show aI X.K H a xs from h);exact⟨its,r,p⟩|false=>obtain⟨its,r,p,_⟩:=I.list (show aH X.K H a xs from h);exact⟨its,r,p.isList⟩
theorem Inv.vU(I:55)(h:tH X.K b H a xs)(h':tH X.K b H a ys):xs=ys:=by cases b with|true=>exact I.l5 (show aI X.K H a xs from h) h'|false=>exact I.iz (show aH X.K H a xs from h) h'
theorem Inv.off(I:55)(h:tH X.K b H a xs)(f:gF X pins H c):a≠c:=by(have B:∀u,Rd H a u->a≠c:=λu q=>by rcases q with q|⟨o,q⟩;{exact zj q f.1};{exact zj q f.1});(have j:∀o,X.K.lookup a=85->a≠c:=λo q=>by have e:=I.ok.mod.xG a o q;rintro rfl;rcases f.2.2.2.1 with z|z;{exact I.ok.qD a o e z};{exact absurd (dm (dm (aE e) I.ok.vc) z)<|eW _});cases b with|true=>rcases show aI X.K H a xs from h with q|⟨o,_,_,q,_⟩;{exact B _ q};{exact j o q}|false=>rcases show aH X.K H a xs from h with q|⟨o,_,_,q,_⟩;{exact B _ q};{exact j o q}
end
def JN(K:aC)(j q:Bool)(l1 l2:ai):It:=⟨λi H=>∃xs ys x y,tH K j H l1 xs/\tH K q H l2 ys/\xs[i]?=some x/\ys[i]?=some y,λi H v H'=>∃T x y,H T=none/\v=.ref T/\H'=upd H T (.tup [x,y])/\∀xs ys,tH K j H l1 xs->tH K q H l2 ys->xs[i]?=some x/\ys[i]?=some y,λi H=>∃xs ys,tH K j H l1 xs/\tH K q H l2 ys/\(84<=i\/121<=i)⟩
theorem Wy   {K:aC}     {l1 l2 z TI TO i1 i2:ai}(D:Ca z TI TO i1 i2) :
    Turn P w K (.Tuple elts ct pos) (JN K b1 b2 l1 l2) [z,TI,TO,i1,i2] z (fun i h=>IsZip h z TI TO .none/\IsPair h TI (.ref i1) (.ref i2)/\(∃a b,IsPair h TO a b)/\lA b1 h i1 l1 i/\lA b2 h i2 l2 i) where
  mem:=by simp
  obj:=fun i h q b j=>by
    obtain⟨Y,U,⟨a,c,W⟩,h1,h2⟩:=q
    obtain⟨o1,g1,_,d1⟩:=h1.obj
    obtain⟨o2,g2,_,d2⟩:=h2.obj
    simp only [aM,bE,bT] at j
    rcases j with rfl | rfl | rfl | rfl | rfl
    · exact⟨_,Y,fun v z=>by cases z⟩
    · exact⟨_,U,fun v z=>by cases z⟩
    · exact⟨_,W,fun v z=>by cases z⟩
    · exact⟨_,g1,fun v z=>by rw[d1] at z;cases z⟩
    · exact⟨_,g2,fun v z=>by rw[d2] at z;cases z⟩
  keep:=fun i h h' q k=>by
    obtain⟨Y,U,⟨a,c,W⟩,h1,h2⟩:=q
    exact⟨k z (by simp) _ Y,k TI (by simp) _ U,⟨a,c,k TO (by simp) _ W⟩,h1.at fun o x=>k i1 (by simp) o x,h2.at fun o x=>k i2 (by simp) o x⟩
  item:=by
    intro X hP hw hK hc i pins s σ H E I B q hg
    subst hP hw hK
    obtain⟨xs,ys,x,y,J,L,hx,hy⟩:=hg
    obtain⟨Y,U,⟨a,c,W⟩,h1,h2⟩:=q
    obtain⟨OF,r1,g1⟩:=I.sq J
    obtain⟨OG,r2,g2⟩:=I.sq L
    obtain⟨u,hu,ru⟩:=r1.get hx
    obtain⟨v,hv,rv⟩:=r2.get hy
    have O:mS l1 z TO i1 i2:=⟨I.off J (B z (by simp)),I.off J (B TO (by simp)),I.off J (B i1 (by simp)),I.off J (B i2 (by simp))⟩
    have S:mS l2 z TO i1 i2:=⟨I.off L (B z (by simp)),I.off L (B TO (by simp)),I.off L (B i1 (by simp)),I.off L (B i2 (by simp))⟩
    have lt:∀b o,s.heap.get? b=some o->b≠s.heap.objs.size:=fun b o e=>aS (aE e)
    refine Ww D O S Y U W h1 h2 g1 g2 (x:=u) (y:=v) (by simpa using hu) (by simpa using hv) fun g z' O' j1 j2 T' kk=>⟨_,rfl,?_⟩
    have fn:∀b∈[z,TI,TO,i1,i2],upd H s.heap.objs.size (.tup [x,y]) b=none:=fun b j=>by
      have rj:b≠s.heap.objs.size:=by
        obtain⟨o1,e1,_⟩:=h1.obj
        obtain⟨o2,e2,_⟩:=h2.obj
        simp only [aM,bE,bT] at j
        rcases j with rfl | rfl | rfl | rfl | rfl
        · exact lt _ _ Y
        · exact lt _ _ U
        · exact lt _ _ W
        · exact lt _ _ e1
        · exact lt _ _ e2
      rw[zi rj]
      exact (B b j).1
    have I1:Inv X pins σ (upd H s.heap.objs.size (.tup [x,y])) { s with heap:=g,toks:=s.toks }:=
      I.oV (ch:=[z,TO,i1,i2]) (o:=.tup [x,y]) (fun b o j q=>kk b o (fun e=>j (by simp[e])) (fun e=>j (by simp[e])) (fun e=>j (by simp[e])) (fun e=>j (by simp[e])) q)
        (fun b j=>B b (by simp only [aM,bE,bT] at j ⊢;rcases j with h | h | h | h<;>simp[h])) (aB _) ⟨(by show 2<=sizeLine;decide),[u,v],.cons ru (.cons rv .nil),_,T',rfl,_,rfl⟩
    refine wpAny_letOwnedTupleGo_zip z' fun g2 z2 e2=>?_
    have I2:=I1.kX (t':=s.toks) (h':=g2) (ch:=[z]) (fun b o j q=>(e2.2 b (fun e=>j (by simp[e]))).trans q) (fun b j=>by
      rw[cL] at j
      subst j
      exact⟨fn _ (by simp),(B _ (by simp)).2⟩)
    have Wz:IsPair g TI (.ref i1) (.ref i2):=kk TI _ D.a1 D.a5 D.a6 D.a7 U
    exact⟨.ref s.heap.objs.size,_,I2,rfl,⟨_,x,y,I.bG.fresh (aB _),rfl,rfl,fun xs' Gq p1 p2=>⟨by rw[I.vU p1 J];exact hx,by rw[I.vU p2 L];exact hy⟩⟩,
      ⟨z2,(e2.2 _ D.a1).trans Wz,⟨_,_,(e2.2 _ D.a2).trans O'⟩,j1.at fun o q=>(e2.2 _ D.a3).trans q,j2.at fun o q=>(e2.2 _ D.a4).trans q⟩,fn⟩
  done:=by
    intro X hP hw hK hc i pins s σ H E I B q hg
    subst hP hw hK
    obtain⟨xs,ys,J,L,yd⟩:=hg
    obtain⟨Y,U,⟨a,c,W⟩,h1,h2⟩:=q
    obtain⟨OF,r1,g1⟩:=I.sq J
    obtain⟨OG,r2,g2⟩:=I.sq L
    have l1':=r1.length
    have l2':=r2.length
    have O:mS l1 z TO i1 i2:=⟨I.off J (B z (by simp)),I.off J (B TO (by simp)),I.off J (B i1 (by simp)),I.off J (B i2 (by simp))⟩
    have S:mS l2 z TO i1 i2:=⟨I.off L (B z (by simp)),I.off L (B TO (by simp)),I.off L (B i1 (by simp)),I.off L (B i2 (by simp))⟩
    refine Wx (I.ok.hd hc) D O S Y U W h1 h2 g1 g2 ?_ fun g kk=>⟨rfl,I.kX (t':=s.toks) (ch:=[z,TO,i1,i2]) (fun b o j q=>kk b o (fun e=>j (by simp[e])) (fun e=>j (by simp[e])) (fun e=>j (by simp[e])) (fun e=>j (by simp[e])) q)
        (fun b j=>B b (by simp only [aM,bE,bT] at j ⊢;rcases j with h | h | h | h<;>simp[h]))⟩
    rcases yd with h | h
    · exact .inl (by simp;lia)
    · exact .inr (by simp;lia)
  self:=fun _ _ _ _ _ q h=>wpAny_pyIter_zip q.1 h
open Sem(wp)
def rT(b:Bool)(l:ai):Obj:={cls:=.type (GA b),data:=.fields #[.ref l,.int 0 0]}
def Cb(h:Heap)(j:Bool)(l1:ai):Heap:=h.push (rT j l1)
def AQ(h:Heap)(j q:Bool)(l1 l2:ai):Heap:=(Cb h j l1).push (rT q l2)
def AR(h:Heap)(j q:Bool)(l1 l2:ai):Heap:=(AQ h j q l1 l2).push {cls:=.type 118,data:=.seq #[.ref 123,.ref (Cb h j l1).objs.size]}
def Cc(h:Heap)(j q:Bool)(l1 l2:ai):Heap:=(AR h j q l1 l2).push {cls:=.type 118,data:=.seq #[.none,.none]}
def vV(h:Heap)(j q:Bool)(l1 l2:ai):Heap:=(Cc h j q l1 l2).push {cls:=.type "zip",data:=.fields #[.none,.bool 94,.bool 94,.ref (AQ h j q l1 l2).objs.size,.ref (AR h j q l1 l2).objs.size]}
theorem l6.push(q:l6 b h a items)o:l6 b (h.push o) a items:=q.at λ_ e=>aX _ e
theorem WA j q l1 l2 xs ys:Meets (Builtin.«zip.__new__» ⟨[.type "zip",.ref l1,.ref l2],[]⟩) (λ_ R s=>l6 j 91 l1 xs/\l6 q 91 l2 ys/\R (.ok<|.ret<|.ref (Cc 91 j q l1 l2).objs.size) {s with heap:=vV 91 j q l1 l2}):=.of_wp λprog w A R s h=>by obtain⟨B,g,d,tk,os⟩:=s;obtain⟨O,S,h⟩:=h;have U:=sub_zip;have J:l6 j (Shared.heap ⟨B,g,d,tk,os⟩) l1 xs:=O;have L:l6 q (Shared.heap ⟨B.push {cls:=.type (GA j),data:=.fields #[.ref l1,.int 0 0]},g,d,tk,os⟩) l2 ys:=S.push _;wp_walk using DK J,DK L;exact⟨_,Z,h⟩
section
variable{prog:bD}{w:World}{A:Around}{E:aP}{s:aF}
theorem WB(q1:l6 j 91 l1 xs)(q2:l6 q 91 l2 ys)(h:∀g,IsZip g (19+4) (19+2) (19+3) .none->IsPair g (19+2) (.ref 19) (.ref<|19+1)->IsPair g (19+3) .none .none->lA j g 19 l1 0->lA q g (19+1) l2 0->(∀c o,s.heap.get? c=85->g.get? c=85)->Q (.ref<|19+4) {s with heap:=g}):wpAny 28 A (call (.type "zip") [.ref l1,.ref l2]) Q E s:=by refine callType_new F.called_zip 82 (F.typeCall_zip_2 _ _) (F.newCall_zip_2 _ _) (λW=>F.args_object_init_3 W _ _) F.entry_zip_new (WA j q l1 l2 xs ys) ⟨q1,q2,?_⟩;have U:(Cb 91 j l1).objs.size=19+1:=fh ..;(have O:(AQ 91 j q l1 l2).objs.size=19+2:=by unfold AQ;rw[fh,U]);(have S:(AR 91 j q l1 l2).objs.size=19+3:=by unfold AR;rw[fh,O]);(have n4:(Cc 91 j q l1 l2).objs.size=19+4:=by unfold Cc;rw[fh,S]);have L:∀c o,(Cc 91 j q l1 l2).get? c=85->(vV 91 j q l1 l2).get? c=85:=λc o e=>aX _ e;have J:∀c o,(AR 91 j q l1 l2).get? c=85->(vV 91 j q l1 l2).get? c=85:=λc o e=>L c o (aX _ e);have B:∀c o,(AQ 91 j q l1 l2).get? c=85->(vV 91 j q l1 l2).get? c=85:=λc o e=>J c o (aX _ e);have up1:∀c o,(Cb 91 j l1).get? c=85->(vV 91 j q l1 l2).get? c=85:=λc o e=>B c o (aX _ e);(have g5:IsZip (vV 91 j q l1 l2) (19+4) (19+2) (19+3) .none:=by have:=aV (Cc 91 j q l1 l2) (o:={cls:=.type "zip",data:=.fields #[.none,.bool 94,.bool 94,.ref (AQ 91 j q l1 l2).objs.size,.ref (AR 91 j q l1 l2).objs.size]}) Z;rw[n4,O,S]at this;unfold vV;rw[O,S];z_go);(have g4:IsPair (vV 91 j q l1 l2) (19+3) .none .none:=by have:=L _ _ (aV (AR 91 j q l1 l2) (o:={cls:=.type 118,data:=.seq #[.none,.none]}) Z);rwa[S]at this);(have g3:IsPair (vV 91 j q l1 l2) (19+2) (.ref 19) (.ref<|19+1):=by have:=J _ _ (aV (AQ 91 j q l1 l2) (o:={cls:=.type 118,data:=.seq #[.ref 19,.ref (Cb 91 j l1).objs.size]}) Z);rwa[O,U]at this);have Y:=B _ _ (aV (Cb 91 j l1) (o:=rT q l2) Z);rw[U]at Y;have g1:=up1 _ _ (aV 91 (o:=rT j l1) Z);(have mk:∀(b:Bool)(l i:ai),(vV 91 j q l1 l2).get? i=some (rT b l)->lA b (vV 91 j q l1 l2) i l 0:=λb l i e=>by cases b with|true=>exact⟨_,e,Z,Z⟩|false=>exact⟨_,e,Z,Z⟩);show _/\_;rw[n4];exact⟨⟨_,g5,Z⟩,h _ g5 g3 g4 (mk _ _ _ g1) (mk _ _ _ Y) λc o e=>up1 c o (aX _ e)⟩
end
theorem WC(n:Nat):Ca (n+4) (n+2) (n+3) n (n+1):=⟨λh=>absurd (show(n+2:Nat)=n+4 from h) 80,λh=>absurd (show(n+3:Nat)=n+4 from h) 80,λh=>absurd (show(n:Nat)=n+4 from h) 80,λh=>absurd (show(n+1:Nat)=n+4 from h) 80,λh=>absurd (show(n+2:Nat)=n+3 from h) 80,λh=>absurd (show(n+2:Nat)=n from h) 80,λh=>absurd (show(n+2:Nat)=n+1 from h) 80,λh=>absurd (show(n+3:Nat)=n from h) 80,λh=>absurd (show(n+3:Nat)=n+1 from h) 80,λh=>absurd (show(n:Nat)=n+1 from h) 80⟩
def DL(K:aC)(j q:Bool)(ta:TA):TI:=λσ H R=>ta σ H λB H1=>∃l1 l2 xs ys,B=[.ref l1,.ref l2]/\tH K j H1 l1 xs/\tH K q H1 l2 ys/\R (JN K j q l1 l2) H1
section
variable{X:Cx}
theorem WD{L:List Expr}{ct:Nat}{p7:Pos}{S B:Expr}{ta:TA}{p pos:Pos}(b1 b2:Bool)(hg:Gl X "zip")(hm:X.mg "zip"=none)(ha:PA X [S,B] ta)(hs:starEach [S,B] 106=[(false,eval S 106),(false,eval B 106)]:=by rfl)(O:starEach [B] 106=[(false,eval B 106)]:=by rfl):PI X (.Tuple L ct p7) (.Call (.Name "zip" p) [S,B] [] pos) (DL X.K b1 b2 ta):=by intro pins s σ H R I h;refine Call_<|yZ I hg hm boot_zip<|ni (bR (ha pos pins s σ H _ I h) λus j U=>?_) (by rw[hs,O]) (by rw[O];rfl);obtain⟨vs,H1,J,r1,q1⟩:=U;obtain⟨l1,l2,xs,ys,rfl,GB,JO,q⟩:=q1;obtain⟨u1,u2,rfl,W,Y⟩:=Ay r1;cases W;cases Y;obtain⟨OF,r1',g1⟩:=J.sq GB;obtain⟨OG,r2',g2⟩:=J.sq JO;refine WB g1 g2 λg z I' O' j1 j2 kk=>wpAny_pyIter_zip z ?_;have f:∀k,gF X pins H1 (108+k):=λk=>J.mP (pR _ _) (J.bG.fresh<|pR _ _);refine⟨108+4,[108+4,108+2,108+3,108,108+1],_,_,H1,Z,J.kept (t':=j.toks) kk,Wy<|WC _,⟨z,I',⟨_,_,O'⟩,j1,j2⟩,λb hb=>?_,q⟩;simp only[aM,bE,bT]at hb;rcases hb with rfl|rfl|rfl|rfl|rfl;{exact f 4};{exact f 2};{exact f 3};{exact f 0};{exact f 1}
end
def AS(it:ai)(n:Int):Obj:={cls:=.type 134,data:=.fields #[.none,.bool 94,.ref it,rawInt n,.none,.none]}
theorem WE a b:checkTypeCall 134 ⟨[a],[("start",b)]⟩=pure ():=by k_ne
theorem WG a b:checkBuiltinCall "enumerate.__new__" ⟨[.type 134,a],[("start",b)]⟩=pure ():=by k_ne
theorem WH b l xs n(t:Tok)(S:Builtin.SmallTypes.fitsIndex n=true):Meets (Builtin.«enumerate.__new__» ⟨[.type 134,.ref l],[("start",.int n t)]⟩) (λ_ R s=>l6 b 91 l xs/\R (.ok<|.ret<|.ref (s.heap.push<|rT b l).objs.size) {s with heap:=(s.heap.push<|rT b l).push (AS 19 n)}):=.of_wp λprog w A R s h=>by obtain⟨B,g,d,tk,os⟩:=s;obtain⟨J,h⟩:=h;have O:=sub_enumerate;have q:l6 b (Shared.heap ⟨B,g,d,tk,os⟩) l xs:=J;wp_walk using DK q;refine wpAny_stack_any λL=>av ?_;split;{rename_i c _ _ _ _ _;generalize(c==Value.type 134)=j;cases j;all_goals wp_walk using DK q;exact⟨_,Z,h⟩};{wp_walk using DK q;exact⟨_,Z,h⟩}
theorem WI a b c:argsOk "object.__init__" ⟨[a,b],[("start",c)]⟩:=by unfold argsOk;rw[signature?_of (id:="object.__init__") (n:="__tini__".toList) (o:="tcejbo".toList) (by k_ne) F.owner_object];k_ne
theorem WJ:Meets (Builtin.«object.__init__» ⟨[self,a],[(k,b)]⟩) (λ_ R s=>s.TypeIs self 134/\R (.ok<|.ret .none) s):=by refine Meets.of_wp λprog w A R s hs=>?_;obtain⟨B,q⟩:=hs;have J:typeLookup (.type 134) "__init__"=pure (some<|.builtin "object.__init__"):=F.called_enumerate.init.lookup;have L:=F.called_enumerate.made;(have j:(some "enumerate.__new__"!=some "object.__new__")=true:=by walk);(repeat any_goals first|wp_step|assumption);exact⟨_,Z,q⟩
section
variable{prog:bD}{w:World}{A:Around}{E:aP}{s:aF}
theorem WK(hn:Builtin.SmallTypes.fitsIndex n=true)(q1:l6 b 91 l xs)(h:∀g,IsEnum g (19+1) 19 n .none->lA b g 19 l 0->(∀c o,s.heap.get? c=85->g.get? c=85)->Q (.ref<|19+1) {s with heap:=g}):wpAny 28 A (call (.type 134) [.ref l] [("start",.int n t)]) Q E s:=by have j:=F.called_enumerate;obtain⟨c,tl,Y⟩:=j.mro;have O:=j.made;have JP:=j.sub;have JQ:=WE (.ref l) (.int n t);refine f6<|nM ?_;show wpAny 28 _ (callAny (.type 134) _) _ _ _;refine av ⟨nH _ 50,gg F.entry_type_call ?_⟩;rw[Around.under_plain (rL 134 [.ref l] [("start",.int n t)]) (units_type_call_type 134 [.ref l] [("start",.int n t)])];have h1:=j.notType;have h2:=j.canCreate;(repeat any_goals first|wp_step|assumption);have sz:(s.heap.push<|rT b l).objs.size=19+1:=fh ..;(have U:IsEnum ((s.heap.push<|rT b l).push<|AS 19 n) (19+1) 19 n .none:=by have:=aV (s.heap.push<|rT b l) (o:=AS 19 n) Z;rwa[sz]at this);have B:((s.heap.push<|rT b l).push<|AS 19 n).get? 19=some (rT b l):=aX _ (aV _ Z);refine fH (jX j.plain F.entry_enumerate_new<|gT (WG _ _)<|WH b l xs n t hn prog w A.in1 (wants (λJ s1=>J=.ref (19+1)/\s1={s with heap:=(s.heap.push<|rT b l).push (AS 19 n)}) E) s ⟨q1,by rw[sz];exact⟨Z,Z⟩⟩) λr s1 S=>?_;cases r with|error e=>exact S|ok fl=>cases fl with|ret J=>obtain⟨rfl,rfl⟩:=S;have W:({s with heap:=(s.heap.push<|rT b l).push (AS 19 n)}:aF).TypeIs (.ref<|19+1) 134:=⟨_,U,Z⟩;have WL:=j.init.lookup;have WM:=j.init.bind (.ref<|19+1);(repeat any_goals first|wp_step|assumption);refine fH (jX j.init.plain F.entry_object_init<|j.init.check _ _ _ _ _ _ _ _ W (WI _ _ _)<|WJ prog w A.in1 (wants (λr s2=>r=.none/\s2={s with heap:=(s.heap.push<|rT b l).push (AS 19 n)}) E) _ ⟨W,Z,Z⟩) λr2 s2 q=>?_;(cases r2 with|error e=>exact q|ok L=>cases L with|ret r=>obtain⟨rfl,rfl⟩:=q;(repeat any_goals first|wp_step|assumption);refine h _ U ?_ λc o e=>aX _ (aX _ e);(cases b with|true=>exact⟨_,B,Z,Z⟩|false=>exact⟨_,B,Z,Z⟩)|_=>exact q.elim)|_=>exact S.elim
end
def OH(K:aC)(n:Nat)(te:TE):TI:=λσ H R=>te σ H λx H1=>∃l xs,x=.ref l/\aH K H1 l xs/\R (B9 K l n) H1
section
variable{X:Cx}
theorem WN{B:List Expr}{ct:Nat}{p7:Pos}{e:Expr}{te:TE}{p pos kpos cD:Pos}{j:Nat}(n:Nat)(hn:Builtin.SmallTypes.fitsIndex (n:Int)=true)(hg:Gl X 134)(hm:X.mg 134=none)(he:PE X e te)(hs:starEach [e] 106=[(false,eval e 106)]:=by rfl):PI X (.Tuple B ct p7) (.Call (.Name 134 p) [e] [⟨some "start",.Constant (.int (n:Int)) j cD,kpos⟩] pos) (OH X.K n te):=by intro pins s σ H R I h;refine lJ<|yZ I hg hm boot_enumerate ?_;refine PySem.W.callWith_of (P:=λ_=>True) (first:=[]) (by rw[hs];rfl) (λh _=>⟨.machine,.inr<|.inl Z,λ_ _ _ _ _ q=>av q⟩)<|PyProof.Rows.evalArgs_kw2 Z ?_ hs;refine bR (za he zd hs pos pins s σ H (λS H1=>match S with|[x]=>∃l xs,x=.ref l/\aH X.K H1 l xs/\R (B9 X.K l n) H1|_=>False) I h) λus s1 O=>?_;obtain⟨S,H1,Y,r,q⟩:=O;match S,q with|[x],q=>obtain⟨l,xs,rfl,hl,q⟩:=q;obtain⟨u,rfl,ru⟩:=kO r;cases ru;refine bR (US (nm:=some "start") (kpos:=kpos) (ze (i:=(n:Int)) (j:=j) (pos:=cD)) UR pos pins s1 σ H1 (λzs H2=>zs=[.int (n:Int)]/\H2=H1) Y ⟨Z,Z⟩) λws J⟨zs,H2,L,rz,q2⟩=>⟨trivial,?_⟩;obtain⟨rfl,rfl⟩:=q2;obtain⟨v,rfl,t,rfl⟩:=kO rz;obtain⟨its,r',g1⟩:=L.sq (b:=94) hl;refine WK hn g1 λg U it kk=>wpAny_pyIter_enum U ?_;have f:∀k,gF X pins H2 (J.heap.objs.size+k):=λk=>L.mP (pR _ _) (L.bG.fresh<|pR _ _);refine⟨J.heap.objs.size+1,[J.heap.objs.size+1,J.heap.objs.size],_,_,H2,Z,L.kept (t':=J.toks) kk,Wq l _ _ n<|Nat.succ_ne_self _,⟨⟨_,U⟩,it⟩,λb W=>?_,q⟩;simp only[aM,bE,bT]at W;rcases W with rfl|rfl;{exact f 1};{exact f 0}
end
open Sem(wp)
def kG(h:Heap)(d:ai)(es:Array DictEntry)(j:Nat):Prop:=∃o,h.get? d=85/\o.ExactDict/\o.data=.dict es j
theorem kG.at(q:kG h d es j)(k:∀o,h.get? d=85->h'.get? d=85):kG h' d es j:=let⟨o,B,r⟩:=q;⟨o,k o B,r⟩
theorem kG.typeIs{s:aF}(q:kG 91 d es B):s.TypeIs (.ref d) "dict":=let⟨o,j,c,_⟩:=q;⟨o,j,c.1⟩
section
variable{prog:bD}{w:World}{A:Around}{E:aP}{s:aF}
theorem JR(O:(d==sysModules)=94)(q:kG 91 d es J)(L:Q (.ref 19) {s with heap:=s.heap.push {cls:=.type "dict_keyiterator",data:=.fields #[.ref d,.int 0 0,.int 107 0,.int J 0]}}):wpAny 28 A (pyIter<|.ref d) Q E s:=by obtain⟨o,B,S,j⟩:=id q;have T:s.TypeIs (.ref d) "dict":=q.typeIs;refine pK T F.slot_dict_iter<|dQ F.slot_dict_iter T F.entry_dict_iter ?_<|F.args_dict_iter_1 _;unfold Builtin.«dict.__iter__»;refine ah ?_;unfold Builtin.Dict.dictSlotNone;refine ah<|wpAny_notOrdered_dict T ?_;show wpAny 28 _ (pure<|Value.ref d) _ _ s;refine av ?_;show wpAny 28 _ (Builtin.Dict.showsAll d>>=_) _ _ s;unfold Builtin.Dict.showsAll;rw[ao (by rw[O];exact bC)];refine ah<|av<|ah<|pL B j<|ah<|pW B j ?_;exact ah<|cQ<|av ⟨_,Z,"dict_keyiterator",_,⟨_,aV _ Z,Z⟩,nh.lookup,L⟩
theorem OI(j:s.heap.IsKeyIter it d i 107 L)(hm:kG 91 d es L)(hx:es[i]?=some e)(W:∀h1,h1.IsKeyIter it d (i+1) 107 L->Heap.SameBut it 91 h1->Q (some e.key) {s with heap:=h1}):wpAny 28 A (pyNext<|.ref it) Q E s:=by obtain⟨o,S,Y,J⟩:=id j;obtain⟨od,B,C8,q⟩:=id hm;obtain⟨O,he⟩:=iW.mp hx;subst he;unfold pyNext;refine ah<|gA<|gH (name:=Str.ofString "__next__") j.typeIs nh<|dQ nh j.typeIs F.entry_dict_keyiterator_next ?_<|F.args_dict_keyiterator_next_1 _;refine ah<|av<|ah<|ah ?_;refine ah<|o5 j.typeIs<|av<|ah<|lW S J ?_;(have own:Builtin.Dict_items.ownsTuple "dict_keyiterator"=94:=by walk);simp only[own,jm,fK];show wpAny 28 _ (if(Value.ref d==112)=true then _ else _) _ _ s;rw[ao (show¬((Value.ref d==112)=true)from bC)];refine ah<|av<|ah<|pL B q ?_;rw[ao 81];refine ah<|av<|ah<|pW B q ?_;rw[ao 81];refine av ?_;simp only[show¬((i:Int)<0)from by lia,fK,lQ,ic O];refine ah<|ah<|o5 j.typeIs<|av<|ah<|wpAny_isOneOf_keyiter j.typeIs ?_;show wpAny 28 _ (setField (.ref it) 1 (rawInt<|(i:Int)+1)>>=_) _ _ s;refine ah<|gh S J 81 ?_;have U:(s.heap.update it (Obj.mapFields (·.setIfInBounds 1<|rawInt<|(i:Int)+1))).IsKeyIter it d (i+1) 107 L:=⟨_,d9 _ S<|jf<|gJ J _,(pJ ..).trans Y,by rw[gJ J];simp[rawInt]⟩;refine ah (dS (ah (wpAny_isOneOf_keyiter (s:={s with heap:=s.heap.update it (Obj.mapFields (·.setIfInBounds 1<|rawInt<|(i:Int)+1))}) U.typeIs ?_)));show wpAny 28 _ (pure es[i].key) _ _ _;exact av<|av ⟨_,Z,av<|W _ U<|iw ..⟩
theorem OJ(W:125=none)(j:s.heap.IsKeyIter it d i 107 O)(Y:kG 91 d es O)(hx:107<=i)(S:∀h1,Heap.ExtBut it 91 h1->Q none {s with heap:=h1}):wpAny 28 A (pyNext<|.ref it) Q E s:=by obtain⟨o,L,hc,J⟩:=id j;obtain⟨od,B,U,q⟩:=id Y;unfold pyNext;refine ah<|gA<|gH (name:=Str.ofString "__next__") j.typeIs nh<|dQ nh j.typeIs F.entry_dict_keyiterator_next ?_<|F.args_dict_keyiterator_next_1 _;refine ah<|av<|ah<|ah ?_;refine ah<|o5 j.typeIs<|av<|ah<|lW L J ?_;(have own:Builtin.Dict_items.ownsTuple "dict_keyiterator"=94:=by walk);simp only[own,jm,fK];show wpAny 28 _ (if(Value.ref d==112)=true then _ else _) _ _ s;rw[ao (show¬((Value.ref d==112)=true)from bC)];refine ah<|av<|ah<|pL B q ?_;rw[ao 81];refine ah<|av<|ah<|pW B q ?_;rw[ao 81];refine av ?_;simp only[show¬((i:Int)<0)from by lia,fK,lQ,nA hx];refine ah<|ah<|o5 j.typeIs<|av ?_;show wpAny 28 _ (setField (.ref it) 0 .none>>=_) _ _ s;refine ah<|gh L J 81 ?_;show wpAny 28 _ (newExc (.type "StopIteration") []>>=_) _ _ _;refine ah ?_;simp only[newExc,newTuple];refine ah<|cQ (ah (m:=firstArgMember _ _)<|gT (a:=112) (by first|rfl|simp only[firstArgMember];rfl)<|cQ ?_ (by size_fits)) (by size_fits);simp only[raiseNew];refine ah<|nS ?_;rw[show A.in1.handled=none from W];refine ah<|av<|wpAny_throw ?_;exact ah<|j3 (T:="StopIteration") (b:=true) ⟨_,aV _ Z,Z⟩ nP<|av<|S _<|((iw ..).extBut.push _).push _
theorem OL (W:A.handled=none)  I d  (B:d≠I)  es   L  :
    Walks prog w A I [I,d] [I] es.size (fun i v=>∃e,es[i]? = some e/\v=e.key) (fun i h=>h.IsKeyIter I d i es.size L/\kG h d es L) where
  sub:=fun b j=>by simp at j;simp[j]
  frame:=fun _ _ _ st O=>⟨st.1.at fun o e=>O I (by simp) o e,st.2.at fun o e=>O d (by simp) o e⟩
  item:=fun i s Q E hi st q=>by
    have S:es[i]? = some es[i]:=ic hi
    exact OI st.1 st.2 S fun h1 J hs=>q _ h1 s.toks ⟨_,S,rfl⟩ ⟨J,st.2.at fun o e=>(hs.2 d B).trans e⟩ fun b o j e=>(hs.2 b (fun h=>j (by simp[h]))).trans e
  done:=fun s Q E st q=>OJ W st.1 st.2 (aB _) fun h1 U=>q h1 s.toks fun b o j e=>U b o (fun h=>j (by simp[h])) e
  self:=fun _ _ _ _ st q=>wpAny_pyIter_keyiter st.1 q
theorem OM(T:s.TypeIs (.ref d) "dict")(q:Q 94 s):wpAny 28 A (Builtin.List.listLengthHint<|.ref d) Q E s:=by unfold Builtin.List.listLengthHint;refine ah<|pT T F.slot_dict_len.lookup ?_;(have e:splitId "dict.__len__"=some ("dict","__len__"):=by k_ne);simp only[e];(have j:isSubtype (.type "dict") (.type "dict")=pure true:=by rw[gQ];k_ne);exact ah<|j3 (T:="dict") (b:=true) T j<|ah<|gS T<|av q
theorem WO(T:s.TypeIs (.ref d) "dict_values")(q:Q 94 s):wpAny 28 A (Builtin.List.listLengthHint<|.ref d) Q E s:=by unfold Builtin.List.listLengthHint;refine ah<|pT T F.slot_dict_values_len.lookup ?_;(have e:splitId "dict_values.__len__"=some ("dict_values","__len__"):=by k_ne);simp only[e];(have j:isSubtype (.type "dict_values") (.type "dict_values")=pure true:=by rw[gQ];k_ne);exact ah<|j3 (T:="dict_values") (b:=true) T j<|ah<|gS T<|av q
end
section
variable{prog:bD}{w:World}{A:Around}{s:aF}{R:Result->aF->Prop}{I:ai}{fp wr:List ai}{n:Nat}{P:Nat->au->Prop}{St:Nat->Heap->Prop}
theorem ON(W:Walks prog w A.in1 I fp wr n P St)(hn:n<=89)(S:ai)(c:Nat)(U:St 0 91)(Y:S∉fp)(hl:s.heap.get? S=some {cls:=.type 115,data:=.seq #[] c})(hR:∀j q B,Moved (S::wr) (λa b=>b=a) s j->j.heap.get? S=some {cls:=.type 115,dict:=none,data:=.seq q B,slots:=#[]}->ItemsOf P q n->R (.ok<|.ret .none) j):wpAny 28 A.in1 (rule "list.extend.makes-room">>=λ_=>Builtin.List.listTouch (.ref S)>>=λ_=>again (.builtin "list.extend.loop" ⟨[.ref S,.ref I,.none],[]⟩)) (λO j=>match O with|.done f=>R (.ok f) j|.again B=>B.quiet=true/\codeAny 28 A B R j) (λe j=>R (.error e) j) s:=by refine ah<|dz<|ah ?_;show wpAny 28 A.in1 (updateSeq S (·.push .none)>>=λ_=>updateSeq S (·.pop)) _ _ _;refine ah<|jk hl Z ?_;have l2:=d9 (Obj.mapSeq (·.push 112)) hl Z;refine jk (hz:=by seq_fits) l2 Z ?_;have l3:=d9 (Obj.mapSeq (·.pop)) l2 Z;have L:∀b o,b≠S->104=85->((s.heap.update S (Obj.mapSeq (·.push 112))).update S (Obj.mapSeq (·.pop))).get? b=85:=λb o J e=>(dP _ _<|aG J).trans ((dP _ _<|aG J).trans e);refine av ⟨gK F.plain_extend_loop _,codeAny_extend_loopS W.toS hn _ Y _ n 0 _ _ _ Z (fj _) (W.toS.frame 0 s _ 124 U (aB _) λb J o e=>L b o (λh=>Y<|h▸J) e) l3 (ItemsOf.nil P) λj q B hm h1 h2=>?_⟩;have m0:Moved (S::wr) (λ(a b:Array GenState)=>b=a) s {s with heap:=(s.heap.update S (Obj.mapSeq (·.push 112))).update S (Obj.mapSeq (·.pop))}:=⟨λb o J e=>L b o (λh=>J (by simp[h])) e,Z,Z,Z,aB _⟩;exact hR j q B (Moved.trans (λ_ _ _ h1 h2=>h2.trans h1) m0 hm) h1 h2
end
section
variable{prog:bD}{w:World}{A:Around}{s:aF}{R:Result->aF->Prop}
theorem OO{S:ai}{x:au}(L:s.heap.get? S=some {cls:=.type 115,data:=.seq #[]})(h:wpAny 28 A.in1 (Builtin.List.listExtendWith (.ref S) x .none) (λq j=>match q with|.done f=>R (.ok f) j|.again B=>B.quiet=true/\codeAny 28 A B R j) (λe j=>R (.error e) j) {s with heap:=s.heap.update S (Obj.mapSeq λ_=>(#[]:Array au))}):wpAny 28 A.in1 (Builtin.«list.__init__» ⟨[.ref S,x],[]⟩) (λq j=>match q with|.done f=>R (.ok f) j|.again B=>B.quiet=true/\codeAny 28 A B R j) (λe j=>R (.error e) j) s:=by show wpAny 28 A.in1 (do let J←Builtin.List.listItems (.ref S);Builtin.List.listUpdate (.ref S) (λ_=>#[]);letGo J.toList.reverse;Builtin.List.listExtendWith (.ref S) x .none) _ _ s;refine ah ?_;unfold Builtin.List.listItems;refine ah<|fF L Z<|av ?_;show wpAny 28 A.in1 (updateSeq S (λ_=>#[])>>=λ_=>letGo (#[]:Array au).toList.reverse>>=λ_=>Builtin.List.listExtendWith (.ref S) x .none) _ _ s;exact ah<|jk L Z<|ah<|fZ h
end
section
variable{prog:bD}{w:World}{A:Around}{E:aP}{s:aF}
theorem OP(hh:125=none)(hd:(d==sysModules)=94)(hm:kG 91 d es O)(hn:107<=89)(hQ:∀h1 j c tk,(∀b o,104=85->h1.get? b=85)->h1.get? 19=some {cls:=.type 115,dict:=none,data:=.seq j c,slots:=#[]}->ItemsOf (λi v=>∃e,es[i]?=some e/\v=e.key) j 107->Q (.ref 19) {s with heap:=h1,toks:=tk}):wpAny 28 A (call (.type 115) [.ref d]) Q E s:=by(have dl:d<19:=by obtain⟨o,ho,_⟩:=hm;exact aE ho);refine callType_codes (Q₁:=λL s1=>L=.ref 19/\s1={s with heap:=s.heap.push {cls:=.type 115,data:=.seq #[]}}) F.called_list (F.typeCall_list_1 _) F.entry_list_init (code_list_new _ ⟨Z,Z⟩) λL s1 h1=>?_;obtain⟨rfl,rfl⟩:=h1;have W:(s.heap.push {cls:=.type 115,data:=.seq #[]}).get? 19=some {cls:=.type 115,data:=.seq #[]}:=aV _ Z;refine⟨⟨_,W,Z⟩,F.args_list_init_2 _ _,OO W ?_⟩;have l2:=d9 (Obj.mapSeq λ_=>(#[]:Array au)) W Z;have B:∀b o,104=85->((s.heap.push {cls:=.type 115,data:=.seq #[]}).update 19<|Obj.mapSeq λ_=>(#[]:Array au)).get? b=85:=λb o e=>(dP _ _ λz=>eW _<|z▸aE e).trans (aX _ e);have q:=hm.at (h':=(s.heap.push {cls:=.type 115,data:=.seq #[]}).update 19 (Obj.mapSeq λ_=>(#[]:Array au))) λo e=>B d o e;(have S:((s.heap.push {cls:=.type 115,data:=.seq #[]}).update 19<|Obj.mapSeq λ_=>(#[]:Array au)).objs.size=19+1:=by rw[Heap.size_update,fh]);generalize(s.heap.push {cls:=.type 115,data:=.seq #[]}).update 19 (Obj.mapSeq λ_=>(#[]:Array au))=g at l2 B q S;have T:({s with heap:=g}:aF).TypeIs (.ref d) "dict":=q.typeIs;unfold Builtin.List.listExtendWith;refine ah<|gS T ?_;(have sr:Builtin.List.listSameRef (.ref 19) (.ref d)=94:=by have:19≠d:=aG (aS dl);simp[Builtin.List.listSameRef,this]);(have t1:(Value.type "dict"==Value.type 115)=94:=by walk);(have t2:(Value.type "dict"==Value.type 118)=94:=by walk);simp only[sr,t1,t2,nR,jm,fK];refine ah<|JR (s:={s with heap:=g}) hd q ?_;have J:=q.at (h':=g.push {cls:=.type "dict_keyiterator",data:=.fields #[.ref d,.int 0 0,.int 107 0,.int O 0]}) λo e=>aX _ e;refine ah<|dS<|OM (s:={s with heap:=g.push {cls:=.type "dict_keyiterator",data:=.fields #[.ref d,.int 0 0,.int 107 0,.int O 0]}}) J.typeIs ?_;(have dI:d≠g.objs.size:=by rw[S];exact aS<|jZ dl);(have SI:19∉[g.objs.size,d]:=by rw[S];intro z;simp only[aM,bE,bT]at z;rcases z with z|z;{exact absurd z<|aS<|iJ _};{exact absurd z<|aG<|aS dl});refine ON (A:=A.in1) (s:={s with heap:=g.push {cls:=.type "dict_keyiterator",data:=.fields #[.ref d,.int 0 0,.int 107 0,.int O 0]}}) (OL (A:=A.in1.in1) hh g.objs.size d dI es O) hn _ _ ⟨⟨_,aV _ Z,Z,Z⟩,J⟩ SI (aX _ l2) λs2 j c Y h2 h3=>?_;obtain⟨hp,ge,dr,tk,os⟩:=s2;obtain⟨m1,m2,m3,m4,m5⟩:=Y;obtain rfl:ge=s.gens:=m2;obtain rfl:dr=s.drawn:=m3;obtain rfl:os=s.os:=m4;refine⟨Z,hQ hp j c tk (λb o e=>m1 b o ?_<|aX _<|B b o e) h2 h3⟩;intro z;have U:=aE e;simp only[aM,bE,bT]at z;rcases z with z|z;{exact absurd U (by rw[z];exact eW _)};{have z:b=g.objs.size:=z;rw[z,S]at U;exact absurd U<|nJ<|fk _}
theorem WQ{κ:Type}[DecidableEq κ]{knd:KeyKind prog w κ}{d v:ai}{kvs:List (κ×au)}{Q:aP}(hh:125=none)(hv:s.heap.IsValuesView v d)(U:s.heap.DictOf knd d kvs)(hn:113<=89)(hQ:∀h1 j c tk,(∀b o,104=85->h1.get? b=85)->h1.get? 19=some {cls:=.type 115,dict:=none,data:=.seq j c,slots:=#[]}->ItemsOf (λi v=>∃k,kvs[i]?=some (k,v)) j 113->Q (.ref 19) {s with heap:=h1,toks:=tk}):wpAny 28 A (call (.type 115) [.ref v]) Q E s:=by obtain⟨L,U⟩:=U.dictAt;have dl:d<19:=U.lt_size;(have vl:v<19:=by obtain⟨o,O,_⟩:=hv;exact aE O);refine callType_codes (Q₁:=λS s1=>S=.ref 19/\s1={s with heap:=s.heap.push {cls:=.type 115,data:=.seq #[]}}) F.called_list (F.typeCall_list_1 _) F.entry_list_init (code_list_new _ ⟨Z,Z⟩) λS s1 h1=>?_;obtain⟨rfl,rfl⟩:=h1;have hS:(s.heap.push {cls:=.type 115,data:=.seq #[]}).get? 19=some {cls:=.type 115,data:=.seq #[]}:=aV _ Z;refine⟨⟨_,hS,Z⟩,F.args_list_init_2 _ _,OO hS ?_⟩;have l2:=d9 (Obj.mapSeq λ_=>(#[]:Array au)) hS Z;have B:∀b o,104=85->((s.heap.push {cls:=.type 115,data:=.seq #[]}).update 19<|Obj.mapSeq λ_=>(#[]:Array au)).get? b=85:=λb o e=>(dP _ _ λz=>eW _<|z▸aE e).trans (aX _ e);have J:=U.keep B;have q:((s.heap.push {cls:=.type 115,data:=.seq #[]}).update 19<|Obj.mapSeq λ_=>(#[]:Array au)).IsValuesView v d:=let⟨o,O,r⟩:=hv;⟨o,B v o O,r⟩;(have W:((s.heap.push {cls:=.type 115,data:=.seq #[]}).update 19<|Obj.mapSeq λ_=>(#[]:Array au)).objs.size=19+1:=by rw[Heap.size_update,fh]);generalize(s.heap.push {cls:=.type 115,data:=.seq #[]}).update 19 (Obj.mapSeq λ_=>(#[]:Array au))=g at l2 B J q W;have T:({s with heap:=g}:aF).TypeIs (.ref v) "dict_values":=q.typeIs;unfold Builtin.List.listExtendWith;refine ah<|gS T ?_;(have sr:Builtin.List.listSameRef (.ref 19) (.ref v)=94:=by have:19≠v:=aG (aS vl);simp[Builtin.List.listSameRef,this]);(have t1:(Value.type "dict_values"==Value.type 115)=94:=by walk);(have t2:(Value.type "dict_values"==Value.type 118)=94:=by walk);simp only[sr,t1,t2,nR,jm,fK];refine ah<|wpAny_pyIter_values (s:={s with heap:=g}) q J ?_;have GC:=J.push {cls:=.type "dict_valueiterator",data:=.fields #[.ref d,.int 0 0,.int 113 0,.int L 0]};have WR:(g.push {cls:=.type "dict_valueiterator",data:=.fields #[.ref d,.int 0 0,.int 113 0,.int L 0]}).IsValuesView v d:=let⟨o,O,r⟩:=q;⟨o,aX _ O,r⟩;refine ah<|dS<|WO (s:={s with heap:=g.push {cls:=.type "dict_valueiterator",data:=.fields #[.ref d,.int 0 0,.int 113 0,.int L 0]}}) WR.typeIs ?_;(have dI:d≠g.objs.size:=by rw[W];exact aS<|jZ dl);(have SI:19∉[g.objs.size,d]:=by rw[W];intro z;simp only[aM,bE,bT]at z;rcases z with z|z;{exact absurd z<|aS<|iJ _};{exact absurd z<|aG<|aS dl});refine ON (A:=A.in1) (s:={s with heap:=g.push {cls:=.type "dict_valueiterator",data:=.fields #[.ref d,.int 0 0,.int 113 0,.int L 0]}}) (Walks.dictValues (A:=A.in1.in1) hh g.objs.size d dI kvs L) hn _ _ ⟨⟨_,aV _ Z,Z,Z⟩,GC⟩ SI (aX _ l2) λs2 j c JS h2 h3=>?_;obtain⟨hp,ge,dr,tk,os⟩:=s2;obtain⟨m1,m2,m3,m4,m5⟩:=JS;obtain rfl:ge=s.gens:=m2;obtain rfl:dr=s.drawn:=m3;obtain rfl:os=s.os:=m4;refine⟨Z,hQ hp j c tk (λb o e=>m1 b o ?_<|aX _<|B b o e) h2 h3⟩;intro z;have Y:=aE e;simp only[aM,bE,bT]at z;rcases z with z|z;{exact absurd Y (by rw[z];exact eW _)};{have z:b=g.objs.size:=z;rw[z,W]at Y;exact absurd Y<|nJ<|fk _}
end
theorem Vals.of_get:∀{xs:99}{us:List au},84=109->(∀(i:Nat)x u,xs[i]?=some x->us[i]?=some u->RelV x u)->Vals xs us|[],[],_,_=>.nil|x::xs,u::us,j,h=>.cons (h 0 x u Z Z) (Vals.of_get (by simpa using j) λi y v q B=>h (i+1) y v (by simpa using q) (by simpa using B))|[],_::_,j,_=>by simp at j|_::_,[],j,_=>by simp at j
theorem JT(h:Aj k v=true):RelV (kV k) v:=by rcases w6 h with⟨i,t,rfl,rfl⟩|⟨x,t,rfl,rfl⟩;{exact⟨t,Z⟩};{exact⟨t,Z⟩}
theorem Paired.get'{B J:Type}{F:B->J->Prop}:∀{j:List B}{q:List J}{i:Nat}{a:B},Paired F j q->j[i]?=some a->∃b,q[i]?=some b/\F a b|_,_,_,_,.nil,e=>by simp at e|_,_,0,_,.cons r _,e=>by simp at e;k_go;exact⟨_,Z,r⟩|_,_,i+1,a,.cons _ t,e=>by obtain⟨u,h1,h2⟩:=Paired.get' (i:=i) (a:=a) t (by simpa using e);exact⟨u,by simpa using h1,h2⟩
section
variable{X:Cx}
theorem JU{σ:St}(I:55)(B:∀b o,104=85->h1.get? b=85)(e:h1.get? 19=some {cls:=.type 115,dict:=none,data:=.seq j c,slots:=#[]})(r:Vals ys j.toList)(hz:121<=89)(q:∀l,H l=none->Q (.ref l) (upd H l<|.lst ys)):EP X pins σ Q (.ref 19) {s with heap:=h1,toks:=tk}:=⟨.ref 19,_,I.laid (t':=tk) (o:=.lst ys) B (aB _) ⟨hz,j.toList,c,r,by simpa using e⟩,Z,q _<|I.bG.fresh<|aB _⟩
theorem JV(hc:X.calm=true):jH X (.type 115) (λxs H Q=>∃p kvs,xs=[V.ref p]/\H p=some (.dK kvs)/\∀l,H l=none->Q (.ref l) (upd H l<|.lst<|kvs.map λB=>kV B.1)):=by intro pins s σ H xs us Q I r h;obtain⟨p,kvs,rfl,hp,q⟩:=h;obtain⟨u,rfl,ru⟩:=kO r;cases ru;obtain⟨z,hd,Y,j,o,es,ep,e,ex,dt,kk,pr,nd⟩:=I.bG p _ hp;have l1:113=Y.length:=Paired.length j;(have l2:107=Y.length:=by rw[←pr.length];simp);refine OP (I.ok.hd hc) hd ⟨o,e,ex,dt⟩ 80 λh1 acc c tk kp el W=>JU I kp el (Vals.of_get ?_ λi x v ex ev=>?_) (by rw[ay];exact z) q;{have:=W.1;simp only[ay,cK];lia};{rw[aT]at ex;cases J:kvs[i]? with|none=>rw[J]at ex;cases ex|some B=>rw[J]at ex;cases ex;obtain⟨U,L,rfl⟩:=W.2 i v (by simpa using ev);obtain⟨S,hw,O⟩:=Paired.get' j J;have:=(pr.get? (e:=U) (k:=S.1) (v:=S.2) (by simpa using L) (by rw[hw])).1;have e1:B.1=S.1:=O.1;show RelV (kV B.1) U.key;rw[e1];exact JT this}
abbrev GD(H:Hp):List ai->List (List Key×V)->Prop:=Paired λa j=>H a=some (.tup<|j.1.map kV)
theorem OQ:∀{kvs}{ys},Paired (λp(q:List Key×ai×au)=>p.1=q.1/\H q.2.1=some (.tup<|p.1.map kV)/\RelV p.2 q.2.2) kvs ys->GD H (ys.map λy=>y.2.1) kvs|_,_,.nil=>.nil|_,_,.cons r t=>.cons r.2.1 (OQ t)
theorem WS(hc:X.calm=true):jH X (.type 115) (λxs H Q=>∃p kvs,xs=[V.ref p]/\H p=some (.dT kvs)/\∀l as,GD H as kvs->H l=none->Q (.ref l) (upd H l<|.lst<|as.map 122)):=by intro pins s σ H xs us Q I r h;obtain⟨p,kvs,rfl,hp,q⟩:=h;obtain⟨u,rfl,ru⟩:=kO r;cases ru;obtain⟨z,hd,ys,B,o,es,ep,e,ex,U,L,nd⟩:=I.bG p _ hp;have l1:113=121:=Paired.length B;(have l2:107=121:=by have:=bw List.length L;simpa using this);have kt:GD H (ys.map λy=>y.2.1) kvs:=OQ B;refine OP (I.ok.hd hc) hd ⟨o,e,ex,U⟩ 80 λh1 S c tk kp W O=>JU (ys:=(ys.map λy=>y.2.1).map 122) I kp W (Vals.of_get ?_ λi x v ex ev=>?_) (by simp only[ay];lia) λl hl=>q l _ kt hl;{have:=O.1;simp only[ay,cK];lia};{obtain⟨Y,j,rfl⟩:=O.2 i v (by simpa using ev);(have j:es.toList[i]?=some Y:=by simpa using j);rw[L,aT]at j;rw[bK,aT]at ex;cases J:ys[i]? with|none=>rw[J]at ex;cases ex|some y=>rw[J]at ex j;cases ex;cases j;exact Z}
def vm(p d:ai):HO:=.ext λh=>h.IsValuesView p d
theorem DM:xU X "dict.values" (λx xs H Q=>∃d kvs,x=V.ref d/\xs=[]/\H d=some (.dK kvs)/\∀p,H p=none->Q 101 (upd H p<|vm p d)):=by intro pins s σ H x xs v us Q I L rs h;obtain⟨d,kvs,rfl,rfl,j,q⟩:=h;cases L;cases rs;obtain⟨z,hs,O,J,dd⟩:=I.bG d _ j;refine call_meetsIn PySem.F.slot_dict_values dd.typeIs PySem.F.entry_dict_values (PySem.F.args_dict_values_1 _) (meets_dict_values (oA 126 X.w) d hs) ⟨⟨O,dd⟩,?_⟩;refine⟨.ref 19,_,I.laid (t':=124) (a:=19) (o:=vm 19 d) (λb u e=>aX _ e) (aB _) ⟨⟨_,aV _ Z,Z,Z⟩,⟨_,aV _ Z⟩,λh1 h2⟨o,B,r⟩k=>⟨o,k o B,r⟩⟩,Z,q _<|I.bG.fresh<|aB _⟩
theorem DN(Y:X.calm=true):jH X (.type 115) (λxs H Q=>∃p d kvs,xs=[V.ref p]/\H p=some (vm p d)/\H d=some (.dK kvs)/\∀l,H l=none->Q (.ref l) (upd H l (.lst (kvs.map (·.2))))):=by intro pins s σ H xs us Q I r h;obtain⟨p,d,kvs,rfl,hp,hd,q⟩:=h;obtain⟨u,rfl,ru⟩:=kO r;cases ru;obtain⟨z,hs,vs,j,dd⟩:=I.bG d _ hd;obtain⟨hv,_,_⟩:=I.bG p _ hp;have l1:113=vs.length:=Paired.length j;refine WQ (I.ok.hd Y) hv dd 80 λh1 S c tk kp U O=>JU I kp U (Vals.of_get ?_ λi x v ex W=>?_) (by rw[ay];exact z) q;{have:=O.1;simp only[ay,cK];lia};{rw[aT]at ex;cases B:kvs[i]? with|none=>rw[B]at ex;cases ex|some kv=>rw[B]at ex;cases ex;obtain⟨k,hk⟩:=O.2 i v (by simpa using W);obtain⟨w',L,J⟩:=Paired.get' j B;rw[hk]at L;cases L;exact J.2}
end
def vW(K:aC)(ad:ai)(ws:99):Prop:=∃o j n,K.lookup ad=85/\o.cls=.type 118/\o.data=.seq j n/\j.size<=89/\Vals ws j.toList
theorem vW.sq{K:aC}{ad:ai}(h:vW K ad ws)H:aI K H ad ws:=.inr h
inductive mH(w:World)(K:aC):List DictEntry->List (Str×99)->Prop where|nil:mH w K [] []|cons{k:Str}{t:Tok}{ad:ai}{ws:99}{es:List DictEntry}{l:List (Str×99)}{od:Option ai}{its:Array au}{n:Nat}{sl:Array (Option au)}(hl:K.lookup ad=some ⟨.type 118,od,.seq its n,sl⟩)(hz:its.size<=89)(hv:Vals ws its.toList)(r:mH w K es l):mH w K (⟨PyData.keyHash w.params k,.str k t,.ref ad⟩::es) ((k,ws)::l)
structure Cd (w:World) (K:aC) (a:ai) (l:List (Str×List V)):Prop where
  ob:∃es ep,K.lookup a=some { cls:=.type "dict",data:=.dict es ep }/\mH w K es.toList l
  nm:(a == sysModules)=false
  nd:(l.map (·.1)).Nodup
theorem mH.pairs{K:aC}:∀{es}{l},mH w K es l->∃vs,Pairs (oA P w) es vs/\vs.map (·.1)=l.map (λx=>(Sum.inr x.1:Key))/\(∀e∈es,∃k,(oA P w).is k e.key=true/\e.hash=(oA P w).hash k)/\∀x ws,(x,ws)∈l->∃ad,((Sum.inr x:Key),Value.ref ad)∈vs/\vW K ad ws|_,_,.nil=>⟨[],.nil,rfl,(λe h=>nomatch h),(λx ws h=>nomatch h)⟩|_,_,.cons (k:=k) (t:=t) (ad:=ad) L S O r=>by obtain⟨vs,p,q,B,J⟩:=mH.pairs (P:=P) r;refine⟨((Sum.inr k:Key),Value.ref ad)::vs,.cons (Ik P w k t) Z p,by rw[b7,b7,q],λe h=>?_,λx ws h=>?_⟩;{rcases aM.mp h with rfl|h;{exact⟨Sum.inr k,Ik P w k t,Z⟩};{exact B e h}};{rcases aM.mp h with h|h;{cases h;exact⟨ad,c8 ..,_,_,_,L,Z,Z,S,O⟩};{obtain⟨j,h1,h2⟩:=J x ws h;exact⟨j,aZ _ h1,h2⟩}}
theorem OR{κ:Type}[DecidableEq κ]:∀{vs:List (κ×au)}{k:κ}{v:au},(vs.map (·.1)).Nodup->(k,v)∈vs->valueAt vs k=some v|(q,J)::vs,k,v,j,h=>by unfold valueAt;rw[b7,jj]at j;rcases aM.mp h with h|h;{cases h;simp};{have B:q≠k:=λe=>j.1 (aD.mpr ⟨_,h,e.symm⟩);rw[rJ (by simpa using B)];exact OR j.2 h}
theorem WT{κ:Type}[DecidableEq κ]{vs:List (κ×au)}{k:κ}(h:k∉vs.map (·.1)):valueAt vs k=none:=by unfold valueAt;rw[Option.map_eq_none_iff,List.find?_eq_none];intro x j e;exact h<|aD.mpr ⟨x,j,by simpa using e⟩
section
variable{X:Cx}{pins:bA}{σ:St}{H:Hp}{s:aF}
theorem Cd.at(D:Cd X.w X.K a l)(I:55):∃vs,s.heap.DictOf (oA 126 X.w) a vs/\vs.map (·.1)=l.map (λx=>(Sum.inr x.1:Key))/\∀x ws,(x,ws)∈l->∃ad,valueAt vs (Sum.inr x)=some (.ref ad)/\vW X.K ad ws:=by obtain⟨es,L,S,O⟩:=D.ob;obtain⟨vs,p,j,B,J⟩:=O.pairs (P:=126);(have q:(vs.map (·.1)).Nodup:=by rw[j];have:=D.nd;unfold List.Nodup at this⊢;rw[List.pairwise_map]at this⊢;exact this.imp λh z=>h (jy z));refine⟨vs,⟨_,es,L,I.iM a _ S,⟨Z,Z,Z⟩,Z,λe h=>B e (by simpa using h),p,q⟩,j,λx ws h=>?_⟩;obtain⟨ad,h1,h2⟩:=J x ws h;exact⟨ad,OR q h1,h2⟩
end
def JW(l:List (Str×99))(j:Bool)(ty:TE):TE:=λσ H Q=>ty σ H λy H1=>∃x,y=.str x/\Q (.bl (if j then !decide (x∈l.map (·.1))else decide (x∈l.map (·.1)))) H1
def WU(K:aC)(l:List (Str×99))(ty:TE):TE:=λσ H Q=>ty σ H λy H1=>∃x ws,y=.str x/\(x,ws)∈l/\∀ad,vW K ad ws->Q (.ref ad) H1
section
variable{X:Cx}{a:ai}{l:List (Str×99)}{g:Str}{e:Expr}{ty:TE}{p pos:Pos}
theorem WV{vs:List (Key×au)}(q:vs.map (·.1)=l.map (λx=>(Sum.inr x.1:Key)))x:(valueAt vs (Sum.inr x:Key)).isSome=decide (x∈l.map (·.1)):=by(have m:(Sum.inr x:Key)∈vs.map (·.1)↔x∈l.map (·.1):=by rw[q];left;{intro h;obtain⟨y,j,e⟩:=aD.mp h;exact aD.mpr ⟨y,j,jy e⟩};{intro h;obtain⟨y,j,e⟩:=aD.mp h;exact aD.mpr ⟨y,j,bw Sum.inr e⟩});by_cases h:x∈l.map (·.1);{rw[aO h];obtain⟨y,j,e⟩:=aD.mp (m.mpr h);unfold valueAt;rw[pI,List.find?_isSome];exact⟨y,j,by simpa using e⟩};{rw[aN h,WT (λz=>h<|m.mp z)];rfl}
theorem WW(D:Cd X.w X.K a l)(S:Gl X g)(U:X.mg g=some 98)(O:PE X e ty)(B:(g==("__debug__":Str))=94:=by walk):PC X .NotIn e (.Name g p) (JW l true ty):=by intro pins s σ H Q I h;refine bR (O pins s σ H _ I h) λiv s1 J=>?_;obtain⟨y,H1,j,Y,W⟩:=J;obtain⟨x,rfl,q⟩:=W;obtain⟨vs,dd,L,_⟩:=D.at j;refine xJ j S U ?_ B;refine wpAny_notIn_of (xV (k:=Sum.inr x) Y) D.nm dd.mapOf ?_;rw[WV L];exact⟨.bl _,H1,j.tok _,Z,q⟩
theorem WX(D:Cd X.w X.K a l)(S:Gl X g)(U:X.mg g=some 98)(O:PE X e ty)(hs:AH e)(j:(g==("__debug__":Str))=94:=by walk):PE X (.Subscript (.Name g p) e pos) (WU X.K l ty):=by intro pins s σ H Q I h;refine NY PySem.F.slot_dict_getitem.lookup hs<|xJ I S U ?_ j;refine bR (O pins s σ H _ I h) λiv s1 B=>?_;obtain⟨y,H1,J,ry,q1⟩:=B;obtain⟨x,ws,rfl,Y,q⟩:=q1;obtain⟨vs,dd,e1,L⟩:=D.at J;obtain⟨ad,W,kt⟩:=L x ws Y;exact⟨dd.typeIs,wpAny_getItem_of (xV (k:=Sum.inr x) ry) dd.mapOf W ⟨.ref ad,H1,J.tok _,Z,q ad kt⟩⟩
end
def um(K:aC)(C:ai)(j m:Str)(st:Stmt)(ps:88):Prop:=∃f fd,Dr K m j st f fd/\Meth K C m f/\∀us,109=127->bindArgs fd ⟨us,[]⟩=pure (ps.zip us)
theorem gY{K:aC}{st:Stmt}{U kV dc pm B ct:au}(O:∀kV L pm q J ct us,109=127->bindArgs (PySem.W.fnOf m j (AJ st) (vP st) (zp st) .none kV L pm q J ct) ⟨us,[]⟩=pure (ps.zip us))(a:PySem.W.findIn K (.ref C) m=some (some<|.ref f))(l:K.lookup f=some ⟨U,od,.func<|PySem.W.fnOf m j (AJ st) (vP st) (zp st) .none kV dc pm q B ct,W⟩)(c:PySem.W.codeIn K B j=true)(k:PySem.W.keepIn K (.ref f)=true)(i:PySem.W.isFn K (.ref f)=true):um K C j m st ps:=⟨f,_,N6 l c k,⟨a,i,k⟩,λus S=>O kV dc pm q B ct us S⟩
def kH(P:bD)(w:World)(K:aC)(mg:Str->Option au)(base:Heap)(C:ai)(m:Str)(ps:88)(k:Nat)(sp:Sp):Prop:=∃f fd,Meth K C m f/\(∀us,109=127->bindArgs fd ⟨us,[]⟩=pure (ps.zip us))/\kD P w K mg base zE k f fd ps sp
section
variable{P:bD}{w:World}{K:aC}{mg:Str->Option au}{base:Heap}
theorem um.has{st:Stmt}(D:um K C j m st ps)(S:aA N ps (zp st))(J:∀vs H Q E,sp vs H Q E->vs.length=127)(B:∀f q A outer s H vs Q E,cI k (A.deeper<|envOfC j (zp st) 19 f q)->sp vs H Q E->∃t,qo (oE zE P w K mg base N j (zp st) f q A outer s H E).BN (vP st) t/\t {nx:=λ_ H'=>Q .cz H',rt:=Q} (start N vs) H):kH P w K mg base C m ps (k+1) sp:=by obtain⟨f,fd,F,a,b⟩:=D;obtain⟨oc,od,kV,L,pm,W,q,Y,U,e,lk,O⟩:=id F.ex;exact⟨f,fd,a,b,F.ok S J<|B f⟩
end
section
variable{X:Cx}{k:Nat}{ps:88}{sp:Sp}{C:ai}{m x:Str}{p pos apos:Pos}{o e:Expr}{es:List Expr}{t:TA}{ta:TE}
theorem zI {pl:Sem Bool}(F:kH X.prog X.w X.K X.mg X.base C m ps k sp) (c:tE X.K C) (O:cI k X.A) (L:PE X o ta) (J:PA X (e::es) t)
    (q:starEach (e::es) X.env=(false,eval e X.env)::starEach es X.env:=by rfl) (j:(backTo pos (starEach es X.env)).any (·.1)=false:=by rfl)
    (S:eval (.Call (.Attribute o m apos) (e::es) [] pos) X.env=(do
      let B ←eval o X.env
      standAt apos.atName
      let (f,first) ←holding [B] (getMethod B m pl)
      callWith pos f first (backTo pos (starEach (e::es) X.env)) (backToKw pos (keywordEach [] X.env))):=by rfl) :
    PE X (.Call (.Attribute o m apos) (e::es) [] pos) (Gi C m sp [] E0 ta t):=by
  obtain⟨f,fd,a,b,G⟩:=F
  exact UN L c a G O (.all b) .nil Gn J q j S
theorem WY {pl:Sem Bool}(F:kH X.prog X.w X.K X.mg X.base C m ps k sp) (c:tE X.K C) (B:cI k X.A) (q:PE X o ta)
    (J:eval (.Call (.Attribute o m apos) [] [] pos) X.env=(do
      let j ←eval o X.env
      standAt apos.atName
      let (f,first) ←holding [j] (getMethod j m pl)
      callWith pos f first (backTo pos (starEach [] X.env)) (backToKw pos (keywordEach [] X.env))):=by rfl) :
    PE X (.Call (.Attribute o m apos) [] [] pos) (Gi C m sp [] E0 ta rO):=by
  obtain⟨f,fd,a,b,G⟩:=F
  exact UO q c a G B (.all b) .nil Gn J
theorem WZ(F:kH 126 X.w X.K X.mg X.base C "__init__" ps k sp)(q:PySem.W.makesIn X.K C=true)(J:PySem.W.keepIn X.K (.ref C)=true)(O:cI (k+1) X.A)(B:Gl X x)(L:X.mg x=some (.ref C))(j:(x==("__debug__":Str))=94:=by walk):PE X (.Call (.Name x p) [] [] pos) (Nq C sp [] E0 rO):=by obtain⟨f,fd,a,b,G⟩:=F;exact UQ ⟨q,a.at_,a.fn,J⟩ G O B L (.all b) .nil Gn j
end
theorem W0{K:aC}f(hD:H1 D=none)(h1:∀H',aj H1 H'->tH K b1 H' l1 xs)(h2:∀H',aj H1 H'->tH K b2 H' l2 ys)(hl:84=121)(hz:84<=89)(he:∀(i:Nat)x y,xs[i]?=some x->ys[i]?=some y->∀H' Q',aj H1 H'->(∀B,aj H' B->Q' (f x y) B)->te (((ug own ix σ).set 0<|some x).set 1<|some y) H' Q')(hQ:∀H',aj H1 H'->H' D=some (.lst<|List.zipWith f xs ys)->Q (.ref D) H'):Dv own ix (JN K b1 b2 l1 l2) (Ao K 2<|IF (zz 0)<|IF (zz 1) CU) qa te σ H1 D Q:=by existsλi m S zs H'=>m=84-i/\i<=84/\(∀z Y,(S.set 0 z).set 1 Y=((ug own ix σ).set 0 z).set 1 Y)/\zs=List.zipWith f (xs.take i) (ys.take i)/\aj H1 H'/\H' D=some (.lst zs),⟨84,81,fj _,λ_ _=>Z,81,aj.new hD,zb⟩;rintro i m S zs H'⟨rfl,hi,W,rfl,hs,j⟩;exists j;by_cases J:i<84;{(have L:i<121:=by lia);have ex:xs[i]?=some xs[i]:=cj J;have ey:ys[i]?=some ys[i]:=cj L;refine .inr ⟨⟨xs,ys,xs[i],ys[i],h1 _ hs,h2 _ hs,ex,ey⟩,?_,λv H2 y=>?_⟩;{rw[List.length_zipWith,bP,bP];lia};{obtain⟨T,x,y,hT,rfl,rfl,U⟩:=y;obtain⟨e1,e2⟩:=U xs ys (h1 _ hs) (h2 _ hs);have sT:=aj.new (o:=.tup [x,y]) hT;have sA:=hs.trans sT;exists T,[x,y],Z,aI.of zb,Z,x,_,Z,y,_,Z,Z;unfold qa;fin2;rw[ak Z,W];refine he i x y e1 e2 _ _ sA λB O=>⟨O D _<|sT D _ j,84-(i+1),80,Z,J,λz Y=>?_,?_,(sA.trans O).upd hD,zb⟩;{(have:∀(l:St)(a b c d:Option V),((((l.set 0 a).set 1 b).set 0 c).set 1 d)=(l.set 0 c).set 1 d:=λl a b c d=>by cases l with|nil=>rfl|cons p l=>cases l with|nil=>rfl|cons q l=>rfl);exact this ..};{rw[aR,aR,e1,e2,List.zipWith_append (by simp;lia)];rfl}}};{(have e:i=84:=by lia);k_go;refine .inl ⟨⟨xs,ys,h1 _ hs,h2 _ hs,.inl<|aB _⟩,hQ _ hs ?_⟩;rw[bu,hl,bu]at j;exact j}
theorem AU{K:aC}(X:K.In h)(G:h.Ns mainGlobals mg)(e:PySem.W.nsIn K mainGlobals x=some (some 98))(B:K.lookup a=some {cls:=.type "dict",data:=.dict es j})(q:mH w K es.toList l)(nm:(a==sysModules)=94)(J:(l.map (·.1)).Nodup):∃a,mg x=some 98/\Cd w K a l:=⟨a,PySem.W.mg_of X G e,⟨es,j,B,q⟩,nm,J⟩
section
variable{X:Cx}(K:aC)(h:X.K=K)
include h
theorem W2{q:List Expr}{ct:Nat}{p7:Pos}{e:Expr}{te:TE}{p pos kpos cD:Pos}{j:Nat}(n:Nat)(O:Builtin.SmallTypes.fitsIndex (n:Int)=true)(J:Gl X 134)(L:X.mg 134=none)(B:PE X e te)(hs:starEach [e] 106=[(false,eval e 106)]:=by rfl):PI X (.Tuple q ct p7) (.Call (.Name 134 p) [e] [⟨some "start",.Constant (.int (n:Int)) j cD,kpos⟩] pos) (OH K n te):=h▸WN n O J L B hs
theorem W4{q:List Expr}{ct:Nat}{p7:Pos}{B j:Expr}{ta:TA}{p pos:Pos}(L O:Bool)(U:Gl X "zip")(W:X.mg "zip"=none)(S:PA X [B,j] ta)(hs:starEach [B,j] 106=[(false,eval B 106),(false,eval j 106)]:=by rfl)(J:starEach [j] 106=[(false,eval j 106)]:=by rfl):PI X (.Tuple q ct p7) (.Call (.Name "zip" p) [B,j] [] pos) (DL K L O ta):=h▸WD L O U W S hs J
end
theorem W6{K:aC}{g:TG}{tb:TS}{D:Ends}(j:Nat->St->Hp->Prop)(S:j 0 σ H)(hl:∀i σ H,i<=84->j i σ H->aH K H a xs)(hs:∀i x σ H T,xs[i]?=some x->j i σ H->H T=none->g (.ref T) σ (upd H T<|.tup [.int ((n+i:Nat):Int),x]) λJ H2=>tb {D with nx:=j (i+1),ct:=j (i+1),bk:=D.nx} J H2)(Y:∀σ H,j 84 σ H->D.nx σ H):∃W:Nat->Nat->St->Hp->Prop,(∃m,W 0 m σ H)/\∀i m σ H,W i m σ H->((B9 K a n).stop i H/\D.nx σ H)\/((B9 K a n).go i H/\∃N,(∀B H',N B H'->∃O,O<m/\W (i+1) O B H')/\∀x H',(B9 K a n).vf i H x H'->g x σ H' λJ H2=>tb {D with nx:=N,ct:=N,bk:=D.nx} J H2):=by existsλi m σ H=>m=84-i/\i<=84/\j i σ H,⟨84,81,fj _,S⟩;rintro i m σ H⟨rfl,hi,p⟩;have q:=hl i σ H hi p;by_cases L:i<84;{refine .inr ⟨⟨xs,xs[i],q,by simp[L]⟩,j<|i+1,λB H' p'=>⟨84-(i+1),80,Z,L,p'⟩,λx H' y=>?_⟩;obtain⟨T,z,U,rfl,rfl,y⟩:=y;exact hs i z σ H T (y xs q) p U};{(have e:i=84:=by lia);k_go;exact .inl ⟨⟨xs,q,aB _⟩,Y σ H p⟩}
def JX(n i:Nat)(p:Prop):Prop:=∃j,j<n-i/\j=n-(i+1)/\i+1<=n/\p
theorem qd(h:i<n)(q:p):JX n i p:=⟨n-(i+1),80,Z,h,q⟩
theorem jE{j:Type}{xs:List j}{x:j}(h:xs[i]?=some x):i<84:=(cE.mp h).1
theorem vn(F:Fix J xs P)(R:Nat->St->99->Hp->Prop)(W:R 0 (ug own ix σ) [] (upd H1 D<|.lst []))(Y:∀i j ys H',R i j ys H'->P H'/\H' D=some (.lst ys)/\121<=i)(hz:84<=89)(hs:∀i x j ys H',xs[i]?=some x->R i j ys H'->g x j H' λq U=>tc q U λb L=>if b=true then te q L λy S=>S D=some (.lst ys)/\JX 84 i (R (i+1) q (ys++[y])<|upd S D<|.lst<|ys++[y])else L D=some (.lst ys)/\JX 84 i (R (i+1) q ys L))(hQ:∀j ys H',R 84 j ys H'->Q (.ref D) H'):Dv own ix J g tc te σ H1 D Q:=by existsλi m j ys H'=>m=84-i/\i<=84/\R i j ys H',⟨84,81,fj _,W⟩;rintro i m j ys H'⟨rfl,hi,r⟩;obtain⟨O,p2,p3⟩:=Y i j ys H' r;exists p2;by_cases B:i<84;{refine .inr ⟨F.go i _ O B,80,λx H2 y=>?_⟩;obtain⟨e,y'⟩:=F.vf i _ x H2 O y;k_go;exact hs i x j ys _ (y' B) r};{(have e:i=84:=by lia);k_go;exact .inl ⟨F.stop _ _ O<|aB _,hQ j ys H' r⟩}
end L2
namespace Dm
open PySem PySem.NumText
abbrev co(x:Str):List Nat:=x.cps.toList
theorem qt x:(co x).length=120:=by simp[Str.length]
theorem tK(h:co x=co y):x=y:=by cases x with|mk a=>cases y with|mk b=>(have:a=b:=by have h:a.toList=b.toList:=h;exact Array.toList_inj.mp h);rw[this]
theorem OS l:co ⟨l.toArray⟩=l:=by simp[co]
theorem W7 x c:(0+1<=120&&Builtin.Str.subAt x ⟨#[c]⟩ 0)=decide ((co x).head?=some c):=by obtain⟨a⟩:=x;obtain⟨l⟩:=a;cases l with|nil=>simp[co,Str.length]|cons d r=>show(decide (0+1<=((d::r).toArray).size)&&(((d::r).toArray.extract 0<|0+1)==#[c]))=decide ((d::r).head?=some c);have j:decide (0+1<=((d::r).toArray).size)=true:=aO 81;rw[j,lY];(have q:((d::r).toArray.extract 0<|0+1)=#[d]:=by simp);rw[q];by_cases h:d=c;{subst h;simp};{(have:¬(d::r).head?=some c:=by simp[h]);rw[aN this];simp[h]}
theorem JY x c:Txt.startswith x ⟨#[c]⟩=decide ((co x).head?=some c):=W7 x c
def gZ(n d:Nat):Option Int->Nat|none=>d|some i=>if i<0 then(max (i+(n:Int)) 0).toNat else min i.toNat n
theorem W8(l:List Nat)i k:((List.range k).map λm=>i+m).filterMap (λj=>l[j]?)=(l.drop i).take k:=by induction k generalizing i with|zero=>simp|succ k B=>rw[List.range_succ_eq_map,b7,bK];(have e:((List.range k).map<|(λm=>i+m)∘Nat.succ)=(List.range k).map λm=>(i+1)+m:=by apply gw;intro a _;simp only[Function.comp,Nat.succ_eq_add_one];lia);rw[e,jl];simp only[Nat.add_zero];rw[B (i+1)];cases h:l[i]? with|none=>have q:l.length<=i:=List.getElem?_eq_none_iff.mp h;rw[List.drop_eq_nil_of_le q,List.drop_eq_nil_of_le 80];simp|some v=>obtain⟨hi,e⟩:=cE.mp h;rw[List.drop_eq_getElem_cons hi,List.take_succ_cons,e]
def GF(n:Nat)(d:Int):Option Int->Int|none=>d|some i=>max 0 (min (if i<0 then i+(n:Int)else i) n)
theorem OT n d(j:d<=n)o:GF n d o=((gZ n d o:Nat):Int):=by cases o with|none=>rfl|some i=>simp only[gZ,GF];split<;>lia
theorem W9 n d(j:d<=n)o:gZ n d o<=n:=by cases o with|none=>exact j|some i=>simp only[gZ];split<;>lia
theorem OU lo hi n:Builtin.Str.strSliceIndices lo hi 1 n=(List.range<|gZ n n hi-gZ n 0 lo).map λm=>gZ n 0 lo+m:=by(have:Builtin.Str.strSliceIndices lo hi 1 n=sliceRange (GF n 0 lo) (GF n n hi) 1:=by cases lo<;>cases hi<;>rfl);rw[this,show(0:Int)=((0:Nat):Int)from rfl,OT n 0 (fj _),OT n n (aB _)];unfold sliceRange;simp only[show(1:Int)>0 by walk,gW,Int.one_mul,Int.ediv_one];(have j:(if((gZ n 0 lo:Nat):Int)<((gZ n n hi:Nat):Int)then((gZ n n hi:Nat):Int)-((gZ n 0 lo:Nat):Int)+1-1 else 0).toNat=gZ n n hi-gZ n 0 lo:=by split<;>lia);rw[j];apply gw;intro a _;lia
theorem Xa x lo hi:co (Txt.slice x lo hi)=((co x).drop<|gZ 120 0 lo).take (gZ 120 120 hi-gZ 120 0 lo):=by(have q:(Builtin.Str.strSliceIndices lo hi 1 120).filterMap (x.cps[·]?)=((co x).drop<|gZ 120 0 lo).take (gZ 120 120 hi-gZ 120 0 lo):=by rw[OU,←W8 (co x)];congr 1;funext j;simp[co]);unfold Txt.slice;split;{rename_i h;(have B:(Builtin.Str.strSliceIndices lo hi 1 120).length=120:=by simpa using h);rw[OU,ay,kh]at B;have h1:=W9 120 120 (aB _) hi;(have h2:gZ 120 0 lo=0\/120=0:=by lia);have J:=qt x;rcases h2 with h2|h2;{rw[B,h2,List.drop_zero,lH 80]};{have:co x=[]:=mD.mp 80;rw[this];simp}};{rw[OS];exact q}
theorem Xb x:co (Txt.slice x (some 1) none)=(co x).drop 1:=by rw[Xa];have h:=qt x;simp only[gZ];rw[ao 82];cases e:co x with|nil=>simp|cons c r=>rw[e,cR]at h;(have j:min (1:Int).toNat 120=1:=by show min 1 120=1;lia);rw[j,lH (by simp;lia)]
def AV:Str:="abcdefghijklmnopqrstuvwxyz0123456789-"
def qe:Str:="0123456789"
def ye(l:List Nat)(j:Str):Bool:=l.all λc=>decide (c∈co j)
def jJ(x:Str):Bool:=decide (1<=120)&&decide (120<=12)&&ye (co x) AV
def fO:List Nat->List Nat|[]=>[]|c::r=>if c=45 then r else c::r
theorem DO r:fO (45::r)=r:=by unfold fO;exact ak Z
theorem DP r(h:c≠45):fO (c::r)=c::r:=by unfold fO;exact ao h
def yf:Str:="0"
def qI(x:Str):Bool:=decide (1<=(fO<|co x).length)&&decide ((fO<|co x).length<=60)&&ye (fO<|co x) qe&&!(decide ((fO<|co x).head?=some 48)&&!decide (x=yf))
def l7(x:Str):Int:=if(co x).head?=some 45 then 0-((digitsVal (fO<|co x):Nat):Int)else((digitsVal (fO<|co x):Nat):Int)
theorem OV c:c∈co qe↔48<=c/\c<=57:=by(have e:co qe=List.range' 48 10:=by kt_k);rw[e,List.mem_range'_1];exact⟨λh=>⟨h.1,Nat.le_of_lt_succ h.2⟩,λh=>⟨h.1,Nat.lt_succ_of_le h.2⟩⟩
theorem Xc(h:ye l qe=true):AllDigits l:=λc j=>by have:=eV.mp h c j;exact(OV c).mp<|aW this
theorem OW(h:AllDigits l):ye l qe=true:=eV.mpr λc j=>aO ((OV c).mpr<|h c j)
theorem Xd(h:qI x=true):intText? x=some (l7 x)/\120<=61:=by unfold qI at h;simp only[c9,ki]at h;obtain⟨⟨⟨h1,h2⟩,U⟩,_⟩:=h;have j:=Xc U;have O:=qt x;unfold l7;cases e:co x with|nil=>rw[e]at h1;simp[fO]at h1|cons c r=>rw[e]at h1 h2 j O;rw[cR]at O;by_cases B:c=45;{subst B;rw[DO]at h1 h2 j;rw[DO,ak 97,Int.zero_sub];exact⟨intText_neg e j (by intro z;rw[z]at h1;simp at h1) 80,80⟩};{rw[DP r B]at h1 h2 j;rw[DP r B,ao (by simp[B])];rw[cR]at h2;(have L:x.cps.toList≠[]:=by show co x≠[];rw[e];simp);(have J:AllDigits x.cps.toList:=by show AllDigits (co x);rw[e];exact j);have q:=intText_digits J L 80;have S:intText? x=some ((digitsVal (co x):Nat):Int):=q;rw[e]at S;exact⟨S,80⟩}
def dg(m:Nat):List Nat:=(Nat.toDigits 10 m).map Char.toNat
theorem OX t:co (Str.ofString t)=t.toList.map Char.toNat:=by rw[Str.ofString_eq_toList]
theorem JZ m:co (Str.ofString<|toString ((m:Nat):Int))=dg m:=by rw[OX];show(Nat.repr m).toList.map Char.toNat=_;rw[Nat.toList_repr];rfl
theorem OY m:co (Str.ofString<|toString<|Int.negSucc m)=45::dg (m+1):=by rw[OX];show("-"++Nat.repr (m+1)).toList.map Char.toNat=_;rw[String.toList_append,aU,Nat.toList_repr];try rfl
theorem OZ:∀d,d<10->(Nat.digitChar d).toNat=d+48:=by walk
theorem J0(h:m<10):dg m=[m+48]:=by unfold dg;rw[Nat.toDigits_of_lt_base h,b7,kB,OZ m h]
theorem J1(h:10<=m):dg m=dg (m/10)++[m%10+48]:=by have j:m%10<10:=Nat.mod_lt m 82;unfold dg;rw[Nat.toDigits_of_base_le 82 h,aU,b7,kB,OZ _ j]
theorem GG m:digitsVal (dg m)=m:=by induction m using Nat.strongRecOn with|_ m j=>by_cases h:m<10;{rw[J0 h];show 0*10+(m+48-48)=m;lia};{rw[J1 80];have:=j (m/10) 80;unfold digitsVal at this⊢;rw[pM,this];show m/10*10+(m%10+48-48)=m;lia}
theorem GH m:AllDigits (dg m):=by induction m using Nat.strongRecOn with|_ m q=>by_cases h:m<10;{rw[J0 h];intro c j;rw[cL]at j;lia};{rw[J1 80];intro c j;rcases bJ.mp j with j|j;{exact q (m/10) 80 c j};{rw[cL]at j;lia}}
theorem J2(j:1<=k)(h:m<10^k):(dg m).length<=k:=by unfold dg;rw[ay];exact(Nat.length_toDigits_le_iff 82 j).mpr h
theorem J3 m:1<=(dg m).length:=by unfold dg;rw[ay];exact Nat.length_toDigits_pos
theorem O0 m(h:0<m):∃c r,dg m=c::r/\49<=c/\c<=57:=by induction m using Nat.strongRecOn with|_ m q=>by_cases h1:m<10;{exact⟨m+48,[],J0 h1,80,80⟩};{obtain⟨c,r,e,h2,j⟩:=q (m/10) 80 80;exact⟨c,r++[m%10+48],by rw[J1 80,e];rfl,h2,j⟩}
theorem DQ n(h1:n.natAbs<10^60):qI (Str.ofString<|toString n)=true/\l7 (Str.ofString<|toString n)=n/\(Str.ofString<|toString n).length<=61:=by have B:=qt (Str.ofString<|toString n);unfold qI l7;cases n with|ofNat m=>have e:co (Str.ofString<|toString<|Int.ofNat m)=dg m:=JZ m;have h1:m<10^60:=h1;have p:=J2 82 h1;have q:=J3 m;rw[e]at B;by_cases S:m=0;{subst S;(have z:Str.ofString (toString<|Int.ofNat 0)=yf:=by kt_k);rw[z];refine⟨50,50,50⟩};{obtain⟨c,r,j,h2,L⟩:=O0 m 80;(have O:c≠45:=by lia);(have J:fO (dg m)=dg m:=by rw[j,DP r O]);rw[e,J];refine⟨?_,?_,80⟩;{rw[aO q,aO p,OW (GH m),j];(have:¬(c::r).head?=some 48:=by intro z;have:c=48:=dR z;lia);rw[aN this];rfl};{rw[GG,ao];{rfl};{rw[j];intro z;have:c=45:=dR z;lia}}}|negSucc m=>have e:co (Str.ofString<|toString<|Int.negSucc m)=45::dg (m+1):=OY m;have h1:m+1<10^60:=h1;have p:=J2 82 h1;have q:=J3 (m+1);rw[e,cR]at B;rw[e,DO];obtain⟨c,r,j,h2,L⟩:=O0 (m+1) 80;refine⟨?_,?_,80⟩;{rw[aO q,aO p,OW (GH<|m+1),j];(have:¬(c::r).head?=some 48:=by intro z;have:c=48:=dR z;lia);rw[aN this];rfl};{rw[GG,ak 97];lia}
def qf(j:List Int)(i:Int):Int:=j.getD i.toNat 0
def pt(c k m:Int):Int:=(c%99991+17)*(48271+7919*k)%65537*(k+3)%8191%m
theorem yg c k m(h:0<m):0<=pt c k m/\pt c k m<m:=⟨jv _ 80,jo _ h⟩
def qJ(l:List Nat):Str:=⟨l.toArray⟩
theorem qu l:co (qJ l)=l:=OS l
theorem Xe(h1:1<=(co x).length)(h2:(co x).length<=12)(j:∀c∈co x,c∈co AV):jJ x=true:=by rw[qt]at h1 h2;unfold jJ;rw[aO h1,aO h2];show ye (co x) AV=true;exact eV.mpr λc q=>aO (j c q)
theorem J4{f:Nat->Str}(h:∀i j,i<n->j<n->f i=f j->i=j):((List.range n).map f).Nodup:=by unfold List.Nodup;rw[List.pairwise_map];refine List.Pairwise.imp_of_mem (R:=(·≠·)) (λ{a b}B J q e=>?_) List.nodup_range;exact q<|h a b (gz.mp B) (gz.mp J) e
theorem O5 l:(qJ l).length=l.length:=by show l.toArray.size=_;simp
end Dm
namespace Dm
open PySem PySem.NumText L2
def vo:88:=["over","cuts","fills","same"]
def mY(z:Int):Prop:=z.natAbs<10^60
inductive iC(us:88):99->Prop where|plain{kd x y:Str}(hk:kd∈vo)(hx:x∈us)(hy:y∈us):iC us [.str kd,.str x,.str y]|after{x y:Str}{n:Int}(hx:x∈us)(hy:y∈us)(h0:0<=n)(h1:mY n):iC us [.str "after",.str x,.str y,.int n]
inductive rV(us:88)(fs:List 99):99->Prop where|mk{nm x:Str}{lo hi:Int}(hn:jJ nm=true)(hx:x∈us)(hl:lo<=hi)(h1:mY lo)(h2:mY hi)(hf:∀f∈fs,f.head?≠some (.str nm)):rV us fs [.str nm,.str x,.int lo,.int hi]
theorem iC.mono(h:iC us ws)(s:∀x∈us,x∈B):iC B ws:=by cases h with|plain L j q=>exact .plain L (s _ j)<|s _ q|after j q J h1=>exact .after (s _ j) (s _ q) J h1
theorem Ce(h:jJ x=true):120<=12:=by unfold jJ at h;simp only[c9,ki]at h;exact h.1.2
theorem Xf:∀k∈vo,k.length<=100:=by kt_k
theorem iC.words(h:iC us ws)(L:∀x∈us,jJ x=true):(∀v∈ws,Wd v)/\ws.length<=5/\∃x r,ws=.str x::r:=by have nm:∀x∈us,Wd (.str x):=λx q=>.inl ⟨x,Z,bF (Ce<|L x q) 82⟩;cases h with|plain J q B=>refine⟨λv j=>?_,81,_,_,Z⟩;simp only[aM,bE,bT]at j;rcases j with rfl|rfl|rfl;{exact .inl ⟨_,Z,Xf _ J⟩};{exact nm _ q};{exact nm _ B}|after q B O h1=>refine⟨λv j=>?_,81,_,_,Z⟩;simp only[aM,bE,bT]at j;rcases j with rfl|rfl|rfl|rfl;{exact .inl ⟨_,Z,50⟩};{exact nm _ q};{exact nm _ B};{exact .inr ⟨_,Z,h1⟩}
abbrev bU(H:Hp):List ai->List 99->Prop:=Paired λa ws=>H a=some (.tup ws)
theorem bU.same(s:aj H H'):∀{as}{j},bU H as j->bU H' as j|_,_,.nil=>.nil|_,_,.cons h t=>.cons (s _ _ h) (bU.same s t)
theorem bU.get{H:Hp}:∀{as:List ai}{q:List 99}{a:ai},bU H as q->a∈as->∃ws∈q,H a=some (.tup ws)|_,_,_,.cons h t,j=>by rcases aM.mp j with j|j;{subst j;exact⟨_,c8 ..,h⟩};{obtain⟨ws,B,e⟩:=bU.get t j;exact⟨ws,aZ _ B,e⟩}
theorem bU.snoc(t:bU H as j)(h:H a=some (.tup ws)):bU H (as++[a]) (j++[ws]):=Paired.snoc t h
theorem bU.fC(s:∀b xs,H b=some (.tup xs)->H' b=some (.tup xs)):∀{as}{j},bU H as j->bU H' as j|_,_,.nil=>.nil|_,_,.cons h t=>.cons (s _ _ h) (bU.fC s t)
theorem qv(h:H p=some (.lst xs)):∀b zs,H b=some (.tup zs)->upd H p (.lst ys) b=some (.tup zs):=λb zs e=>by rw[zi (jO e h (by intro z;cases z))];exact e
theorem tM{xs:88}(B:xs.Nodup)k(h:k<84):xs[k]∉xs.take k:=by intro z;obtain⟨j,q,e⟩:=kc.mp z;rw[List.getElem_take]at e;rw[bP]at q;have:=(List.getElem_inj B).mp e;lia
theorem Xg(j:Wd x)(q:Wd y):qp x y=decide (x=y):=by rcases j with⟨a,rfl,_⟩|⟨a,rfl,_⟩<;>rcases q with⟨b,rfl,_⟩|⟨b,rfl,_⟩;{show(a==b)=_;by_cases h:a=b;{subst h;simp};{rw[aN (λz=>h<|V.str.inj z)];exact gI.mpr h}};{exact(aN λz=>nomatch z).symm};{exact(aN λz=>nomatch z).symm};{show(a==b)=_;by_cases h:a=b;{subst h;simp};{rw[aN (λz=>h<|V.int.inj z)];exact gI.mpr h}}
theorem O6(B:∀v∈xs,Wd v)(J:∀v∈ys,Wd v):DG xs ys=decide (xs=ys):=by by_cases h:xs=ys;{subst h;rw[JJ λx q=>(B x q).flat,aO Z]};{rw[aN h];rw[←Bool.not_eq_true];intro q;unfold DG at q;rw[c9]at q;obtain⟨L,j⟩:=q;(have j:84=121:=by simpa using j);apply h;apply List.ext_getElem j;intro i h1 h2;have:=eV.mp L i (gz.mpr 80);rw[cj h1,cj h2]at this;have e:qp xs[i] ys[i]=true:=this;rw[Xg (B _<|ji h1) (J _<|ji h2)]at e;exact aW e}
theorem bU.at{H:Hp}:∀{as:List ai}{j:List 99}{i:Nat}{a:ai},bU H as j->as[i]?=some a->∃ws,j[i]?=some ws/\H a=some (.tup ws)|_,_,_,_,.nil,e=>by simp at e|_,_,0,_,.cons h _,e=>by simp at e;k_go;exact⟨_,Z,h⟩|_,_,i+1,_,.cons _ t,e=>by obtain⟨ws,q,r⟩:=bU.at (i:=i) t (by simpa using e);exact⟨ws,by simpa using q,r⟩
theorem bU.len(t:bU H as j):as.length=j.length:=Paired.length t
theorem bU.any(t:bU H as j):∀e,(∀a vs,vs∈j->H a=some (.tup vs)->e 98=decide (vs=ws))->(as.map 122).any e=decide (ws∈j):=by intro e B;induction t with|nil=>simp|@cons a vs as j h t J=>rw[b7,iL,B a vs (c8 ..) h,J λb us q r=>B b us (aZ _ q) r];by_cases q:vs=ws;{subst q;simp};{rw[aN q,Bool.false_or];(have:ws∈vs::j↔ws∈j:=by rw[aM];left;{rintro(z|z);{exact absurd z.symm q};{exact z}};{exact .inr});exact iX.mpr this.symm}
def AW (H:Hp) (ws:List V):V->Bool
  | .ref a=>match H a with
    | some (.tup j)=>decide (j=ws)
    | _=>false
  | _=>false
theorem O7(h:H a=some (.tup vs)):AW H ws 98=decide (vs=ws):=by show(match H a with|some (.tup vs)=>decide (vs=ws)|_=>false)=_;rw[h]
theorem bU.AX(t:bU H as j):(as.map 122).any (AW H ws)=decide (ws∈j):=t.any _ λ_ _ _ h=>O7 h
theorem bU.J5(t:bU H as B)(hw:∀vs∈B,∀v∈vs,Wd v)(O:H p=some (.tup ws))(J:∀v∈ws,Wd v):∀z∈as.map 122,dY K H (n+1) z 101 (AW H ws z):=by intro z S;obtain⟨a,L,rfl⟩:=aD.mp S;obtain⟨vs,j,e⟩:=t.get L;rw[O7 e,←O6 (hw vs j) J];exact dY.tG (aI.of e) (aI.of O) (λx q=>(hw vs j x q).flat) λx q=>(J x q).flat
def jc(s:List Nat):List (List Nat)->List Nat|[]=>[]|[x]=>x|x::y::r=>x++s++jc s (y::r)
theorem O8 s y:∀x r,jc s (x::r++[y])=jc s (x::r)++s++y|x,[]=>rfl|x,z::r=>by show x++s++jc s (z::r++[y])=(x++s++jc s (z::r))++s++y;rw[O8 s y z r];simp only[gy]
theorem J6 s:∀l,(jc s l).length<=(l.map List.length).sum+l.length*s.length|[]=>fj _|[x]=>by simp[jc]|x::y::r=>by have:=J6 s (y::r);show(x++s++jc s (y::r)).length<=_;rw[bN,bN,b7,List.sum_cons,cR,Nat.succ_mul];lia
theorem mZ x y:co (x++y)=co x++co y:=by show(x.cps++y.cps).toList=_;simp
theorem J7 j:∀l,co (Txt.join j l)=jc (co j) (l.map co):=by(have q:∀l:88,co (Str.join j l)=jc (co j) (l.map co):=by intro l;induction l with|nil=>rfl|cons x r B=>cases r with|nil=>rfl|cons y r=>show co (x++j++Str.join j (y::r))=co x++co j++jc (co j) ((y::r).map co);rw[mZ,mZ,B]);intro l;cases l with|nil=>rfl|cons x r=>show co (Builtin.Str.glued j<|x::r)=_;rw[rM];exact q _
theorem GI j l:Txt.join j l=qJ (jc (co j)<|l.map co):=tK (by rw[J7,qu])
theorem Xh:(Str.ofString " ":Str)=qJ [32]:=by kt_k
theorem GJ:(Str.ofString "\n":Str)=qJ [10]:=by kt_k
def zJ(ws:99):List Nat:=jc [32] (ws.map λv=>co (fG v))
def ou(ws:99):Str:=qJ (zJ ws)
theorem GK(h:Wd v):(co<|fG v).length<=100:=by rw[qt];rcases h with⟨x,rfl,j⟩|⟨i,rfl,hi⟩;{exact j};{exact bF (DQ i hi).2.2 82}
theorem J8{l:List (List Nat)}(h:∀x∈l,120<=k):(l.map List.length).sum<=l.length*k:=by induction l with|nil=>simp|cons x r q=>rw[b7,List.sum_cons,cR,Nat.succ_mul];have:=h x (c8 ..);have:=q λy j=>h y (aZ _ j);lia
theorem O9(h:∀v∈ws,Wd v)(B:ws.length<=6):(zJ ws).length<=606:=by have h1:=J6 [32] (ws.map λv=>co (fG v));(have h2:=J8 (l:=ws.map λv=>co (fG v)) (k:=100) λx q=>by obtain⟨v,j,rfl⟩:=aD.mp q;exact GK<|h v j);rw[ay]at h1 h2;show(jc [32] _).length<=606;have:[32].length=1:=rfl;rw[this]at h1;lia
theorem Pa ws:(ou ws).length=(zJ ws).length:=O5 _
theorem Pb ws:Txt.join " " (ws.map fG)=ou ws:=by show Txt.join (Str.ofString " ") _=_;rw[GI,Xh,qu,bK];rfl
theorem Pc{ws:99}(h:∀v∈ws,Wd v)(J:ws.length<=6):((ws.map fG).map (·.length)).sum+(ws.map fG).length*(Str.ofString " ":Str).length<=16777216:=by(have e:(Str.ofString " ":Str).length=1:=by kt_k);rw[e,ay];(have h2:=J8 (l:=ws.map λv=>co (fG v)) (k:=100) λx B=>by obtain⟨v,q,rfl⟩:=aD.mp B;exact GK<|h v q);rw[ay]at h2;(have j:(ws.map fG).map (·.length)=(ws.map λv=>co (fG v)).map List.length:=by rw[bK,bK];apply gw;intro x _;exact(qt _).symm);rw[j];lia
theorem Xi x:(Str.ofString "unit ":Str)++x=ou [.str "unit",.str x]:=by apply tK;rw[mZ];unfold ou zJ;rw[qu];show co (Str.ofString "unit ")++co x=co (Str.ofString "unit")++[32]++co x;rw[show co (Str.ofString "unit ")=co (Str.ofString "unit")++[32]by kt_k]
theorem Xj(j:List Int)lo hi:∃q:List Int,gX (j.map V.int) lo hi=q.map V.int/\q.length<=j.length:=by exists(j.drop<|HT.cN (j.map V.int).length 0 lo).take<|HT.cN (j.map V.int).length (j.map V.int).length hi-HT.cN (j.map V.int).length 0 lo,?_;{unfold gX;rw[List.map_take,List.map_drop]};{rw[bP,pO];lia}
structure qg (K:aC) (H:Hp) (pm pu pt pf:ai) (lo hi:Int) (us:List Str) (ts fs:List (List V)) (at' af:List ai):Prop where
  m:aI K H pm [.int lo,.int hi]
  u:aH K H pu (us.map V.str)
  t:aH K H pt (at'.map V.ref)
  tt:bU H at' ts
  f:aH K H pf (af.map V.ref)
  ft:bU H af fs
theorem qg.same{pm pu pt pf:ai}(t:qg K H pm pu pt pf lo hi us ts fs at' af)(s:aj H H'):qg K H' pm pu pt pf lo hi us ts fs at' af:=⟨s.tup t.m,s.seq t.u,s.seq t.t,t.tt.same s,s.seq t.f,t.ft.same s⟩
theorem vp{J:Type}{g:J->99}{ps:List J}{i:Nat}(t:bU H az (ps.map g))(j:(az.map 122)[i]?=some x):∃q p,x=.ref q/\ps[i]?=some p/\az[i]?=some q/\H q=some (.tup<|g p):=by rw[aT]at j;cases e:az[i]? with|none=>rw[e]at j;cases j|some q=>rw[e]at j;cases j;obtain⟨ws,h1,h2⟩:=Paired.get' t e;rw[aT]at h1;cases B:ps[i]? with|none=>rw[B]at h1;cases h1|some p=>rw[B]at h1;cases h1;exact⟨q,p,Z,Z,Z,h2⟩
theorem Pd{q:Type}{p:q->Prop}{xs:List q}{x:q}(J:xs[i]?=some x)(h:∀y∈xs.take i,p y)(B:p x):∀y∈xs.take (i+1),p y:=by intro y j;rw[aR,J,bJ]at j;rcases j with j|j;{exact h y j};{simp at j;subst j;exact B}
theorem J9{u v:V}(j:0<=i)(h1:i<2):∃z,iZ [u,v] i=some z/\(z=u\/z=v):=by(have h:i=0\/i=1:=by lia);rcases h with rfl|rfl;{exact⟨u,Z,.inl Z⟩};{exact⟨v,Z,.inr Z⟩}
structure dW where
  k:Str
  a:Str
  b:Str
  g:Option Int
def bO(t:dW):99:=.str t.k::.str t.a::.str t.b::(match t.g with|some n=>[V.int n]|none=>[])
def c7:Str:="same"
structure m7 (us:List Str) (t:dW):Prop where
  ok:iC us (bO t)
  a:t.a∈us
  b:t.b∈us
theorem yi t:iZ (bO t) 0=some (.str t.k):=vj
theorem yj t:iZ (bO t) 1=some (.str t.a):=vh (xs:=bO t) (j:=1) Z
theorem yk t:iZ (bO t) 2=some (.str t.b):=vh (xs:=bO t) (j:=2) Z
theorem DR(h1:¬co x<co y)(h2:¬co y<co x):x=y:=by rw[List.not_lt]at h1 h2;exact tK<|List.le_antisymm h2 h1
theorem DS(h1:co x<co y)(h2:co y<co x):False:=iy _ (List.lt_trans h1 h2)
theorem Ka{y m f:List Nat}(h1:y<m)(h2:¬f<m):y<f:=by exact gv λz=>h2 (List.lt_of_le_of_lt (List.not_lt.mp z) h1)
def kY(x y:Str):Str:=if co y<co x then y else x
theorem Kc x y:kY x y=x\/kY x y=y:=by unfold kY;split<;>simp
theorem Kd x y:¬co x<co (kY x y):=by unfold kY;split;{next h=>exactλz=>DS h z};{exact iy _}
theorem Ke x y:¬co y<co (kY x y):=by unfold kY;split;{exact iy _};{next h=>exact h}
def Nb(ts:List dW)(y z:Str):Prop:=∃t∈ts,t.k=c7/\((t.a=y/\t.b=z)\/(t.b=y/\t.a=z))
inductive Cn(ts:List dW):Str->Str->Prop where|refl(x:Str):Cn ts x x|step{x y z:Str}(h:Cn ts x y)(n:Nb ts y z):Cn ts x z
theorem Nb.symm(h:Nb ts y z):Nb ts z y:=by obtain⟨t,B,j,h⟩:=h;exact⟨t,B,j,h.elim (λq=>.inr ⟨q.2,q.1⟩) λq=>.inl ⟨q.2,q.1⟩⟩
theorem Cn.trans(h:Cn ts x y)(h2:Cn ts y z):Cn ts x z:=by induction h2 with|refl=>exact h|step _ n j=>exact j.step n
theorem Cn.one(n:Nb ts y z):Cn ts y z:=(Cn.refl y).step n
theorem Cn.symm(h:Cn ts x y):Cn ts y x:=by induction h with|refl=>exact .refl _|step _ n j=>exact(Cn.one n.symm).trans j
theorem Nb.mono(h:Nb ts y z)(s:∀t∈ts,t∈j):Nb j y z:=by obtain⟨t,q,r⟩:=h;exact⟨t,s t q,r⟩
theorem Cn.mono(h:Cn ts y z)(s:∀t∈ts,t∈j):Cn j y z:=by induction h with|refl=>exact .refl _|step _ n q=>exact q.step<|n.mono s
theorem Nb.mem{us:88}(h:Nb ts y z)(j:∀t∈ts,t.a∈us/\t.b∈us):z∈us:=by obtain⟨t,h1,_,h2⟩:=h;rcases h2 with⟨_,rfl⟩|⟨_,rfl⟩;{exact(j t h1).2};{exact(j t h1).1}
theorem Cn.mem{us:88}(h:Cn ts y z)(q:y∈us)(j:∀t∈ts,t.a∈us/\t.b∈us):z∈us:=by cases h with|refl=>exact q|step _ n=>exact n.mem j
def jn(j:Str->Str)(f s:Str):Str->Str:=λx=>if j x=f\/j x=s then kY f s else j x
def uo(j:Str->Str)(t:dW):Str->Str:=if t.k=c7 then jn j (j t.a) (j t.b)else j
def aq(ts:List dW):Str->Str:=ts.foldl uo id
structure Good (ts:List dW) (xw:Str->Str):Prop where
  to:∀x,Cn ts x (xw x)
  eq:∀x y,Cn ts x y->xw x=xw y
  le:∀x y,Cn ts x y->¬co y<co (xw x)
theorem Xk:Good [] id:=by(have h:∀x y,Cn [] x y->x=y:=by intro x y c;induction c with|refl=>rfl|step _ n _=>obtain⟨t,j,_⟩:=n;cases j);exact⟨λx=>.refl x,h,λx y c=>by rw[h x y c];exact iy _⟩
theorem Xl(g:Good ts j):Good (ts++[t]) (uo j t):=by have B:∀u∈ts,u∈ts++[t]:=λu q=>ir _ q;by_cases S:t.k=c7;{unfold uo;rw[ak S];have nt:Nb (ts++[t]) t.a t.b:=⟨t,81,S,.inl ⟨Z,Z⟩⟩;(have ca:∀x,j x=j t.a->Cn (ts++[t]) x t.a:=λx e=>by have h1:=(g.to x).mono B;have h2:=(g.to t.a).mono B;rw[e]at h1;exact h1.trans h2.symm);(have cb:∀x,j x=j t.b->Cn (ts++[t]) x t.b:=λx e=>by have h1:=(g.to x).mono B;have h2:=(g.to t.b).mono B;rw[e]at h1;exact h1.trans h2.symm);have la:Cn (ts++[t]) t.a (j t.a):=(g.to t.a).mono B;have lb:Cn (ts++[t]) t.b (j t.b):=(g.to t.b).mono B;(have to:∀x,Cn (ts++[t]) x (jn j (j t.a) (j t.b) x):=by intro x;unfold jn;split;{next h=>have Y:Cn (ts++[t]) x t.a:=h.elim (ca x) λe=>(cb x e).trans (Cn.one nt.symm);rcases Kc (j t.a) (j t.b)with e|e;{rw[e];exact Y.trans la};{rw[e];exact(Y.trans<|Cn.one nt).trans lb}};{exact(g.to x).mono B});have ja:jn j (j t.a) (j t.b) t.a=kY (j t.a) (j t.b):=ak (.inl Z);have jb:jn j (j t.a) (j t.b) t.b=kY (j t.a) (j t.b):=ak (.inr Z);(have W:∀x y,Cn (ts++[t]) x y->jn j (j t.a) (j t.b) x=jn j (j t.a) (j t.b) y:=by intro x y c;induction c with|refl=>rfl|@step y z _ n U=>rw[U];obtain⟨u,q,L,h⟩:=n;rcases bJ.mp q with q|q;{have:j y=j z:=g.eq y z (Cn.one ⟨u,q,L,h⟩);unfold jn;rw[this]};{(have q:u=t:=by simpa using q);subst q;rcases h with⟨rfl,rfl⟩|⟨rfl,rfl⟩;{rw[ja,jb]};{rw[ja,jb]}});refine⟨to,W,λx y c=>?_⟩;rw[W x y c];have J:=g.le y y (.refl y);unfold jn;split;{next h=>rcases h with e|e;{intro z;rw[e]at J;exact J<|Ka z<|Kd _ _};{intro z;rw[e]at J;exact J<|Ka z<|Ke _ _}};{exact J}};{unfold uo;rw[ao S];(have O:∀x y,Cn (ts++[t]) x y->Cn ts x y:=by intro x y c;induction c with|refl=>exact .refl _|step _ n U=>obtain⟨u,q,L,h⟩:=n;rcases bJ.mp q with q|q;{exact U.step ⟨u,q,L,h⟩};{(have q:u=t:=by simpa using q);subst q;exact absurd L S});exact⟨λx=>(g.to x).mono B,λx y c=>g.eq x y<|O x y c,λx y c=>g.le x y<|O x y c⟩}
theorem Pe:∀q ts j,Good ts j->Good (ts++q) (q.foldl uo j)|[],ts,j,g=>by rw[e9];exact g|t::r,ts,j,g=>by have:=Pe r (ts++[t]) (uo j t) (Xl g);rw[gy]at this;z_go
theorem AY ts:Good ts (aq ts):=Pe ts [] id Xk
theorem Pf{ts:List dW}(h:ts[i]?=some t):aq (ts.take<|i+1)=uo (aq<|ts.take i) t:=by unfold aq;rw[aR,h,pM];rfl
theorem Kf{us:88}(q:x∈us)(j:∀t∈ts,t.a∈us/\t.b∈us):aq ts x∈us:=((AY ts).to x).mem q j
def dN(us:88)(j:Str->Str):List (Key×V):=us.map λx=>(Sum.inr x,V.str (j x))
theorem oH(h:x∈us):eB (dN us j) (Sum.inr x)=some (.str<|j x):=by induction us with|nil=>cases h|cons y r B=>unfold dN;rw[b7];by_cases e:y=x;{k_go;exact Dq Z};{(have q:x∈r:=by rcases aM.mp h with h|h;{exact absurd h.symm e};{exact h});have:=B q;unfold eB at this⊢;rw[rJ (by simpa using e)];z_go}
theorem Kg(h:x∈us):putK (dN us j) (Sum.inr x) (.str y)=dN us (λz=>if z=x then y else j z):=by(have B:((dN us j).any λJ=>decide (J.1=(Sum.inr x:Key)))=true:=by rw[jt];exact⟨(Sum.inr x,V.str (j x)),aD.mpr ⟨x,h,Z⟩,aO Z⟩);unfold putK;rw[ak B];unfold dN;rw[bK];apply gw;intro z _;show(if(Sum.inr z:Key)=Sum.inr x then(Sum.inr z,V.str y)else(Sum.inr z,V.str (j z)))=_;by_cases e:z=x;{k_go;simp};{rw[ao (λq=>e<|jy q)];show _=(Sum.inr z,V.str (if z=x then y else j z));rw[ao e]}
theorem Pg(h:x∉us):putK (dN us id) (Sum.inr x) (.str x)=dN (us++[x]) id:=by(have q:¬((dN us id).any λj=>decide (j.1=(Sum.inr x:Key)))=true:=by rw[jt];rintro⟨j,h1,h2⟩;obtain⟨z,B,rfl⟩:=aD.mp h1;have h2:z=x:=jy (aW h2);subst h2;exact h B);unfold putK;rw[ao q];unfold dN;rw[aU];rfl
theorem Cf(h:∀x∈us,f x=g x):dN us f=dN us g:=by unfold dN;apply gw;intro x j;rw[h x j]
theorem DT us f:(dN us f).length=109:=ay _
theorem Xm us f:((dN us f).map λj=>kV j.1)=us.map 114:=by unfold dN;rw[bK];rfl
theorem vq{us rs:88}(j:rs.Nodup)(hs:∀x∈rs,x∈us):111<=109:=by induction rs generalizing us with|nil=>simp|cons a r J=>rw[jj]at j;have q:=hs a 81;(have h2:∀x∈r,x∈us.erase a:=λx B=>by refine(List.mem_erase_of_ne (λz=>by subst z;exact j.1 B)).mpr<|hs x<|aZ _ B);have:=J j.2 h2;rw[List.length_erase_of_mem q]at this;have L:0<109:=List.length_pos_of_mem q;rw[cR];lia
def zK(l:88):Prop:=l.Pairwise (λa b=>¬co b<co a)
theorem Ph:∀{a b:88},a.Perm b->zK a->zK b->a=b|[],b,p,_,_=>by rw[List.nil_perm.mp p]|x::r,[],p,_,_=>by have:=p.length_eq;cases this|x::r,y::L,p,j,q=>by have B:x∈y::L:=p.mem_iff.mp 81;have J:y∈x::r:=p.mem_iff.mpr 81;(have e:x=y:=by rcases aM.mp B with h|h;{exact h};{rcases aM.mp J with h2|h2;{exact h2.symm};{exact DR ((jg.mp q).1 x h)<|(jg.mp j).1 y h2}});k_go;rw[Ph (List.Perm.cons_inv p) (jg.mp j).2 (jg.mp q).2]
def uq(x:Str):88->88|[]=>[x]|y::r=>if co y<co x then y::uq x r else x::y::r
def aJ:88->88|[]=>[]|x::r=>uq x (aJ r)
theorem Kh x:∀l,(uq x l).Perm (x::l)|[]=>.refl _|y::r=>by unfold uq;split;{exact((Kh x r).cons y).trans<|.swap x y r};{exact .refl _}
theorem Cg:∀l,(aJ l).Perm l|[]=>.refl _|x::r=>(Kh x<|aJ r).trans ((Cg r).cons x)
theorem Pj x:∀l,zK l->zK (uq x l)|[],_=>List.pairwise_singleton ..|y::r,h=>by unfold uq;obtain⟨h1,h2⟩:=jg.mp h;split;{next c=>refine jg.mpr ⟨λz j=>?_,Pj x r h2⟩;rcases aM.mp ((Kh x r).mem_iff.mp j)with e|j;{k_go;exactλq=>DS q c};{exact h1 z j}};{next c=>refine jg.mpr ⟨λz j=>?_,h⟩;rcases aM.mp j with e|j;{k_go;exact c};{intro q;exact h1 z j<|Ka q c}}
theorem GL:∀l,zK (aJ l)|[]=>.nil|x::r=>Pj x (aJ r) (GL r)
theorem GN(p:j.Perm us)(h:zK j):j=aJ us:=Ph (p.trans (Cg us).symm) h (GL us)
theorem Xn(p:us.Perm vs):aJ us=aJ vs:=GN ((Cg us).trans p) (GL us)
theorem Kl(h:us.Nodup):(aJ us).Nodup:=(Cg us).nodup_iff.mpr h
theorem kZ:x∈aJ us↔x∈us:=(Cg us).mem_iff
theorem Km us:(aJ us).length=109:=(Cg us).length_eq
theorem GO(h:us.Nodup):(aJ us).Pairwise (λa b=>co a<co b):=by have h1:=GL us;have h2:=Kl h;refine(h1.and h2).imp λ{a b}j=>?_;obtain⟨p,q⟩:=j;exact gv λk=>q (DR k p)
theorem Xo{B:88}(h:B.Pairwise (λa b=>co a<co b)){i j:Nat}(O:B[i]?=some x)(S:B[j]?=some y)(J:co x<co y):i<j:=by obtain⟨hi,ex⟩:=cE.mp O;obtain⟨L,q⟩:=cE.mp S;rcases nI i j with c|c|c;{exact c};{subst c;rw[ex]at q;subst q;exact absurd J<|iy _};{have:=(List.pairwise_iff_getElem.mp h) j i L hi c;rw[ex,q]at this;exact(DS J this).elim}
def dV(ks:88)(f:Str->V):List (Key×V):=ks.map λx=>(Sum.inr x,f x)
theorem qw(h:x∈ks):eB (dV ks f) (Sum.inr x)=some (f x):=by induction ks with|nil=>cases h|cons y r q=>unfold dV;rw[b7];by_cases e:y=x;{k_go;exact Dq Z};{(have j:x∈r:=by rcases aM.mp h with h|h;{exact absurd h.symm e};{exact h});have:=q j;unfold eB at this⊢;rw[rJ (by simpa using e)];z_go}
theorem AZ(h:x∉ks):eB (dV ks f) (Sum.inr x)=none:=by unfold eB;rw[List.find?_eq_none.mpr];{rfl};{intro B j;obtain⟨z,q,rfl⟩:=aD.mp j;intro e;have e:z=x:=jy (aW e);k_go;exact h q}
theorem DU(h:x∈ks):putK (dV ks f) (Sum.inr x) v=dV ks (λz=>if z=x then v else f z):=by(have j:((dV ks f).any λB=>decide (B.1=(Sum.inr x:Key)))=true:=by rw[jt];exact⟨(Sum.inr x,f x),aD.mpr ⟨x,h,Z⟩,aO Z⟩);unfold putK;rw[ak j];unfold dV;rw[bK];apply gw;intro z _;show(if(Sum.inr z:Key)=Sum.inr x then(Sum.inr z,v)else(Sum.inr z,f z))=(Sum.inr z,if z=x then v else f z);by_cases e:z=x;{k_go;simp};{rw[ao (λq=>e<|jy q),ao e]}
theorem ur(h:x∉ks):putK (dV ks f) (Sum.inr x) v=dV (ks++[x]) (λz=>if z=x then v else f z):=by(have B:¬((dV ks f).any λq=>decide (q.1=(Sum.inr x:Key)))=true:=by rw[jt];rintro⟨q,h1,h2⟩;obtain⟨z,j,rfl⟩:=aD.mp h1;have h2:z=x:=jy (aW h2);subst h2;exact h j);unfold putK;rw[ao B];unfold dV;rw[aU];congr 1;{apply gw;intro z j;have:¬z=x:=λe=>h (e▸j);show _=(Sum.inr z,if z=x then v else f z);rw[ao this]};{show[(Sum.inr x,v)]=[(Sum.inr x,if x=x then v else f x)];rw[ak Z]}
theorem tN(h:∀x∈ks,f x=g x):dV ks f=dV ks g:=by unfold dV;apply gw;intro x j;rw[h x j]
theorem iH ks f:(dV ks f).length=ks.length:=ay _
theorem GP ks f:((dV ks f).map λj=>kV j.1)=ks.map 114:=by unfold dV;rw[bK];rfl
theorem Xp ks f:((dV ks f).map (·.2))=ks.map f:=by unfold dV;rw[bK];rfl
def keysOf(ts:List dW)(j:88):88:=j.filter λx=>decide (aq ts x=x)
def qx(ts:List dW)(j:88)(k:Str):88:=j.filter λx=>decide (aq ts x=k)
def vt(us:88)(ts:List dW):List 88:=(79).map (qx ts<|aJ us)
theorem Pk{j:88}(h:j[i]?=some u):keysOf ts (j.take<|i+1)=keysOf ts (j.take i)++(if aq ts u=u then[u]else[]):=by unfold keysOf;rw[aR,h,gx];by_cases c:aq ts u=u;{rw[ak c];simp[c]};{rw[ao c];simp[c]}
theorem Kn{j:88}(h:j[i]?=some u):qx ts (j.take<|i+1) k=qx ts (j.take i) k++(if aq ts u=k then[u]else[]):=by unfold qx;rw[aR,h,gx];by_cases c:aq ts u=k;{rw[ak c];simp[c]};{rw[ao c];simp[c]}
theorem GQ ts x:aq ts (aq ts x)=aq ts x:=((AY ts).eq x _<|(AY ts).to x).symm
theorem Ko ts x:¬co x<co (aq ts x):=(AY ts).le x x (.refl x)
theorem Xq(nd:us.Nodup)(W:∀t∈ts,t.a∈us/\t.b∈us)(h:(aJ us)[i]?=some u)(J:aq ts u≠u):aq ts u∈keysOf ts ((aJ us).take i):=by have Y:u∈us:=kZ.mp (bM h);have U:aq ts u∈aJ us:=kZ.mpr (Kf Y W);obtain⟨j,S,L⟩:=kc.mp U;(have q:(aJ us)[j]?=some (aq ts u):=by rw[cj S,L]);have B:co (aq ts u)<co u:=gv λk=>J (DR k<|Ko ts u);have O:=Xo (GO nd) q h B;unfold keysOf;rw[bV];refine⟨?_,aO<|GQ ts u⟩;rw[List.mem_take_iff_getElem];exact⟨j,80,L⟩
theorem Xr(O:us.Nodup)(h:(aJ us)[i]?=some u):u∉keysOf ts ((aJ us).take i)/\(aq ts u=u->qx ts ((aJ us).take i) u=[]):=by have hi:=(cE.mp h).1;have L:=(cE.mp h).2;(have q:∀x∈(aJ us).take i,co x<co u:=by intro x B;obtain⟨j,S,J⟩:=List.mem_take_iff_getElem.mp B;have:=(List.pairwise_iff_getElem.mp<|GO O) j i 80 hi 80;rw[J,L]at this;z_go);refine⟨λz=>?_,λe=>?_⟩;{have:=q u (bV.mp z).1;exact iy _ this};{unfold qx;rw[List.filter_eq_nil_iff];intro x B c;have c:aq ts x=u:=aW c;have:=Ko ts x;rw[c]at this;exact this<|q x B}
section
variable{us:88}{ts:List dW}
theorem nW:k∈79↔k∈us/\aq ts k=k:=by unfold keysOf;rw[bV,kZ,cJ]
theorem vz(j:us.Nodup):(79).Nodup:=(Kl j).sublist (lI ..)
theorem Pn(j:us.Nodup):(79).Pairwise (λa b=>co a<co b):=(GO j).sublist (lI ..)
theorem Xs(j:us.Nodup)k:(qx ts (aJ us) k).Pairwise (λa b=>co a<co b):=(GO j).sublist (lI ..)
theorem tO:y∈qx ts (aJ us) k↔y∈us/\aq ts y=k:=by unfold qx;rw[bV,kZ,cJ]
theorem zL(j:∀t∈ts,t.a∈us/\t.b∈us)(q:x∈us):aq ts x∈79:=nW.mpr ⟨Kf q j,GQ ts x⟩
theorem Po(S:us.Nodup)(L:k∈79):∃r,qx ts (aJ us) k=k::r:=by obtain⟨h1,h2⟩:=nW.mp L;have j:k∈qx ts (aJ us) k:=tO.mpr ⟨h1,h2⟩;have B:=Xs (ts:=ts) S k;cases e:qx ts (aJ us) k with|nil=>rw[e]at j;cases j|cons x r=>rw[e]at j B;rcases aM.mp j with z|z;{rw[z];exact⟨r,Z⟩};{have J:=(jg.mp B).1 k z;(have O:x∈qx ts (aJ us) k:=by rw[e];simp);have q:=Ko ts x;rw[(tO.mp O).2]at q;exact absurd J q}
theorem Kp(j:us.Nodup):(vt us ts).length<=109:=by unfold vt;rw[ay];have:=fQ (λx=>decide<|aq ts x=x) (aJ us);rw[Km]at this;z_go
end
theorem Xu(h1:xs.Nodup)(h2:ys.Nodup)(h:∀x,x∈xs↔x∈ys):aJ xs=aJ ys:=Xn ((List.perm_ext_iff_of_nodup h1 h2).mpr h)
structure fY where
  n:Str
  u:Str
  lo:Int
  hi:Int
def eY(f:fY):99:=[.str f.n,.str f.u,.int f.lo,.int f.hi]
structure A0 (us:List Str) (f:fY):Prop where
  n:jJ f.n=true
  u:f.u∈us
  le:f.lo<=f.hi
  lo:mY f.lo
  hi:mY f.hi
theorem m7.mono(h:m7 us t)(s:∀x∈us,x∈j):m7 j t:=⟨h.ok.mono s,s _ h.a,s _ h.b⟩
theorem A0.mono(h:A0 us f)(s:∀x∈us,x∈j):A0 j f:=⟨h.n,s _ h.u,h.le,h.lo,h.hi⟩
theorem A0.words(h:A0 us f)(q:∀x∈us,jJ x=true):∀v∈eY f,Wd v:=by intro v j;simp[eY]at j;rcases j with rfl|rfl|rfl|rfl;{exact .inl ⟨_,Z,bF (Ce h.n) 82⟩};{exact .inl ⟨_,Z,bF (Ce<|q _ h.u) 82⟩};{exact .inr ⟨_,Z,h.lo⟩};{exact .inr ⟨_,Z,h.hi⟩}
structure qK (K:aC) (H:Hp) (p pm pu pt pf:ai) (lo hi:Int) (us:List Str) (ts:List dW) (fs:List fY) (at' af:List ai):Prop where
  p:aI K H p [.ref pm,.ref pu,.ref pt,.ref pf]
  at':qg K H pm pu pt pf lo hi us (ts.map bO) (fs.map eY) at' af
theorem qK.same{p pm pu pt pf:ai}{at' af:List ai}(h:qK K H p pm pu pt pf lo hi us ts fs at' af)(s:aj H H'):qK K H' p pm pu pt pf lo hi us ts fs at' af:=⟨s.tup h.p,h.at'.same s⟩
abbrev Ln:=Str->List (Str×ai)
def fE(ts:List dW)(z:List (dW×ai)):Ln:=λk=>(z.filter λp=>decide (p.1.k≠c7/\aq ts p.1.a=k)).map λp=>(aq ts p.1.b,p.2)
theorem Pp{z:List (dW×ai)}(h:z[i]?=some (t,r)):fE ts (z.take<|i+1) k=fE ts (z.take i) k++(if t.k≠c7/\aq ts t.a=k then[(aq ts t.b,r)]else[]):=by unfold fE;rw[aR,h,gx,aU];by_cases c:t.k≠c7/\aq ts t.a=k;{rw[ak c];simp[c.1,c.2]};{rw[ao c];congr 1;(have:((some (t,r)).toList.filter λp=>decide (p.1.k≠c7/\aq ts p.1.a=k))=[]:=by rw[List.filter_eq_nil_iff];intro p j;(have:p=(t,r):=by simpa using j);subst this;intro e;exact c<|aW e);rw[this];rfl}
theorem jK:(l,r)∈fE ts z k↔∃t,(t,r)∈z/\t.k≠c7/\aq ts t.a=k/\aq ts t.b=l:=by unfold fE;rw[aD];left;{rintro⟨⟨t,L⟩,h,e⟩;rw[bV,cJ]at h;simp only[Prod.mk.injEq]at e;obtain⟨j,q⟩:=e;subst q;exact⟨t,h.1,h.2.1,h.2.2,j⟩};{rintro⟨t,h1,h2,B,J⟩;refine⟨(t,r),?_,by simp[J]⟩;rw[bV,cJ];exact⟨h1,h2,B⟩}
theorem Pq:(fE ts z k).length<=z.length:=by unfold fE;rw[ay];exact fQ _ _
inductive Wk(ln:Ln)(s:Str):List ai->Str->Prop|nil:Wk ln s [] s|snoc{rs:List ai}{m l:Str}{r:ai}(w:Wk ln s rs m)(h:(l,r)∈ln m):Wk ln s (rs++[r]) l
def Rc(ln:Ln)(s:Str)(n:Nat)(v:Str):Prop:=∃rs,Wk ln s rs v/\111=n
theorem Rc.zero(h:Rc ln s 0 v):v=s:=by obtain⟨rs,w,e⟩:=h;cases w with|nil=>rfl|snoc w h=>simp at e
theorem Rc.succ(h:Rc ln s (n+1) v):∃u r,Rc ln s n u/\(v,r)∈ln u:=by obtain⟨rs,w,e⟩:=h;cases w with|nil=>simp at e|snoc w h=>exact⟨_,_,⟨_,w,by simpa using e⟩,h⟩
theorem Rc.step(h:Rc ln s n u)(e:(v,r)∈ln u):Rc ln s (n+1) v:=by obtain⟨rs,w,q⟩:=h;exact⟨_,w.snoc e,by simp[q]⟩
structure Bf (ln:Ln) (s:Str) (d:Nat) (M ns:List Str):Prop where
  met:∀v∈M,∃j,1<=j/\j<=d/\Rc ln s j v
  no:∀j,1<=j->j<=d->¬Rc ln s j s
  all:∀v,Rc ln s d v->(∀j,1<=j->j<d->¬Rc ln s j v)->v∈ns
theorem Bf.zero:Bf ln s 0 [] [s]:=⟨λv h=>(bE h).elim,λj h1 h2=>80,λv h _=>by rw[h.zero];simp⟩
theorem Bf.succ(b:Bf ln s d M ns)(hm:∀v∈W,Rc ln s (d+1) v)(hs:∀u∈ns,∀v r,(v,r)∈ln u->v≠s/\v∈M++W):Bf ln s (d+1) (M++W) W:=by refine⟨λv h=>?_,λj h1 h2 q=>?_,λv h hj=>?_⟩;{rcases bJ.mp h with h|h;{obtain⟨j,a,c,e⟩:=b.met v h;exact⟨j,a,80,e⟩};{exact⟨d+1,80,80,hm v h⟩}};{by_cases c:j<=d;{exact b.no j h1 c q};{(have e:j=d+1:=by lia);k_go;obtain⟨u,r,S,L⟩:=q.succ;by_cases Y:∃j,1<=j/\j<d/\Rc ln s j u;{obtain⟨j,J,O,B⟩:=Y;exact b.no (j+1) 80 80<|B.step L};{exact(hs u (b.all u S λj J O B=>Y ⟨j,J,O,B⟩) s r L).1 Z}}};{obtain⟨u,r,S,L⟩:=h.succ;have U:u∈ns:=b.all u S λj J O B=>hj (j+1) 80 80 (B.step L);rcases bJ.mp (hs u U v r L).2 with h|h;{obtain⟨j,J,O,B⟩:=b.met v h;exact absurd B<|hj j J 80};{exact h}}
theorem Bf.done(b:Bf ln s d M []):∀j,1<=j->¬Rc ln s j s:=by(have U:∀j v,1<=j->Rc ln s j v->∃B,1<=B/\B<=d/\Rc ln s B v/\B<max d 1:=by intro j;induction j with|zero=>intro v h;lia|succ j ih=>intro v _ h;(have L:Rc ln s d v->∃B,1<=B/\B<=d/\Rc ln s B v/\B<max d 1:=λq=>by by_cases c:∃j,1<=j/\j<d/\Rc ln s j v;{obtain⟨i,O,S,J⟩:=c;exact⟨i,O,80,J,80⟩};{exact nomatch b.all v q λi O S J=>c ⟨i,O,S,J⟩});by_cases c1:j+1<d;{exact⟨j+1,80,80,h,80⟩};{by_cases Y:j+1=d;{exact L<|Y▸h};{obtain⟨u,r,hu,W⟩:=h.succ;by_cases c3:j=0;{(have:d=0:=by lia);subst this;subst c3;exact(nomatch b.all s ⟨[],.nil,Z⟩ λi O S J=>80)};{obtain⟨B,O,S,J,a4⟩:=ih u 80 hu;by_cases c4:B+1=d;{exact L<|c4▸J.step W};{exact⟨B+1,80,80,J.step W,80⟩}}}});intro j h q;obtain⟨B,O,S,J,_⟩:=U j s h q;exact b.no B O S J
structure Bn (H:Hp) (pd:ai) (ob:Obj) (keys:List Str) (ln:Ln) (ad:Str->ai) (bs:Str->List ai):Prop where
  d:H pd=some (.fL ob (.dK (dV keys fun k=>.ref (ad k))))
  l:∀k∈keys,H (ad k)=some (.lst ((bs k).map V.ref))
  e:∀k∈keys,Paired (fun b (p:Str×ai)=>H b=some (.tup [.str p.1,.ref p.2])) (bs k) (ln k)
theorem Bn.same(b:Bn H pd ob keys ln ad bs)(s:aj H H'):Bn H' pd ob keys ln ad bs:=⟨s _ _ b.d,λk j=>s _ _<|b.l k j,λk j=>Paired.fS (b.e k j) λ_ _ h=>s _ _ h⟩
theorem vX{ps:List B}{i:Nat}(t:Paired F as ps)(j:(as.map 122)[i]?=some x):∃q p,x=.ref q/\ps[i]?=some p/\as[i]?=some q/\F q p:=by rw[aT]at j;cases e:as[i]? with|none=>rw[e]at j;cases j|some q=>rw[e]at j;cases j;obtain⟨p,h1,h2⟩:=Paired.get' t e;exact⟨q,p,Z,h1,Z,h2⟩
def Pr(H:Hp)(b:ai)(e:Str×List ai):Prop:=∃q,H b=some (.tup [.str e.1,.ref q])/\H q=some (.lst<|e.2.map 122)
def Kq(pl:ai)(H:Hp)(b:ai)(e:Str×List ai):Prop:=∃q,q≠pl/\H b=some (.tup [.str e.1,.ref q])/\H q=some (.lst<|e.2.map 122)
def tP:Str->V:=λ_=>.bl true
theorem Pu(h:v∉M):putK (dV M tP) (Sum.inr v) (.bl true)=dV (M++[v]) tP:=by rw[ur h];refine tN λz _=>?_;unfold tP;split<;>rfl
structure vY (Hw H':Hp) (pm pl:ai) (ln:Ln) (s:Str) (keys M:List Str) (d:Nat) (ml:List ai) (fs:List (Str×List ai)):Prop where
  kp:∀b o,b≠pm->Hw b=some o->H' b=some o
  m:H' pm=some (.dK (dV (M++fs.map Prod.fst) tP))
  l:H' pl=some (.lst (ml.map V.ref))
  w:Paired (Kq pl H') ml fs
  ok:∀e∈fs,Wk ln s e.2 e.1/\e.2.length=d+1/\e.1∈keys
  nd:(M++fs.map Prod.fst).Nodup
section
variable{Hw H':Hp}{pm pl:ai}{ln:Ln}{s:Str}{keys M:88}{d:Nat}{ml:List ai}{fs:List (Str×List ai)}
theorem vY.add(g:vY Hw H' pm pl ln s keys M d ml fs)(hw:Hw pl=none)(L:pl≠pm)(hv:v∉M++fs.map Prod.fst)(O:aj (upd H' pm<|.dK<|dV (M++fs.map Prod.fst++[v]) tP) H2)(hq:H2 q=some (.lst<|rs.map 122))(nq:q≠pl)(W:H2 b=some (.tup [.str v,.ref q]))(ok:Wk ln s rs v/\111=d+1/\v∈keys):vY Hw (upd H2 pl<|.lst<|ml.map 122++[.ref b]) pm pl ln s keys M d (ml++[b]) (fs++[(v,rs)]):=by have l2:H2 pl=some (.lst<|ml.map 122):=O _ _ (by rw[zi L];exact g.l);(have j:∀b vs,H2 b=some (.tup vs)->b≠pl:=λb vs e z=>by rw[z,l2]at e;cases e);existsλc o n e=>?_,?_,?_,?_,λe J=>?_;{rw[zi (zj e hw)];exact O _ _ (by rw[zi n];exact g.kp c o n e)};{rw[zi (aG L),aU,←gy];exact O _ _ zb};{rw[zb,aU];rfl};{refine Paired.snoc (Paired.fS g.w λc e h=>?_) ?_;{obtain⟨q',Y,h1,h2⟩:=h;have B:=O _ _ (show upd H' pm (.dK<|dV (M++fs.map Prod.fst++[v]) tP) c=_ by rw[zi (λz=>by rw[z,g.m]at h1;cases h1)];exact h1);have S:=O _ _ (show upd H' pm (.dK<|dV (M++fs.map Prod.fst++[v]) tP) q'=_ by rw[zi (λz=>by rw[z,g.m]at h2;cases h2)];exact h2);exact⟨q',Y,by rw[zi (j _ _ B)];exact B,by rw[zi Y];exact S⟩};{exact⟨q,nq,by rw[zi (j _ _ W)];exact W,by rw[zi nq];exact hq⟩}};{rcases bJ.mp J with J|J;{exact g.ok e J};{(have:e=(v,rs):=by simpa using J);subst this;exact ok}};{rw[aU,←gy];rw[jq];refine⟨g.nd,81,λa ha c U e=>?_⟩;(have U:c=v:=by simpa using U);subst U;k_go;exact hv ha}
end
theorem Bn.get(b:Bn H pd ob keys ln ad bs)(j:k∈keys):bL H pd (.str k) (some<|.ref<|ad k):=by have:bL H pd (kV<|Sum.inr k) (eB (dV keys λk=>.ref (ad k))<|Sum.inr k):=.inl ⟨_,_,.inr ⟨ob,b.d⟩,Z,Z⟩;rwa[qw j]at this
def Pw(ln:Ln)(s:Str)(rs:List ai):Prop:=(rs=[]/\∀j,1<=j->¬Rc ln s j s)\/(rs≠[]/\Wk ln s rs s/\∀j,1<=j->j<111->¬Rc ln s j s)
def qy(ln:Ln)(keys:88)(rs:List ai):Prop:=(rs=[]/\∀s∈keys,∀j,1<=j->¬Rc ln s j s)\/(rs≠[]/\(∃s∈keys,Wk ln s rs s)/\∀s∈keys,∀j,1<=j->j<111->¬Rc ln s j s)
theorem qy.nil:qy ln [] []:=.inl ⟨Z,λs h=>(bE h).elim⟩
theorem qy.step(h:qy ln keys rs)(g:Pw ln u xs):qy ln (keys++[u]) (if xs≠[]/\(rs=[]\/84<111)then xs else rs):=by(have J:∀{s:Str},s∈keys++[u]->s∈keys\/s=u:=λh=>by simpa using h);(have L:∀{n:Nat},n<=84\/xs=[]->∀j,1<=j->j<n->¬Rc ln u j u:=λB j h1 h2=>by rcases g with⟨e,g⟩|⟨e,_,g⟩;{exact g j h1};{exact g j h1 (by rcases B with B|B;lia;exact absurd B e)});by_cases c:xs≠[]/\(rs=[]\/84<111);{rw[ak c];rcases g with⟨e,_⟩|⟨_,O,S⟩;{exact absurd e c.1};{refine .inr ⟨c.1,⟨u,81,O⟩,λs hs j h1 h2=>?_⟩;rcases J hs with hs|rfl;{rcases h with⟨_,h⟩|⟨B,_,h⟩;{exact h s hs j h1};{rcases c.2 with z|z;{exact absurd z B};{exact h s hs j h1 80}}};{exact S j h1 h2}}};{rw[ao c];rcases h with⟨e,h⟩|⟨B,⟨s,hs,U⟩,h⟩;{have ex:xs=[]:=gv λz=>c ⟨z,.inl e⟩;refine .inl ⟨e,λs hs j h1=>?_⟩;rcases J hs with hs|rfl;{exact h s hs j h1};{rcases g with⟨_,g⟩|⟨z,_⟩;{exact g j h1};{exact absurd ex z}}};{refine .inr ⟨B,⟨s,ir _ hs,U⟩,λs hs j h1 h2=>?_⟩;rcases J hs with hs|rfl;{exact h s hs j h1 h2};{refine L (n:=111) ?_ j h1 h2;by_cases z:xs=[];{exact .inr z};{exact .inl<|Nat.le_of_not_lt λq=>c ⟨z,.inr q⟩}}}}
theorem Kr{us:88}{ts:List dW}{az:List ai}(j:∀t∈ts,t.a∈us/\t.b∈us):∀k∈keysOf ts (aJ us),∀l r,(l,r)∈fE ts 87 k->l∈79:=by intro k _ l r h;obtain⟨t,h1,_,_,rfl⟩:=jK.mp h;exact zL j (j t (gP h1).1).2
theorem A1{i:Nat}(h:(dV ks f)[i]?=some (k,v)):∃u,ks[i]?=some u/\k=Sum.inr u/\v=f u:=by unfold dV at h;rw[aT]at h;cases e:ks[i]? with|none=>rw[e]at h;cases h|some u=>rw[e]at h;cases h;exact⟨u,Z,Z,Z⟩
theorem grown{us:88}(P:Nat->Str->Bool)(q:∀k x,P k x=true->P (k+1) x=true)(prog:∀k,(∃x∈us,P k x=94)->∃z∈us,P k z=94/\P (k+1) z=true):∀x∈us,P 109 x=true:=by intro x hx;refine gv λL=>?_;(have L:P 109 x=94:=by simpa using L);(have J:∀k,k<=109->P k x=94:=by intro k hk;cases e:P k x with|false=>rfl|true=>(have:∀j,P (k+j) x=true:=by intro j;induction j with|zero=>exact e|succ j Y=>exact q _ _ Y);have:=this (109-k);rw[show k+(109-k)=109 by lia,L]at this;cases this);(have O:∀k,k<=109->k<=us.countP (P k):=by intro k;induction k with|zero=>intro _;exact fj _|succ k Y=>intro hk;have h1:=Y 80;obtain⟨z,B,z1,z2⟩:=prog k ⟨x,hx,J k 80⟩;(have h2:us.countP (P k)<us.countP (P<|k+1):=by(have S:∀(l:88),us.Sublist us->(∀y∈l,P k y=true->P (k+1) y=true)->z∈l->l.countP (P k)<l.countP (P<|k+1):=by intro l _ U B;induction l with|nil=>cases B|cons y r Xv=>rw[List.countP_cons,List.countP_cons];have le:r.countP (P k)<=r.countP (P<|k+1):=List.countP_mono_left λy W e=>U y (aZ _ W) e;rcases aM.mp B with e|B;{k_go;rw[z1,z2];simp;lia};{have:=Xv (λy W=>U y<|aZ _ W) B;(have h3:(if P k y=true then 1 else 0)<=(if P (k+1) y=true then 1 else 0):=by by_cases c:P k y=true;{rw[ak c,ak (U y 81 c)];exact aB _};{rw[ao c];exact fj _});lia});exact S us (List.Sublist.refl _) (λy _=>q k y) B);lia);have h1:=O 109 (aB _);(have h2:us.countP (P 109)<109:=by have:=List.countP_le_length (p:=P 109) (l:=us);rcases Nat.lt_or_ge (us.countP<|P 109) 109 with h|h;{exact h};{(have e:us.countP (P 109)=109:=by lia);rw[List.countP_eq_length]at e;have:=e x hx;rw[L]at this;cases this});lia
def l8(j:Str->Str)(t:dW):Str->Str:=if t.k=c7 thenλx=>if x=t.a\/x=t.b then kY (j t.a) (j t.b)else j x else j
def qh(ts:List dW)(j:Str->Str):Str->Str:=ts.foldl l8 j
def gj(ts:List dW):Nat->Str->Str|0=>id|n+1=>qh ts (gj ts n)
theorem Px{ts:List dW}(h:ts[i]?=some t):qh (ts.take<|i+1) j=l8 (qh (ts.take i) j) t:=by unfold qh;rw[aR,h,pM];rfl
def DV(ts:List dW)(j:Str->Str):Prop:=∀x,Cn ts x (j x)
theorem Xw(B:t∈ts)(h:DV ts j):DV ts (l8 j t):=by intro x;unfold l8;split;{next q=>have n:Nb ts t.a t.b:=⟨t,B,q,.inl ⟨Z,Z⟩⟩;fin2;split;{next J=>rcases J with rfl|rfl;{rcases Kc (j t.a) (j t.b)with e|e;{rw[e];exact h _};{rw[e];exact(Cn.one n).trans<|h _}};{rcases Kc (j t.a) (j t.b)with e|e;{rw[e];exact(Cn.one n.symm).trans<|h _};{rw[e];exact h _}}};{exact h x}};{exact h x}
theorem GR(h1:¬co x<co y)(h2:¬co y<co z):¬co x<co z:=by rw[List.not_lt]at*;exact List.le_trans h2 h1
theorem Xx j t x:¬co (j x)<co (l8 j t x):=by unfold l8;split;{fin2;split;{next q=>rcases q with rfl|rfl;{exact Kd _ _};{exact Ke _ _}};{exact iy _}};{exact iy _}
theorem Py{ts:List dW}:∀(us:List dW)(j:Str->Str),(∀t∈us,t∈ts)->DV ts j->DV ts (qh us j)|[],j,_,h=>h|t::r,j,hs,h=>Py r (l8 j t) (λu q=>hs u<|aZ _ q) (Xw (hs t 81) h)
theorem DW:∀us j x,¬co (j x)<co (qh us j x)|[],j,x=>iy _|t::r,j,x=>GR (Xx j t x) (DW r (l8 j t) x)
theorem Xy j(n:Nb ts y z):¬co (j y)<co (qh ts j z):=by obtain⟨t,J,q,h⟩:=n;obtain⟨A,B,e⟩:=List.append_of_mem J;k_go;(have e:qh (A++t::B) j=qh B (l8 (qh A j) t):=by unfold qh;rw[pM];rfl);rw[e];refine GR ?_<|DW B _ z;unfold l8;rw[ak q];x_go;rcases h with⟨rfl,rfl⟩|⟨rfl,rfl⟩;{rw[ak (.inr Z)];exact GR (DW A j _)<|Kd _ _};{rw[ak (.inl Z)];exact GR (DW A j _)<|Ke _ _}
theorem Pz ts:∀n,DV ts (gj ts n)|0=>λx=>.refl x|n+1=>Py ts _ (λ_ h=>h) (Pz ts n)
theorem PB ts n x:¬co (gj ts n x)<co (aq ts x):=(AY ts).le x _ (Pz ts n x)
theorem Xz{us:88}(W:∀t∈ts,t.a∈us/\t.b∈us):∀x∈us,gj ts 109 x=aq ts x:=by intro x O;(have j:∀k x,gj ts k x=aq ts x->gj ts (k+1) x=aq ts x:=λk x e=>by have h1:=DW ts (gj ts k) x;rw[e]at h1;exact DR (PB ts (k+1) x) h1);have:=grown (us:=us) (λk x=>decide<|gj ts k x=aq ts x) (λk x e=>aO<|j k x<|aW e) ?_ x O;{exact aW this};{rintro k⟨x,O,e⟩;have e:¬gj ts k x=aq ts x:=lO e;(have L:gj ts k (aq ts x)=aq ts (aq ts x):=by clear e;rename_i e;clear e;induction k with|zero=>rw[GQ];rfl|succ k J=>exact j k _ J);have c:Cn ts (aq ts x) x:=((AY ts).to x).symm;(have B:∀y,Cn ts (aq ts x) y->gj ts k y≠aq ts y->∃a b,Nb ts a b/\gj ts k a=aq ts a/\gj ts k b≠aq ts b:=by intro y c;induction c with|refl=>intro h;exact absurd L h|@step y z c n J=>intro h;by_cases q:gj ts k y=aq ts y;{exact⟨y,z,n,q,h⟩};{exact J q});obtain⟨a,b,n,S,U⟩:=B x c e;refine⟨b,n.mem W,aN U,aO ?_⟩;have h1:=Xy (ts:=ts) (gj ts k) n;rw[S,(AY ts).eq a b (Cn.one n)]at h1;exact DR (PB ts (k+1) b) h1}
abbrev Lk:=List (Str×Str)
theorem Wk.seq(w:Wk ln s rs t):∃vs:Nat->Str,vs 0=s/\vs 111=t/\∀i,i<111->∃r,rs[i]?=some r/\(vs (i+1),r)∈ln (vs i):=by induction w with|nil=>exact⟨λ_=>s,Z,Z,λi h=>by simp at h⟩|@snoc rs m l r w h B=>obtain⟨vs,j,h1,h2⟩:=B;refine⟨λi=>if i=111+1 then l else vs i,?_,?_,λi hi=>?_⟩;{fin2;rw[ao 80];exact j};{fin2;rw[ak 81]};{fin2;rw[bN]at hi;have hi:i<111+1:=hi;by_cases c:i=111;{subst c;rw[ak Z,ao 80,h1];exact⟨r,81,h⟩};{obtain⟨J,e,q⟩:=h2 i 80;rw[ao 80,ao 80];exact⟨J,by rw[lC 80];exact e,q⟩}}
def jR(ts:List dW):Lk:=(ts.filter λt=>decide (t.k≠c7)).map λt=>(aq ts t.a,aq ts t.b)
theorem XA:(x,y)∈jR ts↔∃t∈ts,t.k≠c7/\aq ts t.a=x/\aq ts t.b=y:=by unfold jR;rw[aD];left;{rintro⟨t,h,e⟩;rw[bV,cJ]at h;simp only[Prod.mk.injEq]at e;exact⟨t,h.1,h.2,e⟩};{rintro⟨t,h1,h2,j,q⟩;exact⟨t,by rw[bV,cJ];exact⟨h1,h2⟩,by rw[j,q]⟩}
theorem PD(B:az.length=129):(x,y)∈jR ts↔∃r,(y,r)∈fE ts 87 x:=by rw[XA];left;{rintro⟨t,h1,h2,j,q⟩;obtain⟨i,hi,e⟩:=kc.mp h1;refine⟨az[i]' 80,jK.mpr ⟨t,?_,h2,j,q⟩⟩;rw[kc];exact⟨i,by rw[iY];lia,by rw[List.getElem_zip,e]⟩};{rintro⟨r,h⟩;obtain⟨t,h1,h2,j,q⟩:=jK.mp h;exact⟨t,(gP h1).1,h2,j,q⟩}
theorem XC(J:F≠[])(h:∀x∈F,∃y∈F,∃r,(y,r)∈ln x):∃s∈F,∃j,1<=j/\Rc ln s j s:=by obtain⟨x0,U⟩:=List.exists_mem_of_ne_nil F J;(have B:∃f:Str->Str,∀x∈F,f x∈F/\∃r,(f x,r)∈ln x:=by refine⟨λx=>if c:x∈F then(h x c).choose else x,λx q=>?_⟩;fin2;rw[dif_pos q];exact(h x q).choose_spec);obtain⟨f,B⟩:=B;let x:Nat->Str:=λn=>Nat.rec x0 (λ_ y=>f y) n;(have q:∀n,x n∈F:=by intro n;induction n with|zero=>exact U|succ n L=>exact(B _ L).1);(have S:∀i d,Rc ln (x i) d (x<|i+d):=by intro i d;induction d with|zero=>exact⟨[],.nil,Z⟩|succ d L=>obtain⟨r,e⟩:=(B _<|q<|i+d).2;exact L.step e);(have O:∃i j,i<j/\x i=x j:=by refine rG λJ=>?_;(have nd:((List.range<|F.length+1).map x).Nodup:=J4 λi j _ _ e=>by rcases nI i j with c|c|c;{exact absurd ⟨i,j,c,e⟩ J};{exact c};{exact absurd ⟨j,i,c,e.symm⟩ J});(have:=vq nd (us:=F) λy Y=>by obtain⟨i,_,rfl⟩:=aD.mp Y;exact q i);simp at this;lia);obtain⟨i,j,W,e⟩:=O;(exists x i,q i,j-i,80);have:=S i (j-i);rwa[show i+(j-i)=j by lia,←e]at this
structure oJ (K:aC) (H:Hp) (p pu pt:ai) (x y:V) (us:List Str) (az:List ai) (ts:List dW):Prop where
  p:aI K H p [x,.ref pu,.ref pt,y]
  u:aH K H pu (us.map V.str)
  t:aH K H pt (az.map V.ref)
  tt:bU H az (ts.map bO)
  nd:us.Nodup
  ul:us.length<64
  tl:ts.length<=900
  ok:∀t∈ts,m7 us t
section
variable{K:aC}{H H':Hp}{p pu pt:ai}{x y:V}{us:88}{az:List ai}{ts:List dW}
theorem oJ.same(h:oJ K H p pu pt x y us az ts)(s:aj H H'):oJ K H' p pu pt x y us az ts:=⟨s.tup h.p,s.seq h.u,s.seq h.t,h.tt.same s,h.nd,h.ul,h.tl,h.ok⟩
theorem oJ.ends(h:oJ K H p pu pt x y us az ts):∀t∈ts,t.a∈us/\t.b∈us:=λt j=>⟨(h.ok t j).a,(h.ok t j).b⟩
theorem oJ.len(h:oJ K H p pu pt x y us az ts):az.length=129:=by have:=h.tt.len;rw[ay]at this;z_go
theorem oJ.k6(h:oJ K H p pu pt x y us az ts):(79).length<=63:=by have:=Kp (us:=us) (ts:=ts) h.nd;have:=h.ul;unfold vt at*;rw[ay]at*;lia
end
def vA:Str:="after"
def dH(t:dW):Int:=t.g.getD 0
theorem m7.after(h:m7 us t)(e:t.k=vA):iZ (bO t) 3=some (.int<|dH t):=by have h:=h.ok;obtain⟨k,a,b,g⟩:=t;cases g with|some n=>exact vh (xs:=bO ⟨k,a,b,some n⟩) (j:=3) Z|none=>exfalso;unfold bO at h;simp only at h e;k_go;cases h with|plain q B J=>revert q;walk
theorem m7.plain(h:m7 us t)(e:t.k≠vA):dH t=0:=by have h:=h.ok;obtain⟨k,a,b,g⟩:=t;cases g with|none=>rfl|some n=>exfalso;unfold bO at h;simp only at h e;generalize j:([V.str k,V.str a,V.str b,V.int n]:99)=ws at h;cases h with|plain L q B=>simp at j|after q B J h1=>simp only[List.cons.injEq,V.str.injEq]at j;exact e j.1
def qi(ts:List dW)(z:List (dW×ai)):List 99:=(z.filter λp=>decide (p.1.k≠c7)).map λp=>[.str (aq ts p.1.a),.str (aq ts p.1.b),.int (dH p.1),.ref p.2]
theorem PF{z:List (dW×ai)}(h:z[i]?=some (t,r)):qi ts (z.take<|i+1)=qi ts (z.take i)++(if t.k≠c7 then[[.str (aq ts t.a),.str (aq ts t.b),.int (dH t),.ref r]]else[]):=by unfold qi;rw[aR,h,gx,aU];by_cases c:t.k≠c7;{rw[ak c];simp[c]};{rw[ao c];simp[c]}
theorem XD:(qi ts z).length<=z.length:=by unfold qi;rw[ay];exact fQ _ _
abbrev vZ:=Str×Str×Int×ai
def Ks(q:vZ):99:=[.str q.1,.str q.2.1,.int q.2.2.1,.ref q.2.2.2]
def gk(ts:List dW)(z:List (dW×ai)):List vZ:=(z.filter λp=>decide (p.1.k≠c7)).map λp=>(aq ts p.1.a,aq ts p.1.b,dH p.1,p.2)
theorem XE ts z:qi ts z=(gk ts z).map Ks:=by unfold qi gk;rw[bK];rfl
theorem PJ{j L:Type}{p:j->Bool}{O:Type}{f:j->O}:∀{xs:List j}{ys:List L},121=84->((xs.zip ys).filter λq=>p q.1).map (λq=>f q.1)=(xs.filter p).map f|[],_,_=>rfl|x::r,[],h=>by simp at h|x::r,y::J,h=>by have B:=PJ (p:=p) (f:=f) (xs:=r) (ys:=J) (by simpa using h);rw[List.zip_cons_cons];by_cases c:p x=true;{rw[lF (by simpa using c),lF c,b7,b7,B]};{rw[lG (by simpa using c),lG c,B]}
theorem XF(h:az.length=129):jR ts=(gk ts 87).map λq=>(q.1,q.2.1):=by unfold gk jR;rw[bK];exact(PJ (p:=λt=>decide (t.k≠c7)) (f:=λt:dW=>(aq ts t.a,aq ts t.b)) h).symm
section
variable{K:aC}{H:Hp}{n:Nat}
theorem bU.tQ{as:List ai}{ts:List dW}:bU H as (ts.map bO)->∀{t:dW}{r:ai},(t,r)∈ts.zip as->H r=some (.tup<|bO t)/\r∈as/\t∈ts:=by intro h t r J;obtain⟨i,hi,e⟩:=kc.mp J;(have B:(ts.zip as)[i]?=some (t,r):=by rw[cj hi,e]);obtain⟨j,q⟩:=jV.mp B;obtain⟨ws,h1,h2⟩:=Paired.get' h q;rw[aT,j]at h1;cases h1;exact⟨h2,bM q,bM j⟩
end
theorem XG{i:Nat}{v:j}(hi:i<84)(h:xs[if i=0 then 84-1 else i-1]?=some v):iZ xs (0+(i:Int)-1)=some v:=by unfold iZ vL;by_cases c:i=0;{subst c;rw[ak Z]at h;rw[ao 80,ak 80];rw[show(0+((0:Nat):Int)-1+(84:Int)).toNat=84-1 by lia];exact h};{rw[ao c]at h;rw[ak 80,ak 80,show(0+(i:Int)-1).toNat=i-1 by lia];exact h}
structure A2 (ts:List dW) (az:List ai) (rs:List ai) (vs:Nat->Str):Prop where
  at':∀i r,rs[i]? = some r->∃t,(t,r)∈ts.zip az/\t.k≠c7/\aq ts t.a=vs i/\aq ts t.b=vs (i+1)
  cl:vs 0=vs rs.length
theorem Wk.A3(w:Wk (fE ts 87) s rs s):∃vs,A2 ts az rs vs:=by obtain⟨vs,B,h1,h2⟩:=w.seq;refine⟨vs,λi r e=>?_,by rw[B,h1]⟩;obtain⟨J,j,q⟩:=h2 i (jE e);rw[e]at j;cases j;obtain⟨t,a,b,c,d⟩:=jK.mp q;exact⟨t,a,b,c,d⟩
theorem qy.A3(h:qy (fE ts 87) 79 rs):∃vs,A2 ts az rs vs:=by rcases h with⟨e,_⟩|⟨_,⟨s,_,w⟩,_⟩;{k_go;exact⟨λ_=>"",λi r e=>by simp at e,Z⟩};{exact w.A3}
theorem qy.iN(h:qy ln keys rs):rs≠[]↔∃s∈keys,∃j,1<=j/\Rc ln s j s:=by rcases h with⟨e,h⟩|⟨e,⟨s,hs,w⟩,_⟩;{exact⟨λz=>absurd e z,λ⟨s,hs,j,q,r⟩=>absurd r<|h s hs j q⟩};{exact⟨λ_=>⟨s,hs,_,jY.mpr e,_,w,Z⟩,λ_=>e⟩}
def mh(ln:Ln)(keys:88)(m:Nat):Prop:=(m=0/\∀s∈keys,∀j,1<=j->j<=132->¬Rc ln s j s)\/(1<=m/\(∃s∈keys,Rc ln s m s)/\∀s∈keys,∀j,1<=j->j<m->¬Rc ln s j s)
theorem XH{keys:88}(W:∀k∈keys,∀l r,(l,r)∈ln k->l∈keys)(hs:s∈keys)(h:Rc ln s L s)(hm:∀s∈keys,∀j,1<=j->j<L->¬Rc ln s j s):L<=132:=by obtain⟨rs,w,e⟩:=h;obtain⟨J,v0,v1,st⟩:=w.seq;rw[e]at v1 st;(have U:∀i,i<=L->J i∈keys:=by intro i;induction i with|zero=>intro _;rw[v0];exact hs|succ i O=>intro hi;obtain⟨r,_,q⟩:=st i 80;exact W _ (O 80) _ _ q);(have Y:∀i d,i+d<=L->Rc ln (J i) d (J<|i+d):=by intro i d;induction d with|zero=>intro _;exact⟨[],.nil,Z⟩|succ d O=>intro hi;obtain⟨r,_,q⟩:=st (i+d) 80;exact(O 80).step q);(have nd:((List.range L).map J).Nodup:=J4 λi j hi S e=>by(have B:∀i j,i<j->j<L->J i≠J j:=λi j hij S e=>by have:=Y i (j-i) 80;rw[show i+(j-i)=j by lia,←e]at this;exact hm _ (U i 80) _ 80 80 this);rcases nI i j with c|c|c;{exact absurd e<|B i j c S};{exact c};{exact absurd e.symm<|B j i c hi});(have:=vq nd (us:=keys) λy hy=>by obtain⟨i,hi,rfl⟩:=aD.mp hy;exact U i (by have:=gz.mp hi;lia));simpa using this
theorem XI(L:∀k∈keys,∀l r,(l,r)∈ln k->l∈keys)(h:qy ln keys rs)(b:mh ln keys m):111=m:=by rcases h with⟨e,h⟩|⟨e,⟨s,hs,w⟩,h⟩;{rcases b with⟨B,_⟩|⟨h1,⟨s,hs,r⟩,_⟩;{rw[e,B];rfl};{exact absurd r<|h s hs m h1}};{have j:Rc ln s 111 s:=⟨rs,w,Z⟩;have J:=jY.mpr e;rcases b with⟨B,b⟩|⟨h1,⟨s',q,r⟩,b⟩;{exact absurd j<|b s hs _ J<|XH L hs j h};{rcases nI 111 m with c|c|c;{exact absurd j<|b s hs _ J c};{exact c};{exact absurd r<|h s' q m h1 c}}}
theorem XJ(B:az.length=129){L:88}(j:∀v,v∈L↔Rc (fE ts 87) s n v)v:v∈((jR ts).filter λq=>decide (q.1∈L)).map Prod.snd↔Rc (fE ts 87) s (n+1) v:=by rw[aD];left;{rintro⟨⟨a,b⟩,h,rfl⟩;rw[bV,cJ]at h;obtain⟨r,O⟩:=(PD B).mp h.1;exact((j a).mp h.2).step O};{intro h;obtain⟨u,r,S,J⟩:=h.succ;exact⟨(u,v),by rw[bV,cJ];exact⟨(PD B).mpr ⟨r,J⟩,(j u).mpr S⟩,Z⟩}
theorem XM ks f:((dV ks f).map λj=>j.1)=ks.map Sum.inr:=by unfold dV;rw[bK];rfl
theorem XN{H:Hp}{ad:Str->ai}(h:H pr=some (.dK<|dV ks λk=>.ref (ad k)))(j:u∈ks):putK (dV ks λk=>.ref (ad k)) (Sum.inr u) (.ref q)=dV ks λk=>.ref (if k=u then q else ad k):=by rw[DU j];refine tN λz _=>?_;by_cases e:z=u;{rw[ak e,ak e]};{rw[ao e,ao e]}
theorem XO{ad:Str->ai}(j:u∉ks):putK (dV ks λk=>.ref (ad k)) (Sum.inr u) (.ref q)=dV (ks++[u]) λk=>.ref (if k=u then q else ad k):=by rw[ur j];refine tN λz _=>?_;by_cases e:z=u;{rw[ak e,ak e]};{rw[ao e,ao e]}
def mj(ln:Ln)(keys:88):Prop:=∀s∈keys,∀j,1<=j->¬Rc ln s j s
def vB(M:88)(L:List (Str×ai)):Bool:=L.all λp=>decide (p.1∈M)
def uu(ln:Ln)(keys M:88):88:=keys.filter λx=>decide (x∉M)&&vB M (ln x)
theorem XQ:vB M L=true↔∀l r,(l,r)∈L->l∈M:=by unfold vB;rw[eV];left;{intro h l r j;exact aW<|h (l,r) j};{intro h p q;exact aO<|h p.1 p.2 q}
theorem jL:x∈uu ln keys M↔x∈keys/\x∉M/\∀l r,(l,r)∈ln x->l∈M:=by unfold uu;rw[bV,c9,cJ,XQ]
theorem XR(L:∀k∈keys,∀l r,(l,r)∈ln k->l∈keys)(W:mj ln keys)(U:∃x∈keys,x∉M):uu ln keys M≠[]:=by intro z;obtain⟨x,h1,h2⟩:=U;(obtain⟨s,hs,j,O,r⟩:=XC (ln:=ln) (F:=keys.filter λx=>decide (x∉M)) (List.ne_nil_of_mem<|bV.mpr ⟨h1,aO h2⟩) λy B=>by rw[bV,cJ]at B;refine rG λS=>?_;have:y∈uu ln keys M:=jL.mpr ⟨B.1,B.2,λl r J=>gv λq=>S ⟨l,bV.mpr ⟨L y B.1 l r J,aO q⟩,r,J⟩⟩;rw[z]at this;cases this);exact W s (bV.mp hs).1 j O r
structure Ord (ln:Ln) (keys os:List Str):Prop where
  nd:os.Nodup
  sub:∀x∈os,x∈keys
  low:∀(i:Nat) o,os[i]? = some o->∀l r,(l,r)∈ln o->l∈os.take i
  least:∀(i:Nat) o,os[i]? = some o->∀x∈keys,x ∉ os.take i->(∀l r,(l,r)∈ln x->l∈os.take i)->¬co x<co o
theorem Ord.nil:Ord ln keys []:=⟨81,81,81,81⟩
theorem Ord.snoc{keys os:88}(h:Ord ln keys os)(kl:keys.Pairwise (λa b=>co a<co b))(U:uu ln keys os=u::r):Ord ln keys (os++[u]):=by(have hm:u∈uu ln keys os:=by rw[U];simp);obtain⟨m1,m2,m3⟩:=jL.mp hm;(have at':∀(i:Nat)o,(os++[u])[i]?=85->(i<os.length/\os[i]?=85/\(os++[u]).take i=os.take i)\/(i=os.length/\o=u/\(os++[u]).take i=os):=by intro i o e;by_cases c:i<os.length;{rw[lC c]at e;exact .inl ⟨c,e,by rw[List.take_append_of_le_length 80]⟩};{have hi:=(cE.mp e).1;rw[bN]at hi;have hi:i<os.length+1:=hi;(have:i=os.length:=by lia);subst this;simp at e;exact .inr ⟨Z,e.symm,81⟩});refine⟨?_,λx q=>?_,λi o e l Y J=>?_,λi o e x q L J=>?_⟩;{rw[jq];refine⟨h.nd,81,λa ha b S e=>?_⟩;(have S:b=u:=by simpa using S);subst S;k_go;exact m2 ha};{rcases bJ.mp q with q|q;{exact h.sub x q};{(have:x=u:=by simpa using q);rw[this];exact m1}};{rcases at' i o e with⟨c,O,B⟩|⟨c,rfl,B⟩;{rw[B];exact h.low i o O l Y J};{rw[B];exact m3 l Y J}};{rcases at' i o e with⟨c,O,B⟩|⟨c,rfl,B⟩;{rw[B]at L J;exact h.least i o O x q L J};{rw[B]at L J;have j:x∈uu ln keys os:=jL.mpr ⟨q,L,J⟩;have W:(uu ln keys os).Pairwise (λa b=>co a<co b):=kl.sublist (lI ..);rw[U]at j W;rcases aM.mp j with rfl|j;{exact iy _};{exactλz=>DS z<|(jg.mp W).1 x j}}}
theorem Ord.perm{keys os:88}(h:Ord ln keys os)(J:keys.Nodup)(L:os.length=132):os.Perm keys:=by rw[List.perm_ext_iff_of_nodup h.nd J];intro x;refine⟨h.sub x,λB=>?_⟩;refine gv λq=>?_;(have:=vq (us:=keys) (rs:=x::os) (jj.mpr ⟨q,h.nd⟩) λy j=>by rcases aM.mp j with rfl|j;{exact B};{exact h.sub y j});rw[cR]at this;lia
theorem XS{xs:88}:∀x∈xs.map 114,dY K H n x x true:=λx j=>by obtain⟨z,_,rfl⟩:=aD.mp j;have:=dY.flat (K:=K) (H:=H) (n:=n) (x:=.str z) (y:=.str z) Z Z;rwa[show qp (.str z) (.str z)=true from by simp[qp]]at this
end Dm
namespace L2
open PySem PySem.Spec PyProof.Rows
theorem XT(val:Nat->Str)(q:∀i v,P i v->∃t,v=Value.str (val i) t):CmpOf prog w A .Lt P (λi j=>decide<|(val i).cps.toList<(val j).cps.toList):=λi j J L s Q E hi B h=>by obtain⟨t,rfl⟩:=q i J hi;obtain⟨u,rfl⟩:=q j L B;exact richCompare_gives (op:=.Lt) (jz s _ t) (jz s _ u) PySem.F.slot_str_lt PySem.F.entry_str_lt (PySem.F.args_str_lt_2 _ _) (gives_str_lt _ _ t u) (λx=>nomatch x) h
theorem XU(hh:125=none)(h:∀h' tk,(∀c o,s.heap.get? c=85->h'.get? c=85)->Q (if b.cps.toList<a.cps.toList then .str b u else .str a t) {s with heap:=h',toks:=tk}):wpAny 28 A (call (.builtin "min") [.str a t,.str b u]) Q E s:=by have U:(s.heap.push {cls:=.type 118,data:=.seq #[.str a t,.str b u]}).IsTuple 19 #[.str a t,.str b u]:=⟨_,aV _ Z,Z,0,Z⟩;refine call_min_two<|wpAny_pyIter_tuple U ?_;have J:(s.heap.push {cls:=.type 118,data:=.seq #[.str a t,.str b u]}).objs.size=19+1:=fh ..;refine⟨_,[_,19],[_],_,_,_,_,Z,Walks.tuple (A:=A.in1) hh _ 19 (by rw[J];exact aS<|iJ _) #[.str a t,.str b u],⟨⟨_,aV _ Z,Z,Z⟩,U.push _⟩,λc L=>?_,(by show 0<2;walk),XT (λi=>if i=0 then a else b) λi v e=>?_,λv h' tk Y hk=>?_⟩;{show c<((s.heap.push _).push _).objs.size;rw[fh,J];rcases aM.mp L with rfl|L;{rw[J];exact iJ _};{rcases aM.mp L with rfl|L;{exact jZ<|iJ _};{cases L}}};{match i,e with|0,e=>cases e;exact⟨t,Z⟩|1,e=>cases e;exact⟨u,Z⟩|i+2,e=>simp at e};{(have O:∀c o,s.heap.get? c=85->h'.get? c=85:=λc o e=>by refine hk c o (λS=>?_)<|aX _<|aX _ e;rcases aM.mp S with W|S;{have:=aE e;rw[W,J]at this;exact eW _<|Nat.lt_of_succ_lt this};{cases S});have:=h h' tk O;(have hv:v=if b.cps.toList<a.cps.toList then Value.str b u else Value.str a t:=by have q:(#[Value.str a t,Value.str b u])[argBest (λi j=>decide<|(if i=0 then a else b).cps.toList<(if j=0 then a else b).cps.toList) 1]?=some v:=Y;by_cases B:b.cps.toList<a.cps.toList;{(have e:argBest (λi j=>decide<|(if i=0 then a else b).cps.toList<(if j=0 then a else b).cps.toList) 1=1:=by simp[argBest,B]);rw[e]at q;rw[ak B];exact(dR q).symm};{(have e:argBest (λi j=>decide<|(if i=0 then a else b).cps.toList<(if j=0 then a else b).cps.toList) 1=0:=by simp[argBest,B]);rw[e]at q;rw[ao B];exact(dR q).symm});rw[hv];z_go}
theorem PL:∀r x,risingS x r=true->(x::r).Pairwise (λa b=>¬b.cps.toList<a.cps.toList)|[],x,_=>List.pairwise_singleton ..|y::r,x,h=>by unfold risingS at h;rw[c9]at h;have q:=PL r y h.2;(have h1:¬y.cps.toList<x.cps.toList:=by intro z;(have:ltCps y.cps.toList x.cps.toList=true:=by rw[ltCps_eq];exact aO z);rw[this]at h;simp at h);refine jg.mpr ⟨λb j=>?_,q⟩;rcases aM.mp j with rfl|j;{exact h1};{intro z;have h2:=(jg.mp q).1 b j;rw[List.not_lt]at h1 h2;exact absurd z<|List.not_lt.mpr<|List.le_trans h1 h2}
theorem Ku(h:sortedS j=true):j.Pairwise (λa b=>¬b.cps.toList<a.cps.toList):=by cases j with|nil=>exact .nil|cons x r=>exact PL r x h
section
variable{X:Cx}
theorem PM(J:X.calm=true):jH X (.builtin "min") (λxs H Q=>∃i j,xs=[.str i,.str j]/\Q (.str<|if j.cps.toList<i.cps.toList then j else i) H):=by intro pins s σ H xs us Q I r h;obtain⟨i,j,rfl,q⟩:=h;obtain⟨u,O,rfl,⟨t,rfl⟩,⟨L,rfl⟩⟩:=Ay r;refine XU (I.ok.hd J) λh' tk k=>⟨_,H,I.kept k,?_,q⟩;by_cases B:j.cps.toList<i.cps.toList;{rw[ak B,ak B];exact⟨_,Z⟩};{rw[ao B,ao B];exact⟨_,Z⟩}
theorem XW{K:aC}(h:X.K=K):jH X (.builtin "sorted") (λxs H Q=>∃a B,xs=[V.ref a]/\aH K H a (B.map 114)/\B.length<64/\∀p(j:88),H p=none->j.Perm B->j.Pairwise (λa b=>¬b.cps.toList<a.cps.toList)->Q 101 (upd H p<|.lst<|j.map 114)):=by subst h;intro pins s σ H xs us Q I r h;obtain⟨a,B,rfl,ha,hn,q⟩:=h;obtain⟨u,rfl,ru⟩:=kO r;cases ru;obtain⟨O,U,pl,hz⟩:=I.list ha;have hl:=U.length;rw[ay]at hl;refine PyProof.Rows.sorted_strs pl.isList (JG U) 80 λJ j W S Y=>?_;obtain⟨e,he⟩:=PyProof.Rows.sortedAll_at 91 O J;have L:H (19+1)=none:=I.bG.fresh (fk _);have hm:j.length=B.length:=S.length_eq;have hs:89=16777216:=gB;(have vs:∀{us:List au}{ys:88},StrsAre us ys->Vals (ys.map 114) us:=by intro us ys h;induction h with|nil=>exact .nil|cons x t _ ih=>exact .cons ⟨t,Z⟩ ih);refine⟨.ref<|19+1,_,I.laid (t':=124) (a:=19+1) (o:=.lst (j.map 114)) (λb o eb=>PyProof.Rows.sortedAll_old eb) (fk _) ⟨?_,J.toList,e,vs W,?_⟩,Z,q _ j L S<|Ku Y⟩;{rw[ay];lia};{rw[he]}
end
end L2
namespace HT
open PySem PySem.Spec PyProof.Rows PySem.Calls
section
variable{prog:bD}{w:World}{A:Around}{E:aP}{s:aF}
theorem k7{lo hi:Option Int}(j:IsTup 91 t items)(hs:s.heap.IsSliceOf O U W .none)(pl:IsPart U lo)(pu:IsPart W hi)(hw:cN 105 0 lo=0/\cN 105 105 hi=105)(h:Q (.ref t) s):wpAny 28 A (getItem (.ref t)<|.ref O) Q E s:=by obtain⟨os,L,J,S⟩:=id hs;have B:s.TypeIs (.ref O) "slice":=⟨os,L,J⟩;unfold getItem;(try with_reducible refine dS ?_);(first|refine ah<|av ?_|skip);refine ah<|wpAny_sequenceKey j.typeIs 82 ?_;refine ah<|gH (name:=Str.ofString "__getitem__") j.typeIs oO<|dQ oO j.typeIs entry_tuple_getitem ?_<|args_tuple_getitem _ _;show wpAny _ _ (Builtin.Tuple.tupleItemsOf (.ref t)>>=_) _ _ s;refine ah<|tupleItemsOf_ j ?_;refine ah<|gS B ?_;rw[ak 82];refine ah<|ND hs pl pu ?_;(have q:(((cN 105 0 lo:Nat):Int)==0&&(1:Int)==1&&(cN 105 105 hi-cN 105 0 lo)==105)=true:=by rw[hw.1,hw.2];simp);show wpAny _ _ (if(((cN 105 0 lo:Nat):Int)==0&&(1:Int)==1&&(cN 105 105 hi-cN 105 0 lo)==105)=true then _ else _) _ _ s;rw[ak q];refine ah (m:=Builtin.Tuple.tupleIsExact (.ref t))<|ah<|gS j.typeIs<|av ?_;rw[ak 82];refine ah<|dz ?_;first|exact av ⟨_,Z,av h⟩|exact ah<|av<|av ⟨_,Z,av h⟩
end
end HT
namespace L2
open PySem PySem.Spec PyProof.Rows
section
variable{X:Cx}
def Kv(K:aC):V->Option Int->Option Int->Hp->VK->Prop:=λx lo hi H Q=>∃a xs,x=98/\aI K H a xs/\((HT.cN 84 0 lo=0/\HT.cN 84 84 hi=84)->Q 98 H)/\(¬(HT.cN 84 0 lo=0/\HT.cN 84 84 hi=84)->∀p,H p=none->Q 101 (upd H p<|.tup<|gX xs lo hi))
theorem XX{K:aC}(S:X.K=K):AB X (Kv K):=by subst S;intro pins s σ H x v vl vu lo hi Y Q I O hs pl pu h;obtain⟨a,xs,rfl,L,U,W⟩:=h;by_cases q:HT.cN 84 0 lo=0/\HT.cN 84 84 hi=84;{cases O;obtain⟨B,r,J,hz⟩:=I.tuple L;(have j:B.toArray.size=84:=by rw[cg];exact r.length.symm);exists 118,_,oO.lookup,J.typeIs;exact HT.k7 J hs pl pu (by rw[j];exact q) ⟨98,H,I,Z,U q⟩};{exact NJ pins s σ H _ v vl vu lo hi Y Q I O hs pl pu ⟨a,xs,Z,L,q,W q⟩}
end
section
variable{X:Cx}{pins:bA}{σ:St}{H:Hp}{s:aF}{a:ai}{u r:au}{A:Around}{E:aP}
theorem XY(I:55)(e:H a=some (.dK kvs))(ry:RelV (kV k) u)(rz:RelV z r)(hl:113<89)(h1:∀v,eB kvs k=some v->∀W s',Inv X pins σ H s'->RelV v W->Q W s')(h2:eB kvs k=none->∀s',Inv X pins σ (upd H a<|.dK<|putK kvs k z) s'->Q r s'):wpAny 83 A (call (.builtin "dict.setdefault") [98,u,r]) Q E s:=by obtain⟨hz,hd,U,j,dd⟩:=NV I.bG e;refine call_meetsIn PySem.F.slot_dict_setdefault dd.typeIs PySem.F.entry_dict_setdefault (PySem.F.args_dict_setdefault_3 _ _ _) (kt_meets_setdefault (oA 126 X.w) a (xV ry) hd r) ⟨U,dd,by rw[←j.length];exact hz,λv O=>?_,λL h' B hs=>?_⟩;{cases l:eB kvs k with|some S=>obtain⟨W,hw,J⟩:=gE.some_of (v:=S) (o:=valueAt U k) (by rw[←l];exact j.val k);rw[hw]at O;cases O;exact h1 S l _ _ (I.tok _) J|none=>have L:valueAt U k=none:=gE.none_of (by have:=j.val k;rw[l]at this;z_go);rw[L]at O;cases O};{cases l:eB kvs k with|some S=>obtain⟨W,hw,J⟩:=gE.some_of (v:=S) (o:=valueAt U k) (by rw[←l];exact j.val k);rw[hw]at L;cases L|none=>(have Y:(putK kvs k z).length<=89:=by have:=Jj kvs k z;lia);have he:∃q,h'.get? a=some q:=let⟨q,_,_,hq,_⟩:=B;⟨q,hq⟩;exact h2 l _<|Jm I (by rw[e];exact True.intro) hs he<|NW Y hd (j.put k rz) B}
end
def XZ(td ty tx:TE):TE:=λσ H Q=>td σ H λx H1=>∃a,x=98/\Jp H1 a/\ty σ H1 λy H2=>tx σ H2 λz j=>∃kvs k,j a=some (.dK kvs)/\y=kV k/\113<89/\(∀v,eB kvs k=some v->Q v j)/\(eB kvs k=none->Q z (upd j a<|.dK<|putK kvs k z))
theorem X0(ho:PE X o td)(he:PE X e ty)(hf:PE X f tx)(m:M2 X o "setdefault" apos e f cD):PE X (.Call (.Attribute o "setdefault" apos) [e,f] [] cD) (XZ td ty tx):=by intro pins s σ H Q I h;refine wpAny_Call_method m.base m.NZ m.line PySem.F.plainAttrs_dict PySem.F.slot_dict_setdefault PySem.F.type_dict_setdefault<|bR (ho pins s σ H _ I h) λu s1 q=>?_;obtain⟨x,H1,J,rx,a,ex,d,q1⟩:=q;subst ex;obtain rfl:u=Value.ref a:=rx;obtain⟨t1,t2,_⟩:=N1 J d;exists t1,t2;rw[m.trees];refine ny Z<|nD<|nF<|bR (he pins s1 σ H1 _ J q1) λiv s2⟨y,H2,S,ry,q2⟩=>nF (bR (hf pins s2 σ H2 _ S q2) λfv s3⟨z,O,U,L,kvs,k,W,Y,hl,q3,q4⟩=>Calls.spliced_nil ?_);subst Y;exact XY U W ry L hl (λv l w' s4 j B=>⟨v,O,j,B,q3 v l⟩) λl s4 j=>⟨z,_,j,L,q4 l⟩
theorem X3(t:SetTable)es h x:(layNew t es h x).2.1.led=t.led:=by unfold layNew;split;{show(SetTable.orStandIn _ _).led=_;unfold SetTable.orStandIn;split<;>rfl};{rfl}
theorem X4(t:SetTable)es n:(relayAll t es n).2.1.led=t.led:=by unfold relayAll;split;{next B j e=>(have:B.led=t.led:=by unfold SetTable.relaid SetTable.laid at e;cases q:SetTable.layClean (SetTable.sizeAbove n-1) (es.map (·.1))with|none=>rw[q]at e;cases e|some J=>rw[q]at e;have e:=dR e;rw[←(Prod.mk.inj e).1]);fin2;split;{z_go};{rfl}};{rfl}
theorem X5(t:SetTable)es n(B:t.plain=94):(relayAll t es n).2.1.plain=94:=by unfold relayAll;split;{next J j e=>(have:J.plain=t.plain:=by unfold SetTable.relaid SetTable.laid at e;cases q:SetTable.layClean (SetTable.sizeAbove n-1) (es.map (·.1))with|none=>rw[q]at e;cases e|some L=>rw[q]at e;have e:=dR e;rw[←(Prod.mk.inj e).1]);fin2;split;{rw[this];exact B};{rfl}};{rfl}
section
variable{prog:bD}{w:World}{A:Around}{E:aP}{s:aF}{κ:Type}[DecidableEq κ]{knd:KeyKind prog w κ}{lB:κ->Tok->au}{Tb:SetTable->Nat->Prop}
def iQ(knd:KeyKind prog w κ)(Tb:SetTable->Nat->Prop)(h:Heap)(a:ai)(S:κ->Bool)(n:Nat)(led:Bool):Prop:=∃o es j t,h.get? a=85/\o.ExactSet/\o.data=.set es j t/\ElemsOf knd es.toList/\(∀k,S k=true↔∃e∈es.toList,knd.is k e.2=true)/\107<scanBound/\t.fits 107=true/\107=n/\t.led=led/\Tb t 107
def qL(b:Bool)(t:SetTable):SetTable:=if b=true then t else{t with plain:=false}
theorem X6(h:t.fits n=true):(qL b t).fits n=true:=by unfold qL;split;{exact h};{exact SetTable.fits_plain_off h}
theorem X7 b(t:SetTable):(qL b t).led=t.led:=by unfold qL;split<;>rfl
theorem X8(h:t.plain=94):qL b t=t:=by unfold qL;split;{rfl};{cases t;simp only at h;rw[h]}
structure Ci (knd:KeyKind prog w κ) (lB:κ->Tok->au) (Tb:SetTable->Nat->Prop):Prop where
  is:∀k t,knd.is k (lB k t)=true
  sc:∀k t,(lB k t).scannable=true
  z:Tb (.fresh 0 0 (!(w.params.followText "set-order"))) 0
  add:∀(t:SetTable) (es:Array (Int×au)) k tk,Tb t es.size->Tb (qL (plainKind (lB k tk)) (layNew t es (knd.hash k) (lB k tk)).2.1) (es.size+1)
  rel:∀(t:SetTable) (es:Array (Int×au)),Tb t es.size->t.fits es.size=true->t.tooFull=true->Tb (relayAll t es (SetTable.grown es.size)).2.1 es.size
theorem PN{h:Heap}{a:ai}{o:Obj}{es:Array (Int×au)}{L:Nat}{t:SetTable}(ho:h.get? a=85)(J:o.ExactSet)(Y:o.data=.set es L t){j:Array (Int×au)}{t':SetTable}{O:κ->Bool}{led:Bool}(B:ElemsOf knd j.toList)(q:∀k,O k=true↔∃e∈j.toList,knd.is k e.2=true)(S:j.size<scanBound)(U:t'.fits j.size=true)(hl:t'.led=led)(hp:Tb t' j.size):(h.update a<|Obj.putSet j t').get? a=some {o with data:=.set j (L+1) t'}/\iQ knd Tb (h.update a<|Obj.putSet j t') a O j.size led:=by have W:=(SetOf_store (knd:=knd) ho J Y B q S U).1;exact⟨W,_,j,L+1,t',W,J,Z,B,q,S,U,Z,hl,hp⟩
theorem PR (B:Ci knd lB Tb) {g:Bool->Sem Unit}(hg:∀(b:Bool) (Y:aF) (Q':Unit->aF->Prop),Q' () Y->wpAny (model prog w) A (g b) Q' E Y)
    {a:ai}{o:Obj}{es:Array (Int×au)}{ep:Nat}{t:SetTable}(ho:s.heap.get? a=some o) (hex:o.ExactSet) (hd:o.data = .set es ep t)
    {j:Array (Int×au)}{t2:SetTable}{S':κ->Bool}{led:Bool}(U:ElemsOf knd j.toList) (O:∀k',S' k'=true↔∃e∈j.toList,knd.is k' e.2=true)
    (nX:j.size<scanBound) (PU:t2.fits j.size=true) (hl:t2.led=led) (mX:Tb t2 j.size) {J:Bool}{R:Option Bool->aF->Prop}
    (h:∀h',Heap.SameBut a s.heap h'->iQ knd Tb h' a S' j.size led->R (some true) { s with heap:=h' }) :
    wpAny (model prog w) A (do
        storeSet a j t2
        if (!J&&t2.tooFull)=true then do
            g (relayAll t2 j (SetTable.grown j.size)).2.2
            storeSet a (relayAll t2 j (SetTable.grown j.size)).1 (relayAll t2 j (SetTable.grown j.size)).2.1
            pure (some true)
          else pure (some true)) R E s:=by
  refine ah (wpAny_storeSet_of ho hd ?_ (fits_of_scanBound nX))
  obtain⟨PV,Yb⟩:=PN ho hex hd U O nX PU hl mX
  have W:=iw s.heap a (Obj.putSet j t2)
  split
  · next L=>
    have hp:=relayAll_perm t2 j (SetTable.grown j.size)
    have iO:=relayAll_fits t2 j (SetTable.grown j.size)
    have rW:=X4 t2 j (SetTable.grown j.size)
    have Cj:=B.rel t2 j mX PU (by rw[c9] at L;exact L.2)
    generalize hRl:relayAll t2 j (SetTable.grown j.size)=Rl at hp iO rW Cj ⊢
    obtain⟨S,t3,PX⟩:=Rl
    dsimp only at hp iO rW Cj ⊢
    have Kw:ElemsOf knd S.toList:=U.perm hp
    have DX:∀k',S' k'=true↔∃e∈S.toList,knd.is k' e.2=true:=fun k'=>(O k').trans ⟨fun ⟨e,he,q⟩=>⟨e,hp.mem_iff.mpr he,q⟩,fun ⟨e,he,q⟩=>⟨e,hp.mem_iff.mp he,q⟩⟩
    have hsz:S.size=j.size:=by rw[←cK,hp.length_eq,cK]
    have qz:S.size<scanBound:=by rw[hsz];exact nX
    refine ah (hg _ _ _ ?_)
    refine ah (wpAny_storeSet_of PV rfl ?_ (fits_of_scanBound qz))
    obtain⟨_,GS⟩:=PN (o:={ o with data:=.set j (ep+1) t2 }) PV hex rfl Kw DX qz iO (rW.trans hl) (hsz▸Cj)
    rw[hsz] at GS
    exact av (h _ (W.trans (iw _ a _)) GS)
  · exact av (h _ W Yb)
theorem Ky(B:Ci knd lB Tb){a:ai}{S:κ->Bool}{n:Nat}{led:Bool}{k:κ}{tk:Tok}{Q:Bool->aF->Prop}(hS:iQ knd Tb 91 a S n led)(DY:n+1<scanBound)(h:∀h',Heap.SameBut a 91 h'->iQ knd Tb h' a (λk'=>S k'||decide (k'=k)) (if S k then n else n+1) led->Q (!S k) {s with heap:=h'}):wpAny 28 A (setAddHashed a (lB k tk)<|knd.hash k) Q E s:=by have A4:knd.is k (lB k tk)=true:=B.is k tk;have Kz:(lB k tk).scannable=true:=B.sc k tk;obtain⟨o,es,ep,t,ho,hex,hd,zH,Y,hb,hf,hn,DZ,mX⟩:=hS;(have nX:107+1<scanBound:=by rw[hn];exact DY);unfold setAddHashed setAddHashedIn;refine dS<|ah<|lS ho hd hf ?_;fin2;rw[byScan_of Kz hb zH];simp only[↓reduceIte];unfold setAddByScan;refine ah ?_;refine ah<|dz ?_;refine ah<|wpAny_setScan_of A4 ho hd hf zH ?_;cases hr:List.findIdx? (λe=>knd.is k e.2) es.toList with|some j=>fin2;obtain⟨hj,Yc,_⟩:=List.findIdx?_eq_some_iff_getElem.mp hr;have D0:S k=true:=(Y k).mpr ⟨es.toList[j],ji hj,Yc⟩;refine av<|av ?_;(have e:s={s with heap:=s.heap}:=by cases s;rfl);have:=h 91 (Heap.SameBut.refl a 91) ⟨o,es,ep,t,ho,hex,hd,zH,λk'=>by rw[Bool.or_eq_true,ki,←Y k'];exact⟨λhk=>hk.elim id λe=>e▸D0,.inl⟩,hb,hf,(by rw[D0];exact hn),DZ,mX⟩;rw[D0]at this;rw[e];z_go|none=>fin2;(have D0:S k=94:=by cases hk:S k with|false=>rfl|true=>obtain⟨e,he,hp⟩:=(Y k).mp hk;have:=List.findIdx?_eq_none_iff.mp hr e he;rw[hp]at this;exact Bool.noConfusion this);(have Yd:∀(b:Bool){U:aF}{Q':Unit->aF->Prop},Q' () U->wpAny 28 A (match b with|true=>rule "set.scan.the-table-gave-way"|false=>pure ()) Q' E U:=λb U Q' hq=>by cases b<;>first|exact av hq|exact dz hq);have q:=layNew_perm t es (knd.hash k) (lB k tk);have O:=layNew_fits t es (knd.hash k) (lB k tk);have W:=X3 t es (knd.hash k) (lB k tk);have J:=B.add t es k tk mX;generalize hL:layNew t es (knd.hash k) (lB k tk)=L at q O W J⊢;obtain⟨D3,t1,D4,Ye⟩:=L;dsimp only at q O W J⊢;rw[Array.toList_push]at q;have D5:ElemsOf knd D3.toList:=(zH.push A4 Kz).perm q;have zM:∀k',(S k'||decide (k'=k))=true↔∃e∈D3.toList,knd.is k' e.2=true:=mem_push_iff A4 Y q;(have D6:D3.size<scanBound:=by rw[←cK,q.length_eq,bN,cK];simpa using nX);refine ah<|Yd _ ?_;(have D7:D3.size=n+1:=by rw[←cK,q.length_eq,bN,cK,hn];rfl);rw[hn,←D7]at J;(have yd:∀h',Heap.SameBut a 91 h'->iQ knd Tb h' a (λk'=>S k'||decide (k'=k)) D3.size led->Q true {s with heap:=h'}:=by intro h' zN zO;have:=h h' zN;rw[D0]at this;rw[D7]at zO;exact this zO);split;{refine ah ?_;rw[hashByValue_scannable 8 Kz];refine av ?_;have e2:(if plainKind (lB k tk)=true then t1 else{t1 with plain:=false})=qL (plainKind<|lB k tk) t1:=rfl;rw[e2];refine PR B ?_ ho hex hd D5 zM D6 (X6 O) ((X7 _ _).trans<|W.trans DZ) J ?_;{intro b U Q' hq;cases b<;>first|exact av hq|exact dz hq};{intro h' zN zO;fin2;exact av<|yd h' zN zO}};{next Yg=>refine ah<|av ?_;simp only[↓reduceIte];rw[X8 (by simpa using Yg)]at J;refine PR B ?_ ho hex hd D5 zM D6 O (W.trans DZ) J ?_;{intro b U Q' hq;cases b<;>first|exact av hq|exact dz hq};{intro h' zN zO;fin2;exact av<|yd h' zN zO}}
end
def GU(t:SetTable)(n:Nat):Prop:=n≠0->t.plain=94
theorem Yh   : Ci (strKind prog w) Value.str GU where
  is:=strKind_is prog w
  sc:=fun _ _=>rfl
  z:=fun h=>absurd rfl h
  add:=fun t es k tk h _=>rfl
  rel:=fun t es h _ j z=>X5 t es _ (h z)
def dd{κ:Type}[DecidableEq κ](val:Nat->κ):Nat->List κ|0=>[]|i+1=>if val i∈dd val i then dd val i else dd val i++[val i]
theorem KA{κ:Type}[DecidableEq κ](val:Nat->κ):∀i,(dd val i).length<=i|0=>aB _|i+1=>by have:=KA val i;unfold dd;split;{lia};{rw[bN];exact lT this}
theorem KC{κ:Type}[DecidableEq κ](val:Nat->κ):∀i,(dd val i).Nodup|0=>iK|i+1=>by unfold dd;split;{exact KC val i};{next h=>rw[jq];refine⟨KC val i,81,λa q b j e=>?_⟩;simp at j;subst j;k_go;exact h q}
theorem PY{κ:Type}[DecidableEq κ](val:Nat->κ):∀i x,x∈dd val i↔∃j,j<i/\val j=x|0,x=>by left;{intro h;cases h};{rintro⟨j,q,_⟩;lia}|i+1,x=>by have B:=PY val i x;(have step:x∈dd val (i+1)↔x∈dd val i\/x=val i:=by show x∈(if val i∈dd val i then dd val i else dd val i++[val i])↔_;split;{next h=>exact⟨.inl,λz=>z.elim id λe=>e▸h⟩};{rw[bJ];simp});rw[step,B];left;{rintro(⟨j,q,e⟩|e);{exact⟨j,80,e⟩};{exact⟨i,80,e.symm⟩}};{rintro⟨j,q,e⟩;by_cases c:j=i;{subst c;exact .inr e.symm};{exact .inl ⟨j,80,e⟩}}
theorem iQ.congr{prog:bD}{w:World}{κ:Type}[DecidableEq κ]{knd:KeyKind prog w κ}{Tb:SetTable->Nat->Prop}{h:Heap}{a:ai}{S j:κ->Bool}{n q:Nat}{led:Bool}(J:iQ knd Tb h a S n led)(e:∀k,S k=j k)(B:n=q):iQ knd Tb h a j q led:=by have:S=j:=funext e;subst this;subst B;exact J
section
variable{prog:bD}{w:World}{A:Around}{R:Result->aF->Prop}{I:ai}{fp wr:List ai}{G:Array GenState->Array GenState->Prop}{n:Nat}{P:Nat->au->Prop}{St:Nat->aF->Prop}{κ:Type}[DecidableEq κ]{knd:KeyKind prog w κ}{lB:κ->Tok->au}{Tb:SetTable->Nat->Prop}
theorem iQ.keep{h h':Heap}{a:ai}{S:κ->Bool}{m:Nat}{led:Bool}(q:iQ knd Tb h a S m led)(k:∀o,h.get? a=85->h'.get? a=85):iQ knd Tb h' a S m led:=by obtain⟨o,es,j,t,B,rest⟩:=q;exact⟨o,es,j,t,k o B,rest⟩
theorem Yi(B:Ci knd lB Tb)(W:WalksS prog w A.in1 I fp wr G n P St)(S:ai)(Y:S∉fp)(val:Nat->κ)(A5:∀i v,P i v->∃t,v=lB (val i) t)(O:n+1<scanBound){led:Bool}:∀(k i:Nat)(s:aF),n-i=k->i<=n->St i s->iQ knd Tb 91 S (λj=>decide<|j∈dd val i) (dd val i).length led->(∀s',Moved (S::wr) G s s'->iQ knd Tb s'.heap S (λj=>decide<|j∈dd val n) (dd val n).length led->R (.ok<|.ret .none) s')->codeAny 28 A (.builtin "set.update.loop" ⟨[.ref S,.ref I],[]⟩) R s:=by have PZ:S∉wr:=λh=>Y (W.sub _ h);have q:∀b∈wr,b∈S::wr:=λb O=>aZ _ O;intro k;induction k with|zero=>intro i s hk hi L hS hR;(have Yj:i=n:=by lia);subst Yj;refine gg PyProof.Rows.F.entry_set_update_loop ?_;rw[iu rE _];show wpAny _ A.in1 (pyNext (.ref I)>>=_) _ _ s;refine ah<|W.done s _ _ L λs' hm=>?_;show wpAny _ A.in1 (ret 112) _ _ s';exact av<|hR s' (hm.mono q)<|hS.keep λo ho=>hm.heap S _ PZ ho|succ k ih=>intro i s hk hi L hS hR;(have rR:i<n:=by lia);refine gg PyProof.Rows.F.entry_set_update_loop ?_;rw[iu rE _];show wpAny _ A.in1 (pyNext (.ref I)>>=_) _ _ s;refine ah<|W.item i s _ _ rR L λv s' hP KD hm=>?_;obtain⟨t,rfl⟩:=A5 i v hP;have zO:iQ knd Tb s'.heap S (λj=>decide<|j∈dd val i) (dd val i).length led:=hS.keep λo ho=>hm.heap S _ PZ ho;show wpAny _ A.in1 (holding [lB (val i) t] (setAdd S<|lB (val i) t)>>=_) _ _ s';refine ah<|dS ?_;unfold setAdd;refine dS ?_;refine ah<|knd.pyHash (k:=val i) (B.is _ _) ?_;(have J:(dd val i).length+1<scanBound:=by have:=KA val i;lia);refine Ky B (s:={s' with toks:=s'.toks+1}) zO J λh' zN GS=>?_;(have Yk:iQ knd Tb h' S (λj=>decide<|j∈dd val (i+1)) (dd val<|i+1).length led:=by refine GS.congr (λj=>?_) ?_;{rw[kr,Bool.or_eq_true,ki,ki,ki];show _↔j∈(if val i∈dd val i then dd val i else dd val i++[val i]);split;{next h=>exact⟨λz=>z.elim id λe=>e▸h,.inl⟩};{rw[bJ];simp}};{show _=(if val i∈dd val i then dd val i else dd val i++[val i]).length;by_cases c:val i∈dd val i;{rw[ak c,ak (aO c)]};{rw[ao c,ao (λz=>c<|aW z),bN];rfl}});refine av ⟨gK rE _,ih (i+1) _ 80 rR (W.frame _ s' _ _ KD (fk _) λb O o e=>?_) Yk λGs KG U=>?_⟩;{rw[zN.2 b (λh:b=S=>Y (by rw[←h];exact O))];exact e};{refine hR Gs (Moved.trans W.gtrans ((hm.mono q).then_heap (fk _) λb o O e=>?_) KG) U;rw[zN.2 b (λh:b=S=>O (by rw[h];exact c8))];exact e}
end
section
variable{prog:bD}{w:World}{A:Around}{E:aP}{s:aF}
def iD(w:World):Bool:=!(w.params.followText "set-order")
theorem Yl a(h:Q₁ (.ref 19) {s with heap:=s.heap.push {cls:=.type "set",dict:=none,data:=.set #[] 0 (.fresh 0 0<|iD w)}}):codeAny 28 A (.call (.builtin "set.__new__") ⟨[.type "set",a],[]⟩) (wants Q₁ E) s:=by refine nM ?_;show wpAny _ A.in1 (do checkBuiltinCall "set.__new__" ⟨[.type "set",a],[]⟩;again (.builtin "set.__new__" ⟨[.type "set",a],[]⟩)) _ _ s;refine ah<|gT (PySem.F.newCall_set_1 a)<|av ⟨gK PySem.F.plain_set_new _,gg PySem.F.entry_set_new ?_⟩;rw[iu PySem.F.plain_set_new _];unfold Builtin.«set.__new__» Builtin.Frozenset.newClass;have j:=sub_set_self;obtain⟨q,g,d,tk,os⟩:=s;fin2;wp_walk;refine lU<|av ?_;fin2;simp only[newObj];refine ah<|wpAny_alloc<|av ?_;exact av h
end
section
variable{prog:bD}{w:World}{A:Around}{E:aP}{s:aF}{κ:Type}[DecidableEq κ]{knd:KeyKind prog w κ}{lB:κ->Tok->au}{Tb:SetTable->Nat->Prop}
theorem Ym(B:Ci knd lB Tb){l:ai}{items:Array au}{val:Nat->κ}{Q:aP}(hh:125=none)(hl:s.heap.IsList l items)(A5:∀(i:Nat)(v:au),items[i]?=some v->∃t,v=lB (val i) t)(hb:105+1<scanBound)(h:∀(h':Heap)(tk:Nat),iQ knd Tb h' 19 (λk'=>decide<|k'∈dd val 105) (dd val 105).length (iD w)->(∀b o,b<19->104=85->h'.get? b=85)->Q (.ref 19) {s with heap:=h',toks:=tk}):wpAny 28 A (call (.type "set") [.ref l]) Q E s:=by obtain⟨c,tl,Yn⟩:=PySem.F.called_set.mro;have P0:=PySem.F.called_set.made;have JP:=PySem.F.called_set.sub;refine f6<|nM ?_;show wpAny _ _ (callAny (.type "set") _) _ _ _;refine av ⟨nH _ 50,gg PySem.F.entry_type_call ?_⟩;rw[Around.under_plain (rL "set" [.ref l] []) Z];have h1:=PySem.F.called_set.notType;have h2:=PySem.F.called_set.canCreate;have JQ:=PySem.F.typeCall_set_1 (.ref l);(repeat any_goals first|assumption|wp_step);refine fH (Yl (.ref l) (E:=E) (Q₁:=λobj J=>obj=.ref 19/\J={s with heap:=s.heap.push {cls:=.type "set",dict:=none,data:=.set #[] 0 (.fresh 0 0<|iD w)}}) ⟨Z,Z⟩) λr J hr=>?_;cases r with|error e=>exact hr|ok fl=>cases fl with|ret obj=>obtain⟨rfl,rfl⟩:=hr;have hS:(s.heap.push {cls:=.type "set",dict:=none,data:=.set #[] 0 (.fresh 0 0<|iD w)}).get? 19=some {cls:=.type "set",dict:=none,data:=.set #[] 0 (.fresh 0 0<|iD w)}:=aV _ Z;have hT:Shared.TypeIs {s with heap:=s.heap.push {cls:=.type "set",dict:=none,data:=.set #[] 0 (.fresh 0 0<|iD w)}} (.ref 19) "set":=⟨_,hS,Z⟩;have WL:=PySem.F.called_set.init.lookup;have WM:=PySem.F.called_set.init.bind (.ref 19);(repeat any_goals first|assumption|wp_step);refine fH (jX (R:=wants (λr L=>r=.none/\∃h' tk,L={s with heap:=h',toks:=tk}/\iQ knd Tb h' 19 (λk'=>decide<|k'∈dd val 105) (dd val 105).length (iD w)/\(∀b o,b<19->104=85->h'.get? b=85)) E) PySem.F.called_set.init.plain PySem.F.entry_set_init<|check_set_init_1 hT ?_) λKH L j=>?_;{obtain⟨ol,P1,W,nl,Y⟩:=hl;obtain⟨Yo,U,P4,q⟩:=ol;simp only at W Y;subst W;subst Y;have KI:(s.heap.push {cls:=.type "set",dict:=none,data:=.set #[] 0 (.fresh 0 0<|iD w)}).get? l=some {cls:=.type 115,dict:=U,data:=.seq items nl,slots:=q}:=aX _ P1;have Yp:=PySem.F.sub_list_set;have Yq:=PySem.F.sub_list_frozenset;(have tR:(Value.type 115==Value.type "dict")=94:=by walk);have P5:(s.heap.push {cls:=.type "set",dict:=none,data:=.set #[] 0 (.fresh 0 0<|iD w)}).IsList l items:=⟨_,KI,Z,nl,Z⟩;unfold Builtin.«set.__init__» noKeywords Builtin.Frozenset.updateFrom;generalize Yr:pyIter=PI;wp_walk;subst Yr;refine lP P5 ?_;refine ah<|wpAny_runValue ?_;have P6:l<19:=aE P1;(have Ys:A.in1.in1.in1.handled=none:=by simp[hh]);(have KJ:l≠(s.heap.push {cls:=.type "set",dict:=none,data:=.set #[] 0 (.fresh 0 0<|iD w)}).objs.size:=by rw[fh];exact aS<|jZ P6);(have Yt:19∉[(s.heap.push {cls:=.type "set",dict:=none,data:=.set #[] 0 (.fresh 0 0<|iD w)}).objs.size,l]:=by rw[fh];simp only[aM,cL,bE,bT,not_or];exact⟨aS<|iJ _,gR P6⟩);refine Yi B ((Walks.list Ys _ l KJ items).toS) 19 Yt val A5 hb (led:=iD w) (105-0) 0 _ 80 (fj _) ⟨⟨_,aV _ Z,Z,Z⟩,(P5.push _)⟩ ?Yu ?hR;(case Yu=>have KL:((s.heap.push {cls:=.type "set",dict:=none,data:=.set #[] 0 (.fresh 0 0<|iD w)}).push {cls:=.type "list_iterator",data:=.fields #[.ref l,.int 0 0]}).get? 19=some {cls:=.type "set",dict:=none,data:=.set #[] 0 (.fresh 0 0<|iD w)}:=aX _ hS;exact⟨_,#[],0,_,KL,⟨Z,Z,Z⟩,Z,λe he=>by simp at he,λk=>by simp[dd],82,97,Z,Z,B.z⟩);case hR=>intro s' hm S;obtain⟨h',g',d',Yv,Yw⟩:=s';have eg:g'=s.gens:=hm.gens;have ed:d'=s.drawn:=hm.drawn;have eo:Yw=s.os:=hm.os;subst eg;subst ed;subst eo;show wpAny _ _ _ _ _ _;refine av ?_;show wpAny _ _ (ret 112) _ _ _;refine av ⟨Z,h',Yv,Z,S,λb o hb e=>?_⟩;have nX:b≠19:=aS hb;(have qz:b≠(s.heap.push {cls:=.type "set",dict:=none,data:=.set #[] 0 (.fresh 0 0<|iD w)}).objs.size:=by rw[fh];exact aS<|jZ hb);exact hm.heap b o (by simp only[aM,cL,bE,bT,not_or];exact⟨nX,qz⟩)<|aX _<|aX _ e};{cases KH with|error e=>exact j|ok O=>cases O with|ret r=>obtain⟨rfl,h',tk,rfl,S,ym⟩:=j;(repeat any_goals first|assumption|wp_step);exact h _ _ S ym|_=>exact j.elim}|_=>exact hr.elim
end
theorem bq:Slot "set_iterator" "__next__" "set_iterator.__next__":=.of (owner:="set_iterator") (n:="__next__") (by rw[nN,nB];k_ne) 50 50 50 (by first|exact .inl 50|exact .inr 50) (by rw[gQ];k_ne)
theorem GV:entryFor table "set_iterator.__next__"=some Builtin.«set_iterator.__next__»:=entryFor_of_tree (by k_ne)
theorem GW a:argsOk "set_iterator.__next__" ⟨[a],[]⟩:=by unfold argsOk;k_ne
theorem P7:Slot "set_iterator" "__iter__" "set_iterator.__iter__":=.of (owner:="set_iterator") (n:="__iter__") (by rw[nN,nB];k_ne) 50 50 50 (by first|exact .inl 50|exact .inr 50) (by rw[gQ];k_ne)
theorem Yx:entryFor table "set_iterator.__iter__"=some Builtin.«dict_keyiterator.__iter__»:=entryFor_alias (id':="dict_keyiterator.__iter__") (by k_ne) Z 50 (by k_ne)
theorem Yy a:argsOk "set_iterator.__iter__" ⟨[a],[]⟩:=by unfold argsOk;k_ne
theorem Yz:entryFor table "set.__iter__"=some Builtin.«frozenset.__iter__»:=entryFor_alias (id':="frozenset.__iter__") (by k_ne) Z 50 (by k_ne)
theorem KN{q:Type}:∀(l:List q)i h,(l[i]::l.eraseIdx i).Perm l|a::r,0,_=>.refl _|a::r,i+1,h=>by have j:=KN r i (Nat.lt_of_succ_lt_succ h);show(r[i]'(Nat.lt_of_succ_lt_succ h)::a::r.eraseIdx i).Perm (a::r);exact(List.Perm.swap a _ _).trans<|j.cons a
section
variable{prog:bD}{w:World}{A:Around}{E:aP}{s:aF}
theorem YA(j:n≠0)(h:∀i d,i<n->Q i {s with drawn:=d}):wpAny M A (choose q n) Q E s:=λ_ _ _=>⟨j,h _ _<|Nat.mod_lt _<|Nat.pos_of_ne_zero j⟩
theorem P8{q:Type}:∀(n:Nat)(xs:List q)(s:aF)(Q:List q->aF->Prop),84=n->(∀ys d,ys.Perm xs->Q ys {s with drawn:=d})->wpAny 28 A (drawOrder n xs) Q E s|0,xs,s,Q,j,h=>by have e:xs=[]:=mD.mp j;k_go;exact av (by have:=h [] s.drawn .nil;cases s;z_go)|n+1,[],s,Q,j,h=>by cases j|n+1,a::r,s,Q,j,h=>by show wpAny 28 A (do let i←choose .order (a::r).length match(a::r)[i]? with|some x=>return x::(←drawOrder n ((a::r).eraseIdx i))|none=>unsupported "internal:drawOrder") Q E s;refine ah<|YA 81 λi d hi=>?_;have e:(a::r)[i]?=some (a::r)[i]:=cj hi;rw[e];fin2;refine ah<|P8 n _ _ _ (by rw[List.length_eraseIdx_of_lt hi];lia) λys B p=>av ?_;exact h _ B<|(List.Perm.cons _ p).trans<|KN _ i hi
end
def rX(ps:List Nat):Array au:=(ps.map λ(i:Nat)=>rawInt i).toArray
def uv(first:au)(i:Nat)(a:ai)(n j:Nat):Obj:={cls:=.type "set_iterator",data:=.fields #[first,.int i 0,.ref a,.int n 0,.int j 0]}
def fV(h:Heap)(I:ai)(first:au)(i:Nat)(a:ai)(n j:Nat):Prop:=∃o,h.get? I=85/\o.cls=.type "set_iterator"/\o.data=.fields #[first,.int i 0,.ref a,.int n 0,.int j 0]
structure jS (h:Heap) (a:ai) (es:Array (Int×au)) (ep:Nat) (t:SetTable):Prop where
  ex:∃o,h.get? a=some o/\o.ExactSet/\o.data = .set es ep t
  fits:t.fits es.size=true
theorem jS.at(r:jS h a es j t)(k:∀o,h.get? a=85->h'.get? a=85):jS h' a es j t:=let⟨⟨o,h1,h2⟩,q⟩:=r;⟨⟨o,k o h1,h2⟩,q⟩
theorem fV.typeIs{s:aF}(q:fV 91 I first i a n j):s.TypeIs (.ref I) "set_iterator":=let⟨o,h1,h2,_⟩:=q;⟨o,h1,h2⟩
section
variable{prog:bD}{w:World}{A:Around}{E:aP}{s:aF}
def D8(w:World)(es:Array (Int×au))(t:SetTable):Bool:=!(w.params.followText "set-order")&&(!t.plain&&decide (107>1))
theorem YB(hr:jS 91 a es O t)(hz:107<=89)(W:D8 w es t=94->Q (.ref 19) {s with heap:=s.heap.push (uv (.int 0 0) 0 a 107 O)})(U:D8 w es t=true->∀ps d,ps.Perm (List.range 107)->Q (.ref (s.heap.push {cls:=.type 118,data:=.seq (rX ps)}).objs.size) {s with heap:=(s.heap.push {cls:=.type 118,data:=.seq (rX ps)}).push (uv (.ref 19) 0 a 107 O),drawn:=d}):wpAny 28 A (pyIter 98) Q E s:=by obtain⟨⟨o,j,J,q⟩,B⟩:=id hr;have T:s.TypeIs 98 "set":=⟨o,j,J.1⟩;refine pK T PySem.F.slot_set_iter<|dQ PySem.F.slot_set_iter T Yz ?_<|PySem.F.args_set_iter_1 _;unfold Builtin.«frozenset.__iter__»;refine ah ?_;show wpAny 28 _ (pure a) _ _ s;refine av ?_;refine ah ?_;unfold Builtin.Frozenset.sizeOf;refine ah<|nE j q B<|av ?_;refine ah ?_;unfold setDrawn;refine ah<|lS j q B ?_;unfold setsByText;refine ah<|ah<|lU<|av ?_;refine av ?_;show wpAny 28 _ (if D8 w es t=true then _ else _) _ _ s;cases S:D8 w es t with|false=>rw[ao bC];refine ah<|av ?_;refine ah<|wpAny_setEpoch_of j q B ?_;exact ah<|cQ<|av ⟨_,Z,"set_iterator",_,⟨_,aV _ Z,Z⟩,bq.lookup,W S⟩|true=>rw[ak Z];refine ah<|P8 _ _ _ _ 81 λps d p=>?_;(have Y:127=107:=by rw[p.length_eq,kh]);refine ah (m:=newTuple (ps.map λ(i:Nat)=>rawInt i)) ?_;refine cQ ?_ (by show(ps.map λ(i:Nat)=>rawInt i).toArray.size<=89;rw[cg,ay,Y];exact hz);have L:(s.heap.push {cls:=.type 118,data:=.seq (ps.map λ(i:Nat)=>rawInt i).toArray}).get? a=85:=aX _ j;refine ah<|wpAny_setEpoch_of (s:={s with heap:=s.heap.push {cls:=.type 118,data:=.seq (ps.map λ(i:Nat)=>rawInt i).toArray},drawn:=d}) L q B ?_;exact ah<|cQ<|av ⟨_,Z,"set_iterator",_,⟨_,aV _ Z,Z⟩,bq.lookup,U S ps d p⟩
end
theorem P9 B:∀q k j(out:Array L),j.length=q->(pickOrder.go B q k j out).toList.Perm (out.toList++j)|0,k,j,out,h=>by have e:j=[]:=mD.mp h;k_go;unfold pickOrder.go;rw[e9]|q+1,k,j,out,h=>by have J:B k%j.length<j.length:=Nat.mod_lt _ 80;unfold pickOrder.go;rw[cj J];refine(P9 B q (k+1) _ _ (by rw[List.length_eraseIdx_of_lt J];lia)).trans ?_;rw[Array.toList_push,gy];exact List.Perm.append_left _<|KN j _ J
theorem GX j(xs:Array q):(pickOrder j xs).toList.Perm xs.toList:=by have:=P9 j xs.size 0 xs.toList #[] 81;unfold pickOrder;simpa using this
section
variable{prog:bD}{w:World}{A:Around}{E:aP}{s:aF}
theorem GY{h:Heap}(B:h.get? I=85)(q:o.data=.fields vs)j v:(h.update I (Obj.mapFields (·.setIfInBounds j v))).get? I=some (Obj.mapFields (·.setIfInBounds j v) o)/\(Obj.mapFields (·.setIfInBounds j v) o).data=.fields (vs.setIfInBounds j v)/\(Obj.mapFields (·.setIfInBounds j v) o).cls=o.cls:=⟨d9 _ B<|jf<|gJ q _,gJ q _,pJ ..⟩
theorem Qa{slot nx i q:Nat}(j:fV 91 I (.int slot 0) i a 107 q)(hr:jS 91 a es q t)(hn:∀{Y}{E'}{S},S (some (x,nx)) s->wpAny 28 Y (setNext a slot i q) S E' s)(hQ:∀h1,fV h1 I (.int nx 0) (i+1) a 107 q->Heap.SameBut I 91 h1->Q (some x) {s with heap:=h1}):wpAny 28 A (pyNext<|.ref I) Q E s:=by obtain⟨o,L,hc,B⟩:=id j;obtain⟨⟨os,O,hex,J⟩,hf⟩:=id hr;unfold pyNext;refine ah<|gA<|gH (name:=Str.ofString "__next__") j.typeIs bq<|dQ bq j.typeIs GV ?_<|GW _;unfold Builtin.«set_iterator.__next__»;refine ah<|av<|ah<|lW L B ?_;show wpAny 28 _ (setEntries a>>=_) _ _ s;refine ah<|nE O J hf ?_;rw[ao 81];show wpAny 28 _ (setNext a slot i q>>=_) _ _ s;refine ah<|hn ?_;show wpAny 28 _ (setField (.ref I) 0 (rawInt (nx:Int))>>=_) _ _ s;refine ah<|gh L B 81 ?_;obtain⟨U,W,g3⟩:=GY L B 0 (rawInt (nx:Int));show wpAny 28 _ (setField (.ref I) 1 (rawInt<|(i:Int)+1)>>=_) _ _ _;refine ah<|gh U W 81 ?_;obtain⟨k1,k2,k3⟩:=GY U W 1 (rawInt<|(i:Int)+1);refine av ⟨_,Z,av<|hQ _ ⟨_,k1,k3.trans<|g3.trans hc,?_⟩<|(iw ..).trans<|iw ..⟩;rw[k2];simp[rawInt]
theorem Qc{slot i q:Nat}(hh:125=none)(j:fV 91 I (.int slot 0) i a 107 q)(hr:jS 91 a es q t)(hn:∀{U}{W}{L},L none s->wpAny 28 U (setNext a slot i q) L W s)(Y:∀h1,Heap.ExtBut I 91 h1->Q none {s with heap:=h1}):wpAny 28 A (pyNext<|.ref I) Q E s:=by obtain⟨o,S,hc,O⟩:=id j;obtain⟨⟨os,J,hex,B⟩,hf⟩:=id hr;unfold pyNext;refine ah<|gA<|gH (name:=Str.ofString "__next__") j.typeIs bq<|dQ bq j.typeIs GV ?_<|GW _;unfold Builtin.«set_iterator.__next__»;refine ah<|av<|ah<|lW S O ?_;show wpAny 28 _ (setEntries a>>=_) _ _ s;refine ah<|nE J B hf ?_;rw[ao 81];show wpAny 28 _ (setNext a slot i q>>=_) _ _ s;refine ah<|hn ?_;show wpAny 28 _ (setField (.ref I) 2 .none>>=_) _ _ s;refine ah<|gh S O 81 ?_;show wpAny 28 _ (newExc (.type "StopIteration") []>>=_) _ _ _;refine ah ?_;simp only[newExc,newTuple];refine ah<|cQ (ah (m:=firstArgMember _ _)<|gT (a:=112) (by first|rfl|simp only[firstArgMember];rfl)<|cQ ?_ (by size_fits)) (by size_fits);simp only[raiseNew];refine ah<|nS ?_;rw[show A.in1.handled=none from hh];refine ah<|av<|wpAny_throw ?_;exact ah<|j3 (T:="StopIteration") (b:=true) ⟨_,aV _ Z,Z⟩ nP<|av<|Y _<|((iw ..).extBut.push _).push _
theorem Qd(hw:w.params.followText "set-order"=true)(U:jS 91 a es B t)(O:L (((pickOrder (w.params.setOrder a B) es)[i]?).map λe=>(e.2,slot)) s):wpAny 28 W (setNext a slot i B) L Y s:=by obtain⟨⟨os,q,S,j⟩,J⟩:=id U;unfold setNext;refine ah<|lS q j J ?_;unfold setsByText;refine ah<|ah<|lU<|av ?_;show wpAny 28 _ (if w.params.followText "set-order"=true then _ else _) _ _ s;rw[ak hw,ao 81];refine ah ?_;unfold setWalk;refine ah<|lS q j J ?_;unfold setsByText;refine ah<|ah<|lU<|av ?_;show wpAny 28 _ (if w.params.followText "set-order"=true then _ else _) _ _ s;rw[ak hw];refine ah<|lU<|av ?_;exact av O
theorem Qe{a:ai}{slot i O:Nat}{es:Array (Int×au)}{t:SetTable}(hw:w.params.followText "set-order"=94)(hr:jS 91 a es O t)(hl:t.led=true)(q:(!t.plain&&decide (107>1))=94){S:Around}{U:aP}{L:Option (au×Nat)->aF->Prop}(W:L (match es[SetTable.below t.place slot]?,t.place[SetTable.below t.place slot]? with|some (_,x),some j=>some (x,j+1)|_,_=>none) s):wpAny 28 S (setNext a slot i O) L U s:=by obtain⟨⟨os,J,Y,B⟩,hf⟩:=id hr;unfold setNext;refine ah<|lS J B hf ?_;unfold setsByText;refine ah<|ah<|lU<|av ?_;show wpAny 28 _ (if w.params.followText "set-order"=true then _ else _) _ _ s;rw[hw,ao bC];show wpAny 28 _ (if(!t.plain&&decide (107>1))=true then _ else _) _ _ s;rw[q,ao bC];refine ah ?_;show wpAny 28 _ (if(!t.led&&!es.isEmpty)=true then _ else _) _ _ s;rw[hl];show wpAny 28 _ (if(94&&!es.isEmpty)=true then _ else _) _ _ s;rw[fR,ao bC];exact av<|av W
end
section
variable{prog:bD}{w:World}{A:Around}{E:aP}{s:aF}
theorem YC(q:fV 91 I (.ref T) i a 107 L)(hr:jS 91 a es L t)(ht:s.heap.IsTuple T (rX ps))(hp:ps[i]?=some j)(he:es[j]?=some e)(hQ:∀h1,fV h1 I (.ref T) (i+1) a 107 L->Heap.SameBut I 91 h1->Q (some e.2) {s with heap:=h1}):wpAny 28 A (pyNext<|.ref I) Q E s:=by obtain⟨o,U,hc,O⟩:=id q;obtain⟨⟨os,J,hex,B⟩,hf⟩:=id hr;obtain⟨ot,W,JQ,nt,S⟩:=id ht;unfold pyNext;refine ah<|gA<|gH (name:=Str.ofString "__next__") q.typeIs bq<|dQ bq q.typeIs GV ?_<|GW _;unfold Builtin.«set_iterator.__next__»;refine ah<|av<|ah<|lW U O ?_;show wpAny 28 _ (setEntries a>>=_) _ _ s;refine ah<|nE J B hf ?_;rw[ao 81];show wpAny 28 _ (seqItems? (.ref T)>>=_) _ _ s;refine ah<|fF W S ?_;(have e1:(rX ps)[(i:Int).toNat]?=some (rawInt (j:Int)):=by show(ps.map λ(i:Nat)=>rawInt i).toArray[i]?=_;simp[hp]);show wpAny 28 _ (match(rX ps)[(i:Int).toNat]? with|some (.int Y _)=>_|some _=>_|none=>_) _ _ s;rw[e1];show wpAny 28 _ (setNextDrawn a j L>>=_) _ _ s;refine ah ?_;unfold setNextDrawn;refine ah<|lS J B hf ?_;fin2;rw[ao 81,he];refine av ?_;show wpAny 28 _ (setField (.ref I) 1 (rawInt<|(i:Int)+1)>>=_) _ _ s;refine ah<|gh U O 81 ?_;obtain⟨g1,g2,g3⟩:=GY U O 1 (rawInt<|(i:Int)+1);refine av ⟨_,Z,av<|hQ _ ⟨_,g1,g3.trans hc,?_⟩<|iw ..⟩;rw[g2];simp[rawInt]
theorem YD(hh:125=none)(j:fV 91 I (.ref T) i a 107 Y)(hr:jS 91 a es Y t)(ht:s.heap.IsTuple T (rX ps))(hp:ps[i]?=none)(hQ:∀h1,Heap.ExtBut I 91 h1->Q none {s with heap:=h1}):wpAny 28 A (pyNext<|.ref I) Q E s:=by obtain⟨o,L,hc,q⟩:=id j;obtain⟨⟨os,O,hex,B⟩,hf⟩:=id hr;obtain⟨ot,S,JQ,nt,J⟩:=id ht;unfold pyNext;refine ah<|gA<|gH (name:=Str.ofString "__next__") j.typeIs bq<|dQ bq j.typeIs GV ?_<|GW _;unfold Builtin.«set_iterator.__next__»;refine ah<|av<|ah<|lW L q ?_;show wpAny 28 _ (setEntries a>>=_) _ _ s;refine ah<|nE O B hf ?_;rw[ao 81];show wpAny 28 _ (seqItems? (.ref T)>>=_) _ _ s;refine ah<|fF S J ?_;(have W:(rX ps)[(i:Int).toNat]?=none:=by show(ps.map λ(i:Nat)=>rawInt i).toArray[i]?=_;simp[hp]);show wpAny 28 _ (match(rX ps)[(i:Int).toNat]? with|some (.int U _)=>_|some _=>_|none=>_) _ _ s;rw[W];show wpAny 28 _ (setField (.ref I) 0 (rawInt 0)>>=_) _ _ s;refine ah<|gh L q 81 ?_;obtain⟨g1,g2,g3⟩:=GY L q 0 (rawInt 0);show wpAny 28 _ (setField (.ref I) 2 .none>>=_) _ _ _;refine ah<|gh g1 g2 81 ?_;show wpAny 28 _ (newExc (.type "StopIteration") []>>=_) _ _ _;refine ah ?_;simp only[newExc,newTuple];refine ah<|cQ (ah (m:=firstArgMember _ _)<|gT (a:=112) (by first|rfl|simp only[firstArgMember];rfl)<|cQ ?_ (by size_fits)) (by size_fits);simp only[raiseNew];refine ah<|nS ?_;rw[show A.in1.handled=none from hh];refine ah<|av<|wpAny_throw ?_;exact ah<|j3 (T:="StopIteration") (b:=true) ⟨_,aV _ Z,Z⟩ nP<|av<|hQ _<|(((iw ..).trans<|iw ..).extBut.push _).push _
theorem KO(j:fV 91 I first i a n q)(h:Q (.ref I) s):wpAny 28 A (pyIter<|.ref I) Q E s:=by refine pK j.typeIs P7<|dQ P7 j.typeIs Yx ?_<|Yy _;show wpAny _ _ (ret<|.ref I) _ _ s;exact av ⟨_,Z,"set_iterator",_,j.typeIs,bq.lookup,h⟩
theorem fV.at(q:fV h I first i a n j)(k:∀o,h.get? I=85->h'.get? I=85):fV h' I first i a n j:=let⟨o,h1,h2⟩:=q;⟨o,k o h1,h2⟩
theorem YE (hh:A.handled=none)  I a T  (Y:a≠I) (W:T≠I)  es   U  (t:SetTable)  ps  (J:ps.Perm (List.range es.size)) :
    Walks prog w A I [I,a,T] [I] es.size (fun i v=>∃j e,ps[i]? = some j/\es[j]? = some e/\v=e.2) (fun i h=>fV h I (.ref T) i a es.size U/\jS h a es U t/\h.IsTuple T (rX ps)) where
  sub:=fun b q=>by simp at q;simp[q]
  frame:=fun i h h' st k=>⟨st.1.at fun o e=>k I (by simp) o e,st.2.1.at fun o e=>k a (by simp) o e,st.2.2.at fun o e=>k T (by simp) o e⟩
  item:=fun i s Q E hi st B=>by
    have hl:ps.length=es.size:=by rw[J.length_eq,kh]
    have O:ps[i]? = some ps[i]:=cj (by lia)
    have hj:ps[i]<es.size:=gz.mp (J.mem_iff.mp (ji _))
    have S:es[ps[i]]? = some es[ps[i]]:=ic hj
    exact YC st.1 st.2.1 st.2.2 O S fun h1 L hs=>B _ h1 s.toks ⟨_,_,O,S,rfl⟩ ⟨L,st.2.1.at fun o e=>(hs.2 a Y).trans e,st.2.2.at fun o e=>(hs.2 T W).trans e⟩ fun b o q e=>(hs.2 b (fun h=>q (by simp[h]))).trans e
  done:=fun s Q E st B=>by
    have hl:ps.length=es.size:=by rw[J.length_eq,kh]
    exact YD hh st.1 st.2.1 st.2.2 (pq (by lia)) fun h1 he=>B h1 s.toks fun b o q e=>he b o (fun h=>q (by simp[h])) e
  self:=fun _ _ _ _ st B=>KO st.1 B
theorem YF (W:A.handled=none) (hw:w.params.followText "set-order" = true)  I a  (S:a≠I)  es   j  (t:SetTable) :
    Walks prog w A I [I,a] [I] es.size (fun i v=>∃e,(pickOrder (w.params.setOrder a j) es)[i]? = some e/\v=e.2) (fun i h=>fV h I (.int 0 0) i a es.size j/\jS h a es j t) where
  sub:=fun b q=>by simp at q;simp[q]
  frame:=fun i h h' st k=>⟨st.1.at fun o e=>k I (by simp) o e,st.2.at fun o e=>k a (by simp) o e⟩
  item:=fun i s Q E hi st B=>by
    have Y:(pickOrder (w.params.setOrder a j) es).size=es.size:=by
      have:=(GX (w.params.setOrder a j) es).length_eq
      simpa using this
    have J:(pickOrder (w.params.setOrder a j) es)[i]? = some (pickOrder (w.params.setOrder a j) es)[i]:=ic (by lia)
    refine Qa (slot:=0) (nx:=0) st.1 st.2 (fun L=>Qd hw st.2 (by rw[J];exact L)) fun h1 O hs=>B _ h1 s.toks ⟨_,J,rfl⟩ ⟨O,st.2.at fun o e=>(hs.2 a S).trans e⟩ fun b o q e=>(hs.2 b (fun h=>q (by simp[h]))).trans e
  done:=fun s Q E st B=>by
    have Y:(pickOrder (w.params.setOrder a j) es).size=es.size:=by
      have:=(GX (w.params.setOrder a j) es).length_eq
      simpa using this
    have J:(pickOrder (w.params.setOrder a j) es)[es.size]? = none:=nA (by lia)
    exact Qc (slot:=0) W st.1 st.2 (fun L=>Qd hw st.2 (by rw[J];exact L)) fun h1 U=>B h1 s.toks fun b o q e=>U b o (fun h=>q (by simp[h])) e
  self:=fun _ _ _ _ st B=>KO st.1 B
theorem Qg j k:SetTable.below #[j] k=if j<k then 1 else 0:=by unfold SetTable.below;show SetTable.below.go #[j] k 1 0 1=_;unfold SetTable.below.go;simp;unfold SetTable.below.go;rfl
theorem YG{xs:Array Nat}(h:xs.size=1):∃j,xs=#[j]:=by cases xs with|mk l=>match l,h with|[j],_=>exact⟨j,Z⟩
def wc(t:SetTable)(i:Nat):Nat:=if i=0 then 0 else t.place.getD (i-1) 0+1
theorem YH (hh:A.handled=none) (hw:w.params.followText "set-order" = false)  I a  (Y:a≠I)  es   U  (t:SetTable) (W:t.led=true) (B:(!t.plain&&decide (es.size > 1))=false) (j:∀i,i<=es.size->SetTable.below t.place (wc t i)=i) :
    Walks prog w A I [I,a] [I] es.size (fun i v=>∃e,es[i]? = some e/\v=e.2) (fun i h=>fV h I (.int (wc t i) 0) i a es.size U/\jS h a es U t) where
  sub:=fun b j=>by simp at j;simp[j]
  frame:=fun i h h' st k=>⟨st.1.at fun o e=>k I (by simp) o e,st.2.at fun o e=>k a (by simp) o e⟩
  item:=fun i s Q E hi st q=>by
    have uw:t.place.size=es.size:=by
      have:=st.2.fits
      unfold SetTable.fits at this
      rw[c9] at this
      exact eq_of_beq this.1
    have O:es[i]? = some es[i]:=ic hi
    have S:t.place[i]? = some t.place[i]:=ic (by lia)
    refine Qa (slot:=wc t i) (nx:=t.place[i]+1) st.1 st.2 (fun J=>Qe hw st.2 W B ?_) fun h' L hs=>q _ h' s.toks ⟨_,O,rfl⟩ ⟨?_,st.2.at fun o e=>(hs.2 a Y).trans e⟩ fun b o j e=>(hs.2 b (fun h=>j (by simp[h]))).trans e
    · rw[j i (jx hi),O,S]
      exact J
    · have:wc t (i+1)=t.place[i]+1:=by
        unfold wc
        rw[ao (by lia),show i+1-1=i by lia,Array.getD_eq_getD_getElem?,S]
        rfl
      rw[this]
      exact L
  done:=fun s Q E st q=>by
    refine Qc (slot:=wc t es.size) hh st.1 st.2 (fun J=>Qe hw st.2 W B ?_) fun h' he=>q h' s.toks fun b o j e=>he b o (fun h=>j (by simp[h])) e
    rw[j es.size (aB _),nA (by lia)]
    exact J
  self:=fun _ _ _ _ st q=>KO st.1 q
end
theorem YI(B:t.fits n=true)(h1:n<=1):∀i,i<=n->SetTable.below t.place (wc t i)=i:=by(have L:t.place.size=n:=by unfold SetTable.fits at B;rw[c9]at B;exact eq_of_beq B.1);intro i hi;by_cases O:n=0;{have e:t.place=#[]:=rF 80;rw[e,show i=0 by lia];rfl};{obtain⟨j,J⟩:=YG (xs:=t.place) 80;unfold wc;rw[J];by_cases q:i=0;{rw[ak q,Qg,ao 80,q]};{rw[ao q,show i-1=0 by lia,Qg,ak (by show j<j+1;lia)];lia}}
section
variable{prog:bD}{w:World}{A:Around}{s:aF}{R:Result->aF->Prop}{I:ai}{fp wr:List ai}{n:Nat}{P:Nat->au->Prop}{St:Nat->Heap->Prop}
theorem GZ(W:Walks prog w A.in1 I fp wr n P St)(hn:n<=89)(S:ai)(c:Nat)(U:St 0 91)(Y:S∉fp)(hl:s.heap.get? S=some {cls:=.type 115,data:=.seq #[] c})(r:au)(hR:∀j q B,Moved (S::wr) (λa b=>b=a) s j->j.heap.get? S=some {cls:=.type 115,dict:=none,data:=.seq q B,slots:=#[]}->ItemsOf P q n->R (.ok<|.ret r) j):wpAny 28 A.in1 (rule "list.extend.makes-room">>=λ_=>Builtin.List.listTouch (.ref S)>>=λ_=>again (.builtin "list.extend.loop" ⟨[.ref S,.ref I,r],[]⟩)) (λO j=>match O with|.done f=>R (.ok f) j|.again B=>B.quiet=true/\codeAny 28 A B R j) (λe j=>R (.error e) j) s:=by refine ah<|dz<|ah ?_;show wpAny 28 A.in1 (updateSeq S (·.push .none)>>=λ_=>updateSeq S (·.pop)) _ _ _;refine ah<|jk hl Z ?_;have l2:=d9 (Obj.mapSeq (·.push 112)) hl Z;refine jk (hz:=by seq_fits) l2 Z ?_;have l3:=d9 (Obj.mapSeq (·.pop)) l2 Z;have L:∀b o,b≠S->104=85->((s.heap.update S (Obj.mapSeq (·.push 112))).update S (Obj.mapSeq (·.pop))).get? b=85:=λb o J e=>(dP _ _<|aG J).trans ((dP _ _<|aG J).trans e);refine av ⟨gK PySem.F.plain_extend_loop _,codeAny_extend_loopS W.toS hn _ Y _ n 0 _ _ _ Z (fj _) (W.toS.frame 0 s _ 124 U (aB _) λb J o e=>L b o (λh=>Y<|h▸J) e) l3 (ItemsOf.nil P) λj q B hm h1 h2=>?_⟩;have m0:Moved (S::wr) (λ(a b:Array GenState)=>b=a) s {s with heap:=(s.heap.update S (Obj.mapSeq (·.push 112))).update S (Obj.mapSeq (·.pop))}:=⟨λb o J e=>L b o (λh=>J (by simp[h])) e,Z,Z,Z,aB _⟩;exact hR j q B (Moved.trans (λ_ _ _ h1 h2=>h2.trans h1) m0 hm) h1 h2
end
section
variable{prog:bD}{w:World}{A:Around}{E:aP}{s:aF}
theorem Qh(T:s.TypeIs (.ref d) "set")(q:Q 94 s):wpAny 28 A (Builtin.List.listLengthHint<|.ref d) Q E s:=by unfold Builtin.List.listLengthHint;refine ah<|pT T PySem.F.slot_set_len.lookup ?_;(have e:splitId "set.__len__"=some ("set","__len__"):=by k_ne);simp only[e];(have j:isSubtype (.type "set") (.type "set")=pure true:=by rw[gQ];k_ne);exact ah<|j3 (T:="set") (b:=true) T j<|ah<|gS T<|av q
theorem G0(h:ItemsOf P j n)l(B:l.length=n)(q:∀i v,P i v->l[i]?=some v):j.toList=l:=by apply List.ext_getElem?;intro i;by_cases hi:i<n;{(have hs:i<j.size:=by rw[h.1];exact hi);have e:j[i]?=some j[i]:=ic hs;rw[q i _ (h.2 i _ e),mE,e]};{(have h1:j.toList.length<=i:=by rw[cK,h.1];lia);(have h2:l.length<=i:=by lia);rw[pq h1,pq h2]}
theorem YJ{es:Array (Int×au)}{ps:List Nat}(B:ps.Perm (List.range 107)):(ps.filterMap λj=>(es[j]?).map (·.2)).Perm (es.toList.map (·.2)):=by refine(B.filterMap _).trans<|List.Perm.of_eq ?_;(have q:∀l:List (Int×au),(List.range l.length).filterMap (λj=>(l[j]?).map (·.2))=l.map (·.2):=by intro l;induction l with|nil=>rfl|cons x r J=>rw[cR,List.range_succ_eq_map,jl,List.filterMap_map];show x.2::_=_;rw[b7,←J];rfl);rw[←cK,←q es.toList];congr 1;funext j;rw[mE]
theorem Qi{q B:Type}{f:q->B}{g:q->Option B}:∀{ps:List q},(∀j∈ps,g j=some (f j))->ps.map f=ps.filterMap g|[],_=>rfl|j::r,h=>by rw[b7,jl,h j 81];show _=f j::_;rw[Qi λi hi=>h i (aZ _ hi)]
theorem YK{S a:ai}{es:Array (Int×au)}{J:Nat}{t:SetTable}{c:Nat}{r:au}{R:Result->aF->Prop}(hh:125=none)(hr:jS 91 a es J t)(hz:107<=89)(hl:t.led=iD w)(hp:(!t.plain&&decide (107>1))=94->∀i,i<=107->SetTable.below t.place (wc t i)=i)(hS:s.heap.get? S=some {cls:=.type 115,data:=.seq #[] c})(tR:S≠a)(hR:∀h1 q U d tk,(∀b o,b≠S->104=85->h1.get? b=85)->h1.get? S=some {cls:=.type 115,dict:=none,data:=.seq q U,slots:=#[]}->q.toList.Perm (es.toList.map (·.2))->R (.ok<|.ret r) {s with heap:=h1,drawn:=d,toks:=tk}):wpAny 28 A.in1 (Builtin.List.listExtendWith (.ref S) 98 r) (λW L=>match W with|.done f=>R (.ok f) L|.again U=>U.quiet=true/\codeAny 28 A U R L) (λe L=>R (.error e) L) s:=by obtain⟨oa,G1,O,YL⟩:=id hr.ex;have al:a<19:=aE G1;have sl:S<19:=aE hS;have T:s.TypeIs 98 "set":=⟨oa,G1,O.1⟩;unfold Builtin.List.listExtendWith;refine ah<|gS T ?_;(have sr:Builtin.List.listSameRef (.ref S) 98=94:=by simp[Builtin.List.listSameRef,tR]);(have t1:(Value.type "set"==Value.type 115)=94:=by walk);(have t2:(Value.type "set"==Value.type 118)=94:=by walk);simp only[sr,t1,t2,nR,jm,fK];refine ah<|YB hr hz (λhb=>?_) λhb ps d p=>?_;{have B:∀b o,104=85->(s.heap.push<|uv (.int 0 0) 0 a 107 J).get? b=85:=λb o e=>aX _ e;have yo:=hr.at (λo e=>B a o e);have hit:fV (s.heap.push<|uv (.int 0 0) 0 a 107 J) 19 (.int 0 0) 0 a 107 J:=⟨_,aV _ Z,Z,Z⟩;have Y:=B _ _ hS;have T2:({s with heap:=s.heap.push (uv (.int 0 0) 0 a 107 J)}:aF).TypeIs 98 "set":=⟨oa,B _ _ G1,O.1⟩;(have SI:S∉[19,a]:=by simp only[aM,bE,bT];exactλz=>z.elim (aS sl) tR);refine ah<|dS<|Qh T2 ?_;(have W:∀(P:Nat->au->Prop),(∀q,ItemsOf P q 107->q.toList.Perm (es.toList.map (·.2)))->∀L q U,Moved (S::[19]) (λ(a b:Array GenState)=>b=a) {s with heap:=s.heap.push (uv (.int 0 0) 0 a 107 J)} L->L.heap.get? S=some {cls:=.type 115,dict:=none,data:=.seq q U,slots:=#[]}->ItemsOf P q 107->R (.ok<|.ret r) L:=by intro P hP L q U hm h1 h2;obtain⟨rY,ge,dr,tk,os⟩:=L;obtain⟨m1,m2,m3,m4,m5⟩:=hm;obtain rfl:ge=s.gens:=m2;obtain rfl:os=s.os:=m4;refine hR rY q U dr tk (λb o hb e=>m1 b o ?_<|B b o e) h1<|hP q h2;intro z;simp only[aM,bE,bT]at z;exact z.elim hb λz=>absurd (aE e) (by rw[z];exact eW _));cases hw:w.params.followText "set-order"with|true=>refine GZ (A:=A) (s:={s with heap:=s.heap.push (uv (.int 0 0) 0 a 107 J)}) (YF (A:=A.in1) hh hw 19 a (aS al) es J t) hz S c ⟨hit,yo⟩ SI Y r<|W _ λq h=>?_;have e:=G0 h ((pickOrder (w.params.setOrder a J) es).toList.map (·.2)) (by rw[ay,(GX _ _).length_eq,cK]) (λi v⟨e,h1,h2⟩=>by rw[aT,mE,h1,h2];rfl);rw[e];exact(GX _ _).map _|false=>(have Qj:(!t.plain&&decide (107>1))=94:=by unfold D8 at hb;rw[hw]at hb;simpa using hb);(have KP:t.led=true:=by rw[hl];unfold iD;rw[hw];rfl);refine GZ (A:=A) (s:={s with heap:=s.heap.push (uv (.int 0 0) 0 a 107 J)}) (YH (A:=A.in1) hh hw 19 a (aS al) es J t KP Qj<|hp Qj) hz S c ⟨hit,yo⟩ SI Y r<|W _ λq h=>?_;have e:=G0 h (es.toList.map (·.2)) (by rw[ay,cK]) (λi v⟨e,h1,h2⟩=>by rw[aT,mE,h1,h2];rfl);rw[e]};{have D9:∀b o,104=85->(s.heap.push {cls:=.type 118,data:=.seq (rX ps)}).get? b=85:=λb o e=>aX _ e;have zu:(s.heap.push {cls:=.type 118,data:=.seq (rX ps)}).objs.size=19+1:=fh ..;have G2:(s.heap.push {cls:=.type 118,data:=.seq (rX ps)}).IsTuple 19 (rX ps):=⟨_,aV _ Z,Z,0,Z⟩;generalize s.heap.push {cls:=.type 118,data:=.seq (rX ps)}=g at D9 zu G2;have B:∀b o,104=85->(g.push<|uv (.ref 19) 0 a 107 J).get? b=85:=λb o e=>aX _ (D9 b o e);have yo:=hr.at (λo e=>B a o e);have hit:fV (g.push<|uv (.ref 19) 0 a 107 J) g.objs.size (.ref 19) 0 a 107 J:=⟨_,aV _ Z,Z,Z⟩;have Y:=B _ _ hS;have KQ:(g.push<|uv (.ref 19) 0 a 107 J).IsTuple 19 (rX ps):=G2.at λo e=>aX _ e;have T2:({s with heap:=g.push (uv (.ref 19) 0 a 107 J),drawn:=d}:aF).TypeIs 98 "set":=⟨oa,B _ _ G1,O.1⟩;(have SI:S∉[g.objs.size,a,19]:=by rw[zu];simp only[aM,bE,bT];rintro(z|z|z);{exact absurd z<|aS<|jZ sl};{exact tR z};{exact absurd z<|aS sl});refine ah<|dS<|Qh T2 ?_;refine GZ (A:=A) (s:={s with heap:=g.push (uv (.ref 19) 0 a 107 J),drawn:=d}) (YE (A:=A.in1) hh g.objs.size a 19 (by rw[zu];exact aS<|jZ al) (by rw[zu];exact aS<|iJ _) es J t ps p) hz S c ⟨hit,yo,KQ⟩ SI Y r λL q U hm h1 h2=>?_;obtain⟨rY,ge,dr,tk,os⟩:=L;obtain⟨m1,m2,m3,m4,m5⟩:=hm;obtain rfl:ge=s.gens:=m2;obtain rfl:os=s.os:=m4;refine hR rY q U dr tk (λb o hb e=>m1 b o ?_<|B b o e) h1 ?_;{intro z;simp only[aM,bE,bT]at z;have bl:=aE e;rcases z with z|z;{exact hb z};{have z:b=g.objs.size:=z;rw[z,zu]at bl;exact absurd bl<|nJ<|fk _}};{(have YM:127=107:=by rw[p.length_eq,kh]);have KR:∀j∈ps,j<107:=λj hj=>gz.mp (p.mem_iff.mp hj);have e:=G0 h2 (ps.map λj=>((es[j]?).map (·.2)).getD .none) (by rw[ay,YM]) (λi v⟨j,e,h1,h2,h3⟩=>by rw[aT,h1,h3];show some (((es[j]?).map (·.2)).getD .none)=_;rw[h2];rfl);rw[e];refine List.Perm.trans (List.Perm.of_eq ?_)<|YJ p;exact Qi λj hj=>by rw[ic (KR j hj)];rfl}}
end
theorem Qk:∀{vs},(∀v∈vs,∃x t,v=Value.str x t)->∃ks,StrsAre vs ks|[],_=>⟨[],.nil⟩|v::r,h=>by obtain⟨x,t,rfl⟩:=h v 81;obtain⟨ks,j⟩:=Qk (vs:=r) λu q=>h u (aZ _ q);exact⟨x::ks,.cons x t j⟩
theorem YN(h:StrsAre vs ks):∀y,y∈ks↔∃t,Value.str y t∈vs:=by induction h with|nil=>intro y;simp|cons x t L B=>intro y;rw[aM,B y];left;{rintro(rfl|⟨u,j⟩);{exact⟨t,81⟩};{exact⟨u,aZ _ j⟩}};{rintro⟨u,j⟩;rcases aM.mp j with e|j;{injection e with q J;exact .inl q};{exact .inr ⟨u,j⟩}}
theorem Ql(h:StrsAre vs ks):vs.length=ks.length:=by induction h with|nil=>rfl|cons x t q j=>rw[cR,cR,j]
theorem YO{ds ks:88}(j:ds.Nodup)(hs:∀x∈ds,x∈ks)(B:ks.length=ds.length):ks.Perm ds:=by induction ds generalizing ks with|nil=>rw[mD.mp B]|cons d r L=>rw[jj]at j;have q:=hs d 81;have h2:∀x∈r,x∈ks.erase d:=λx J=>(List.mem_erase_of_ne (λz=>by subst z;exact j.1 J)).mpr (hs x<|aZ _ J);have:=L j.2 h2 (by rw[List.length_erase_of_mem q,B];rfl);exact(List.perm_cons_erase q).trans<|this.cons d
section
variable{prog:bD}{w:World}{A:Around}{E:aP}{s:aF}
theorem YQ      (hh:A.handled=none) (O:jS s.heap a es ep t) (hz:es.size<=sizeLine) (hl:t.led=iD w) (hp:(!t.plain&&decide (es.size > 1))=false->∀i,i<=es.size->SetTable.below t.place (wc t i)=i)
    (W:∀vs h1 d tk,vs.Perm (es.toList.map (·.2))->(∀b o,s.heap.get? b=some o->h1.get? b=some o)->s.heap.objs.size<h1.objs.size->Q vs { s with heap:=h1,drawn:=d,toks:=tk }):wpAny (model prog w) A (collect (.ref a)) Q E s:=by
  obtain⟨oa,q,L,YL⟩:=id O.ex
  have U:a<s.heap.objs.size:=aE q
  unfold collect
  refine ah (wpAny_runValue (gg PySem.F.entry_proto_collect ?_))
  rw[iu PySem.F.plain_proto_collect _]
  show wpAny _ A.in1 (newList [] >>= fun l=>again (.builtin "list.__iadd__" ⟨[l,.ref a],[]⟩)) _ _ s
  refine ah (cQ ?_)
  refine av ⟨gK PySem.F.plain_list_iadd _,gg PySem.F.entry_list_iadd ?_⟩
  rw[iu PySem.F.plain_list_iadd _]
  show wpAny _ A.in1 (Builtin.List.listExtendWith (.ref s.heap.objs.size) (.ref a) (.ref s.heap.objs.size)) _ _ _
  have Y:(s.heap.push { cls:=.type "list",data:=.seq ([]:List au).toArray }).get? s.heap.objs.size=some { cls:=.type "list",data:=.seq #[] }:=aV _ rfl
  have j:∀b o,s.heap.get? b=some o->(s.heap.push { cls:=.type "list",data:=.seq ([]:List au).toArray }).get? b=some o:=fun b o e=>aX _ e
  have B:=O.at (fun o e=>j a o e)
  refine YK (prog:=prog) (A:=A) (r:=.ref s.heap.objs.size) (R:=fun r s'=>match r with
    | .ok (.ret v)=>wpAny (model prog w) A (match v with
      | .ref a=>do
        let o ←load a
        match o.data with
        | .seq xs _=>pure xs.toList
        | _=>unsupported "internal:collect"
      | _=>unsupported "internal:collect") Q E s'
    | .ok _=>False
    | .error e=>E e s') (s:={ s with heap:=s.heap.push { cls:=.type "list",data:=.seq ([]:List au).toArray } }) hh B hz hl hp Y (aG (aS U)) fun h1 S c1 d tk k e p=>?_
  show wpAny _ A (load s.heap.objs.size >>= _) _ _ _
  refine ah (wpAny_load e ?_)
  exact av (W _ h1 d tk p (fun b o J=>k b o (fun z=>eW _ (z▸aE J)) (j b o J)) (aE e))
theorem YR(B:t.fits n=true)(h:GU t n)(j:(!t.plain&&decide (n>1))=94):∀i,i<=n->SetTable.below t.place (wc t i)=i:=YI B (by by_cases q:n=0;{lia};{rw[h q]at j;simpa using j})
theorem YS(hh:125=none)(hS:iQ (strKind prog w) GU 91 a S n (iD w))(YT:n<64)(hQ:∀(D:ai)out ks ms h' d tk c,StrsAre out.toList ms->ms.Perm ks->sortedS ms=true->ks.length=n->(∀y,y∈ks↔S y=true)->(∀b o,104=85->h'.get? b=85)->19<=D->h'.get? D=some (seqObj 115 out c)->Q (.ref D) {s with heap:=h',drawn:=d,toks:=tk}):wpAny 28 A (call (.builtin "sorted") [98]) Q E s:=by obtain⟨o,es,ep,t,ho,hex,hd,zH,W,hb,hf,hn,DZ,mX⟩:=hS;have hr:jS 91 a es ep t:=⟨⟨o,ho,hex,hd⟩,hf⟩;have hsz:107<=89:=fits_of_scanBound hb;refine Calls.call_function_entry kind_sorted plain_sorted entry_sorted (args_sorted1 _) ?_;unfold Builtin.«sorted»;refine ah (m:=checkCount "sorted" 1 1 _)<|av ?_;refine ah<|YQ (A:=A.in1) hh hr hsz DZ (YR hf mX) λJ h1 d tk p k sz=>?_;(have Qm:J.length=n:=by rw[p.length_eq,ay,cK,hn]);(have q:∀v∈J,∃x t,v=Value.str x t:=by intro v Y;obtain⟨e,O,rfl⟩:=aD.mp (p.mem_iff.mp Y);obtain⟨⟨kx,U,_⟩,_⟩:=zH e O;cases L:e.2 with|str x t=>exact⟨x,t,Z⟩|_=>rw[L]at U;simp[PySem.strKind,Value.isStrOf]at U);obtain⟨ks,j⟩:=Qk q;(have Qn:ks.length=n:=by rw[←Ql j,Qm]);refine ah<|wpAny_newList ?_ (by rw[Qm,gB];lia);have B:(h1.push<|seqObj 115 J.toArray 0).get? h1.objs.size=some (seqObj 115 J.toArray 0):=aV _ Z;show wpAny _ _ _ _ _ {s with heap:=h1.push (seqObj 115 J.toArray 0),drawn:=d,toks:=tk};refine ah<|dS<|dQ slot_list_sort ⟨_,B,Z⟩ entry_list_sort (list_sort_treeK strKind_oneLt B j.keysOf (λKS KU rest e=>keyKind_strs (by rw[←e];exact j)) 80 λKW a1 a2=>⟨_,Z,?_⟩)<|args_list_sort _;obtain⟨ms,b1,b2,b3⟩:=sorted_out_str j a1 a2;obtain⟨c,hc⟩:=sortedHeap_at (out:=(arrOf KW).map (·.2)) B;refine av ⟨_,Z,hQ h1.objs.size _ ks ms _ d tk c b1 b2 b3 Qn (λy=>?_) (λb o e=>?_) (jx sz) hc⟩;{rw[YN j y,W y];left;{rintro⟨t,ht⟩;obtain⟨e,O,L⟩:=aD.mp (p.mem_iff.mp ht);exact⟨e,O,by rw[L];exact strKind_is _ _ _ _⟩};{rintro⟨e,O,U⟩;have Y:e.2∈J:=p.mem_iff.mpr (aD.mpr ⟨e,O,Z⟩);obtain⟨x,t,ex⟩:=q _ Y;rw[ex]at U Y;(have:x=y:=by have:=U;simp[PySem.strKind,Value.isStrOf]at this;first|z_go|exact this.symm);subst this;exact⟨t,Y⟩}};{have e1:=k b o e;have rR:=aE e1;have L:(h1.push<|seqObj 115 J.toArray 0).get? b=85:=aX _ e1;rw[sortedHeap_old (aS rR) (aE L)];exact L}
end
section
variable{X:Cx}
theorem Inv.drawn{σ:St}(I:55):Inv X pins σ H {s with drawn:=d}:=⟨I.ok,I.os,I.bare,I.base,I.loc,I.cell,I.free,I.fT,I.pin,I.bG,I.len⟩
def setG{P:bD}{w:World}{κ:Type}[DecidableEq κ](knd:KeyKind P w κ)(Tb:SetTable->Nat->Prop)(D:ai)(ds:List κ):HO:=.ext λh=>iQ knd Tb h D (λk=>decide<|k∈ds) ds.length (iD w)
theorem YU{κ:Type}[DecidableEq κ]{knd:KeyKind 126 X.w κ}{lB:κ->Tok->au}{Tb:SetTable->Nat->Prop}(B:Ci knd lB Tb)(Y:κ->V)(z:κ)(hr:∀k v,RelV (Y k) v->∃t,v=lB k t)(hc:X.calm=true):jH X (.type "set") (λxs H Q=>∃(p:ai)(ys:List κ),xs=[101]/\aH X.K H p (ys.map Y)/\121<=1000/\∀(D:ai)(ds:List κ),H D=none->ds.Nodup->(∀y,y∈ds↔y∈ys)->ds.length<=121->Q (.ref D) (upd H D<|setG knd Tb D ds)):=by intro pins s σ H xs us Q I r h;obtain⟨p,ys,rfl,hp,hl,q⟩:=h;obtain⟨u,rfl,ru⟩:=kO r;cases ru;obtain⟨L,rv,pl,hz⟩:=I.list hp;have J:=rv.length;rw[ay]at J;(have hv:∀i v,L.toArray[i]?=some v->∃t,v=lB (ys.getD i z) t:=by intro i v e;(have e':L[i]?=some v:=by simpa using e);(have hi:i<121:=by have:=(cE.mp e').1;lia);obtain⟨w',e2,W⟩:=rv.get (i:=i) (x:=Y ys[i]) (by simp[hi]);rw[e']at e2;cases e2;(have:ys.getD i z=ys[i]:=by rw[je,cj hi];rfl);rw[this];exact hr _ _ W);(have S:L.toArray.size=121:=by rw[cg,J]);refine Ym B (I.ok.hd hc) pl.isList hv (by rw[S];unfold scanBound;lia) λh' tk U k=>?_;have kp:∀b o,104=85->h'.get? b=85:=λb o e=>k b o (aE e) e;rw[S]at U;refine⟨.ref 19,_,I.laid (t':=tk) (a:=19) (o:=setG knd Tb 19 (dd (λi=>ys.getD i z) 121)) kp (aB _) ⟨U,?_,λh1 h2 hq k2=>hq.keep k2⟩,Z,q _ _ (I.bG.fresh<|aB _) (KC _ _) (λy=>?_)<|KA _ _⟩;{obtain⟨o,_,_,_,ho,_⟩:=U;exact⟨o,ho⟩};{rw[PY];left;{rintro⟨j,O,e⟩;rw[←e,je,cj O];exact ji O};{intro hy;obtain⟨j,O,e⟩:=kc.mp hy;exact⟨j,O,by rw[je,cj O];exact e⟩}}
def k8(P:bD)(w:World)(D:ai)(ds:88):HO:=setG (strKind P w) GU D ds
theorem G3{K:aC}(q:126=P)(hw:X.w=w)(j:X.K=K)(B:X.calm=true):jH X (.type "set") (λxs H Q=>∃(p:ai)(ys:List Str),xs=[101]/\aH K H p (ys.map 114)/\121<=1000/\∀D ds,H D=none->ds.Nodup->(∀y,y∈ds↔y∈ys)->ds.length<=121->Q (.ref D) (upd H D<|k8 P w D ds)):=by subst q hw j;exact YU Yh 114 "" (λ_ _ h=>h) B
theorem G4(hP:126=P)(hw:X.w=w)(hc:X.calm=true):jH X (.builtin "sorted") (λxs H Q=>∃D ds,xs=[.ref D]/\H D=some (k8 P w D ds)/\ds.Nodup/\ds.length<64/\∀p(B:88),H p=none->B.Perm ds->B.Pairwise (λa b=>¬b.cps.toList<a.cps.toList)->Q 101 (upd H p<|.lst<|B.map 114)):=by subst hP hw;intro pins s σ H xs us Q I r h;obtain⟨D,ds,rfl,hD,nd,L,q⟩:=h;obtain⟨u,rfl,ru⟩:=kO r;cases ru;obtain⟨hS,_⟩:=(show bQ 126 X.w H 91 D (k8 126 X.w D ds)from I.bG D _ hD);refine YS (I.ok.hd hc) hS L λp S ks B h' d tk c b1 U b3 O J kp W hg=>?_;have j:ks.Perm ds:=YO nd (λx hx=>(J x).mpr<|aO hx) O;(have vs:∀{us:List au}{ys:88},StrsAre us ys->Vals (ys.map 114) us:=by intro us ys h;induction h with|nil=>exact .nil|cons x t _ ih=>exact .cons ⟨t,Z⟩ ih);have hm:B.length=ds.length:=(U.trans j).length_eq;have hs:89=16777216:=gB;have Y:=I.laid (t':=tk) (h':=h') (a:=p) (o:=.lst (B.map 114)) kp W ⟨by rw[ay];lia,S.toList,c,vs b1,by rw[hg]⟩;exact⟨101,_,Y.drawn,Z,q _ B (I.bG.fresh W) (U.trans j)<|Ku b3⟩
end
theorem KY(P:St->Prop)b(O:∀J,J b H->c σ H J)(h1:b=true->∃j,P j/\(D.nx j H->t D σ H))(h2:b=94->∃q,P q/\(D.nx q H->u D σ H))(L:∀B,P B->D.nx B H):xK c t u D σ H:=by refine yb b O ?_;cases b with|true=>obtain⟨j,p,h⟩:=h1 Z;exact gi<|h<|L _ p|false=>obtain⟨q,p,h⟩:=h2 Z;exact bh<|h<|L _ p
def Ck(a:ai)(ob:Obj)(kvs:List (Key×V)):It:=⟨λi H=>H a=some (.fL ob<|.dK kvs)/\i<113,λi H x H'=>H'=H/\∃j,kvs[i]?=some j/\x=kV j.1,λi H=>H a=some (.fL ob<|.dK kvs)/\113<=i⟩
theorem YV   {K:aC}   a it      (hd:ob.data = .dict es ep) (hl:es.size=kvs.length):Turn P w K tg (Ck a ob kvs) [it] it (fun i h=>h.IsKeyIter it a i es.size ep) where
  mem:=by simp
  obj:=fun i h st b j=>by
    have e:b=it:=by simpa using j
    subst e
    obtain⟨o,e,c,d⟩:=st
    exact⟨o,e,fun v z=>by rw[d] at z;cases z⟩
  keep:=fun i h h' st k=>st.at fun o e=>k it (by simp) o e
  item:=by
    intro X hP J hK hc i pins s σ H E I S st hg
    subst hP J hK
    obtain⟨hq,hx⟩:=hg
    obtain⟨q,z,hs,vs,L,o,Y,W,e,ex,U,kk,pr,nd⟩:=I.bG a _ hq
    rw[q] at e
    cases e
    rw[hd] at U
    cases U
    have hi:i<es.size:=by lia
    have B:es[i]? = some es[i]:=ic hi
    obtain⟨f0,f1,f2,f3,f4,f5⟩:=S it (by simp)
    refine OI st ⟨ob,q,ex,hd⟩ B fun h' O sb=>?_
    have I1:Inv X pins σ H { s with heap:=h' }:=I.turned (t':=s.toks) (fun b o j e=>(sb.2 b j).trans e) f0 f1 f3 f4 f5
    obtain⟨oi,ei,ci,di⟩:=id O
    have ek:kvs[i]? = some kvs[i]:=cj hx
    obtain⟨w',J,CV⟩:=Paired.get' L ek
    have:=(pr.get? (e:=es[i]) (k:=w'.1) (v:=w'.2) (i:=i) (by rw[mE];exact B) (by rw[J])).1
    have e1:kvs[i].1=w'.1:=CV.1
    exact⟨_,rfl,BP (s:={ s with heap:=h' }) ei ci di (by decide) ⟨kV kvs[i].1,H,I1,by rw[e1];exact JT this,⟨rfl,_,ek,rfl⟩,O,fun b j=>(S b j).1⟩⟩
  done:=by
    intro X hP J hK hc i pins s σ H E I S st hg
    subst hP J hK
    obtain⟨hq,hx⟩:=hg
    obtain⟨q,z,hs,vs,L,o,Y,W,e,ex,U,kk,pr,nd⟩:=I.bG a _ hq
    rw[q] at e
    cases e
    obtain⟨f0,f1,f2,f3,f4,f5⟩:=S it (by simp)
    exact OJ (I.ok.hd hc) st ⟨ob,q,ex,hd⟩ (by lia) fun h' eb=>⟨rfl,I.turned (t':=s.toks) (fun b o j e=>eb b o j e) f0 f1 f3 f4 f5⟩
  self:=fun _ _ _ _ _ st h=>wpAny_pyIter_keyiter st h
section
variable{X:Cx}{tg:Expr}
def YW(tl:TE):TI:=λσ H R=>tl σ H λx H1=>∃a j kvs,x=98/\H1 a=some (.fL j<|.dK kvs)/\R (Ck a j kvs) H1
theorem xx(hl:PE X l tl):PI X tg l (YW tl):=by intro pins s σ H R I h;refine bR (hl pins s σ H _ I h) λv B L=>?_;obtain⟨x,H1,j,r1,q1⟩:=L;obtain⟨a,ob,kvs,e,hq,q⟩:=q1;k_go;cases r1;obtain⟨J,z,hs,U,O,o,es,ep,e,ex,S,kk,pr,nd⟩:=j.bG a _ hq;have W:=J;rw[J]at e;cases e;have l1:113=U.length:=Paired.length O;(have l2:107=U.length:=by rw[←pr.length];simp);refine JR hs ⟨ob,J,ex,S⟩ ?_;refine⟨B.heap.objs.size,[B.heap.objs.size],_,_,H1,Z,j.kept (t':=B.toks) λb o e=>aX _ e,YV a _ S<|l2.trans l1.symm,⟨_,aV _ Z,Z,Z⟩,λb Y=>?_,q⟩;(have e:b=B.heap.objs.size:=by simpa using Y);k_go;exact j.mP (aB _)<|j.bG.fresh<|aB _
theorem A6{g:TG}{tb:TS}{D:Ends}(j:Nat->St->Hp->Prop)(U:j 0 σ H)(hl:∀i σ H,i<=113->j i σ H->H a=some (.fL ob<|.dK kvs))(hs:∀i k v σ H,kvs[i]?=some (k,v)->j i σ H->g (kV k) σ H λJ H2=>tb {D with nx:=j (i+1),ct:=j (i+1),bk:=D.nx} J H2)(Y:∀σ H,j 113 σ H->D.nx σ H):∃W:Nat->Nat->St->Hp->Prop,(∃m,W 0 m σ H)/\∀i m σ H,W i m σ H->((Ck a ob kvs).stop i H/\D.nx σ H)\/((Ck a ob kvs).go i H/\∃N,(∀B H',N B H'->∃S,S<m/\W (i+1) S B H')/\∀x H',(Ck a ob kvs).vf i H x H'->g x σ H' λJ H2=>tb {D with nx:=N,ct:=N,bk:=D.nx} J H2):=by existsλi m σ H=>m=113-i/\i<=113/\j i σ H,⟨113,81,fj _,U⟩;rintro i m σ H⟨rfl,hi,p⟩;have q:=hl i σ H hi p;by_cases L:i<113;{refine .inr ⟨⟨q,L⟩,j<|i+1,λB H' p'=>⟨113-(i+1),80,Z,L,p'⟩,λx H' y=>?_⟩;obtain⟨e,O,y,rfl⟩:=y;k_go;exact hs i O.1 O.2 σ _ y p};{(have e:i=113:=by lia);k_go;exact .inl ⟨⟨q,aB _⟩,Y σ H p⟩}
theorem Inv.frozen{σ:St}(I:55)(h:H a=some (.dK kvs)):∃ob,Inv X pins σ (upd H a<|.fL ob<|.dK kvs) s:=by(obtain⟨o,e⟩:∃o,s.heap.get? a=85:=by obtain⟨_,_,_,_,o,_,_,e,_⟩:=I.bG a _ h;exact⟨o,e⟩);have B:=I.bG a _ h;refine⟨o,I.write (e:=a) (h':=91) (t':=124) (by rw[h];trivial) (.inl Z) (λb u _ q=>q) ⟨o,e⟩ ⟨e,?_⟩⟩;obtain⟨z,j,J,r⟩:=B;exact⟨z,j,J,r⟩
def KZ(ts:TS):TS:=λD σ H=>ts D σ H\/∃a kvs,H a=some (.dK kvs)/\∀j,ts D σ (upd H a<|.fL j<|.dK kvs)
theorem zP{st:Stmt}(h:PS X st ts):PS X st (KZ ts):=by intro pins s σ H D I q;rcases q with q|⟨a,kvs,B,q⟩;{exact h pins s σ H D I q};{obtain⟨J,j⟩:=I.frozen B;exact h pins s σ _ D j<|q J}
end
section
variable{X:Cx}{tg:Expr}
theorem K0:Fix (Ck a ob kvs) (kvs.map λj=>kV j.1) (λH=>H a=some (.fL ob<|.dK kvs)):=⟨λi H h hi=>⟨h,by simpa using hi⟩,λi H x H' h y=>⟨y.1,λ_=>by obtain⟨j,h1,h2⟩:=y.2;rw[aT,h1,h2];rfl⟩,λi H h hi=>⟨h,by simpa using hi⟩⟩
theorem YX:jH X (.builtin "len") (λxs H Q=>∃a kvs,xs=[V.ref a]/\Rd H a (.dK kvs)/\Q (.int 113) H):=by intro pins s σ H xs us Q I r h;obtain⟨a,kvs,rfl,B,q⟩:=h;obtain⟨u,rfl,J⟩:=kO r;cases J;exact NX I B λt s' j=>⟨.int 113,H,j,⟨t,Z⟩,q⟩
end
section
variable{prog:bD}{w:World}{A:Around}{E:aP}{s:aF}
theorem YY{S d:ai}{es:Array DictEntry}{J:Nat}{c:Nat}{r:au}{R:Result->aF->Prop}(hh:125=none)(hd:(d==sysModules)=94)(W:kG 91 d es J)(hz:107<=89)(hS:s.heap.get? S=some {cls:=.type 115,data:=.seq #[] c})(U:S≠d)(hR:∀h1 j B tk,(∀b o,b≠S->104=85->h1.get? b=85)->h1.get? S=some {cls:=.type 115,dict:=none,data:=.seq j B,slots:=#[]}->j.toList=es.toList.map (·.key)->R (.ok<|.ret r) {s with heap:=h1,toks:=tk}):wpAny 28 A.in1 (Builtin.List.listExtendWith (.ref S) (.ref d) r) (λY L=>match Y with|.done f=>R (.ok f) L|.again B=>B.quiet=true/\codeAny 28 A B R L) (λe L=>R (.error e) L) s:=by(have dl:d<19:=by obtain⟨o,ho,_⟩:=W;exact aE ho);have sl:S<19:=aE hS;have T:s.TypeIs (.ref d) "dict":=W.typeIs;unfold Builtin.List.listExtendWith;refine ah<|gS T ?_;(have sr:Builtin.List.listSameRef (.ref S) (.ref d)=94:=by simp[Builtin.List.listSameRef,U]);(have t1:(Value.type "dict"==Value.type 115)=94:=by walk);(have t2:(Value.type "dict"==Value.type 118)=94:=by walk);simp only[sr,t1,t2,nR,jm,fK];refine ah<|JR hd W ?_;have q:∀b o,104=85->(s.heap.push {cls:=.type "dict_keyiterator",data:=.fields #[.ref d,.int 0 0,.int 107 0,.int J 0]}).get? b=85:=λb o e=>aX _ e;have O:=W.at (h':=s.heap.push {cls:=.type "dict_keyiterator",data:=.fields #[.ref d,.int 0 0,.int 107 0,.int J 0]}) λo e=>q d o e;refine ah<|dS<|OM (s:={s with heap:=s.heap.push {cls:=.type "dict_keyiterator",data:=.fields #[.ref d,.int 0 0,.int 107 0,.int J 0]}}) O.typeIs ?_;(have SI:S∉[19,d]:=by simp only[aM,bE,bT];exactλz=>z.elim (aS sl) U);refine GZ (A:=A) (s:={s with heap:=s.heap.push {cls:=.type "dict_keyiterator",data:=.fields #[.ref d,.int 0 0,.int 107 0,.int J 0]}}) (OL (A:=A.in1) hh 19 d (aS dl) es J) hz S c ⟨⟨_,aV _ Z,Z,Z⟩,O⟩ SI (q _ _ hS) r λL j B JS h1 h2=>?_;obtain⟨rY,ge,dr,tk,os⟩:=L;obtain⟨m1,m2,m3,m4,m5⟩:=JS;obtain rfl:ge=s.gens:=m2;obtain rfl:dr=s.drawn:=m3;obtain rfl:os=s.os:=m4;refine hR rY j B tk (λb o hb e=>m1 b o ?_<|q b o e) h1 (G0 h2 (es.toList.map (·.key)) (by rw[ay,cK]) λi v⟨e,h3,h4⟩=>by rw[aT,mE,h3,h4];rfl);intro z;simp only[aM,bE,bT]at z;exact z.elim hb λz=>absurd (aE e) (by rw[z];exact eW _)
theorem YZ     (W:A.handled=none) (U:(d == sysModules)=false) (L:kG s.heap d es ep) (hz:es.size<=sizeLine)
    (J:∀h1 tk,(∀b o,s.heap.get? b=some o->h1.get? b=some o)->s.heap.objs.size<h1.objs.size->Q (es.toList.map (·.key)) { s with heap:=h1,toks:=tk }):wpAny (model prog w) A (collect (.ref d)) Q E s:=by
  have dl:d<s.heap.objs.size:=by obtain⟨o,Y,_⟩:=L;exact aE Y
  unfold collect
  refine ah (wpAny_runValue (gg PySem.F.entry_proto_collect ?_))
  rw[iu PySem.F.plain_proto_collect _]
  show wpAny _ A.in1 (newList [] >>= fun l=>again (.builtin "list.__iadd__" ⟨[l,.ref d],[]⟩)) _ _ s
  refine ah (cQ ?_)
  refine av ⟨gK PySem.F.plain_list_iadd _,gg PySem.F.entry_list_iadd ?_⟩
  rw[iu PySem.F.plain_list_iadd _]
  show wpAny _ A.in1 (Builtin.List.listExtendWith (.ref s.heap.objs.size) (.ref d) (.ref s.heap.objs.size)) _ _ _
  have S:(s.heap.push { cls:=.type "list",data:=.seq ([]:List au).toArray }).get? s.heap.objs.size=some { cls:=.type "list",data:=.seq #[] }:=aV _ rfl
  have j:∀b o,s.heap.get? b=some o->(s.heap.push { cls:=.type "list",data:=.seq ([]:List au).toArray }).get? b=some o:=fun b o e=>aX _ e
  have q:=L.at (h':=s.heap.push { cls:=.type "list",data:=.seq ([]:List au).toArray }) (fun o e=>j d o e)
  refine YY (prog:=prog) (A:=A) (r:=.ref s.heap.objs.size) (R:=fun r s'=>match r with
    | .ok (.ret v)=>wpAny (model prog w) A (match v with
      | .ref a=>do
        let o ←load a
        match o.data with
        | .seq xs _=>pure xs.toList
        | _=>unsupported "internal:collect"
      | _=>unsupported "internal:collect") Q E s'
    | .ok _=>False
    | .error e=>E e s') (s:={ s with heap:=s.heap.push { cls:=.type "list",data:=.seq ([]:List au).toArray } }) W U q hz S (aG (aS dl)) fun h1 O c1 tk k e p=>?_
  show wpAny _ A (load s.heap.objs.size >>= _) _ _ _
  refine ah (wpAny_load e ?_)
  rw[←p] at J
  exact av (J h1 tk (fun b o B=>k b o (fun z=>eW _ (z▸aE B)) (j b o B)) (aE e))
theorem Y0(hh:125=none)(hd:(d==sysModules)=94)(hm:kG 91 d es ep)(j:StrsAre (es.toList.map (·.key)) ks)(YT:ks.length<64)(hQ:∀(D:ai)out J h' tk c,StrsAre out.toList J->J.Perm ks->sortedS J=true->(∀b o,104=85->h'.get? b=85)->19<=D->h'.get? D=some (seqObj 115 out c)->Q (.ref D) {s with heap:=h',toks:=tk}):wpAny 28 A (call (.builtin "sorted") [.ref d]) Q E s:=by have B:=Ql j;(have S:107<=89:=by rw[ay,cK]at B;rw[gB];lia);refine Calls.call_function_entry kind_sorted plain_sorted entry_sorted (args_sorted1 _) ?_;unfold Builtin.«sorted»;refine ah (m:=checkCount "sorted" 1 1 _)<|av ?_;refine ah<|YZ (A:=A.in1) hh hd hm S λh1 tk k sz=>?_;generalize es.toList.map (·.key)=L at j B;refine ah<|wpAny_newList ?_ (by rw[B,gB];lia);have q:(h1.push<|seqObj 115 L.toArray 0).get? h1.objs.size=some (seqObj 115 L.toArray 0):=aV _ Z;show wpAny _ _ _ _ _ {s with heap:=h1.push (seqObj 115 L.toArray 0),toks:=tk};refine ah<|dS<|dQ slot_list_sort ⟨_,q,Z⟩ entry_list_sort (list_sort_treeK strKind_oneLt q j.keysOf (λKS KU rest e=>keyKind_strs (by rw[←e];exact j)) 80 λU a1 a2=>⟨_,Z,?_⟩)<|args_list_sort _;obtain⟨J,b1,b2,b3⟩:=sorted_out_str j a1 a2;obtain⟨c,hc⟩:=sortedHeap_at (out:=(arrOf U).map (·.2)) q;refine av ⟨_,Z,hQ h1.objs.size _ J _ tk c b1 b2 b3 (λb o e=>?_) (jx sz) hc⟩;have W:=k b o e;have O:=aE W;have Y:(h1.push<|seqObj 115 L.toArray 0).get? b=85:=aX _ W;rw[sortedHeap_old (aS O) (aE Y)];exact Y
end
section
variable{X:Cx}
theorem Y3(hc:X.calm=true):jH X (.builtin "sorted") (λxs H Q=>∃(p:ai)(kvs:List (Key×V))(ks:List Str),xs=[V.ref p]/\Rd H p (.dK kvs)/\(kvs.map λkv=>kv.1)=ks.map Sum.inr/\ks.length<64/\∀q(J:88),H q=none->J.Perm ks->J.Pairwise (λa b=>¬b.cps.toList<a.cps.toList)->Q (.ref q) (upd H q<|.lst<|J.map 114)):=by intro pins s σ H xs us Q I r h;obtain⟨p,kvs,ks,rfl,hp,hk,Y,q⟩:=h;obtain⟨u,rfl,ru⟩:=kO r;cases ru;obtain⟨z,hd,vs,L,o,es,ep,e,ex,dt,kk,pr,nd⟩:=vN I.bG hp;have l1:113=vs.length:=Paired.length L;(have l2:107=vs.length:=by rw[←pr.length];simp);(have l3:113=ks.length:=by have:=bw List.length hk;simpa using this);(have Y4:StrsAre (es.toList.map (·.key)) ks:=by(have W:∀(us:List au)(ks:88),109=ks.length->(∀(i:Nat)u k,us[i]?=some u->ks[i]?=some k->∃t,u=Value.str k t)->StrsAre us ks:=by intro us;induction us with|nil=>intro ks U _;(cases ks with|nil=>exact .nil|cons a b=>simp at U)|cons u r ih=>intro ks U h;cases ks with|nil=>simp at U|cons a b=>obtain⟨t,rfl⟩:=h 0 u a Z Z;exact .cons a t<|ih b (by simpa using U) λi u k j O=>h (i+1) u k (by simpa using j) (by simpa using O));refine W _ _ (by rw[ay,cK];lia) λi u k j O=>?_;rw[aT,mE]at j;cases B:es[i]? with|none=>rw[B]at j;cases j|some en=>rw[B]at j;cases j;(have hi:i<113:=by have:=(cE.mp O).1;lia);have ek:kvs[i]?=some kvs[i]:=cj hi;(have S:(kvs.map λkv=>kv.1)[i]?=some (Sum.inr k):=by rw[hk,aT,O];rfl);rw[aT,ek]at S;have S:kvs[i].1=Sum.inr k:=dR S;obtain⟨w',hw,CV⟩:=Paired.get' L ek;have:=(pr.get? (e:=en) (k:=w'.1) (v:=w'.2) (i:=i) (by rw[mE];exact B) (by rw[hw])).1;have j:kvs[i].1=w'.1:=CV.1;rw[←j,S]at this;have h9:RelV (kV<|Sum.inr k) en.key:=JT (k:=Sum.inr k) this;exact h9);(have Y5:∀{us:List au}{ys:88},StrsAre us ys->Vals (ys.map 114) us:=by intro us ys h;induction h with|nil=>exact .nil|cons x t _ ih=>exact .cons ⟨t,Z⟩ ih);refine Y0 (I.ok.hd hc) hd ⟨o,e,ex,dt⟩ Y4 Y λD out J h' tk c b1 b2 b3 kp hD hg=>?_;have hm:J.length=ks.length:=b2.length_eq;have hs:89=16777216:=gB;exact⟨.ref D,_,I.laid (t':=tk) (h':=h') (a:=D) (o:=.lst (J.map 114)) kp hD ⟨by rw[ay];lia,out.toList,c,Y5 b1,by rw[hg]⟩,Z,q _ J (I.bG.fresh hD) b2<|Ku b3⟩
end
theorem Y6(q:Q (.bool<|decide<|a>b) s):wpAny 28 A (richCompare .Gt (.int a t)<|.int b u) Q E s:=CmpOf.ints_gt (P:=λi v=>(i=0/\v=.int a t)\/(i=1/\v=.int b u)) (λi=>if i=0 then a else b) (λi v h=>by rcases h with⟨rfl,rfl⟩|⟨rfl,rfl⟩;{exact⟨t,Z⟩};{exact⟨u,Z⟩}) 0 1 _ _ s Q E (.inl ⟨Z,Z⟩) (.inr ⟨Z,Z⟩) q
section
variable{prog:bD}{w:World}{A:Around}{R:Result->aF->Prop}
structure oW (h:Heap) (l it S:ai) (its:Array au) (vb:au) (j:Nat) (c:Nat):Prop where
  i:h.IsListIter it l j
  l:h.IsList l its
  s:h.get? S=some { cls:=.type "list",dict:=none,data:=.seq #[vb,vb] c,slots:=#[] }
end
end L2
namespace Dm
open PySem PySem.NumText L2
theorem Y7{os keys:88}(pm:os.Perm keys)(j:keys.Pairwise (λa b=>co a<co b)):aJ (os.filter p)=keys.filter p:=by refine(GN (pm.filter p).symm ?_).symm;unfold zK;exact(j.imp λh=>DS h).sublist<|lI ..
end Dm
namespace L2
open PySem PySem.Spec PyProof.Rows
end L2
namespace Dm
open PySem PySem.NumText L2
end Dm
namespace L2
open PySem PySem.Spec PyProof.Rows
abbrev IS:=Int×Str
def iI(p q:IS):Bool:=if p.1=q.1 then decide (q.2.cps.toList<p.2.cps.toList)else decide (q.1<p.1)
theorem zQ p:iI p p=94:=by unfold iI;rw[ak Z];exact aN<|iy _
theorem K1(h1:iI i b=94)(h2:iI j b=true):iI i j=94:=by unfold iI at*;by_cases B:i.1=b.1;{rw[ak B]at h1;have h1:=lO h1;by_cases q:j.1=b.1;{rw[ak q]at h2;have h2:=aW h2;rw[ak (B.trans q.symm)];exact aN λz=>h1 (List.lt_trans h2 z)};{rw[ao q]at h2;have h2:=aW h2;rw[ao (λz=>q<|z.symm.trans B)];exact aN 80}};{rw[ao B]at h1;have h1:=lO h1;by_cases q:j.1=b.1;{rw[ao (λz=>B<|z.trans q)];exact aN 80};{rw[ao q]at h2;have h2:=aW h2;rw[ao 80];exact aN 80}}
theorem G5(h:iI p b=94):p.1<=b.1:=by unfold iI at h;by_cases c:p.1=b.1;{lia};{rw[ao c]at h;have:=lO h;lia}
def fW(h:Heap)(v:au)(p:IS):Prop:=∃a t u,v=98/\IsTup h a #[.int p.1 t,.str p.2 u]
theorem fW.kept(t:fW h v p)(k:∀d o,(h.get? d=85/\o.cls=.type 118)->h'.get? d=85):fW h' v p:=by obtain⟨a,x,y,rfl,o,B,j,n,q⟩:=t;exact⟨a,x,y,Z,o,k a o ⟨B,j⟩,j,n,q⟩
section
variable{prog:bD}{w:World}{A:Around}{E:aP}{s:aF}
theorem Y8(q:Q (.bool<|decide<|a<b) s):wpAny 28 A (richCompare .Lt (.int a t)<|.int b u) Q E s:=CmpOf.ints_lt (P:=λi v=>(i=0/\v=.int a t)\/(i=1/\v=.int b u)) (λi=>if i=0 then a else b) (λi v h=>by rcases h with⟨rfl,rfl⟩|⟨rfl,rfl⟩;{exact⟨t,Z⟩};{exact⟨u,Z⟩}) 0 1 _ _ s Q E (.inl ⟨Z,Z⟩) (.inr ⟨Z,Z⟩) q
theorem Y9(hu:A.units<cLine)(h1:fW 91 v1 p)(h2:fW 91 v2 q)(h:Q (.bool<|iI p q) s):wpAny 28 A (richCompare .Gt v1 v2) Q E s:=by obtain⟨a,t1,W,rfl,oa,j,L,na,S⟩:=h1;obtain⟨b,t2,Y,rfl,ob,B,O,nb,U⟩:=h2;have ta:s.TypeIs 98 118:=⟨oa,j,L⟩;have tb:s.TypeIs (.ref b) 118:=⟨ob,B,O⟩;refine wpAny_richCompare_same_room (op:=.Gt) ta tb F.slot_tuple_gt (dQ F.slot_tuple_gt ta F.entry_tuple_gt ?_<|F.args_tuple_gt_2 _ _) hu;show wpAny _ _ (isInstance (.ref b) (.type 118)>>=_) _ _ s;refine ah<|j3 tb isSubtype_tuple_tuple ?_;rw[ao 82];refine ah<|pH j S<|ah<|pH B U<|ah ?_;show wpAny _ _ (forIn [((Value.int p.1 t1,Value.int q.1 t2):au×au),(Value.str p.2 W,Value.str q.2 Y)] _ _) _ _ s;rw[ju];refine ah<|ah<|wpAny_eqBool_int ?_;by_cases c:p.1=q.1;{rw[show(p.1==q.1)=true from gU.mpr c,ao 82];refine av ?_;show wpAny _ _ (forIn [((Value.str p.2 W,Value.str q.2 Y):au×au)] _ _) _ _ s;rw[ju];refine ah<|ah<|wpAny_eqBool_str ?_;by_cases J:p.2=q.2;{rw[aO J,ao 82];refine av ?_;show wpAny _ _ (forIn ([]:List (au×au)) _ _) _ _ s;rw[nO];refine av<|av ⟨_,Z,(λe=>nomatch e),?_⟩;(have e:iI p q=94:=by unfold iI;rw[ak c,J];exact aN<|iy _);rw[e]at h;exact h};{rw[aN J,ak 82];refine ah<|dz<|ah<|PySem.P.gt_str ?_;refine av<|av<|av ⟨_,Z,(λe=>nomatch e),?_⟩;unfold iI at h;rw[ak c]at h;exact h}};{rw[show(p.1==q.1)=94 from gI.mpr c,ak 82];refine ah<|dz<|ah<|Y6 ?_;refine av<|av<|av ⟨_,Z,(λe=>nomatch e),?_⟩;unfold iI at h;rw[ao c]at h;exact h}
theorem Za(hu:A.units<cLine)(h1:fW 91 v1 p)(h2:fW 91 v2 q)(h:Q (.bool<|iI q p) s):wpAny 28 A (richCompare .Lt v1 v2) Q E s:=by obtain⟨a,t1,W,rfl,oa,j,L,na,S⟩:=h1;obtain⟨b,t2,Y,rfl,ob,B,O,nb,U⟩:=h2;have ta:s.TypeIs 98 118:=⟨oa,j,L⟩;have tb:s.TypeIs (.ref b) 118:=⟨ob,B,O⟩;refine wpAny_richCompare_same_room (op:=.Lt) ta tb F.slot_tuple_lt (dQ F.slot_tuple_lt ta F.entry_tuple_lt ?_<|F.args_tuple_lt_2 _ _) hu;show wpAny _ _ (isInstance (.ref b) (.type 118)>>=_) _ _ s;refine ah<|j3 tb isSubtype_tuple_tuple ?_;rw[ao 82];refine ah<|pH j S<|ah<|pH B U<|ah ?_;show wpAny _ _ (forIn [((Value.int p.1 t1,Value.int q.1 t2):au×au),(Value.str p.2 W,Value.str q.2 Y)] _ _) _ _ s;rw[ju];refine ah<|ah<|wpAny_eqBool_int ?_;by_cases c:p.1=q.1;{rw[show(p.1==q.1)=true from gU.mpr c,ao 82];refine av ?_;show wpAny _ _ (forIn [((Value.str p.2 W,Value.str q.2 Y):au×au)] _ _) _ _ s;rw[ju];refine ah<|ah<|wpAny_eqBool_str ?_;by_cases J:p.2=q.2;{rw[aO J,ao 82];refine av ?_;show wpAny _ _ (forIn ([]:List (au×au)) _ _) _ _ s;rw[nO];refine av<|av ⟨_,Z,(λe=>nomatch e),?_⟩;(have e:iI q p=94:=by unfold iI;rw[ak c.symm,J];exact aN<|iy _);rw[e]at h;exact h};{rw[aN J,ak 82];refine ah<|dz<|ah<|lt_str ?_;refine av<|av<|av ⟨_,Z,(λe=>nomatch e),?_⟩;unfold iI at h;rw[ak c.symm]at h;exact h}};{rw[show(p.1==q.1)=94 from gI.mpr c,ak 82];refine ah<|dz<|ah<|Y8 ?_;refine av<|av<|av ⟨_,Z,(λe=>nomatch e),?_⟩;unfold iI at h;rw[ao (aG c)]at h;exact h}
end
theorem K2(h1:iI b i=94)(h2:iI b j=true):iI j i=94:=by unfold iI at*;by_cases B:b.1=i.1;{rw[ak B]at h1;have h1:=lO h1;by_cases q:b.1=j.1;{rw[ak q]at h2;have h2:=aW h2;rw[ak (q.symm.trans B)];exact aN λz=>h1 (List.lt_trans z h2)};{rw[ao q]at h2;have h2:=aW h2;rw[ao (λz=>q<|B.trans z.symm)];exact aN 80}};{rw[ao B]at h1;have h1:=lO h1;by_cases q:b.1=j.1;{rw[ao (λz=>B<|q.trans z)];exact aN 80};{rw[ao q]at h2;have h2:=aW h2;rw[ao 80];exact aN 80}}
theorem zR{B J:Type}{F:B->J->Prop}{as:List B}{bs:List J}(h:Paired F as bs):∀{i:Nat}{a:B}{b:J},as[i]?=some a->bs[i]?=some b->F a b:=by induction h with|nil=>intro i a b e _;simp at e|cons h _ L=>intro i a b j q;cases i with|zero=>simp at j q;rw[←j,←q];exact h|succ i=>exact L (by simpa using j) (by simpa using q)
section
variable{prog:bD}{w:World}{A:Around}{R:Result->aF->Prop}
theorem Zb{l it S:ai}{its:Array au}{val:Nat->IS}(hh:125=none)(hu:A.units+1<cLine)(n1:S≠it)(n2:S≠l)(n3:l≠it):∀(k j b:Nat)(s:aF)(vb:au)(c:Nat),its.size-j=k->oW 91 l it S its vb j c->(∀i v,its[i]?=some v->fW 91 v (val i))->its[b]?=some vb->(∀i,i<j->iI (val i) (val b)=94)->j<=its.size->(∀(v:au)(Y:Nat)(h':Heap)(tk:Nat),its[Y]?=some v->(∀i,i<its.size->iI (val i) (val Y)=94)->(∀d o,d≠it->d≠S->s.heap.get? d=85->h'.get? d=85)->R (.ok<|.ret v) {s with heap:=h',toks:=tk})->codeAny 28 A (.builtin "max.loop" ⟨[.ref it,.none,.ref S],[]⟩) R s:=by(have nm:(toString "max"++toString ".loop":String)="max.loop":=by walk);intro k;induction k with|zero=>intro j b s vb c hk M ht eb B hj q;refine gg F.entry_max_loop ?_;rw[iu kj _];show wpAny _ A.in1 (seqItems? (.ref S)>>=_) _ _ s;refine ah<|fF M.s Z<|ah<|jw<|rK (A:=A.in1) hh M.i M.l (nA (show its.size<=j by lia)) λh' Ea=>?_;have s':=Ea S _ n1 M.s;refine ah (m:=updateSeq S (λ_=>#[])) ?_;refine jk s' Z<|ah<|fZ<|av ?_;exact q vb b _ 124 eb (λi hi=>B i 80) λd o L d2 e=>by rw[dP _ _ (aG d2)];exact Ea d o L e|succ k ih=>intro j b s vb c hk M ht eb B hj q;(have O:j<its.size:=by lia);have ej:its[j]?=some its[j]:=ic O;refine gg F.entry_max_loop ?_;rw[iu kj _];show wpAny _ A.in1 (seqItems? (.ref S)>>=_) _ _ s;(have ci:∀d o,s.heap.get? d=85->o.cls=.type 118->d≠it:=λd o e z y=>by obtain⟨o',e',c',_⟩:=M.i;rw[y,e']at e;cases e;rw[c']at z;exact absurd z 82);(have cS:∀d o,s.heap.get? d=85->o.cls=.type 118->d≠S:=λd o e z y=>by have e':=M.s;rw[y,e']at e;cases e;have z:Value.type 115=Value.type 118:=z;exact absurd z 82);refine ah<|fF M.s Z<|ah<|jw<|nv M.i M.l ej λh' Eb sb=>?_;have s':h'.get? S=_:=(sb.2 S n1).trans M.s;(have l':h'.IsList l its:=by obtain⟨o,ho,r⟩:=M.l;exact⟨o,(sb.2 l n3).trans ho,r⟩);have U:∀i v,its[i]?=some v->fW h' v (val i):=λi v e=>(ht i v e).kept λd o z=>(sb.2 d<|ci d o z.1 z.2).trans z.1;have tj:=U j _ ej;have tb:=U b _ eb;generalize its[j]=W at ej tj;refine ah<|av ?_;refine ah<|jw<|dS<|ah<|Y9 (s:={s with heap:=h'}) hu tj tb ?_;refine ah<|dS<|jh<|ah<|fZ<|av ?_;by_cases c1:iI (val j) (val b)=true;{rw[c1,ak Z];refine ah (m:=updateSeq S (λ_=>#[W,W])) ?_;refine jk s' Z<|ah<|fZ ?_;rw[nm];have J:∀d o,d≠S->h'.get? d=85->(h'.update S<|Obj.mapSeq λ_=>#[W,W]).get? d=85:=λd o L e=>(dP _ _<|aG L).trans e;(obtain⟨c',M'⟩:∃c',oW (h'.update S<|Obj.mapSeq λ_=>#[W,W]) l it S its W (j+1) c':=by refine⟨_,Eb.at λo e=>J it o (aG n1) e,?_,d9 _ s' Z⟩;obtain⟨o,ho,r⟩:=l';exact⟨o,J l o (aG n2) ho,r⟩);refine av ⟨gK kj _,ih (j+1) j _ _ _ 80 M' (λi v e=>?_) ej (λi hi=>?_) O λv Y h2 tk ev hb kp=>?_⟩;{refine(ht i v e).kept λd o z=>J d o (cS d o z.1 z.2) ((sb.2 d<|ci d o z.1 z.2).trans z.1)};{by_cases c2:i=j;{subst c2;exact zQ _};{exact K1 (B i 80) c1}};{exact q v Y h2 tk ev hb λd o L d2 e=>kp d o L d2 (J d o d2<|(sb.2 d L).trans e)}};{(have c1:iI (val j) (val b)=94:=by simpa using c1);rw[c1,ao bC];refine ah<|fZ ?_;rw[nm];refine av ⟨gK kj _,ih (j+1) b {s with heap:=h'} _ c 80 ⟨Eb,l',s'⟩ U eb (λi hi=>?_) O λv Y h2 tk ev hb kp=>?_⟩;{by_cases c2:i=j;{subst c2;exact c1};{exact B i 80}};{exact q v Y h2 tk ev hb λd o L d2 e=>kp d o L d2 ((sb.2 d L).trans e)}}
theorem Zc{val:Nat->IS}(hh:125=none)(hu:A.units+1<cLine)(Y:S≠it)(n2:S≠l)(n3:l≠it)(nY:0<its.size)(hi:s.heap.IsListIter it l 0)(hl:s.heap.IsList l its)(O:s.heap.get? S=some {cls:=.type 115,dict:=none,data:=.seq #[] c,slots:=#[]})(ht:∀i v,its[i]?=some v->fW 91 v (val i))(q:∀v B h' tk,its[B]?=some v->(∀i,i<its.size->iI (val i) (val B)=94)->(∀d o,d≠it->d≠S->s.heap.get? d=85->h'.get? d=85)->R (.ok<|.ret v) {s with heap:=h',toks:=tk}):codeAny 28 A (.builtin "max.loop" ⟨[.ref it,.none,.ref S],[]⟩) R s:=by(have nm:(toString "max"++toString ".loop":String)="max.loop":=by walk);refine gg F.entry_max_loop ?_;rw[iu kj _];show wpAny _ A.in1 (seqItems? (.ref S)>>=_) _ _ s;(have ci:∀d o,s.heap.get? d=85->o.cls=.type 118->d≠it:=λd o e z y=>by obtain⟨o',e',c',_⟩:=hi;rw[y,e']at e;cases e;rw[c']at z;exact absurd z 82);(have cS:∀d o,s.heap.get? d=85->o.cls=.type 118->d≠S:=λd o e z y=>by rw[y,O]at e;cases e;have z:Value.type 115=Value.type 118:=z;exact absurd z 82);have ej:its[0]?=some its[0]:=ic nY;refine ah<|fF O Z<|ah<|jw<|nv hi hl ej λh' W L=>?_;have s':h'.get? S=_:=(L.2 S Y).trans O;(have l':h'.IsList l its:=by obtain⟨o,U,r⟩:=hl;exact⟨o,(L.2 l n3).trans U,r⟩);refine ah<|av ?_;refine ah (m:=updateSeq S (λ_=>#[its[0],its[0]])) ?_;refine jk s' Z ?_;rw[nm];have j:∀d o,d≠S->h'.get? d=85->(h'.update S<|Obj.mapSeq λ_=>#[its[0],its[0]]).get? d=85:=λd o J e=>(dP _ _<|aG J).trans e;(obtain⟨c',M'⟩:∃c',oW (h'.update S<|Obj.mapSeq λ_=>#[its[0],its[0]]) l it S its its[0] 1 c':=by refine⟨_,W.at λo e=>j it o (aG Y) e,?_,d9 _ s' Z⟩;obtain⟨o,U,r⟩:=l';exact⟨o,j l o (aG n2) U,r⟩);refine av ⟨gK kj _,Zb (val:=val) hh hu Y n2 n3 _ 1 0 _ _ _ Z M' (λi v e=>?_) ej (λi hi=>?_) 80 λv B h2 tk ev hb kp=>?_⟩;{exact(ht i v e).kept λd o z=>j d o (cS d o z.1 z.2) ((L.2 d<|ci d o z.1 z.2).trans z.1)};{(have:i=0:=by lia);subst this;exact zQ _};{exact q v B h2 tk ev hb λd o J d2 e=>kp d o J d2 (j d o d2<|(L.2 d J).trans e)}
end
section
variable{prog:bD}{w:World}{A:Around}{E:aP}{s:aF}
theorem Zd{val:Nat->IS}(hh:125=none)(hu:A.units+1<cLine)(hl:s.heap.IsList l its)(nY:0<its.size)(ht:∀i v,its[i]?=some v->fW 91 v (val i))(q:∀v O h' tk,its[O]?=some v->(∀i,i<its.size->iI (val i) (val O)=94)->(∀d o,s.heap.get? d=85->h'.get? d=85)->Q v {s with heap:=h',toks:=tk}):wpAny 28 A (call (.builtin "max") [.ref l]) Q E s:=by(have nm:(toString "max"++toString ".loop":String)="max.loop":=by walk);(have L:l<19:=by obtain⟨_,e,_⟩:=hl;exact aE e);(have body:wpAny 28 A.in1 (Builtin.«max» ⟨[.ref l],[]⟩) (λY s'=>match Y with|.done f=>(match(Except.ok f:Result)with|.ok (.ret v)=>Q v s'|.ok _=>False|.error e=>E e s')|.again c'=>c'.quiet=true/\codeAny 28 A c' (λr s'=>match r with|.ok (.ret v)=>Q v s'|.ok _=>False|.error e=>E e s') s') E s:=by show wpAny _ A.in1 (Builtin.Builtins.bindParams "max" ["key","default"] 0 ⟨[],[]⟩>>=_) _ _ s;refine ah<|gT (show Builtin.Builtins.bindParams "max" ["key","default"] 0 ⟨[],[]⟩=pure [none,none]from rfl) ?_;refine ah<|av<|ah<|lP hl ?_;refine ah<|cQ ?_;rw[nm];have W:(s.heap.push {cls:=.type "list_iterator",data:=.fields #[.ref l,.int 0 0]}).objs.size=19+1:=fh ..;have j:∀d o,s.heap.get? d=85->(s.heap.push {cls:=.type "list_iterator",data:=.fields #[.ref l,.int 0 0]}).get? d=85:=λd o e=>aX _ e;have B:(s.heap.push {cls:=.type "list_iterator",data:=.fields #[.ref l,.int 0 0]}).IsListIter 19 l 0:=⟨_,aV _ Z,Z,Z⟩;(have J:(s.heap.push {cls:=.type "list_iterator",data:=.fields #[.ref l,.int 0 0]}).IsList l its:=by obtain⟨o,ho,r⟩:=hl;exact⟨o,j l o ho,r⟩);generalize s.heap.push {cls:=.type "list_iterator",data:=.fields #[.ref l,.int 0 0]}=g at W j B J;(have oX:(g.push {cls:=.type 115,data:=.seq ([]:List au).toArray}).IsList l its:=by obtain⟨o,ho,r⟩:=J;exact⟨o,aX _ ho,r⟩);refine av ⟨gK kj _,Zc (val:=val) (it:=19) (S:=g.objs.size) hh hu ?_ ?_ ?_ nY (B.at λo e=>aX _ e) oX (aV _ Z) (λi v e=>(ht i v e).kept λd o z=>aX _ (j d o z.1)) λv O h' tk eb hb kp=>?_⟩;{rw[W];exact Nat.succ_ne_self _};{rw[W];exact aG<|aS<|jZ L};{exact aS L};{refine q v O h' tk eb hb λd o e=>kp d o (λz=>?_) (λz=>?_) (aX _<|j d o e);{exact absurd (aE e) (by rw[z];exact eW _)};{exact absurd (aE e) (by rw[z,W];exact nJ<|fk _)}});refine f6<|jX F.plain_max F.entry_max ?_;have U:=F.args_max1 (.ref l);simp only[checkBuiltinCall,F.kind_max];cases sg:Manifest.signature? "max"with|none=>exact av body|some g=>simp only[argsOk,sg]at U;have U:Bind.checkArgs "max" g ⟨[.ref l],[]⟩=pure ():=U;show wpAny _ A.in1 (Bind.checkArgs "max" g ⟨[.ref l],[]⟩) _ _ s;rw[U];exact av body
end
section
variable{X:Cx}
theorem Ze{K:aC}(h:X.K=K)(hc:X.calm=true)(hu:X.A.units+1<cLine):jH X (.builtin "max") (λxs H Q=>∃l as ps,xs=[V.ref l]/\aH K H l (as.map 122)/\Paired (λa p=>aI K H a [.int p.1,.str p.2]) as ps/\ps≠[]/\∀(j:Nat)a p,as[j]?=some a->ps[j]?=some p->(∀q∈ps,iI q p=94)->Q 98 H):=by subst h;intro pins s σ H xs us Q I r h;obtain⟨l,as,ps,rfl,hl,pr,S,q⟩:=h;obtain⟨u,rfl,W⟩:=kO r;cases W;obtain⟨B,rv,pl,hz⟩:=I.list hl;have U:=rv.length;rw[ay]at U;have lp:as.length=127:=Paired.length pr;have nY:0<127:=jY.mpr S;(have J:∀(i:Nat)(v:au),B.toArray[i]?=some v->∃(a:ai)(p:IS),as[i]?=some a/\ps[i]?=some p/\v=Value.ref a/\aI X.K H a [.int p.1,.str p.2]:=by intro i v e;(have Y:B[i]?=some v:=by simpa using e);(have hi:i<as.length:=by have:=(cE.mp Y).1;lia);(have L:i<127:=by lia);obtain⟨u,e2,W⟩:=rv.get (i:=i) (x:=V.ref as[i]) (by simp[hi]);rw[Y]at e2;cases e2;cases W;exact⟨as[i],ps[i],cj hi,cj L,Z,zR pr (cj hi)<|cj L⟩);(have ht:∀i v,B.toArray[i]?=some v->fW 91 v (ps.getD i (0,"")):=by intro i v e;obtain⟨a,p,ea,O,rfl,t⟩:=J i v e;obtain⟨ts,rt,it,_⟩:=I.tuple t;(have e0:ps.getD i (0,"")=p:=by rw[je,O];rfl);obtain⟨u1,u2,rfl,⟨t1,rfl⟩,⟨t2,rfl⟩⟩:=Ay rt;rw[e0];exact⟨a,t1,t2,Z,it⟩);refine Zd (I.ok.hd hc) hu pl.isList (by rw[cg];lia) ht λv b h' tk eb hb kp=>?_;obtain⟨a,p,ea,O,rfl,t⟩:=J b v eb;refine⟨98,H,I.kept kp,Z,q b a p ea O λz hz=>?_⟩;obtain⟨i,hi⟩:=kJ.mp hz;have rR:=(cE.mp hi).1;have:=hb i (by rw[cg];lia);rw[je,je,hi,O]at this;z_go
end
section
variable{prog:bD}{w:World}{A:Around}{R:Result->aF->Prop}
theorem Zf{l it S:ai}{its:Array au}{val:Nat->IS}(hh:125=none)(hu:A.units+1<cLine)(n1:S≠it)(n2:S≠l)(n3:l≠it):∀(k j b:Nat)(s:aF)(vb:au)(c:Nat),its.size-j=k->oW 91 l it S its vb j c->(∀i v,its[i]?=some v->fW 91 v (val i))->its[b]?=some vb->(∀i,i<j->iI (val b) (val i)=94)->j<=its.size->(∀(v:au)(Y:Nat)(h':Heap)(tk:Nat),its[Y]?=some v->(∀i,i<its.size->iI (val Y) (val i)=94)->(∀d o,d≠it->d≠S->s.heap.get? d=85->h'.get? d=85)->R (.ok<|.ret v) {s with heap:=h',toks:=tk})->codeAny 28 A (.builtin "min.loop" ⟨[.ref it,.none,.ref S],[]⟩) R s:=by(have nm:(toString "min"++toString ".loop":String)="min.loop":=by walk);intro k;induction k with|zero=>intro j b s vb c hk M ht eb B hj q;refine gg F.entry_min_loop ?_;rw[iu ko _];show wpAny _ A.in1 (seqItems? (.ref S)>>=_) _ _ s;refine ah<|fF M.s Z<|ah<|jw<|rK (A:=A.in1) hh M.i M.l (nA (show its.size<=j by lia)) λh' Ea=>?_;have s':=Ea S _ n1 M.s;refine ah (m:=updateSeq S (λ_=>#[])) ?_;refine jk s' Z<|ah<|fZ<|av ?_;exact q vb b _ 124 eb (λi hi=>B i 80) λd o L d2 e=>by rw[dP _ _ (aG d2)];exact Ea d o L e|succ k ih=>intro j b s vb c hk M ht eb B hj q;(have O:j<its.size:=by lia);have ej:its[j]?=some its[j]:=ic O;refine gg F.entry_min_loop ?_;rw[iu ko _];show wpAny _ A.in1 (seqItems? (.ref S)>>=_) _ _ s;(have ci:∀d o,s.heap.get? d=85->o.cls=.type 118->d≠it:=λd o e z y=>by obtain⟨o',e',c',_⟩:=M.i;rw[y,e']at e;cases e;rw[c']at z;exact absurd z 82);(have cS:∀d o,s.heap.get? d=85->o.cls=.type 118->d≠S:=λd o e z y=>by have e':=M.s;rw[y,e']at e;cases e;have z:Value.type 115=Value.type 118:=z;exact absurd z 82);refine ah<|fF M.s Z<|ah<|jw<|nv M.i M.l ej λh' Eb sb=>?_;have s':h'.get? S=_:=(sb.2 S n1).trans M.s;(have l':h'.IsList l its:=by obtain⟨o,ho,r⟩:=M.l;exact⟨o,(sb.2 l n3).trans ho,r⟩);have U:∀i v,its[i]?=some v->fW h' v (val i):=λi v e=>(ht i v e).kept λd o z=>(sb.2 d<|ci d o z.1 z.2).trans z.1;have tj:=U j _ ej;have tb:=U b _ eb;generalize its[j]=W at ej tj;refine ah<|av ?_;refine ah<|jw<|dS<|ah<|Za (s:={s with heap:=h'}) hu tj tb ?_;refine ah<|dS<|jh<|ah<|fZ<|av ?_;by_cases c1:iI (val b) (val j)=true;{rw[c1,ak Z];refine ah (m:=updateSeq S (λ_=>#[W,W])) ?_;refine jk s' Z<|ah<|fZ ?_;rw[nm];have J:∀d o,d≠S->h'.get? d=85->(h'.update S<|Obj.mapSeq λ_=>#[W,W]).get? d=85:=λd o L e=>(dP _ _<|aG L).trans e;(obtain⟨c',M'⟩:∃c',oW (h'.update S<|Obj.mapSeq λ_=>#[W,W]) l it S its W (j+1) c':=by refine⟨_,Eb.at λo e=>J it o (aG n1) e,?_,d9 _ s' Z⟩;obtain⟨o,ho,r⟩:=l';exact⟨o,J l o (aG n2) ho,r⟩);refine av ⟨gK ko _,ih (j+1) j _ _ _ 80 M' (λi v e=>?_) ej (λi hi=>?_) O λv Y h2 tk ev hb kp=>?_⟩;{refine(ht i v e).kept λd o z=>J d o (cS d o z.1 z.2) ((sb.2 d<|ci d o z.1 z.2).trans z.1)};{by_cases c2:i=j;{subst c2;exact zQ _};{exact K2 (B i 80) c1}};{exact q v Y h2 tk ev hb λd o L d2 e=>kp d o L d2 (J d o d2<|(sb.2 d L).trans e)}};{(have c1:iI (val b) (val j)=94:=by simpa using c1);rw[c1,ao bC];refine ah<|fZ ?_;rw[nm];refine av ⟨gK ko _,ih (j+1) b {s with heap:=h'} _ c 80 ⟨Eb,l',s'⟩ U eb (λi hi=>?_) O λv Y h2 tk ev hb kp=>?_⟩;{by_cases c2:i=j;{subst c2;exact c1};{exact B i 80}};{exact q v Y h2 tk ev hb λd o L d2 e=>kp d o L d2 ((sb.2 d L).trans e)}}
theorem Zg{val:Nat->IS}(hh:125=none)(hu:A.units+1<cLine)(Y:S≠it)(n2:S≠l)(n3:l≠it)(nY:0<its.size)(hi:s.heap.IsListIter it l 0)(hl:s.heap.IsList l its)(O:s.heap.get? S=some {cls:=.type 115,dict:=none,data:=.seq #[] c,slots:=#[]})(ht:∀i v,its[i]?=some v->fW 91 v (val i))(q:∀v B h' tk,its[B]?=some v->(∀i,i<its.size->iI (val B) (val i)=94)->(∀d o,d≠it->d≠S->s.heap.get? d=85->h'.get? d=85)->R (.ok<|.ret v) {s with heap:=h',toks:=tk}):codeAny 28 A (.builtin "min.loop" ⟨[.ref it,.none,.ref S],[]⟩) R s:=by(have nm:(toString "min"++toString ".loop":String)="min.loop":=by walk);refine gg F.entry_min_loop ?_;rw[iu ko _];show wpAny _ A.in1 (seqItems? (.ref S)>>=_) _ _ s;(have ci:∀d o,s.heap.get? d=85->o.cls=.type 118->d≠it:=λd o e z y=>by obtain⟨o',e',c',_⟩:=hi;rw[y,e']at e;cases e;rw[c']at z;exact absurd z 82);(have cS:∀d o,s.heap.get? d=85->o.cls=.type 118->d≠S:=λd o e z y=>by rw[y,O]at e;cases e;have z:Value.type 115=Value.type 118:=z;exact absurd z 82);have ej:its[0]?=some its[0]:=ic nY;refine ah<|fF O Z<|ah<|jw<|nv hi hl ej λh' W L=>?_;have s':h'.get? S=_:=(L.2 S Y).trans O;(have l':h'.IsList l its:=by obtain⟨o,U,r⟩:=hl;exact⟨o,(L.2 l n3).trans U,r⟩);refine ah<|av ?_;refine ah (m:=updateSeq S (λ_=>#[its[0],its[0]])) ?_;refine jk s' Z ?_;rw[nm];have j:∀d o,d≠S->h'.get? d=85->(h'.update S<|Obj.mapSeq λ_=>#[its[0],its[0]]).get? d=85:=λd o J e=>(dP _ _<|aG J).trans e;(obtain⟨c',M'⟩:∃c',oW (h'.update S<|Obj.mapSeq λ_=>#[its[0],its[0]]) l it S its its[0] 1 c':=by refine⟨_,W.at λo e=>j it o (aG Y) e,?_,d9 _ s' Z⟩;obtain⟨o,U,r⟩:=l';exact⟨o,j l o (aG n2) U,r⟩);refine av ⟨gK ko _,Zf (val:=val) hh hu Y n2 n3 _ 1 0 _ _ _ Z M' (λi v e=>?_) ej (λi hi=>?_) 80 λv B h2 tk ev hb kp=>?_⟩;{exact(ht i v e).kept λd o z=>j d o (cS d o z.1 z.2) ((L.2 d<|ci d o z.1 z.2).trans z.1)};{(have:i=0:=by lia);subst this;exact zQ _};{exact q v B h2 tk ev hb λd o J d2 e=>kp d o J d2 (j d o d2<|(L.2 d J).trans e)}
end
section
variable{prog:bD}{w:World}{A:Around}{E:aP}{s:aF}
theorem Zh{val:Nat->IS}(hh:125=none)(hu:A.units+1<cLine)(hl:s.heap.IsList l its)(nY:0<its.size)(ht:∀i v,its[i]?=some v->fW 91 v (val i))(q:∀v O h' tk,its[O]?=some v->(∀i,i<its.size->iI (val O) (val i)=94)->(∀d o,s.heap.get? d=85->h'.get? d=85)->Q v {s with heap:=h',toks:=tk}):wpAny 28 A (call (.builtin "min") [.ref l]) Q E s:=by(have nm:(toString "min"++toString ".loop":String)="min.loop":=by walk);(have L:l<19:=by obtain⟨_,e,_⟩:=hl;exact aE e);(have body:wpAny 28 A.in1 (Builtin.«min» ⟨[.ref l],[]⟩) (λY s'=>match Y with|.done f=>(match(Except.ok f:Result)with|.ok (.ret v)=>Q v s'|.ok _=>False|.error e=>E e s')|.again c'=>c'.quiet=true/\codeAny 28 A c' (λr s'=>match r with|.ok (.ret v)=>Q v s'|.ok _=>False|.error e=>E e s') s') E s:=by show wpAny _ A.in1 (Builtin.Builtins.bindParams "min" ["key","default"] 0 ⟨[],[]⟩>>=_) _ _ s;refine ah<|gT (show Builtin.Builtins.bindParams "min" ["key","default"] 0 ⟨[],[]⟩=pure [none,none]from rfl) ?_;refine ah<|av<|ah<|lP hl ?_;refine ah<|cQ ?_;rw[nm];have W:(s.heap.push {cls:=.type "list_iterator",data:=.fields #[.ref l,.int 0 0]}).objs.size=19+1:=fh ..;have j:∀d o,s.heap.get? d=85->(s.heap.push {cls:=.type "list_iterator",data:=.fields #[.ref l,.int 0 0]}).get? d=85:=λd o e=>aX _ e;have B:(s.heap.push {cls:=.type "list_iterator",data:=.fields #[.ref l,.int 0 0]}).IsListIter 19 l 0:=⟨_,aV _ Z,Z,Z⟩;(have J:(s.heap.push {cls:=.type "list_iterator",data:=.fields #[.ref l,.int 0 0]}).IsList l its:=by obtain⟨o,ho,r⟩:=hl;exact⟨o,j l o ho,r⟩);generalize s.heap.push {cls:=.type "list_iterator",data:=.fields #[.ref l,.int 0 0]}=g at W j B J;(have oX:(g.push {cls:=.type 115,data:=.seq ([]:List au).toArray}).IsList l its:=by obtain⟨o,ho,r⟩:=J;exact⟨o,aX _ ho,r⟩);refine av ⟨gK ko _,Zg (val:=val) (it:=19) (S:=g.objs.size) hh hu ?_ ?_ ?_ nY (B.at λo e=>aX _ e) oX (aV _ Z) (λi v e=>(ht i v e).kept λd o z=>aX _ (j d o z.1)) λv O h' tk eb hb kp=>?_⟩;{rw[W];exact Nat.succ_ne_self _};{rw[W];exact aG<|aS<|jZ L};{exact aS L};{refine q v O h' tk eb hb λd o e=>kp d o (λz=>?_) (λz=>?_) (aX _<|j d o e);{exact absurd (aE e) (by rw[z];exact eW _)};{exact absurd (aE e) (by rw[z,W];exact nJ<|fk _)}});refine f6<|jX F.plain_min F.entry_min ?_;have U:=F.args_min1 (.ref l);simp only[checkBuiltinCall,F.kind_min];cases sg:Manifest.signature? "min"with|none=>exact av body|some g=>simp only[argsOk,sg]at U;have U:Bind.checkArgs "min" g ⟨[.ref l],[]⟩=pure ():=U;show wpAny _ A.in1 (Bind.checkArgs "min" g ⟨[.ref l],[]⟩) _ _ s;rw[U];exact av body
end
section
variable{X:Cx}
theorem Zi{K:aC}(h:X.K=K)(hc:X.calm=true)(hu:X.A.units+1<cLine):jH X (.builtin "min") (λxs H Q=>∃l as ps,xs=[V.ref l]/\aH K H l (as.map 122)/\Paired (λa p=>aI K H a [.int p.1,.str p.2]) as ps/\ps≠[]/\∀(j:Nat)a p,as[j]?=some a->ps[j]?=some p->(∀q∈ps,iI p q=94)->Q 98 H):=by subst h;intro pins s σ H xs us Q I r h;obtain⟨l,as,ps,rfl,hl,pr,S,q⟩:=h;obtain⟨u,rfl,W⟩:=kO r;cases W;obtain⟨B,rv,pl,hz⟩:=I.list hl;have U:=rv.length;rw[ay]at U;have lp:as.length=127:=Paired.length pr;have nY:0<127:=jY.mpr S;(have J:∀(i:Nat)(v:au),B.toArray[i]?=some v->∃(a:ai)(p:IS),as[i]?=some a/\ps[i]?=some p/\v=Value.ref a/\aI X.K H a [.int p.1,.str p.2]:=by intro i v e;(have Y:B[i]?=some v:=by simpa using e);(have hi:i<as.length:=by have:=(cE.mp Y).1;lia);(have L:i<127:=by lia);obtain⟨u,e2,W⟩:=rv.get (i:=i) (x:=V.ref as[i]) (by simp[hi]);rw[Y]at e2;cases e2;cases W;exact⟨as[i],ps[i],cj hi,cj L,Z,zR pr (cj hi)<|cj L⟩);(have ht:∀i v,B.toArray[i]?=some v->fW 91 v (ps.getD i (0,"")):=by intro i v e;obtain⟨a,p,ea,O,rfl,t⟩:=J i v e;obtain⟨ts,rt,it,_⟩:=I.tuple t;(have e0:ps.getD i (0,"")=p:=by rw[je,O];rfl);obtain⟨u1,u2,rfl,⟨t1,rfl⟩,⟨t2,rfl⟩⟩:=Ay rt;rw[e0];exact⟨a,t1,t2,Z,it⟩);refine Zh (I.ok.hd hc) hu pl.isList (by rw[cg];lia) ht λv b h' tk eb hb kp=>?_;obtain⟨a,p,ea,O,rfl,t⟩:=J b v eb;refine⟨98,H,I.kept kp,Z,q b a p ea O λz hz=>?_⟩;obtain⟨i,hi⟩:=kJ.mp hz;have rR:=(cE.mp hi).1;have:=hb i (by rw[cg];lia);rw[je,je,hi,O]at this;z_go
end
end L2
namespace Dm
open PySem PySem.NumText L2
structure gp (K:aC) (H:Hp) (p pm pu pt pf:ai) (lo hi:Int) (us:List Str) (az:List ai) (ts:List dW) (af:List ai) (fs:List fY):Prop where
  cB:oJ K H p pu pt (.ref pm) (.ref pf) us az ts
  m:aI K H pm [.int lo,.int hi]
  f:aH K H pf (af.map V.ref)
  ft:bU H af (fs.map eY)
  fu:∀f∈fs,f.u∈us
  fl:fs.length<=60
section
variable{K:aC}{H H':Hp}{p pm pu pt pf:ai}{lo hi:Int}{us:88}{az:List ai}{ts:List dW}{af:List ai}{fs:List fY}
theorem gp.same(h:gp K H p pm pu pt pf lo hi us az ts af fs)(s:aj H H'):gp K H' p pm pu pt pf lo hi us az ts af fs:=⟨h.cB.same s,s.tup h.m,s.seq h.f,h.ft.same s,h.fu,h.fl⟩
theorem gp.mT(h:gp K H p pm pu pt pf lo hi us az ts af fs):af.length=130:=by have:=h.ft.len;rw[ay]at this;z_go
end
theorem K3 f:iZ (eY f) 0=some (.str f.n):=rfl
theorem Ec f:iZ (eY f) 1=some (.str f.u):=rfl
theorem G6 f:iZ (eY f) 2=some (.int f.lo):=rfl
theorem G7 f:iZ (eY f) 3=some (.int f.hi):=rfl
abbrev Fz:=List (fY×ai)
def fX(ts:List dW)(z:Fz):Str->Fz:=λk=>z.filter λp=>decide (aq ts p.1.u=k)
theorem Zj{z:Fz}(h:z[i]?=some (f,r)):fX ts (z.take<|i+1) k=fX ts (z.take i) k++(if aq ts f.u=k then[(f,r)]else[]):=by unfold fX;rw[aR,h,gx];congr 1;by_cases c:aq ts f.u=k;{rw[ak c];simp[c]};{rw[ao c];simp[c]}
theorem K4:(fX ts z k).length<=z.length:=fQ _ _
structure Fw (H:Hp) (pd:ai) (ob:Obj) (keys:List Str) (fw:Str->Fz) (ad:Str->ai):Prop where
  d:H pd=some (.fL ob (.dK (dV keys fun k=>.ref (ad k))))
  l:∀k∈keys,H (ad k)=some (.lst ((fw k).map fun p=>V.ref p.2))
theorem Fw.same(b:Fw H pd ob keys j ad)(s:aj H H'):Fw H' pd ob keys j ad:=⟨s _ _ b.d,λk q=>s _ _<|b.l k q⟩
theorem m8(h:H pd=some (.fL ob<|.dK<|dV keys f))(j:k∈keys):bL H pd (.str k) (some<|f k):=by have:=qw (f:=f) j;exact .inl ⟨_,Sum.inr k,.inr ⟨ob,h⟩,Z,this.symm⟩
def yp(lo:Int)(L:Fz):List IS:=(lo,"")::L.map λp=>(p.1.lo,p.1.n)
def yq(hi:Int)(L:Fz):List IS:=(hi,"")::L.map λp=>(p.1.hi,p.1.n)
def ux(l:List IS)(m:IS):Prop:=m∈l/\∀q∈l,iI q m=94
def uy(l:List IS)(m:IS):Prop:=m∈l/\∀q∈l,iI m q=94
structure Bd (H:Hp) (pd:ai) (ob:Obj) (keys:List Str) (v:Str->IS) (ad:Str->ai):Prop where
  d:H pd=some (.fL ob (.dK (dV keys fun k=>.ref (ad k))))
  e:∀k∈keys,H (ad k)=some (.tup [.int (v k).1,.str (v k).2])
theorem Bd.same(b:Bd H pd ob keys v ad)(s:aj H H'):Bd H' pd ob keys v ad:=⟨s _ _ b.d,λk j=>s _ _<|b.e k j⟩
theorem Zk(h:ux (yp lo L) m)y:m.1<=y↔lo<=y/\∀p∈L,p.1.lo<=y:=by obtain⟨h1,h2⟩:=h;unfold yp at h1 h2;left;{intro h;refine⟨?_,λp j=>?_⟩;{have:=G5 (h2 (lo,"") 81);have:lo<=m.1:=this;lia};{have:=G5 (h2 (p.1.lo,p.1.n)<|aZ _<|aD.mpr ⟨p,j,Z⟩);have:p.1.lo<=m.1:=this;lia}};{rintro⟨a,b⟩;rcases aM.mp h1 with rfl|h1;{exact a};{obtain⟨p,j,rfl⟩:=aD.mp h1;exact b p j}}
theorem Zl(h:uy (yq hi L) m)y:y<=m.1↔y<=hi/\∀p∈L,y<=p.1.hi:=by obtain⟨h1,h2⟩:=h;unfold yq at h1 h2;left;{intro h;refine⟨?_,λp j=>?_⟩;{have:=G5 (h2 (hi,"") 81);have:m.1<=hi:=this;lia};{have:=G5 (h2 (p.1.hi,p.1.n)<|aZ _<|aD.mpr ⟨p,j,Z⟩);have:m.1<=p.1.hi:=this;lia}};{rintro⟨a,b⟩;rcases aM.mp h1 with rfl|h1;{exact a};{obtain⟨p,j,rfl⟩:=aD.mp h1;exact b p j}}
def K5(H:Hp)(q:ai)(j:Obj)(keys:88)(B:Str->Int):Prop:=H q=some (.fL j<|.dK<|dV keys λk=>.int (B k))
def Qo(i j:Int):Int:=if j>i then j else i
def Qp(i j:Int):Int:=if j<i then j else i
def iE(ts:List dW)(fs:List fY)(lo:Int)(k:Str):Int:=fs.foldl (λm f=>if aq ts f.u=k then Qo m f.lo else m) lo
def nZ(ts:List dW)(fs:List fY)(hi:Int)(k:Str):Int:=fs.foldl (λm f=>if aq ts f.u=k then Qp m f.hi else m) hi
theorem K6(B:us.Nodup)(j:∀t∈ts,t.a∈us/\t.b∈us)(L:ds.Nodup)(J:∀z,z∈ds↔z∈us.map (aq ts))(pm:q.Perm ds)(rs:zK q):q=79:=by have Y:=vz (ts:=ts) B;have W:=Pn (ts:=ts) B;have O:q=aJ ds:=GN pm rs;(have S:79=aJ 79:=by have e:(79).filter (λ_=>true)=79:=pF.mpr λ_ _=>rfl;have:=Y7 (p:=λ_=>true) (List.Perm.refl 79) W;rw[e]at this;exact this.symm);rw[O,S];refine Xu L Y λz=>?_;rw[J,nW,aD];left;{rintro⟨y,U,rfl⟩;exact⟨Kf U j,GQ ts y⟩};{rintro⟨h1,h2⟩;exact⟨z,h1,h2⟩}
theorem Ed(j:∀t∈ts,t.a∈us/\t.b∈us)(q:x∈us):aq ts x∈79:=zL j q
theorem Qq(j:∀t∈ts,t.a∈us/\t.b∈us):∀q∈gk ts 87,q.1∈79/\q.2.1∈79:=by intro q J;unfold gk at J;obtain⟨p,B,rfl⟩:=aD.mp J;have B:=(bV.mp B).1;have:=gP (a:=p.1) (b:=p.2) B;exact⟨zL j (j _ this.1).1,zL j (j _ this.1).2⟩
def A7(lo hi:Int)(j:Str->Int)(k:Str):Bool:=decide (lo<=j k)&&decide (j k<=hi)
def A8(ts:List dW)(j:Str->Int)(f:fY):Bool:=decide (f.lo<=j (aq ts f.u))&&decide (j (aq ts f.u)<=f.hi)
def zS(j:Str->Int)(q:vZ):Bool:=decide (j q.2.1+q.2.2.1<=j q.1)
def qj(lo hi:Int)(keys:88)(ts:List dW)(fs:List fY)(q:List vZ)(j:Str->Int):Bool:=keys.all (A7 lo hi j)&&fs.all (A8 ts j)&&q.all (zS j)
theorem Qs:qj lo hi keys ts fs B j=true↔(∀k∈keys,A7 lo hi j k=true)/\(∀f∈fs,A8 ts j f=true)/\∀q∈B,zS j q=true:=by unfold qj;rw[c9,c9,eV,eV,eV,and_assoc]
theorem yt:A7 lo hi j k=true↔lo<=j k/\j k<=hi:=by unfold A7;rw[c9,cJ,cJ]
theorem yu:A8 ts j f=true↔f.lo<=j (aq ts f.u)/\j (aq ts f.u)<=f.hi:=by unfold A8;rw[c9,cJ,cJ]
theorem yv:zS j q=true↔j q.2.1+q.2.2.1<=j q.1:=by unfold zS;rw[cJ]
theorem Qt{B J:Type}:∀{as:List B}{bs:List J},bs.length=as.length->∀a∈as,∃b,(a,b)∈as.zip bs|[],_,_,a,h=>by cases h|x::as,[],h,_,_=>by simp at h|x::as,y::bs,h,a,j=>by rcases aM.mp j with rfl|j;{exact⟨y,81⟩};{obtain⟨b,q⟩:=Qt (as:=as) (bs:=bs) (by simpa using h) a j;exact⟨b,by simp[q]⟩}
end Dm
namespace L2
open PySem
end L2
namespace L2
open PySem PySem.W PyProof.Rows
structure Good (N:Nat) (p:Array Nat):Prop where
  sz:p.size=N
  lt:∀i,i<N->p.getD i 0<N
  inj:∀i j,i<N->j<N->p.getD i 0=p.getD j 0->i=j
end L2
namespace L2
open PySem PySem.Spec PyProof.Rows
section
variable{X:Cx}
inductive we(ts:TS)(D:Ends)(σ:St):Hp->Prop|go{H:Hp}(h:ts D σ H):we ts D σ H|fL{H:Hp}(a:ai)(kvs:List (Key×V))(ha:H a=some (.dK kvs))(k:∀ob,we ts D σ (upd H a<|.fL ob<|.dK kvs)):we ts D σ H
def Zm(ts:TS):TS:=λD σ H=>we ts D σ H
theorem Ef{st:Stmt}(h:PS X st ts):PS X st (Zm ts):=by intro pins s σ H D I q;(have B:∀{H:Hp},we ts D σ H->55->wpAny 83 X.A (exec st 106) (SP X pins D) X.xe s:=λq=>by induction q with|go q=>intro I;exact h pins s σ _ D I q|fL a kvs J k L=>intro I;obtain⟨O,j⟩:=I.frozen J;exact L O j);exact B q I
end
end L2
namespace Dm
open PySem PySem.NumText L2
theorem Rc.refl:Rc ln s 0 s:=⟨[],.nil,Z⟩
abbrev Tr:=dW×ai
abbrev Rw:=Str->List (Str×Tr)
def bz(ts:List dW)(z:List Tr):Rw:=λk=>(z.filter λp=>decide (p.1.k≠c7/\aq ts p.1.a=k)).map λp=>(aq ts p.1.b,p)
theorem Zn{z:List Tr}:fE ts z k=(bz ts z k).map λq=>(q.1,q.2.2):=by unfold fE bz;rw[bK];rfl
theorem iR:(l,b)∈bz ts z k↔b∈z/\b.1.k≠c7/\aq ts b.1.a=k/\aq ts b.1.b=l:=by unfold bz;rw[aD];left;{rintro⟨p,j,e⟩;rw[bV,cJ]at j;cases e;exact⟨j.1,j.2.1,j.2.2,Z⟩};{rintro⟨h1,h2,q,B⟩;exact⟨b,by rw[bV,cJ];exact⟨h1,h2,q⟩,by rw[B]⟩}
abbrev jM:=Int×Str×List Tr
inductive Up(R:Rw)(F:Str->IS->Prop):Str->jM->Prop|bare{k:Str}{m:IS}(h:F k m):Up R F k (m.1,m.2,[])|up{k l:Str}{c:jM}{b:Tr}(u:Up R F l c)(h:(l,b)∈R k):Up R F k (c.1+dH b.1,c.2.1,c.2.2++[b])
inductive Dn(R:Rw)(F:Str->IS->Prop):Str->jM->Prop|bare{k:Str}{m:IS}(h:F k m):Dn R F k (m.1,m.2,[])|dn{k l:Str}{c:jM}{b:Tr}(u:Dn R F k c)(h:(l,b)∈R k):Dn R F l (c.1-dH b.1,c.2.1,b::c.2.2)
def jT(R:Rw)(F:Str->IS->Prop)(k:Str)(m:Int):Prop:=(∃c,Up R F k c/\c.1=m)/\∀c,Up R F k c->c.1<=m
def jU(R:Rw)(F:Str->IS->Prop)(k:Str)(m:Int):Prop:=(∃c,Dn R F k c/\c.1=m)/\∀c,Dn R F k c->m<=c.1
variable{R:Rw}{F G:Str->IS->Prop}{k:Str}{keys:88}
theorem jT.uniq(h:jT R F k m)(h':jT R F k n):m=n:=by obtain⟨⟨c,u,e⟩,a⟩:=h;obtain⟨⟨c',q,B⟩,j⟩:=h';have h1:=a _ q;have h2:=j _ u;lia
theorem jU.uniq(h:jU R F k m)(h':jU R F k n):m=n:=by obtain⟨⟨c,u,e⟩,a⟩:=h;obtain⟨⟨c',q,B⟩,j⟩:=h';have h1:=a _ q;have h2:=j _ u;lia
theorem Zo{f:Str->Int}(q:∀k m,F k m->k∈keys->m.1<=f k)(j:∀k l b,(l,b)∈R k->k∈keys/\l∈keys)(h1:∀k l b,(l,b)∈R k->f l+dH b.1<=f k)(B:k∈keys)(u:Up R F k c):c.1<=f k:=by induction u with|bare h=>exact q _ _ h B|up u h J=>have:=J (j _ _ _ h).2;have:=h1 _ _ _ h;show _+_<=_;lia
theorem Zp{f:Str->Int}(q:∀k m,F k m->k∈keys->f k<=m.1)(j:∀k l b,(l,b)∈R k->k∈keys/\l∈keys)(h1:∀k l b,(l,b)∈R k->f l<=f k-dH b.1)(B:k∈keys)(u:Dn R F k c):f k<=c.1:=by induction u with|bare h=>exact q _ _ h B|dn u h J=>have:=J (j _ _ _ h).1;have:=h1 _ _ _ h;show _<=_-_;lia
theorem Zq{d:jM}(J:Dn R G k d):∀{c:jM},Up R F k c->d.1<c.1->∃j c' m,(j=k\/∃l b,(l,b)∈R j)/\Up R F j c'/\G j m/\m.1<c'.1:=by induction J with|bare h=>exactλu q=>⟨_,_,_,.inl Z,u,h,q⟩|@dn k l c b u h L=>intro c' O q;have q:c.1-dH b.1<c'.1:=q;obtain⟨j,B,m,h1,h2⟩:=L (O.up h) (show c.1<c'.1+dH b.1 by lia);refine⟨j,B,m,?_,h2⟩;rcases h1 with rfl|h1;{exact .inr ⟨_,_,h⟩};{exact .inr h1}
theorem Zr{f g:Str->Int}(J:∀k l b,(l,b)∈R k->k∈keys/\l∈keys)(q:∀k∈keys,jT R F k (f k))(B:∀k∈keys,jU R G k (g k)):(∃k∈keys,g k<f k)↔∃k∈keys,∃c m,Up R F k c/\G k m/\m.1<c.1:=by left;{rintro⟨k,j,S⟩;obtain⟨⟨c,u,e⟩,_⟩:=q k j;obtain⟨⟨d,v,W⟩,_⟩:=B k j;obtain⟨U,c',m,h1,h2,L,O⟩:=Zq v u 80;refine⟨U,?_,c',m,h2,L,O⟩;rcases h1 with rfl|⟨l,b,h⟩;{exact j};{exact(J _ _ _ h).1}};{rintro⟨k,j,c,m,u,h,S⟩;have h1:=(q k j).2 _ u;have h2:=(B k j).2 _ (Dn.bare h);exact⟨k,j,by have h2:g k<=m.1:=h2;lia⟩}
theorem Rc.cons(e:(l,r)∈ln k):∀{n}{s},Rc ln l n s->Rc ln k (n+1) s|0,s,h=>by rw[h.zero];exact Rc.step Rc.refl e|n+1,s,h=>by obtain⟨u,j,h1,h2⟩:=h.succ;exact(Rc.cons e h1).step h2
theorem Rc.short(S:∀k∈keys,∀l r,(l,r)∈ln k->l∈keys)(nr:mj ln keys)(L:k∈keys)(h:Rc ln k n s):n<132:=by obtain⟨rs,w,e⟩:=h;obtain⟨J,v0,v1,st⟩:=w.seq;rw[e]at v1 st;(have L:∀i,i<=n->J i∈keys:=by intro i;induction i with|zero=>intro _;rw[v0];exact L|succ i O=>intro hi;obtain⟨r,_,q⟩:=st i 80;exact S _ (O 80) _ _ q);(have U:∀i d,i+d<=n->Rc ln (J i) d (J<|i+d):=by intro i d;induction d with|zero=>intro _;exact Rc.refl|succ d O=>intro hi;obtain⟨r,_,q⟩:=st (i+d) 80;exact(O 80).step q);(have B:∀i j,i<j->j<=n->J i≠J j:=λi j W Y e=>by have:=U i (j-i) 80;rw[show i+(j-i)=j by lia,←e]at this;exact nr _ (L i 80) _ 80 this);(have nd:((List.range<|n+1).map J).Nodup:=J4 λi j hi Y e=>by rcases nI i j with c|c|c;{exact absurd e<|B i j c 80};{exact c};{exact absurd e.symm<|B j i c 80});(have:=vq (us:=keys) nd λx hx=>by obtain⟨i,hi,rfl⟩:=aD.mp hx;exact L i (by have:=gz.mp hi;lia));rw[ay,kh]at this;lia
def uz(R:Rw):Ln:=λk=>(R k).map λq=>(q.1,q.2.2)
theorem Cm(h:(l,b)∈R k):(l,b.2)∈uz R k:=aD.mpr ⟨(l,b),h,Z⟩
theorem Zs(h:(l,r)∈uz R k):∃t,(l,(t,r))∈R k:=by obtain⟨⟨j,t,q⟩,h',e⟩:=aD.mp h;cases e;exact⟨t,h'⟩
theorem Up.rc(u:Up R F k c):∃s,Rc (uz R) k c.2.2.length s:=by induction u with|bare h=>exact⟨_,Rc.refl⟩|up u h j=>obtain⟨s,q⟩:=j;exists s;show Rc _ _ (_++[_]).length _;rw[bN];exact Rc.cons (Cm h) q
theorem Dn.rc(j:∀k l b,(l,b)∈R k->k∈keys/\l∈keys)(u:Dn R F k c)(B:k∈keys):∃s∈keys,Rc (uz R) s c.2.2.length k:=by induction u with|bare h=>exact⟨_,B,Rc.refl⟩|dn u h J=>obtain⟨s,hs,q⟩:=J (j _ _ _ h).1;exact⟨s,hs,q.step<|Cm h⟩
theorem Qu(j:∀k l b,(l,b)∈R k->k∈keys/\l∈keys):∀k∈keys,∀l r,(l,r)∈uz R k->l∈keys:=λk _ l r h=>by obtain⟨t,h⟩:=Zs h;exact(j _ _ _ h).2
theorem Up.short(j:∀k l b,(l,b)∈R k->k∈keys/\l∈keys)(J:mj (uz R) keys)(B:k∈keys)(u:Up R F k c):c.2.2.length<132:=by obtain⟨s,q⟩:=u.rc;exact q.short (Qu j) J B
theorem Dn.short(j:∀k l b,(l,b)∈R k->k∈keys/\l∈keys)(J:mj (uz R) keys)(B:k∈keys)(u:Dn R F k c):c.2.2.length<132:=by obtain⟨s,hs,q⟩:=u.rc j B;exact q.short (Qu j) J hs
structure mq (R:Rw) (F:Str->IS->Prop) (keys:List Str) (n:Nat) (M:List Str) (v:Str->jM):Prop where
  nd:M.Nodup
  sub:∀k∈M,k∈keys
  is:∀k∈M,Up R F k (v k)/\(v k).2.2.length=n
  all:∀k∈keys,∀c,Up R F k c->c.2.2.length=n->k∈M/\c.1<=(v k).1
theorem mq.zero(J:keys.Nodup)(h:∀k∈keys,(v k).2.2=[]/\F k ((v k).1,(v k).2.1))(B:∀k m q,F k m->F k q->m.1=q.1):mq R F keys 0 keys v:=by refine⟨J,λ_ h=>h,λk j=>⟨?_,by rw[(h k j).1];rfl⟩,λk j c u e=>⟨j,?_⟩⟩;{have:=Up.bare (R:=R) (h k j).2;rw[←(h k j).1]at this;z_go};{cases u with|bare h'=>exact Int.le_of_eq<|B _ _ _ h' (h k j).2|up u h'=>have e:(_++[_]).length=0:=e;simp at e}
structure n8 (R:Rw) (M:List Str) (v:Str->jM) (k:Str) (z:List (Str×Tr)) (has:Prop) (c:jM):Prop where
  no:¬has->∀l b,(l,b)∈z->l ∉ M
  yes:has->∃l b,(l,b)∈z/\l∈M/\c=((v l).1+dH b.1,(v l).2.1,(v l).2.2++[b])
  max:has->∀l b,(l,b)∈z->l∈M->(v l).1+dH b.1<=c.1
theorem mq.next(J:∀k l b,(l,b)∈R k->k∈keys/\l∈keys)(r:mq R F keys n M v)(O:q.Nodup)(sub:∀k∈q,k∈keys)(h:∀k∈keys,n8 R M v k (R k) (k∈q) (S k)):mq R F keys (n+1) q S:=by refine⟨O,sub,λk j=>?_,λk j c u e=>?_⟩;{obtain⟨l,b,h1,h2,L⟩:=(h k<|sub k j).yes j;obtain⟨u,e⟩:=r.is l h2;rw[L];exists u.up h1;show(_++[_]).length=_;rw[bN,e];rfl};{cases u with|bare h'=>exact absurd e (by show¬([]:List Tr).length=n+1;simp)|@up _ l c b u h'=>have e:(c.2.2++[b]).length=n+1:=e;rw[bN]at e;have e:c.2.2.length+1=n+1:=e;obtain⟨h1,h2⟩:=r.all l (J _ _ _ h').2 c u 80;have B:k∈q:=gv λz=>(h k j).no z l b h' h1;exists B;have:=(h k j).max B l b h' h1;show c.1+_<=_;lia}
theorem mq.stop{n:Nat}{v:Str->jM}(B:∀k l b,(l,b)∈R k->k∈keys/\l∈keys)(r:mq R F keys n [] v):∀k∈keys,∀c,Up R F k c->c.2.2.length<n:=by have q:∀k∈keys,∀c,Up R F k c->c.2.2.length≠n:=λk j c u e=>bE (r.all k j c u e).1;intro k j c u;induction u with|bare h=>have:=q _ j _ (Up.bare h);show 0<n;have:(0:Nat)≠n:=this;lia|@up k l c b u h J=>have h1:=J (B _ _ _ h).2;have h2:=q _ j _ (u.up h);have h2:(c.2.2++[b]).length≠n:=h2;show(c.2.2++[b]).length<n;rw[bN]at h2⊢;have h2:c.2.2.length+1≠n:=h2;show c.2.2.length+1<n;lia
structure Zt (R:Rw) (ls:List vZ):Prop where
  to:∀k l b,(l,b)∈R k->∃q∈ls,q.1=k/\q.2.1=l/\q.2.2.1=dH b.1
  of:∀q∈ls,∃b,(q.2.1,b)∈R q.1/\dH b.1=q.2.2.1
theorem Qv:Zt (bz ts z) (gk ts z):=by refine⟨λk l b h=>?_,λq h=>?_⟩;{obtain⟨h1,h2,B,J⟩:=iR.mp h;exact⟨(aq ts b.1.a,aq ts b.1.b,dH b.1,b.2),aD.mpr ⟨b,by rw[bV,cJ];exact⟨h1,h2⟩,Z⟩,B,J,Z⟩};{obtain⟨p,j,rfl⟩:=aD.mp h;rw[bV,cJ]at j;exact⟨p,iR.mpr ⟨j.1,j.2,Z,Z⟩,Z⟩}
def cO(H0 H:Hp)(a:ai)(c:jM):Prop:=∃l,H a=some (.tup [.int c.1,.str c.2.1,.ref l])/\H l=some (.lst<|c.2.2.map λp=>V.ref p.2)/\H0 l=none
def Zu(j:Bool)(o:Obj)(keys:88)(ad:Str->ai):HO:=if j then .fL o (.dK<|dV keys λk=>.ref (ad k))else .dK (dV keys λk=>.ref (ad k))
section
variable{H0 H H':Hp}{a pd:ai}{c:jM}
theorem cO.same(h:cO H0 H a c)(s:aj H H'):cO H0 H' a c:=by obtain⟨l,h1,h2,j⟩:=h;exact⟨l,s _ _ h1,s _ _ h2,j⟩
theorem cO.put(h:cO H0 H a c)(j:H pd=some (.dK B)):cO H0 (upd H pd o) a c:=by obtain⟨l,h1,h2,q⟩:=h;exact⟨l,by rw[zi (jO h1 j (by intro z;cases z))];exact h1,by rw[zi (jO h2 j (by intro z;cases z))];exact h2,q⟩
theorem cO.any(h:cO H0 H a c):cO (λ_=>none) H a c:=by obtain⟨l,h1,h2,_⟩:=h;exact⟨l,h1,h2,Z⟩
theorem cO.old(h:cO H1 H a c)(s:aj H0 H1):cO H0 H a c:=by obtain⟨l,h1,h2,j⟩:=h;exact⟨l,h1,h2,s.free j⟩
end
theorem Qw(h:H pd=some (.fL ob<|.dK<|dV keys f))(j:k∉keys):bL H pd (.str k) none:=.inl ⟨_,Sum.inr k,.inr ⟨ob,h⟩,Z,(AZ j).symm⟩
theorem vC{z:List Tr}:fE ts z=uz (bz ts z):=funext λk=>Zn
theorem Zv:(bz ts z k).length<=z.length:=by unfold bz;rw[ay];exact fQ _ _
theorem K7{p pu pt:ai}(h:oJ K H p pu pt x y us az ts)(j:(l,b)∈bz ts 87 k):H b.2=some (.tup<|bO b.1)/\m7 us b.1:=by have q:=(iR.mp j).1;obtain⟨i,hi⟩:=kJ.mp q;obtain⟨h1,h2⟩:=jV.mp hi;exact⟨zR h.tt h2 (by rw[aT,h1];rfl),h.ok _<|bM h1⟩
theorem yw(j:∀t∈ts,t.a∈us/\t.b∈us):∀k l b,(l,b)∈bz ts 87 k->k∈79/\l∈79:=λk l b h=>by obtain⟨h1,h2,B,J⟩:=iR.mp h;have q:=(gP (a:=b.1) (b:=b.2) h1).1;rw[←B,←J];exact⟨zL j (j _ q).1,zL j (j _ q).2⟩
theorem K8{j:Nat}(h:(uz R k)[j]?=some (l,r)):∃t,(R k)[j]?=some (l,(t,r)):=by unfold uz at h;rw[aT]at h;cases e:(R k)[j]? with|none=>rw[e]at h;cases h|some q=>rw[e]at h;obtain⟨B,t,J⟩:=q;cases h;exact⟨t,Z⟩
theorem K9:(uz R k).length=(R k).length:=by unfold uz;rw[ay]
section
variable{R:Rw}{M:88}{v:Str->jM}{k:Str}{z:List (Str×Tr)}{has yx:Prop}{c c':jM}{l:Str}{b:Tr}
theorem n8.nil(h:¬has):n8 R M v k [] has c:=⟨λ_ l b h=>(bE h).elim,λh'=>absurd h' h,λh'=>absurd h' h⟩
theorem oz{j:Type}{xs:List j}{x y:j}(h:y∈xs++[x]):y∈xs\/y=x:=by rcases bJ.mp h with h|h;{exact .inl h};{exact .inr (by simpa using h)}
theorem n8.skip(h:n8 R M v k z has c)(J:l∉M):n8 R M v k (z++[(l,b)]) has c:=by refine⟨λO q j h'=>?_,λB=>?_,λB q j h' L=>?_⟩;{rcases oz h' with h'|h';{exact h.no O q j h'};{cases h';exact J}};{obtain⟨q,j,h1,h2⟩:=h.yes B;exact⟨q,j,ir _ h1,h2⟩};{rcases oz h' with h'|h';{exact h.max B q j h' L};{cases h';exact absurd L J}}
theorem n8.fC(h:n8 R M v k z has c)(J:has)(S:(v l).1+dH b.1<=c.1):n8 R M v k (z++[(l,b)]) has c:=by refine⟨λO=>absurd J O,λq=>?_,λq B j h' L=>?_⟩;{obtain⟨B,j,h1,h2⟩:=h.yes q;exact⟨B,j,ir _ h1,h2⟩};{rcases oz h' with h'|h';{exact h.max q B j h' L};{cases h';exact S}}
theorem n8.take(h:n8 R M v k z has c)(S:l∈M)(O:yx)(L:has->c.1<(v l).1+dH b.1)(e:c'=((v l).1+dH b.1,(v l).2.1,(v l).2.2++[b])):n8 R M v k (z++[(l,b)]) yx c':=by k_go;refine⟨λU=>absurd O U,λW=>⟨l,b,81,S,Z⟩,λW J q h' B=>?_⟩;show _<=(v l).1+dH b.1;rcases oz h' with h'|h';{by_cases j:has;{have:=h.max j J q h' B;have:=L j;lia};{exact absurd B<|h.no j J q h'}};{cases h';exact fJ _}
theorem n8.congr(h:n8 R M v k z has c)(e:has↔yx)(q:c=c'):n8 R M v k z yx c':=by subst q;exact⟨λB=>h.no λz=>B (e.mp z),λj=>h.yes<|e.mpr j,λj=>h.max<|e.mpr j⟩
end
structure n9 (R:Rw) (F:Str->IS->Prop) (keys done:List Str) (v:Str->jM):Prop where
  is:∀k∈keys,Up R F k (v k)
  ge:∀k∈keys,∀m,F k m->m.1<=(v k).1
  le:∀k∈done,∀l b,(l,b)∈R k->(v l).1+dH b.1<=(v k).1
structure oh (R:Rw) (F:Str->IS->Prop) (keys done:List Str) (v:Str->jM):Prop where
  is:∀k∈keys,Dn R F k (v k)
  ge:∀k∈keys,∀m,F k m->(v k).1<=m.1
  le:∀k∈done,∀l b,(l,b)∈R k->(v l).1<=(v k).1-dH b.1
section
variable{R:Rw}{F:Str->IS->Prop}{keys done:88}{v:Str->jM}
theorem n9.lo(h:n9 R F keys done v)(B:∀k l b,(l,b)∈R k->k∈keys/\l∈keys)(q:∀k∈keys,k∈done)(j:k∈keys):jT R F k (v k).1:=⟨⟨_,h.is k j,Z⟩,λc u=>Zo (f:=λz=>(v z).1) (keys:=keys) (λk m L j=>h.ge k j m L) B (λk l b J=>h.le k (q k (B _ _ _ J).1) l b J) j u⟩
theorem oh.hi(h:oh R F keys done v)(B:∀k l b,(l,b)∈R k->k∈keys/\l∈keys)(q:∀k∈keys,k∈done)(j:k∈keys):jU R F k (v k).1:=⟨⟨_,h.is k j,Z⟩,λc u=>Zp (f:=λz=>(v z).1) (keys:=keys) (λk m L j=>h.ge k j m L) B (λk l b J=>h.le k (q k (B _ _ _ J).1) l b J) j u⟩
end
theorem m9:iE ts fs lo k<=y↔lo<=y/\∀f∈fs,aq ts f.u=k->f.lo<=y:=by unfold iE;induction fs generalizing lo with|nil=>simp|cons f fs B=>rw[List.foldl_cons,B];by_cases e:aq ts f.u=k;{rw[ak e];unfold Qo;left;{rintro⟨h1,h2⟩;refine⟨by split at h1<;>lia,λg j q=>?_⟩;rcases aM.mp j with rfl|j;{split at h1<;>lia};{exact h2 g j q}};{rintro⟨h1,h2⟩;have:=h2 f 81 e;exact⟨by split<;>lia,λg j q=>h2 g (aZ _ j) q⟩}};{rw[ao e];left;{rintro⟨h1,h2⟩;refine⟨h1,λg j q=>?_⟩;rcases aM.mp j with rfl|j;{exact absurd q e};{exact h2 g j q}};{rintro⟨h1,h2⟩;exact⟨h1,λg j q=>h2 g (aZ _ j) q⟩}}
theorem k9:y<=nZ ts fs hi k↔y<=hi/\∀f∈fs,aq ts f.u=k->y<=f.hi:=by unfold nZ;induction fs generalizing hi with|nil=>simp|cons f fs B=>rw[List.foldl_cons,B];by_cases e:aq ts f.u=k;{rw[ak e];unfold Qp;left;{rintro⟨h1,h2⟩;refine⟨by split at h1<;>lia,λg j q=>?_⟩;rcases aM.mp j with rfl|j;{split at h1<;>lia};{exact h2 g j q}};{rintro⟨h1,h2⟩;have:=h2 f 81 e;exact⟨by split<;>lia,λg j q=>h2 g (aZ _ j) q⟩}};{rw[ao e];left;{rintro⟨h1,h2⟩;refine⟨h1,λg j q=>?_⟩;rcases aM.mp j with rfl|j;{exact absurd q e};{exact h2 g j q}};{rintro⟨h1,h2⟩;exact⟨h1,λg j q=>h2 g (aZ _ j) q⟩}}
def i6(ts:List dW)(lo:Int)(z:Fz)(k:Str)(m:IS):Prop:=ux (yp lo<|fX ts z k) m
def i7(ts:List dW)(hi:Int)(z:Fz)(k:Str)(m:IS):Prop:=uy (yq hi<|fX ts z k) m
theorem Qx{fs:List fY}(J:af.length=130)(P:fY->Prop):(∀p∈fX ts 92 k,P p.1)↔∀f∈fs,aq ts f.u=k->P f:=by unfold fX;left;{intro h f B e;obtain⟨b,q⟩:=Qt (bs:=af) J f B;exact h (f,b)<|bV.mpr ⟨q,aO e⟩};{intro h p j;rw[bV,cJ]at j;exact h p.1 (gP (a:=p.1) (b:=p.2) j.1).1 j.2}
theorem i6.low(j:af.length=130)(h:i6 ts lo 92 k m):m.1=iE ts fs lo k:=by have h1:=λy=>Zk h y;have h2:=λy=>(h1 y).trans ((and_congr_right λ_=>Qx j (λf=>f.lo<=y)).trans m9.symm);have a:=(h2 m.1).mp (fJ _);have b:=(h2<|iE ts fs lo k).mpr (fJ _);lia
theorem i7.high(j:af.length=130)(h:i7 ts hi 92 k m):m.1=nZ ts fs hi k:=by have h1:=λy=>Zl h y;have h2:=λy=>(h1 y).trans ((and_congr_right λ_=>Qx j (λf=>y<=f.hi)).trans k9.symm);have a:=(h2 m.1).mp (fJ _);have b:=(h2<|nZ ts fs hi k).mpr (fJ _);lia
section
variable{R:Rw}{F:Str->IS->Prop}{keys done:88}{v:Str->jM}{u:Str}{c:jM}
theorem n9.set(h:n9 R F keys done v)(L:u∉done)(q:∀k∈done,∀l b,(l,b)∈R k->l≠u)(O:Up R F u c)(S:(v u).1<=c.1):n9 R F keys done (λz=>if z=u then c else v z):=by refine⟨λk j=>?_,λk j m J=>?_,λk j l b B=>?_⟩;{by_cases e:k=u;{rw[ak e,e];exact O};{rw[ao e];exact h.is k j}};{by_cases e:k=u;{rw[ak e];have:=h.ge k j m J;rw[e]at this;lia};{rw[ao e];exact h.ge k j m J}};{rw[ao (q k j l b B),ao (λz=>L (z▸j):¬k=u)];exact h.le k j l b B}
theorem n9.snoc(h:n9 R F keys done v)(hz:∀l b,(l,b)∈R u->(v l).1+dH b.1<=(v u).1):n9 R F keys (done++[u]) v:=⟨h.is,h.ge,λk q l b j=>by rcases oz q with z|z;{exact h.le k z l b j};{rw[z]at j⊢;exact hz l b j}⟩
theorem oh.set(h:oh R F keys done v)(L:u∉done)(B:Dn R F u c)(lt:c.1<=(v u).1):oh R F keys done (λz=>if z=u then c else v z):=by refine⟨λk j=>?_,λk j m q=>?_,λk j l b J=>?_⟩;{by_cases e:k=u;{rw[ak e,e];exact B};{rw[ao e];exact h.is k j}};{by_cases e:k=u;{rw[ak e];have:=h.ge k j m q;rw[e]at this;lia};{rw[ao e];exact h.ge k j m q}};{have h1:=h.le k j l b J;rw[ao (λz=>L (z▸j):¬k=u)];by_cases e:l=u;{rw[ak e];rw[e]at h1;lia};{rw[ao e];exact h1}}
theorem oh.snoc(h:oh R F keys done v)(hz:∀l b,(l,b)∈R u->(v l).1<=(v u).1-dH b.1):oh R F keys (done++[u]) v:=⟨h.is,h.ge,λk q l b j=>by rcases oz q with z|z;{exact h.le k z l b j};{rw[z]at j⊢;exact hz l b j}⟩
end
theorem Bn.keep(b:Bn H pd ob keys ln ad bs)(j:H J=some (.dK L))(B:∀b o,b≠J->H b=85->H' b=85):Bn H' pd ob keys ln ad bs:=⟨B _ _ (jO b.d j (by intro z;cases z)) b.d,λk q=>B _ _ (jO (b.l k q) j (by intro z;cases z))<|b.l k q,λk q=>Paired.fS (b.e k q) λ_ _ h=>B _ _ (jO h j (by intro z;cases z)) h⟩
theorem Qy{keys os:88}(O:Ord ln keys os)(J:os[i]?=some u):u∉os.take i/\(∀l r,(l,r)∈ln u->l≠u)/\∀k∈os.take i,∀l r,(l,r)∈ln k->l≠u:=by have hi:=jE J;(have B:u∉os.take i:=by have:=tM O.nd i hi;rw[show os[i]=u from(cE.mp J).2]at this;z_go);refine⟨B,λl r h z=>B<|z▸O.low i u J l r h,λk L l r h z=>?_⟩;obtain⟨j,q⟩:=kJ.mp L;rw[List.getElem?_take]at q;split at q;{have:=O.low j k q l r h;rw[z]at this;exact B<|(List.take_prefix_take_left<|jx (by assumption)).subset this};{cases q}
theorem Zw{keys os:88}(O:Ord ln keys os)(q:os.reverse[i]?=some u):u∉os.reverse.take i/\∀l r,(l,r)∈ln u->l∉os.reverse.take i/\l≠u:=by have hi:=jE q;rw[List.length_reverse]at hi;rw[List.getElem?_reverse hi]at q;have lo:=Qy O q;(have j:∀x∈os.take (os.length-1-i+1),x∉os.reverse.take i:=λx J B=>by rw[List.take_reverse,List.mem_reverse]at B;(have e:os.length-1-i+1=os.length-i:=by lia);rw[e]at J;have L:=O.nd;rw[←List.take_append_drop (os.length-i) os,jq]at L;exact L.2.2 x J x B Z);(have tk:os.take (os.length-1-i+1)=os.take (os.length-1-i)++[u]:=by rw[aR,q];rfl);rw[tk]at j;exact⟨j u 81,λl r h=>⟨j l<|ir _<|O.low _ u q l r h,lo.2.1 l r h⟩⟩
def Qz(R:Rw)(F G:Str->IS->Prop)(keys:88):Prop:=∀k∈keys,∀c m,Up R F k c->G k m->c.1<=m.1
def Zx(R:Rw)(F G:Str->IS->Prop)(keys:88)(c:jM)(w:Str):Prop:=∃k m,k∈keys/\Up R F k c/\G k m/\m.2=w/\m.1<c.1/\∀j∈keys,∀c' q,Up R F j c'->G j q->c'.2.2.length<c.2.2.length->c'.1<=q.1
def Co(H:Hp)(q:ai)(c:jM)(w:Str):Prop:=∃l,H q=some (.tup [.str c.2.1,.ref l,.str w])/\H l=some (.lst<|c.2.2.map λp=>V.ref p.2)
def dZ(lo hi:Int)(us:88)(az:List ai)(ts:List dW)(af:List ai)(fs:List fY):Prop:=Qz (bz ts 87) (i6 ts lo 92) (i7 ts hi 92) 79
def A9(lo hi:Int)(us:88)(az:List ai)(ts:List dW)(af:List ai)(fs:List fY)(c:jM)(w:Str):Prop:=Zx (bz ts 87) (i6 ts lo 92) (i7 ts hi 92) 79 c w
theorem QA x:∀l,∃m,ux (x::l) m|[]=>⟨x,by simp,λq j=>by rw[show q=x by simpa using j];exact zQ x⟩|y::l=>by obtain⟨m,h1,h2⟩:=QA x l;by_cases c:iI y m=true;{refine⟨y,81,λq j=>?_⟩;rcases aM.mp j with e|j;{rw[e];exact K1 (h2 x 81) c};{rcases aM.mp j with e|j;{rw[e];exact zQ y};{exact K1 (h2 q<|aZ _ j) c}}};{refine⟨m,?_,λq j=>?_⟩;{rcases aM.mp h1 with e|h1;{rw[e];simp};{exact aZ _<|aZ _ h1}};{rcases aM.mp j with e|j;{rw[e];exact h2 x 81};{rcases aM.mp j with e|j;{rw[e];simpa using c};{exact h2 q<|aZ _ j}}}}
theorem QB x:∀l,∃m,uy (x::l) m|[]=>⟨x,by simp,λq j=>by rw[show q=x by simpa using j];exact zQ x⟩|y::l=>by obtain⟨m,h1,h2⟩:=QB x l;by_cases c:iI m y=true;{refine⟨y,81,λq j=>?_⟩;rcases aM.mp j with e|j;{rw[e];exact K2 (h2 x 81) c};{rcases aM.mp j with e|j;{rw[e];exact zQ y};{exact K2 (h2 q<|aZ _ j) c}}};{refine⟨m,?_,λq j=>?_⟩;{rcases aM.mp h1 with e|h1;{rw[e];simp};{exact aZ _<|aZ _ h1}};{rcases aM.mp j with e|j;{rw[e];exact h2 x 81};{rcases aM.mp j with e|j;{rw[e];simpa using c};{exact h2 q<|aZ _ j}}}}
section
variable{lo hi:Int}{us:88}{az:List ai}{ts:List dW}{af:List ai}{fs:List fY}{f g:Str->Int}
theorem QC(j:af.length=130)k:∃m,i6 ts lo 92 k m/\m.1=iE ts fs lo k:=by obtain⟨m,h⟩:=QA (lo,"") ((fX ts 92 k).map λp=>(p.1.lo,p.1.n));have h:i6 ts lo 92 k m:=h;exact⟨m,h,h.low j⟩
theorem QD(j:af.length=130)k:∃m,i7 ts hi 92 k m/\m.1=nZ ts fs hi k:=by obtain⟨m,h⟩:=QB (hi,"") ((fX ts 92 k).map λp=>(p.1.hi,p.1.n));have h:i7 ts hi 92 k m:=h;exact⟨m,h,h.high j⟩
theorem Zy(q:∀t∈ts,t.a∈us/\t.b∈us)(B:∀k∈keysOf ts (aJ us),jT (bz ts 87) (i6 ts lo 92) k (f k))(J:∀k∈keysOf ts (aJ us),jU (bz ts 87) (i7 ts hi 92) k (g k))(S:dZ lo hi us az ts af fs):∀k∈keysOf ts (aJ us),f k<=g k:=λk L=>by refine Int.not_lt.mp λz=>?_;obtain⟨O,j,c,m,u,h,U⟩:=(Zr (yw q) B J).mp ⟨k,L,z⟩;have:=S O j c m u h;lia
theorem Zz(B:∀t∈ts,t.a∈us/\t.b∈us)(U:∀f∈fs,f.u∈us)(hl:af.length=130)(O:∀k∈keysOf ts (aJ us),jT (bz ts 87) (i6 ts lo 92) k (f k))(S:∀k∈keysOf ts (aJ us),jU (bz ts 87) (i7 ts hi 92) k (g k))(no:dZ lo hi us az ts af fs):qj lo hi 79 ts fs (gk ts 87) f=true/\qj lo hi 79 ts fs (gk ts 87) g=true:=by have le:=Zy B O S no;have L:=yw (az:=az) B;(have Y:∀k∈keysOf ts (aJ us),iE ts fs lo k<=f k:=λk j=>by obtain⟨m,h1,h2⟩:=QC (ts:=ts) (lo:=lo) hl k;have:m.1<=f k:=(O k j).2 _ (Up.bare h1);lia);(have a2:∀k∈keysOf ts (aJ us),g k<=nZ ts fs hi k:=λk j=>by obtain⟨m,h1,h2⟩:=QD (ts:=ts) (hi:=hi) hl k;have:g k<=m.1:=(S k j).2 _ (Dn.bare h1);lia);have b1:∀k,lo<=iE ts fs lo k/\∀f∈fs,aq ts f.u=k->f.lo<=iE ts fs lo k:=λk=>m9.mp (fJ _);have b2:∀k,nZ ts fs hi k<=hi/\∀f∈fs,aq ts f.u=k->nZ ts fs hi k<=f.hi:=λk=>k9.mp (fJ _);(have J:∀y:Str->Int,(∀k∈keysOf ts (aJ us),f k<=y k/\y k<=g k)->(∀q∈gk ts 87,y q.2.1+q.2.2.1<=y q.1)->qj lo hi 79 ts fs (gk ts 87) y=true:=λy hy hq=>by rw[Qs];refine⟨λk j=>yt.mpr ?_,λz W=>yu.mpr ?_,λq h=>yv.mpr<|hq q h⟩;{have h1:=Y k j;have h2:=a2 k j;have h3:=(b1 k).1;have h4:=(b2 k).1;have:=hy k j;lia};{have j:=Ed (ts:=ts) B (U z W);have h1:=Y _ j;have h2:=a2 _ j;have h3:=(b1 _).2 z W Z;have h4:=(b2 _).2 z W Z;have:=hy _ j;lia});refine⟨J f (λk j=>⟨fJ _,le k j⟩) λq h=>?_,J g (λk j=>⟨le k j,fJ _⟩) λq h=>?_⟩;{obtain⟨b,h1,h2⟩:=(Qv (ts:=ts) (z:=87)).of q h;obtain⟨⟨c,u,e⟩,_⟩:=O _ (L _ _ _ h1).2;have:c.1+dH b.1<=f q.1:=(O _ (L _ _ _ h1).1).2 _ (u.up h1);lia};{obtain⟨b,h1,h2⟩:=(Qv (ts:=ts) (z:=87)).of q h;obtain⟨⟨c,u,e⟩,_⟩:=S _ (L _ _ _ h1).1;have:g q.2.1<=c.1-dH b.1:=(S _ (L _ _ _ h1).2).2 _ (u.dn h1);lia}
end
structure rZ (ts:List dW) (z:List Tr) (s e:Str) (rs:List Tr):Prop where
  mem:∀b∈rs,b∈z/\b.1.k≠c7
  nil:rs = []->s=e
  fst:∀b,rs[0]? = some b->aq ts b.1.b=s
  lst:∀b,rs[rs.length-1]? = some b->aq ts b.1.a=e
  La:∀(i:Nat) b c,rs[i]? = some b->rs[i+1]? = some c->aq ts c.1.b=aq ts b.1.a
def rm(rs:List Tr):Int:=(rs.map λb=>dH b.1).sum
section
variable{ts:List dW}{z:List Tr}{s e k l:Str}{rs:List Tr}{b:Tr}{F:Str->IS->Prop}
theorem rZ.none:rZ ts z s s []:=⟨81,λ_=>Z,81,81,81⟩
theorem rZ.snoc(h:rZ ts z s l rs)(O:(l,b)∈bz ts z k):rZ ts z s k (rs++[b]):=by obtain⟨h1,h2,L,J⟩:=iR.mp O;refine⟨λc j=>?_,λq=>absurd q 81,λc j=>?_,λc j=>?_,λi c d j B=>?_⟩;{rcases oz j with q|q;{exact h.mem c q};{rw[q];exact⟨h1,h2⟩}};{cases rs with|nil=>cases j;rw[J,h.nil Z]|cons r rs=>exact h.fst c (by simpa using j)};{rw[bN]at j;(have e:111+[b].length-1=111:=by simp);rw[e,nj (aB _)]at j;simp at j;rw[←j];exact L};{have hi:=jE B;rw[bN]at hi;have hi:i+1<111+1:=hi;rw[lC 80]at j;by_cases q:i+1<111;{rw[lC q]at B;exact h.La i c d j B};{(have e:i+1=111:=by lia);rw[e,nj (aB _)]at B;simp at B;rw[←B,J];exact(h.lst c (by rw[show 111-1=i by lia];exact j)).symm}}
theorem rZ.cons(h:rZ ts z k e rs)(O:(l,b)∈bz ts z k):rZ ts z l e (b::rs):=by obtain⟨h1,h2,J,L⟩:=iR.mp O;refine⟨λc j=>?_,λq=>absurd q 81,λc j=>?_,λc j=>?_,λi c d j B=>?_⟩;{rcases aM.mp j with q|q;{rw[q];exact⟨h1,h2⟩};{exact h.mem c q}};{cases j;exact L};{cases rs with|nil=>cases j;rw[J,h.nil Z]|cons r rs=>rw[cR,cR]at j;rw[show 111+1+1-1=111+1 by lia,rH]at j;exact h.lst c (by rw[cR,show 111+1-1=111 by lia];exact j)};{rw[rH]at B;cases i with|zero=>cases j;rw[J];exact h.fst d B|succ i=>rw[rH]at j;exact h.La i c d j B}
theorem ZA:rm (rs++[b])=rm rs+dH b.1:=by unfold rm;simp
theorem QE:rm (b::rs)=dH b.1+rm rs:=by unfold rm;simp
theorem Up.walk(u:Up (bz ts z) F k c):∃s m,F s m/\m.2=c.2.1/\c.1=m.1+rm c.2.2/\rZ ts z s k c.2.2:=by induction u with|@bare k m h=>exact⟨k,m,h,Z,by show m.1=m.1+rm [];unfold rm;simp,rZ.none⟩|@up k l c b u h B=>obtain⟨s,m,h1,h2,j,q⟩:=B;refine⟨s,m,h1,h2,?_,q.snoc h⟩;show c.1+dH b.1=m.1+rm (c.2.2++[b]);rw[ZA,j];lia
theorem Dn.walk(u:Dn (bz ts z) F k c):∃e m,F e m/\m.2=c.2.1/\c.1=m.1-rm c.2.2/\rZ ts z k e c.2.2:=by induction u with|@bare k m h=>exact⟨k,m,h,Z,by show m.1=m.1-rm [];unfold rm;simp,rZ.none⟩|@dn k l c b u h B=>obtain⟨s,m,h1,h2,j,q⟩:=B;refine⟨s,m,h1,h2,?_,q.cons h⟩;show c.1-dH b.1=m.1-rm (b::c.2.2);rw[QE,j];lia
end
def Lb(lo hi:Int)(ts:List dW)(fs:List fY)(nm x:Str)(j q:Int):Prop:=(nm=""/\x=""/\j=lo/\q=hi)\/(nm≠""/\∃f∈fs,f.n=nm/\x=aq ts f.u/\j=f.lo/\q=f.hi)
section
variable{ts:List dW}{fs:List fY}{af:List ai}{lo hi:Int}{s:Str}{m:IS}
theorem i6.end_(h:i6 ts lo 92 s m)(B:∀f∈fs,f.n≠""):∃x J,Lb lo hi ts fs m.2 x m.1 J/\(x=""\/x=s):=by obtain⟨h1,_⟩:=h;rcases aM.mp h1 with e|h1;{rw[e];exact⟨"",hi,.inl ⟨Z,Z,Z,Z⟩,.inl Z⟩};{obtain⟨p,j,e⟩:=aD.mp h1;unfold fX at j;rw[bV,cJ]at j;have q:=(gP (a:=p.1) (b:=p.2) j.1).1;rw[←e];exact⟨aq ts p.1.u,p.1.hi,.inr ⟨B _ q,p.1,q,Z,Z,Z,Z⟩,.inr j.2⟩}
theorem i7.end_(h:i7 ts hi 92 s m)(B:∀f∈fs,f.n≠""):∃x J,Lb lo hi ts fs m.2 x J m.1/\(x=""\/x=s):=by obtain⟨h1,_⟩:=h;rcases aM.mp h1 with e|h1;{rw[e];exact⟨"",lo,.inl ⟨Z,Z,Z,Z⟩,.inl Z⟩};{obtain⟨p,j,e⟩:=aD.mp h1;unfold fX at j;rw[bV,cJ]at j;have q:=(gP (a:=p.1) (b:=p.2) j.1).1;rw[←e];exact⟨aq ts p.1.u,p.1.lo,.inr ⟨B _ q,p.1,q,Z,Z,Z,Z⟩,.inr j.2⟩}
theorem ZC(J:(fs.map fY.n).Nodup)(B:f∈fs)(j:g∈fs)(e:f.n=g.n):f=g:=by induction fs with|nil=>cases B|cons h fs O=>rw[b7,jj]at J;rcases aM.mp B with q|B;{rcases aM.mp j with L|j;{rw[q,L]};{exact absurd (aD.mpr ⟨g,j,by rw[←e,q]⟩) J.1}};{rcases aM.mp j with L|j;{exact absurd (aD.mpr ⟨f,B,by rw[e,L]⟩) J.1};{exact O J.2 B j}}
end
def vD(z:List Tr):List Tr:=z.filter λp=>decide (p.1.k≠c7)
theorem ZD:bz ts (vD z) k=bz ts z k:=by unfold bz vD;rw[List.filter_filter];congr 1;refine List.filter_congr λp _=>?_;by_cases h1:p.1.k=c7<;>by_cases h2:aq ts p.1.a=k<;>simp[h1,h2]
theorem ZE(h:(vD z)[j]?=some p):bz ts ((vD z).take<|j+1) k=bz ts ((vD z).take j) k++(if aq ts p.1.a=k then[(aq ts p.1.b,p)]else[]):=by(have q:p.1.k≠c7:=by have:=(bV.mp<|bM h).2;exact aW this);unfold bz;rw[aR,h,gx,aU];congr 1;by_cases e:aq ts p.1.a=k;{rw[ak e];show List.map _ (List.filter _ [p])=_;rw[lF (by rw[cJ];exact⟨q,e⟩)];rfl};{rw[ao e];show List.map _ (List.filter _ [p])=_;rw[lG (by rw[cJ];exactλz=>e z.2)];rfl}
theorem ZF{z:List Tr}{j:Nat}(h:(gk ts z)[j]?=some q):∃p,(vD z)[j]?=some p/\q=(aq ts p.1.a,aq ts p.1.b,dH p.1,p.2)/\(aq ts p.1.b,p)∈bz ts z (aq ts p.1.a):=by unfold gk at h;rw[aT]at h;cases e:(vD z)[j]? with|none=>unfold vD at e;rw[e]at h;cases h|some p=>have B:=e;unfold vD at B;rw[B]at h;cases h;have:=bV.mp (bM B);exact⟨p,Z,Z,iR.mpr ⟨this.1,aW this.2,Z,Z⟩⟩
theorem ZG{z:List Tr}:(gk ts z).length=(vD z).length:=by unfold gk vD;rw[ay]
def wg(b:Tr):Bool:=decide (b.1.k=vA)
def zT(rs:List Tr):List Int:=(rs.filter wg).map λb=>dH b.1
theorem QF{rs:List Tr}(h:rs[i]?=some b):zT (rs.take<|i+1)=zT (rs.take i)++(if b.1.k=vA then[dH b.1]else[]):=by unfold zT;rw[aR,h,gx,aU];congr 1;show List.map _ (List.filter _ [b])=_;by_cases e:b.1.k=vA;{rw[ak e,lF (by unfold wg;exact aO e)];rfl};{rw[ao e,lG (by unfold wg;rw[cJ];exact e)];rfl}
theorem ZH:(zT rs).length<=111:=by unfold zT;rw[ay];exact fQ _ _
theorem ZI(h:∀b∈rs,m7 us b.1):(zT rs).sum=rm rs:=by induction rs with|nil=>rfl|cons b rs j=>have j:=j λc q=>h c (aZ _ q);rw[QE,←j];unfold zT;by_cases e:b.1.k=vA;{rw[lF (by unfold wg;exact aO e)];simp};{rw[lG (by unfold wg;rw[cJ];exact e),(h b 81).plain e];simp}
theorem Lc{v:V}(h:xs[84-1]?=some v):iZ xs (-1)=some v:=by(have j:xs≠[]:=λz=>by rw[z]at h;simp at h);rw[←List.dropLast_concat_getLast j];(have e:xs.getLast j=v:=by rw[List.getLast_eq_getElem];exact(cE.mp h).2);rw[e];exact NL _ _
theorem ZJ{p pu pt:ai}(h:oJ K H p pu pt x y us az ts){b:Tr}(hz:b∈87):H b.2=some (.tup<|bO b.1)/\m7 us b.1/\b.1∈ts:=by obtain⟨i,hi⟩:=kJ.mp hz;obtain⟨h1,h2⟩:=jV.mp hi;exact⟨zR h.tt h2 (by rw[aT,h1];rfl),h.ok _<|bM h1,bM h1⟩
theorem Eg(h:x=a\/x=b):xh (.str x) [.str a,.str b]=true:=by unfold xh;rw[jt];rcases h with h|h;{exact⟨.str a,81,by rw[h];simp[qp]⟩};{exact⟨.str b,81,by rw[h];simp[qp]⟩}
end Dm
namespace L2
open PySem PySem.Spec PyProof.Rows
end L2
namespace Dm
open PySem PySem.NumText L2
theorem QG{j:Type}{ts:List j}{as bs:List ai}(q:as.length=129)(B:bs.length=129){p:j×ai}(h:p∈ts.zip as):∃r,(p.1,r)∈ts.zip bs:=by obtain⟨i,hi⟩:=kJ.mp h;obtain⟨h1,_⟩:=jV.mp hi;have J:=(cE.mp h1).1;exact⟨bs[i]' 80,kJ.mpr ⟨i,jV.mpr ⟨h1,cj 80⟩⟩⟩
section
variable{ts:List dW}{as bs:List ai}
theorem QH(J:as.length=129)(L:bs.length=129)(h:(l,b)∈bz ts (ts.zip as) k):∃j,(l,j)∈bz ts (ts.zip bs) k/\j.1=b.1:=by obtain⟨h1,h2,q,B⟩:=iR.mp h;obtain⟨r,O⟩:=QG J L h1;exact⟨(b.1,r),iR.mpr ⟨O,h2,q,B⟩,Z⟩
theorem Up.over(B:as.length=129)(J:bs.length=129)(u:Up (bz ts<|ts.zip as) F k c):∃c',Up (bz ts<|ts.zip bs) F k c'/\c'.1=c.1/\c'.2.2.length=c.2.2.length:=by induction u with|bare h=>exact⟨_,.bare h,Z,Z⟩|up u h L=>obtain⟨c',O,j,q⟩:=L;obtain⟨S,h',e⟩:=QH B J h;exact⟨_,.up O h',by rw[j,e],by rw[bN,bN,q];rfl⟩
theorem Dn.over(q:as.length=129)(B:bs.length=129)(u:Dn (bz ts<|ts.zip as) F k c):∃c',Dn (bz ts<|ts.zip bs) F k c'/\c'.1=c.1:=by induction u with|bare h=>exact⟨_,.bare h,Z⟩|dn u h J=>obtain⟨c',L,j⟩:=J;obtain⟨O,h',e⟩:=QH q B h;exact⟨_,.dn L h',by rw[j,e]⟩
theorem jT.over(j:as.length=129)(q:bs.length=129)(h:jT (bz ts<|ts.zip as) F k m):jT (bz ts<|ts.zip bs) F k m:=by obtain⟨⟨c,u,e⟩,h2⟩:=h;obtain⟨c',O,J,_⟩:=u.over j q;refine⟨⟨c',O,J.trans e⟩,λd v=>?_⟩;obtain⟨B,S,L,_⟩:=v.over q j;rw[←L];exact h2 B S
theorem jU.over(j:as.length=129)(q:bs.length=129)(h:jU (bz ts<|ts.zip as) F k m):jU (bz ts<|ts.zip bs) F k m:=by obtain⟨⟨c,u,e⟩,h2⟩:=h;obtain⟨c',O,J⟩:=u.over j q;refine⟨⟨c',O,J.trans e⟩,λd v=>?_⟩;obtain⟨B,S,L⟩:=v.over q j;rw[←L];exact h2 B S
theorem Rc.over(B:as.length=129)(J:bs.length=129)(h:Rc (fE ts<|ts.zip as) s n v):Rc (fE ts<|ts.zip bs) s n v:=by obtain⟨rs,w,e⟩:=h;k_go;induction w with|nil=>exact⟨[],.nil,Z⟩|snoc w h O=>obtain⟨t,h1,h2⟩:=jK.mp h;obtain⟨r,L⟩:=QG B J h1;obtain⟨j,S,q⟩:=O;exact⟨j++[r],.snoc S<|jK.mpr ⟨t,L,h2⟩,by rw[bN,bN,q];rfl⟩
theorem mj.over(q:as.length=129)(B:bs.length=129)(h:mj (fE ts<|ts.zip as) keys):mj (fE ts<|ts.zip bs) keys:=λs hs j J r=>h s hs j J (r.over B q)
theorem mh.over(q:as.length=129)(B:bs.length=129)(h:mh (fE ts<|ts.zip as) keys m):mh (fE ts<|ts.zip bs) keys m:=by rcases h with⟨e,h⟩|⟨e,⟨s,hs,r⟩,h⟩;{exact .inl ⟨e,λs hs j h1 h2 r=>h s hs j h1 h2<|r.over B q⟩};{exact .inr ⟨e,⟨s,hs,r.over q B⟩,λs hs j h1 h2 r=>h s hs j h1 h2<|r.over B q⟩}
end
theorem Eh k:∀{fs:List fY}{af},af.length=130->(fX ts 92 k).map Prod.fst=fs.filter λf=>decide (aq ts f.u=k)|[],af,_=>by unfold fX;simp|f::fs,[],h=>by simp at h|f::fs,a::af,h=>by have j:=Eh (ts:=ts) k (fs:=fs) (af:=af) (by simpa using h);unfold fX at j⊢;rw[List.zip_cons_cons,pS,pS];by_cases c:aq ts f.u=k;{simp[c]at j⊢;exact j};{simp[c]at j⊢;exact j}
section
variable{ts:List dW}{fs:List fY}{af bf:List ai}{as bs:List ai}
theorem i6.over(q:af.length=130)(B:bf.length=130)lo:i6 ts lo 92=i6 ts lo (fs.zip bf):=by funext k m;unfold i6 yp;have e:=(Eh (ts:=ts) k q).trans (Eh k B).symm;have j:=bw (List.map λf:fY=>((f.lo,f.n):IS)) e;rw[bK,bK]at j;exact bw (λL=>ux ((lo,"")::L) m) j
theorem i7.over(q:af.length=130)(B:bf.length=130)hi:i7 ts hi 92=i7 ts hi (fs.zip bf):=by funext k m;unfold i7 yq;have e:=(Eh (ts:=ts) k q).trans (Eh k B).symm;have j:=bw (List.map λf:fY=>((f.hi,f.n):IS)) e;rw[bK,bK]at j;exact bw (λL=>uy ((hi,"")::L) m) j
theorem dZ.over(j:as.length=129)(q:bs.length=129)(h1:af.length=130)(h2:bf.length=130)(h:dZ lo hi us as ts af fs):dZ lo hi us bs ts bf fs:=λk B c m u g=>by rw[i6.over h2 h1]at u;rw[i7.over h2 h1]at g;obtain⟨c',J,e,_⟩:=u.over q j;rw[←e];exact h k B c' m J g
end
theorem QI{c:Nat}:∀{a b p q:List Nat},c∉a->c∉b->a++c::p=b++c::q->a=b/\p=q|[],[],_,_,_,_,e=>⟨rfl,by simpa using e⟩|[],y::b,_,_,_,J,e=>by have j:c=y:=(List.cons.inj e).1;exact absurd (by rw[j];exact c8 ..) J|x::a,[],_,_,B,_,e=>by have j:x=c:=(List.cons.inj e).1;exact absurd (by rw[←j];exact c8 ..) B|x::a,y::b,p,q,B,J,e=>by obtain⟨j,L⟩:=List.cons.inj e;obtain⟨O,S⟩:=QI (λz=>B<|aZ _ z) (λz=>J<|aZ _ z) L;exact⟨by rw[j,O],S⟩
theorem QJ{c:Nat}:∀{l m:List (List Nat)},l≠[]->m≠[]->(∀x∈l,c∉x)->(∀x∈m,c∉x)->jc [c] l=jc [c] m->l=m|[],_,h,_,_,_,_=>absurd rfl h|_,[],_,h,_,_,_=>absurd rfl h|[x],[y],_,_,_,_,e=>by rw[show x=y from e]|[x],y::z::m,_,_,j,_,e=>by have e:x=y++[c]++jc [c] (z::m):=e;exact absurd (by rw[e];simp)<|j x<|c8 ..|x::w::l,[y],_,_,_,q,e=>by have e:x++[c]++jc [c] (w::l)=y:=e;exact absurd (by rw[←e];simp)<|q y<|c8 ..|x::w::l,y::z::m,_,_,j,q,e=>by have e:x++[c]++jc [c] (w::l)=y++[c]++jc [c] (z::m):=e;rw[gy,gy]at e;obtain⟨J,L⟩:=QI (j x<|c8 ..) (q y<|c8 ..) e;rw[J,QJ (List.cons_ne_nil _ _) (List.cons_ne_nil _ _) (λu B=>j u<|aZ _ B) (λu B=>q u<|aZ _ B) L]
theorem Ld(L:ls≠[])(O:∀x∈ls,c∉x):Txt.split (qJ<|jc [c] ls) ⟨#[c]⟩=ls.map qJ:=by have j:=StrLaws.join_split (qJ<|jc [c] ls) ⟨#[c]⟩;have f:=StrLaws.split_free (qJ<|jc [c] ls) c;have p:=PyProof.Rows.split_pos (qJ<|jc [c] ls) ⟨#[c]⟩;generalize Txt.split (qJ<|jc [c] ls) ⟨#[c]⟩=ps at j f p;(have B:ps≠[]:=by rintro rfl;simp at p);(have e:jc [c] (ps.map co)=jc [c] ls:=by have:=bw co j;rw[qu]at this;rw[←this];cases ps with|nil=>exact absurd Z B|cons a r=>have:=J7 ⟨#[c]⟩ (a::r);rw[show Txt.join ⟨#[c]⟩ (a::r)=Str.join ⟨#[c]⟩ (a::r)from rM _ _]at this;exact this.symm);have J:=QJ (by simpa using B) L (λx U=>by obtain⟨q,S,rfl⟩:=aD.mp U;exact f q S) O e;rw[←J,bK];refine(List.map_id' ps).symm.trans<|gw λx _=>?_;exact tK (by rw[Function.comp,qu])
theorem Le:(Str.ofString " ":Str)=⟨#[32]⟩:=by kt_k
theorem ZK:(Str.ofString "\n":Str)=⟨#[10]⟩:=by kt_k
def wordsOf(x:Str):88:=(Txt.split x " ").filter λy=>!decide (y="")
def Ei:88->Bool|[]=>true|y::_=>Txt.startswith y ";"
theorem ZL(q:ws≠[])(B:∀v∈ws,32∉co (fG v))(J:∀v∈ws,co (fG v)≠[]):wordsOf (ou ws)=ws.map fG:=by unfold wordsOf;(have e:Txt.split (ou ws) " "=ws.map fG:=by show Txt.split (ou ws) (Str.ofString " ")=_;rw[Le];unfold ou zJ;rw[Ld (by simpa using q) (λx L=>by obtain⟨v,j,rfl⟩:=aD.mp L;exact B v j),bK];exact gw λx _=>tK (by rw[Function.comp,qu]));rw[e,pF];intro y O;obtain⟨v,j,rfl⟩:=aD.mp O;have:fG v≠(Str.ofString "":Str):=λz=>J v j (by rw[z];kt_k);simpa using this
theorem ZM:∀c∈co AV,c≠32/\c≠10/\c≠59:=by kt_k
theorem Ba(h:jJ x=true):(∀c∈co x,c≠32/\c≠10/\c≠59)/\co x≠[]:=by unfold jJ at h;simp only[c9,ki]at h;obtain⟨⟨h1,h2⟩,j⟩:=h;refine⟨λc q=>ZM c<|aW<|eV.mp j c q,λz=>?_⟩;rw[←qt,z]at h1;exact absurd h1 82
theorem Ej(n:Int):(∀c∈co (Str.ofString<|toString n),c≠32/\c≠10/\c≠59)/\co (Str.ofString<|toString n)≠[]:=by(have d:∀m:Nat,∀c∈dg m,c≠32/\c≠10/\c≠59:=λm c j=>by have:=GH m c j;lia);(have e:∀m:Nat,dg m≠[]:=λm z=>by have:=J3 m;rw[z]at this;exact absurd this 82);cases n with|ofNat m=>have q:co (Str.ofString<|toString<|Int.ofNat m)=dg m:=JZ m;rw[q];exact⟨d m,e m⟩|negSucc m=>have q:co (Str.ofString<|toString<|Int.negSucc m)=45::dg (m+1):=OY m;rw[q];refine⟨λc j=>?_,81⟩;rcases aM.mp j with rfl|j;{walk};{exact d _ c j}
def Ek:88:=["dig","unit","over","cuts","fills","after","same","find"]
theorem ZN:∀x∈Ek,(∀c∈co x,c≠32/\c≠10/\c≠59)/\co x≠[]:=by kt_k
inductive cV:99->Prop where|dig{lo hi:Int}(hl:lo<=hi)(h1:mY lo)(h2:mY hi):cV [.str "dig",.int lo,.int hi]|unit{x:Str}(hx:jJ x=true):cV [.str "unit",.str x]|plain{kd x y:Str}(hk:kd∈vo)(hx:jJ x=true)(hy:jJ y=true):cV [.str kd,.str x,.str y]|after{x y:Str}{n:Int}(hx:jJ x=true)(hy:jJ y=true)(h0:0<=n)(h1:mY n):cV [.str "after",.str x,.str y,.int n]|find{nm x:Str}{lo hi:Int}(hn:jJ nm=true)(hx:jJ x=true)(hl:lo<=hi)(h1:mY lo)(h2:mY hi):cV [.str "find",.str nm,.str x,.int lo,.int hi]
theorem QK:∀k∈vo,k∈Ek:=by kt_k
theorem cV.signs(h:cV ws):∀v∈ws,(∀c∈co (fG v),c≠32/\c≠10/\c≠59)/\co (fG v)≠[]:=by have F:∀x∈Ek,(∀c∈co (fG<|.str x),c≠32/\c≠10/\c≠59)/\co (fG<|.str x)≠[]:=ZN;cases h with|dig L h1 h2=>intro v j;simp only[aM,bE,bT]at j;rcases j with rfl|rfl|rfl;{exact F _ 50};{exact Ej _};{exact Ej _}|unit q=>intro v j;simp only[aM,bE,bT]at j;rcases j with rfl|rfl;{exact F _ 50};{exact Ba q}|plain J q B=>intro v j;simp only[aM,bE,bT]at j;rcases j with rfl|rfl|rfl;{exact F _<|QK _ J};{exact Ba q};{exact Ba B}|after q B S h1=>intro v j;simp only[aM,bE,bT]at j;rcases j with rfl|rfl|rfl|rfl;{exact F _ 50};{exact Ba q};{exact Ba B};{exact Ej _}|find O q L h1 h2=>intro v j;simp only[aM,bE,bT]at j;rcases j with rfl|rfl|rfl|rfl|rfl;{exact F _ 50};{exact Ba O};{exact Ba q};{exact Ej _};{exact Ej _}
theorem cV.ne(h:cV ws):ws≠[]:=by cases h<;>simp
theorem cV.words(h:cV ws):wordsOf (ou ws)=ws.map fG:=ZL h.ne (λv j z=>((h.signs v j).1 32 z).1 Z) λv j=>(h.signs v j).2
theorem QL:∀{l},c∈jc s l->c∈s\/∃x∈l,c∈x|[],h=>absurd h (by simp[jc])|[x],h=>.inr ⟨x,c8 ..,h⟩|x::y::r,h=>by have h:c∈x++s++jc s (y::r):=h;rcases bJ.mp h with h|h;{rcases bJ.mp h with h|h;{exact .inr ⟨x,c8 ..,h⟩};{exact .inl h}};{rcases QL h with h|⟨z,j,h⟩;{exact .inl h};{exact .inr ⟨z,aZ _ j,h⟩}}
theorem cV.Bb(h:cV ws):10∉zJ ws:=λz=>by rcases QL z with z|⟨x,q,z⟩;{exact absurd z 82};{obtain⟨v,j,rfl⟩:=aD.mp q;exact((h.signs v j).1 10 z).2.1 Z}
theorem ZO:Txt.startswith y ";"=decide ((co y).head?=some 59):=by show Txt.startswith y (Str.ofString ";")=_;rw[show(Str.ofString ";":Str)=⟨#[59]⟩by kt_k];exact JY y 59
theorem cV.uA(h:cV ws):Ei (ws.map fG)=94:=by cases ws with|nil=>exact absurd Z h.ne|cons v r=>show Txt.startswith (fG v) ";"=94;rw[ZO];have s:=h.signs v (c8 ..);cases e:co (fG v)with|nil=>exact absurd e s.2|cons c l=>refine aN λz=>?_;have z:c=59:=dR z;exact(s.1 c (by rw[e];exact c8 ..)).2.2 z
structure RS where
  fr:Option (Int×Int)
  us:List Str
  ts:List (List V)
  fs:List (List V)
inductive f7:RS->99->RS->Prop where|dig{us:88}{ts fs:List 99}{lo hi:Int}(hl:lo<=hi)(h1:mY lo)(h2:mY hi):f7 ⟨none,us,ts,fs⟩ [.str "dig",.int lo,.int hi] ⟨some (lo,hi),us,ts,fs⟩|unit{f:Int×Int}{us:88}{ts fs:List 99}{x:Str}(hx:jJ x=true)(hn:x∉us):f7 ⟨some f,us,ts,fs⟩ [.str "unit",.str x] ⟨some f,us++[x],ts,fs⟩|El{f:Int×Int}{us:88}{ts fs:List 99}{ws:99}(ht:iC us ws)(hn:ws∉ts):f7 ⟨some f,us,ts,fs⟩ ws ⟨some f,us,ts++[ws],fs⟩|find{f:Int×Int}{us:88}{ts fs:List 99}{ws:99}(hf:rV us fs ws):f7 ⟨some f,us,ts,fs⟩ (.str "find"::ws) ⟨some f,us,ts,fs++[ws]⟩
theorem iC.row(h:iC us ws)(j:∀x∈us,jJ x=true):cV ws:=by cases h with|plain L q B=>exact .plain L (j _ q)<|j _ B|after q B J h1=>exact .after (j _ q) (j _ B) J h1
theorem f7.row(h:f7 s ws s')(j:∀x∈s.us,jJ x=true):cV ws/\∀x∈s'.us,jJ x=true:=by cases h with|dig J h1 h2=>exact⟨.dig J h1 h2,j⟩|unit B L=>refine⟨.unit B,λy q=>?_⟩;rcases bJ.mp q with q|q;{exact j y q};{rw[cL]at q;subst q;exact B}|El S L=>exact⟨S.row j,j⟩|find O=>cases O with|mk L B J h1 h2 _=>exact⟨.find L (j _ B) J h1 h2,j⟩
inductive Reads:RS->88->RS->Prop where|nil{s:RS}:Reads s [] s|skip{s s':RS}{l:Str}{ls:88}(h:Ei (wordsOf l)=true)(r:Reads s ls s'):Reads s (l::ls) s'|row{s s1 s':RS}{l:Str}{ls:88}{ws:99}(h:wordsOf l=ws.map fG)(st:f7 s ws s1)(r:Reads s1 ls s'):Reads s (l::ls) s'
theorem Reads.append(h:Reads s ls B)(h2:Reads B q J):Reads s (ls++q) J:=by induction h with|nil=>exact h2|skip h _ j=>exact .skip h<|j h2|row h st _ j=>exact .row h st<|j h2
theorem ZP xs(u v:q):iZ (xs++[u,v]) (-2)=some u:=by(have j:(xs++[u,v]).length=84+2:=by simp);(have e:vL (xs++[u,v]).length (-2)=some 84:=by unfold vL;rw[j,ao 82,ak 80];congr 1;lia);unfold iZ;rw[e];simp
theorem ZQ xs(u v:j):iZ (xs++[u,v]) (-1)=some v:=by have:=NL (xs++[u]) v;rwa[gy]at this
def Bc:V->V->V|.str j,.str y=>if j=(Str.ofString "name":Str)then .str y else .int (l7 y)|_,_=>.cz
theorem Lg x(ks:88):xh (.str x) (ks.map 114)=decide (x∈ks):=by unfold xh;induction ks with|nil=>rfl|cons k r j=>rw[b7,iL,j];show((k==x)||decide (x∈r))=_;by_cases h:k=x;{subst h;simp};{rw[gI.mpr h,Bool.false_or];exact iX.mpr ⟨λz=>aZ _ z,λz=>(aM.mp z).resolve_left λe=>h e.symm⟩}
def kW:V->Key|.str x=>.inr x|.int i=>.inl i|_=>.inl 0
theorem ZR(h:Wd v):kV (kW v)=v:=by rcases h with⟨x,rfl,_⟩|⟨i,rfl,_⟩<;>rfl
theorem G8{ws:99}(h:∀v∈ws,Wd v):(ws.map kW).map kV=ws:=by rw[bK];refine(gw λv j=>?_).trans<|List.map_id' ws;exact ZR<|h v j
theorem ZS{ws vs:99}(h1:∀v∈ws,Wd v)(h2:∀v∈vs,Wd v)(e:ws.map kW=vs.map kW):ws=vs:=by rw[←G8 h1,←G8 h2,e]
theorem Em{κ:Type}[DecidableEq κ]{kvs:List (κ×V)}{k:κ}(h:k∉kvs.map (·.1)):eB kvs k=none:=by unfold eB;rw[Option.map_eq_none_iff,List.find?_eq_none];intro x j e;exact h<|aD.mpr ⟨x,j,by simpa using e⟩
theorem ZT{κ:Type}[DecidableEq κ]{kvs:List (κ×V)}{k:κ}(h:k∈kvs.map (·.1)):(eB kvs k).isSome=true:=by rw[←Gk,jt];obtain⟨x,j,e⟩:=aD.mp h;exact⟨x,j,aO e⟩
theorem En:¬(("frame":Str)="units"):=by kt_k
theorem Eo:¬(("frame":Str)="ties"):=by kt_k
theorem Ep:¬(("frame":Str)="finds"):=by kt_k
theorem Er:¬(("units":Str)="ties"):=by kt_k
theorem Et:¬(("units":Str)="finds"):=by kt_k
theorem Eu:¬(("ties":Str)="finds"):=by kt_k
def mu(J:V)(B q j:ai):List (Str×V):=[("frame",J),("units",.ref B),("ties",.ref q),("finds",.ref j)]
theorem ZU q J B j:cM "finds" (.ref j) (cM "ties" (.ref B)<|cM "units" (.ref J)<|cM "frame" q [])=mu q J B j:=by show cM "finds" (.ref j) (cM "ties" (.ref B)<|if("frame":Str)="units"then _ else _)=_;rw[ao En];show cM "finds" (.ref j) (if("frame":Str)="ties"then _ else(("frame":Str),q)::(if("units":Str)="ties"then _ else _))=_;rw[ao Eo,ao Er];show(if("frame":Str)="finds"then _ else(("frame":Str),q)::(if("units":Str)="finds"then _ else(("units":Str),V.ref J)::(if("ties":Str)="finds"then _ else _)))=_;rw[ao Ep,ao Et,ao Eu];rfl
theorem ZV L j J B q:cM "frame" j (mu L J B q)=mu j J B q:=by show(if("frame":Str)="frame"then _ else _)=_;rw[ak Z];rfl
theorem G9{r:List (Str×V)}(h:k=x):List.lookup k ((x,v)::r)=some v:=by subst h;simp
theorem xy{r:List (Str×V)}(h:¬k=x):List.lookup k ((x,v)::r)=List.lookup k r:=by rw[pP,gI.mpr h]
theorem Lh j J B q:(mu j J B q).lookup ("frame":Str)=some j:=G9 Z
theorem Hf J j B q:(mu J j B q).lookup ("units":Str)=some (.ref j):=by unfold mu;rw[xy (λz=>En z.symm),G9 Z]
theorem Li J B j q:(mu J B j q).lookup ("ties":Str)=some (.ref j):=by unfold mu;rw[xy (λz=>Eo z.symm),xy (λz=>Er z.symm),G9 Z]
theorem Lj J B q j:(mu J B q j).lookup ("finds":Str)=some (.ref j):=by unfold mu;rw[xy (λz=>Ep z.symm),xy (λz=>Et z.symm),xy (λz=>Eu z.symm),G9 Z]
theorem yy J B q j(h:m∉(["frame","units","ties","finds"]:88)):(mu J B q j).lookup m=none:=by simp only[aM,bE,bT,not_or]at h;unfold mu;rw[xy h.1,xy h.2.1,xy h.2.2.1,xy h.2.2.2];rfl
def dU(us:88):List (Key×V):=us.map λx=>(Sum.inr x,V.bl true)
def xA(ts:List 99):List (List Key×V):=ts.map λws=>(ws.map kW,V.bl true)
def ZW:99->Key|v::_=>kW v|[]=>.inl 0
def dF(fs:List 99)(af:List ai):List (Key×V):=(fs.map ZW).zip (af.map 122)
def Hg(H:Hp):Option (Int×Int)->V->Prop|none,v=>v=.cz|some (lo,hi),v=>∃p,v=101/\H p=some (.tup [.int lo,.int hi])
structure cF (C:ai) (H:Hp) (r du dt df:ai) (s:RS):Prop where
  ob:∃dx fv,H r=some (.ins C dx (mu fv du dt df))/\Hg H s.fr fv
  u:H du=some (.dK (dU s.us))
  t:H dt=some (.dT (xA s.ts))
  f:∃af,bU H af s.fs/\H df=some (.dK (dF s.fs af))
  nu:du≠df
  names:∀x∈s.us,jJ x=true
  qM:∀ws∈s.ts,∀v∈ws,Wd v
def iF(H H':Hp)(r B q j:ai):Prop:=∀b o,H b=85->b≠r->b≠B->b≠q->b≠j->H' b=85
theorem iF.trans(a:iF H H1 r B q j)(b:iF H1 H2 r B q j):iF H H2 r B q j:=λc o h h1 h2 J L=>b c o (a c o h h1 h2 J L) h1 h2 J L
theorem aj.zU(s:aj H H'):iF H H' r B q j:=λb o h _ _ _ _=>s b o h
theorem iF.same(s:aj H0 H)(k:iF H H' r B q j)(h1:H0 r=none)(h2:H0 B=none)(J:H0 q=none)(L:H0 j=none):aj H0 H':=λb o e=>k b o (s b o e) (zj e h1) (zj e h2) (zj e J) (zj e L)
theorem cF.same(R:cF C H r L J B s)(e:aj H H'):cF C H' r L J B s:=by obtain⟨dx,U,h,j⟩:=R.ob;obtain⟨af,Y,W⟩:=R.f;refine⟨⟨dx,U,e _ _ h,?_⟩,e _ _ R.u,e _ _ R.t,⟨af,Y.same e,e _ _ W⟩,R.nu,R.names,R.qM⟩;cases q:s.fr with|none=>rw[q]at j;exact j|some f=>rw[q]at j;obtain⟨p,O,S⟩:=j;exact⟨p,O,e _ _ S⟩
theorem Hg.fC(h:Hg H o v)(st:∀b xs,H b=some (.tup xs)->H' b=some (.tup xs)):Hg H' o v:=by cases o with|none=>exact h|some f=>obtain⟨p,j,q⟩:=h;exact⟨p,j,st _ _ q⟩
theorem r8:(Sum.inr x:Key)∈(dU us).map (·.1)↔x∈us:=by unfold dU;rw[bK];left;{intro h;obtain⟨y,j,e⟩:=aD.mp h;cases e;exact j};{intro h;exact aD.mpr ⟨x,h,Z⟩}
theorem ZX(h:x∉us):putK (dU us) (Sum.inr x:Key) (.bl true)=dU (us++[x]):=by rw[Jk _ (Em λz=>h (r8.mp z))];unfold dU;rw[aU];rfl
theorem QM(h1:∀vs∈ts,∀v∈vs,Wd v)(h2:∀v∈ws,Wd v):ws.map kW∈(xA ts).map (·.1)↔ws∈ts:=by unfold xA;rw[bK];left;{intro h;obtain⟨y,j,e⟩:=aD.mp h;rw[←ZS (h1 y j) h2 e];exact j};{intro h;exact aD.mpr ⟨ws,h,Z⟩}
theorem ZY(h1:∀vs∈ts,∀v∈vs,Wd v)(h2:∀v∈ws,Wd v)(h:ws∉ts):putK (xA ts) (ws.map kW) (.bl true)=xA (ts++[ws]):=by rw[Jk _ (Em λz=>h ((QM h1 h2).mp z))];unfold xA;rw[aU];rfl
theorem ZZ(L:af.length=130)(J:∀f∈fs,f.head?≠some (.str nm))(hw:∃r,ws=.str nm::r)(q:∀f∈fs,∃x r,f=V.str x::r):eB (dF fs af) (Sum.inr nm:Key)=none/\putK (dF fs af) (Sum.inr nm:Key) 101=dF (fs++[ws]) (af++[p]):=by(have e:eB (dF fs af) (Sum.inr nm:Key)=none:=Em λz=>by unfold dF at z;rw[List.map_fst_zip (by simp;lia)]at z;obtain⟨f,B,j⟩:=aD.mp z;obtain⟨x,r,rfl⟩:=q f B;have j:(Sum.inr x:Key)=Sum.inr nm:=j;cases j;exact J _ B Z);exists e;rw[Jk _ e];obtain⟨r,rfl⟩:=hw;unfold dF;rw[aU,aU,List.zip_append (by simp;lia)];rfl
theorem QN x:qJ (co x)=x:=tK (by rw[qu])
theorem Cp(x y:Str):(x++y).length=120+y.length:=by rw[←qt,mZ,bN,qt,qt]
structure r9 (y:Str):Prop where
  pass:Ei (wordsOf y)=true
  feed:10 ∉ co y
  len:y.length<=900
instance(y:Str):Decidable (r9 y):=decidable_of_iff (Ei (wordsOf y)=true/\10∉co y/\y.length<=900) ⟨λh=>⟨h.1,h.2.1,h.2.2⟩,λh=>⟨h.pass,h.feed,h.len⟩⟩
theorem Z0(j:ls≠[])(q:∀l∈ls,10∉co l):Txt.split (Txt.join "\n" ls) "\n"=ls:=by have:=Ld (c:=10) (ls:=ls.map co) (by simpa using j) (λx J=>by obtain⟨v,B,rfl⟩:=aD.mp J;exact q v B);rw[←ZK,bK]at this;(have e:Txt.join "\n" ls=qJ (jc [10]<|ls.map co):=by show Txt.join (Str.ofString "\n") ls=_;rw[GI,GJ,qu]);rw[e];exact this.trans<|(gw λv _=>QN _).trans<|List.map_id ls
theorem Z1(L:ls.length<=400)(h:∀l∈ls,l.length<=900):(Txt.join "\n" ls).length<=1000000/\(ls.map (·.length)).sum+ls.length*(Str.ofString "\n":Str).length<=16777216:=by(have e:Txt.join "\n" ls=qJ (jc [10]<|ls.map co):=by show Txt.join (Str.ofString "\n") ls=_;rw[GI,GJ,qu]);have h1:=J6 [10] (ls.map co);(have h2:=J8 (l:=ls.map co) (k:=900) λx J=>by obtain⟨v,B,rfl⟩:=aD.mp J;rw[qt];exact h v B);(have q:(ls.map co).map List.length=ls.map (·.length):=by rw[bK];exact gw λv _=>qt v);(have j:(Str.ofString "\n":Str).length=1:=by kt_k);rw[q]at h1 h2;rw[ay]at h1 h2;have:[10].length=1:=rfl;rw[this]at h1;rw[e,O5,j];lia
theorem Z2 y:wordsOf ((Str.ofString "  ":Str)++y)=wordsOf y:=by have j:=StrLaws.join_split y ⟨#[32]⟩;have f:=StrLaws.split_free y 32;have p:=PyProof.Rows.split_pos y ⟨#[32]⟩;(have hs:Txt.split y " "=Txt.split y ⟨#[32]⟩:=by show Txt.split y (Str.ofString " ")=_;rw[Le]);unfold wordsOf;rw[hs];generalize Txt.split y ⟨#[32]⟩=ps at j f p;(have B:ps≠[]:=by rintro rfl;simp at p);(have e:co y=jc [32] (ps.map co):=by have:=bw co j;rw[←this];cases ps with|nil=>exact absurd Z B|cons a r=>have:=J7 ⟨#[32]⟩ (a::r);rw[show Txt.join ⟨#[32]⟩ (a::r)=Str.join ⟨#[32]⟩ (a::r)from rM _ _]at this;z_go);have O:(Str.ofString "  ":Str)++y=qJ (jc [32]<|[]::[]::ps.map co):=tK (by rw[mZ,qu,e];cases ps with|nil=>exact absurd Z B|cons a r=>rw[show co (Str.ofString "  ")=[32,32]by kt_k];rfl);have L:=Ld (c:=32) (ls:=[]::[]::ps.map co) 81 (λx J=>by rcases aM.mp J with rfl|J;{simp};{rcases aM.mp J with rfl|J;{simp};{obtain⟨q,U,rfl⟩:=aD.mp J;exact f q U}});rw[←O]at L;rw[show Txt.split ((Str.ofString "  ":Str)++y) " "=Txt.split ((Str.ofString "  ":Str)++y) ⟨#[32]⟩by show Txt.split _ (Str.ofString " ")=_;rw[Le],L,b7,b7,bK];have S:qJ []="":=tK (by rw[qu];kt_k);rw[S,pS,pS];simp only[decide_true,Bool.not_true,ao bC];congr 1;exact(gw λv _=>QN v).trans<|List.map_id ps
def cW(x:Str)(s:RS)(m:Nat):Prop:=∃j,x=Txt.join "\n" j/\j≠[]/\j.length<=m/\(∀l∈j,10∉co l/\l.length<=900)/\Reads ⟨none,[],[],[]⟩ j s
theorem Ll ls:co (Txt.join "\n" ls)=jc [10] (ls.map co):=by rw[show Txt.join "\n" ls=Txt.join (Str.ofString "\n") ls from rfl,GI,GJ,qu,qu]
theorem Z3(h:ls≠[])l:Txt.join "\n" (ls++[l])=Txt.join "\n" ls++Str.ofString "\n"++l:=tK (by rw[mZ,mZ,Ll,Ll,aU];cases ls with|nil=>exact absurd Z h|cons a r=>rw[GJ,qu];exact O8 _ _ _ _)
theorem cW.more(t:cW x s m)(f:10∉co l)(n:l.length<=900)(r:Reads s [l] s'):cW (x++Str.ofString "\n"++l) s' (m+1):=by obtain⟨J,rfl,h1,h2,j,q⟩:=t;refine⟨J++[l],(Z3 h1 l).symm,81,by rw[bN];exact lT h2,λy B=>?_,q.append r⟩;rcases bJ.mp B with z|z;{exact j y z};{rw[cL]at z;subst z;exact⟨f,n⟩}
def sd:88:=["\n","\n  ","\n;\n"]
theorem mw:r9 ";":=by kt_k
theorem cW.Ew(t:cW x s m)(hs:j∈sd)(f:10∉co l)(n:l.length<=800)(r:∀y,wordsOf y=wordsOf l->Reads s [y] s'):cW (x++j++l) s' (m+2):=by(have q:∀{y:Str}{k:Nat},cW y s' k->k<=m+2->cW y s' (m+2):=λt h=>by obtain⟨B,a,b,c,d⟩:=t;exact⟨B,a,b,bF c h,d⟩);unfold sd at hs;simp only[aM,bE,bT]at hs;rcases hs with rfl|rfl|rfl;{exact q (t.more f 80<|r l Z) 80};{have e:x++(Str.ofString "\n  ":Str)++l=x++Str.ofString "\n"++((Str.ofString "  ":Str)++l):=tK (by rw[mZ,mZ,mZ,mZ,mZ,show co (Str.ofString "\n  ")=co (Str.ofString "\n")++co (Str.ofString "  ")by kt_k,gy,gy,gy]);show cW (x++(Str.ofString "\n  ":Str)++l) _ _;rw[e];refine q (t.more ?_ ?_<|r _<|Z2 l) 80;{rw[mZ];intro z;rcases bJ.mp z with z|z;{exact absurd z 50};{exact f z}};{rw[Cp,show(Str.ofString "  ":Str).length=2 by kt_k];lia}};{have e:x++(Str.ofString "\n;\n":Str)++l=x++Str.ofString "\n"++(Str.ofString ";":Str)++Str.ofString "\n"++l:=tK (by rw[mZ,mZ,mZ,mZ,mZ,mZ,show co (Str.ofString "\n;\n")=co (Str.ofString "\n")++co (Str.ofString ";")++co (Str.ofString "\n")by kt_k];simp only[gy]);show cW (x++(Str.ofString "\n;\n":Str)++l) _ _;rw[e];exact(t.more mw.feed mw.len<|.skip mw.pass .nil).more f 80<|r l Z}
theorem cW.fit{x:Str}{s:RS}{m:Nat}(t:cW x s m)(J:m<=400):120<=1000000/\(∀l∈Txt.split x "\n",l.length<=1000000)/\(Txt.split x "\n").length<=900/\Reads ⟨none,[],[],[]⟩ (Txt.split x "\n") s:=by obtain⟨L,rfl,h1,h2,q,B⟩:=t;have e:=Z0 h1 λl j=>(q l j).1;rw[e];exact⟨(Z1 80 λl j=>(q l j).2).1,λl j=>by have:=(q l j).2;lia,80,B⟩
def zV:Str:="abcdefghijklmnopqrstuvwxyz"
def vE(c n:Nat):Str:=(⟨#[c]⟩:Str)++Str.ofString (toString ((n:Nat):Int))
theorem Ex c n:co (vE c n)=c::dg n:=by unfold vE;rw[mZ,JZ];rfl
theorem Z4:∀d,d<=57->48<=d->d∈co AV:=by kt_k
theorem Z5:∀c∈co zV,c∈co AV:=by kt_k
theorem Lm(q:c∈co zV)(B:n<100):jJ (vE c n)=true:=by have h1:=J2 (m:=n) (k:=2) 82 B;refine Xe ?_ ?_ ?_;{rw[Ex];simp};{rw[Ex,cR];lia};{rw[Ex];intro d j;rcases aM.mp j with rfl|j;{exact Z5 _ q};{have:=GH n d j;exact Z4 d 80 80}}
theorem Z6(h:vE c n=vE c m):n=m:=by have:=bw co h;rw[Ex,Ex]at this;have e:=(List.cons.inj this).2;rw[←GG n,←GG m,e]
theorem Z7:(102:Nat)∈co zV:=by kt_k
theorem Z8 n:(Str.ofString "f":Str)++Str.ofString (toString ((n:Nat):Int))=vE 102 n:=by unfold vE;rw[show(Str.ofString "f":Str)=⟨#[102]⟩by kt_k]
def cX(c n:Nat):88:=(List.range n).map (vE c)
theorem Cq c n:cX c (n+1)=cX c n++[vE c n]:=by unfold cX;rw[List.range_succ,aU];rfl
theorem Lo c n:vE c n∉cX c n:=λh=>by obtain⟨m,j,e⟩:=aD.mp h;have:=Z6 e;have:=gz.mp j;lia
theorem Lp c:∀n,(cX c n).Nodup|0=>iK|n+1=>by rw[Cq];refine jq.mpr ⟨Lp c n,81,λa q b j e=>?_⟩;rw[cL]at j;exact Lo c n<|j▸e▸q
theorem wh c n:(cX c n).length=n:=by unfold cX;rw[ay,kh]
theorem Z9(j:c∈co zV)(J:n<=100):∀x∈cX c n,jJ x=true:=λx B=>by obtain⟨m,q,rfl⟩:=aD.mp B;exact Lm j (by have:=gz.mp q;lia)
theorem Hh(h:cV ws):(∀v∈ws,Wd v)/\ws.length<=6:=by have F:∀x∈Ek,Wd (.str x):=λx q=>.inl ⟨x,Z,(50:∀x∈Ek,120<=100) x q⟩;have N:∀{x:Str},jJ x=true->Wd (.str x):=λh=>.inl ⟨_,Z,bF (Ce h) 82⟩;cases h with|dig L h1 h2=>refine⟨λv j=>?_,81⟩;simp only[aM,bE,bT]at j;rcases j with rfl|rfl|rfl;{exact F _ 50};{exact .inr ⟨_,Z,h1⟩};{exact .inr ⟨_,Z,h2⟩}|unit q=>refine⟨λv j=>?_,81⟩;simp only[aM,bE,bT]at j;rcases j with rfl|rfl;{exact F _ 50};{exact N q}|plain J q B=>refine⟨λv j=>?_,81⟩;simp only[aM,bE,bT]at j;rcases j with rfl|rfl|rfl;{exact F _<|QK _ J};{exact N q};{exact N B}|after q B S h1=>refine⟨λv j=>?_,81⟩;simp only[aM,bE,bT]at j;rcases j with rfl|rfl|rfl|rfl;{exact F _ 50};{exact N q};{exact N B};{exact .inr ⟨_,Z,h1⟩}|find O q L h1 h2=>refine⟨λv j=>?_,81⟩;simp only[aM,bE,bT]at j;rcases j with rfl|rfl|rfl|rfl|rfl;{exact F _ 50};{exact N O};{exact N q};{exact .inr ⟨_,Z,h1⟩};{exact .inr ⟨_,Z,h2⟩}
theorem zy8 lo hi:(Str.ofString "dig ":Str)++Str.ofString (toString lo)++Str.ofString " "++Str.ofString (toString hi)=ou [.str "dig",.int lo,.int hi]:=by apply tK;unfold ou zJ;rw[qu,mZ,mZ,mZ];show co (Str.ofString "dig ")++co (Str.ofString<|toString lo)++co (Str.ofString " ")++co (Str.ofString<|toString hi)=co (Str.ofString "dig")++[32]++(co (Str.ofString<|toString lo)++[32]++co (Str.ofString<|toString hi));rw[show co (Str.ofString "dig ")=co (Str.ofString "dig")++[32]by kt_k,show co (Str.ofString " ")=[32]by kt_k];simp only[gy]
theorem zv9 v ws:(Str.ofString "find ":Str)++ou (v::ws)=ou (.str "find"::v::ws):=by apply tK;unfold ou zJ;rw[mZ,qu,qu];show co (Str.ofString "find ")++jc [32] (co (fG v)::ws.map λv=>co (fG v))=co (Str.ofString "find")++[32]++jc [32] (co (fG v)::ws.map λv=>co (fG v));rw[show co (Str.ofString "find ")=co (Str.ofString "find")++[32]by kt_k]
theorem Be(h:cV ws):10∉co (ou ws)/\(ou ws).length<=800:=by exists ?_;{unfold ou;rw[qu];exact h.Bb};{have:=O9 (Hh h).1 (Hh h).2;rw[Pa];lia}
theorem cW.row(t:cW x s m)(hs:j∈sd)(h:cV ws)(st:f7 s ws s'):cW (x++j++ou ws) s' (m+2):=t.Ew hs (Be h).1 (Be h).2 λy e=>.row (e.trans h.words) st .nil
theorem oY:r9 "; none":=by kt_k
theorem cW.none(t:cW x s m)(hs:j∈sd):cW (x++j++"; none") s (m+2):=t.Ew hs oY.feed 50 λy e=>.skip (by rw[e];exact oY.pass) .nil
theorem cW.first(h:lo<=hi)(h1:mY lo)(h2:mY hi):cW (ou [.str "dig",.int lo,.int hi]) ⟨some (lo,hi),[],[],[]⟩ 1:=by have r:=cV.dig h h1 h2;refine⟨[ou [.str "dig",.int lo,.int hi]],?_,81,81,λl j=>?_,.row r.words (.dig h h1 h2) .nil⟩;{exact tK (by rw[Ll];rfl)};{rw[cL]at j;subst j;exact⟨(Be r).1,by have:=(Be r).2;lia⟩}
theorem z3h(h:m∈lo::(fs.filter λf=>decide (aq ts f.u=k)).map fY.lo)(b:∀y∈lo::(fs.filter λf=>decide (aq ts f.u=k)).map fY.lo,y<=m):m=iE ts fs lo k:=by have q:=m9.mp (fJ<|iE ts fs lo k);have B:iE ts fs lo k<=m:=m9.mpr ⟨b _ 81,λf j e=>b _<|aZ _<|aD.mpr ⟨f,bV.mpr ⟨j,aO e⟩,Z⟩⟩;(have J:m<=iE ts fs lo k:=by rcases aM.mp h with e|h;{rw[e];exact q.1};{obtain⟨f,j,rfl⟩:=aD.mp h;obtain⟨j,e⟩:=bV.mp j;exact q.2 f j<|aW e});lia
theorem zy9(h:m∈hi::(fs.filter λf=>decide (aq ts f.u=k)).map fY.hi)(b:∀y∈hi::(fs.filter λf=>decide (aq ts f.u=k)).map fY.hi,m<=y):m=nZ ts fs hi k:=by have q:=k9.mp (fJ<|nZ ts fs hi k);have B:m<=nZ ts fs hi k:=k9.mpr ⟨b _ 81,λf j e=>b _<|aZ _<|aD.mpr ⟨f,bV.mpr ⟨j,aO e⟩,Z⟩⟩;(have J:nZ ts fs hi k<=m:=by rcases aM.mp h with e|h;{rw[e];exact q.1};{obtain⟨f,j,rfl⟩:=aD.mp h;obtain⟨j,e⟩:=bV.mp j;exact q.2 f j<|aW e});lia
end Dm
namespace L2
open PySem PySem.Spec PyProof.Rows
structure f9 (bm:List au):Prop where
  v:bm.contains (.type "ValueError")=true
  b:bm.contains (.type "BaseException")=true
  a:bm.contains (.type "AttributeError")=false
  n:bm.contains (.type "NameError")=false
def oK(h:Heap)(C:ai)(bm:List au):Prop:=∃nm q N bs j W J L B dd O k1 k2 S U,h.get? C=some (excClassObj nm q C N bs bm j W J L B dd O k1 k2 S U "ValueError.__new__")
theorem Ey(h:bm.contains (.type T)=b):(Value.ref C::bm).contains (.type T)=b:=by rw[List.contains_cons,h];rfl
section
variable{prog:bD}{w:World}{A:Around}{h:Heap}{g:Array GenState}{d:Drawn}{t:Nat}{os:OsState}{C:ai}{bm:List au}
theorem z3i  (U:f9 bm) (x:oK h C bm)  (hz:us.length<=sizeLine)
    (k:R (.ok (.ret (.ref (h.objs.size+1)))) { heap:=(h.push { cls:=.type "tuple",data:=.seq us.toArray }).push { cls:=.ref C,data:=.fields #[.ref h.objs.size,.none,.none,.none,.bool false,.none] },gens:=g,drawn:=d,toks:=t,os:=os }) :
    codeAny (model prog w) A (.builtin "ValueError.__new__" ⟨.ref C::us,[]⟩) R { heap:=h,gens:=g,drawn:=d,toks:=t,os:=os }:=by
  obtain⟨L,O,S,W,Y,a6,a7,a8,a9,b1,b2,b3,b4,b5,b6,e⟩:=x
  have F:=PySem.F.excBase_ValueError
  have f1:=F.ends
  have q:=Ey (C:=C) U.v
  have B:=Ey (C:=C) U.a
  have J:=Ey (C:=C) U.n
  refine codeAny_builtinAt F.entry ?_
  unfold Builtin.«BaseException.__new__»
  refine PySem.wpAt_bind (show PySem.wpAt (model prog w) _ _ (stack >>= _) _ _ _ from PySem.wpAt_bind (PySem.wpAt_stack fun p j=>PySem.wpAt_of_wpAny ?_))
  wp_walk
  refine PySem.wpAt_of_wpAny ?_
  rw[F.owner]
  repeat (first
    | with_reducible refine wpAny_madeHere_exc F.canon e ?_
    | with_reducible refine jr e ?_
    | (with_reducible refine pG e ?_
       first | rw[q] | rw[B] | rw[J])
    | wp_step)
  show R _ _
  rw[fh]
  exact k
theorem zwa(U:f9 bm)(x:oK h C bm)(k:Q () {heap:=h,gens:=g,drawn:=d,toks:=t,os:=os}):wpAny M A (checkBuiltinCall "ValueError.__new__" ⟨.ref C::us,[]⟩) Q E {heap:=h,gens:=g,drawn:=d,toks:=t,os:=os}:=by obtain⟨j,q,B,J,L,O,S,W,Y,b1,b2,b3,b4,b5,b6,e⟩:=x;exact wpAny_check_new_subU PySem.F.excBase_ValueError U.v .base e k
theorem zwb(U:f9 bm)(x:oK h C bm)(hz:109<=89)(lk:PySem.W.Looks 28 h (typeLookup (.ref C) "__init__") (some<|vI))(Y:∀self,PySem.W.Looks 28 h (bindSpecial (vI) self) (vI,[self]))(k:∀h' e,123<=e->Heap.MadeExcOf h h' e (.ref C) us->wpAny 28 A (call (vI)<|.ref e::us) (λr s'=>r=.none/\Q (.done<|.ret<|.ref e) s') E {heap:=h',gens:=g,drawn:=d,toks:=t,os:=os}):wpAny 28 A (Builtin.«type.__call__» ⟨.ref C::us,[]⟩) Q E {heap:=h,gens:=g,drawn:=d,toks:=t,os:=os}:=by have x':=x;obtain⟨a1,a2,a3,a4,a5,a6,a7,a8,a9,b1,b2,b3,b4,b5,b6,e⟩:=x';have F:=PySem.F.excBase_ValueError;(repeat first|with_reducible refine jr e ?_|with_reducible refine wpAny_madeBy_exc e ?_|wp_step);refine codeAny_call_builtin_code (nH _ F.quiet)<|zwa U x ?_;refine z3i U x hz ?_;show wpAny 28 _ _ _ _ _;have O:∀b o,h.get? b=85->((h.push {cls:=.type 118,data:=.seq us.toArray}).push {cls:=.ref C,data:=.fields #[.ref 123,.none,.none,.none,.bool 94,.none]}).get? b=85:=λb o q=>aX _ (aX _ q);(have j:((h.push {cls:=.type 118,data:=.seq us.toArray}).push {cls:=.ref C,data:=.fields #[.ref 123,.none,.none,.none,.bool 94,.none]}).get? (123+1)=some {cls:=.ref C,data:=.fields #[.ref 123,.none,.none,.none,.bool 94,.none]}:=by heap_get);have ht:((h.push {cls:=.type 118,data:=.seq us.toArray}).push {cls:=.ref C,data:=.fields #[.ref 123,.none,.none,.none,.bool 94,.none]}).get? 123=some {cls:=.type 118,data:=.seq us.toArray}:=aX _ (Heap.get?_push_at Z Z);have L:Heap.MadeExcOf h ((h.push {cls:=.type 118,data:=.seq us.toArray}).push {cls:=.ref C,data:=.fields #[.ref 123,.none,.none,.none,.bool 94,.none]}) (123+1) (.ref C) us:=⟨O,mF<|fk _,123,j,mF<|aB _,ht⟩;have W:=k _ _ (fk _) L;have S:=O _ _ e;have J:=lk.keeps O;have B:=λself=>(Y self).keeps O;generalize(h.push {cls:=.type 118,data:=.seq us.toArray}).push {cls:=.ref C,data:=.fields #[.ref 123,.none,.none,.none,.bool 94,.none]}=h1 at j W S J B;(have cC:(Value.ref C::bm).contains (.ref C)=true:=by simp);unfold isInstance;(repeat first|with_reducible refine jr j ?_|with_reducible refine pG S ?_;rw[cC]|wp_step);show wpAny 28 _ (typeLookup (.ref C) _) _ _ _;refine J.at<|dS<|ah<|(B _).at ?_;refine ah<|cT W (λr s' hr=>?_) λ_ _ z=>z;obtain⟨rfl,q⟩:=hr;wp_walk;exact q
theorem zza(U:f9 bm)(x:oK h C bm)(hz:109<=89)(J:PySem.W.Looks 28 h (typeLookup (.ref C) "__init__") (some<|vI))(j:∀self,PySem.W.Looks 28 h (bindSpecial (vI) self) (vI,[self]))(k:∀h' e,123<=e->Heap.MadeExcOf h h' e (.ref C) us->wpAny 28 (A.under<|.builtin "type.__call__" ⟨.ref C::us,[]⟩) (call (vI)<|.ref e::us) (λr s'=>r=.none/\Q (.ref e) s') E {heap:=h',gens:=g,drawn:=d,toks:=t,os:=os}):wpAny 28 A (call (.ref C) us) Q E {heap:=h,gens:=g,drawn:=d,toks:=t,os:=os}:=by have L:=x;obtain⟨O,S,W,Y,a5,a6,a7,a8,a9,b1,b2,b3,b4,b5,b6,e⟩:=L;have f1:=tc_lookup;have f2:=tc_bind (.ref C);have hT:({heap:=h,gens:=g,drawn:=d,toks:=t,os:=os}:aF).TypeIs (.ref C) "type":=⟨_,e,Z⟩;refine f6<|nM<|show wpAny 28 _ (callAny (.ref C) _) _ _ _ from ?_;(repeat any_goals first|assumption|with_reducible refine jr e ?_|wp_step);refine⟨Z,codeAny_call_builtin_at (nH _ 50) entry_typeCall<|wpAny_check_type_call_sub e<|zwb U x hz J j λh' q hs B=>?_⟩;exact k h' q hs B
end
section
variable{prog:bD}{w:World}{A:Around}{E:aP}{s:aF}{env:Env}{bm:List au}
theorem zso(U:f9 bm)(S:125=none)(k:wpAny 28 A y (λv j=>∃e C oe vs,v=.ref e/\oK j.heap C bm/\j.heap.get? e=some oe/\oe.cls=.ref C/\oe.data=.fields vs/\vs[1]?=some .none/\E (.ref e) j) E s):wpAny 28 A (raiseStmt env (some y) none) Q E s:=by unfold raiseStmt;refine ah<|cT k (λv j k1=>?_) λ_ _ z=>z;obtain⟨e,C,oe,vs,rfl,⟨W,Y,a3,a4,a5,a6,a7,a8,a9,b1,b2,b3,b4,b5,b6,o⟩,O,J,L,h1,B⟩:=k1;have q:=Ey (C:=C) U.b;obtain⟨hp,g,d,tk,os⟩:=j;(repeat first|with_reducible refine jr O ?_;rw[J]|with_reducible refine jr o ?_|with_reducible refine pG o ?_;rw[q]|wp_step);rw[L];refine av ?_;rw[h1];refine av ?_;rw[ao 82];exact av<|wpAny_raiseNew_none S B
theorem zsp(U:f9 bm)(hh:125=none)(B:starEach (a::as) env=(false,eval a env)::starEach as env)(O:(backTo cD<|starEach as env).any (·.1)=94)(k:wpAny 28 A (eval (.Name x np) env) (λf W=>f=.ref C/\wpAny 28 A (spliced<|backTo cD<|starEach (a::as) env) (λus j=>109<=89/\oK j.heap C bm/\PySem.W.Looks 28 j.heap (typeLookup (.ref C) "__init__") (some<|vI)/\(∀self,PySem.W.Looks 28 j.heap (bindSpecial (vI) self) (vI,[self]))/\∀h' e,108<=e->Heap.MadeExcOf j.heap h' e (.ref C) us->wpAny 28 (A.under<|.builtin "type.__call__" ⟨.ref C::us,[]⟩) (call (vI)<|.ref e::us) (λr L=>r=.none/\∃oe vs,oK L.heap C bm/\L.heap.get? e=some oe/\oe.cls=.ref C/\oe.data=.fields vs/\vs[1]?=some .none/\E (.ref e) L) E {j with heap:=h'}) E W) E s):wpAny 28 A (exec (.Raise (some<|.Call (.Name x np) (a::as) [] cD) none pos) env) Q E s:=by rw[arm_exec_Raise];simp only[evalOpt,Option.map];refine ah<|ku<|zso U hh<|ah<|cT (wpAny_Call_ofName<|cT k (λf W k1=>?_) λ_ _ z=>z) (λv L k3=>ah<|ku<|av k3) λ_ _ z=>z;obtain⟨rfl,k1⟩:=k1;unfold callWith;(have J:(backTo cD<|starEach (a::as) env).any (·.1)=94:=by rw[B];show(94||(backTo cD<|starEach as env).any (·.1))=94;rw[O];rfl);rw[B]at k1⊢;refine ah<|dS<|nD<|cT k1 (λus j k2=>ah<|ku ?_) λ_ _ z=>z;obtain⟨hz,Y,lk,bd,go⟩:=k2;obtain⟨hp,g,d,tk,os⟩:=j;rw[B]at J;simp only[J];have S:=Y;obtain⟨a1,a2,a3,a4,a5,a6,a7,a8,a9,b1,b2,b3,b4,b5,b6,o⟩:=S;refine ah<|wpAny_keeperOf_exc o ?_;refine ah<|zza U Y hz lk bd λh' e hs hm=>cT (go h' e hs hm) (λr L q=>?_) λ_ _ z=>z;obtain⟨r0,oe,vs,q⟩:=q;exact⟨r0,ah<|dS<|wpAny_point<|av ⟨e,C,oe,vs,Z,q⟩⟩
end
theorem QO(h:o.data=.fields vs)f:Obj.mapFields f o={o with data:=.fields (f vs)}:=by obtain⟨c,d,j,q⟩:=o;cases h;rfl
structure wj (fs:List ai) (e T:ai) (xs:List ai) (oe:Obj) (vs:Array au) (h h':Heap):Prop where
  keep:∀b o,b≠e->b ∉ fs->b ∉ xs->h.get? b=some o->h'.get? b=some o
  slot:∀b o,b∈fs->h.get? b=some o->∃sl,h'.get? b=some { o with slots:=sl }
  new:h.get? T=none
  exc:h'.get? e=some { oe with data:=.fields (vs.setIfInBounds 1 (.ref T)) }
  ent:∃oT ts,h'.get? T=some oT/\oT.data = .fields ts/\ts[3]? = some .none
section
variable{M:Model}{A:Around}{E:aP}{s:aF}
theorem iG(W:A.frames=some (env::outer))(hl:s.heap.FunFrames base (env::outer))(hf:env.frame=some L)(he:s.heap.get? e=some oe)(S:oe.data=.fields vs)(hz:1<vs.size)(k:∀h',wj (jP<|env::outer) e 19 [] oe vs 91 h'->Q () {s with heap:=h'}):wpAny M A (do let a←frameOf env;let pl←entryPlaceOf L nx;let b←EntryCells.newEntry j a .none (rawInt L) .none pl;setField (.ref e) 1 b) (λ_ s'=>wpAny M A (setFlight (.ref e) none) Q E s') E s:=by have nf:∀b∈jP (env::outer),∃o,104=85/\∀us,o.data≠.fields us:=λb B=>(hl.mem B).2;(have ne:e∉jP (env::outer):=λhm=>by obtain⟨o,ho,Y⟩:=nf e hm;rw[he]at ho;cases ho;exact Y vs S);refine ah<|wpAny_frameOf_fun W hl hf λh1 s1=>?_;obtain⟨z1,k1,u1⟩:=s1;refine ah<|wpAny_entryPlaceOf λpl mX=>?_;unfold EntryCells.newEntry newFields;refine ah<|cQ ?_<|mX.sizeOk5 _ _ _ _ _;have e1:h1.get? e=some oe:=(k1 e ne).trans he;generalize hN:({cls:=.type "traceback",dict:=none,data:=.fields ([j,.ref L,.none,rawInt L,.none]++(if pl.isEmpty then List.replicate 6 112 else pl)).toArray}:Obj)=N;(have J:N.data=.fields ([j,.ref L,.none,rawInt L,.none]++(if pl.isEmpty then List.replicate 6 112 else pl)).toArray:=by rw[←hN]);generalize iS:([j,.ref L,.none,rawInt L,.none]++(if pl.isEmpty then List.replicate 6 112 else pl)).toArray=ts at J;(have zt:3<ts.size:=by rw[←iS];simp);have fN:N.isFreed=94:=jf J;have e2:=aX (h:=h1) N e1;refine gh e2 S hz ?_;have Te:h1.objs.size≠e:=gR (aE e1);have U:=d9 (Obj.mapFields (·.setIfInBounds 1<|Value.ref h1.objs.size)) e2 (jf<|gJ S _);rw[QO S]at U;have t3:=(dP (h1.push N) (Obj.mapFields (·.setIfInBounds 1<|Value.ref h1.objs.size))<|aG Te).trans (aV h1 fN);unfold setFlight;refine ah<|dh U Z (x:=.ref h1.objs.size) (by simp[hz]) ?_;rw[ak (show(Value.ref h1.objs.size !=112)=true from by simp)];refine gh t3 J zt<|k _ ?_;have t4:=d9 (Obj.mapFields (·.setIfInBounds 3<|(none:Option ai).elim 112 λf=>rawInt f)) t3 (jf<|gJ J _);(have O:∀b o,b≠e->h1.get? b=85->(((h1.push N).update e (Obj.mapFields (·.setIfInBounds 1<|Value.ref h1.objs.size))).update h1.objs.size (Obj.mapFields (·.setIfInBounds 3<|(none:Option ai).elim 112 λf=>rawInt f))).get? b=85:=λb o B q=>by rw[dP _ _ (gR<|aE q),dP _ _ (aG B)];exact aX _ q);existsλb o B Y _ q=>O b o B<|(k1 b Y).trans q,λb o B q=>?_,mF<|aB _,?_;{obtain⟨sl,q1⟩:=u1 b o q;exact⟨sl,O b _ (λz=>ne<|z▸B) q1⟩};{rw[dP _ _ Te,U,z1]};{rw[←z1];exact⟨_,_,t4,gJ J _,by simp[zt]⟩}
theorem zpc(j:A.frames=some (env::outer))(O:s.heap.FunFrames base (env::outer))(J:env.frame=some L)(B:s.heap.get? e=some oe)(q:oe.data=.fields vs)(h1:vs[1]?=some .none)(k:∀h',wj (jP<|env::outer) e 19 [] oe vs 91 h'->Q () {s with heap:=h'}):wpAny M A (leaving env<|.ref e) Q E s:=by unfold leaving noteFrame;simp only[J];refine ah<|ah<|dh B q h1 ?_;rw[ao 82];exact iG j O J B q (iW.mp h1).1 k
theorem zsq(U:A.frames=some (env::outer))(hl:s.heap.FunFrames base (env::outer))(hf:env.frame=some L)(he:s.heap.get? e=some oe)(Y:oe.data=.fields vs)(h1:vs[1]?=some (.ref T))(O:s.heap.get? T=some oT)(J:oT.data=.fields ts)(W:ts[3]?=some .none)(ne:T≠e)(k:∀h',wj (jP<|env::outer) e 19 [T] oe vs 91 h'->Q () {s with heap:=h'}):wpAny M A (leaving env<|.ref e) Q E s:=by unfold leaving noteFrame;simp only[hf];refine ah<|ah<|dh he Y h1 ?_;rw[ak (show(Value.ref T !=112)=true from by simp)];refine ah<|dh O J W ?_;rw[ao (show¬((112==rawInt L)=true)from by simp[rawInt])];have z3:=(iW.mp W).1;refine ah<|gh O J z3 ?_;have B:∀b,b≠T->(s.heap.update T (Obj.mapFields (·.setIfInBounds 3 112))).get? b=104:=λb j=>dP _ _ (aG j);have self:=d9 (Obj.mapFields (·.setIfInBounds 3 112)) O (jf<|gJ J _);(have nf:T∉jP (env::outer):=λhm=>by obtain⟨_,o,ho,S⟩:=hl.mem hm;rw[O]at ho;cases ho;exact S ts J);have sz:(s.heap.update T (Obj.mapFields (·.setIfInBounds 3 112))).objs.size=19:=Heap.size_after_update ..;refine iG (s:={s with heap:=s.heap.update T (Obj.mapFields (·.setIfInBounds 3 112))}) U (hl.of_keeps λb o j S=>⟨o,(B b λz=>?_).trans j,Z⟩) hf ((B e ne.symm).trans he) Y (iW.mp h1).1 λh' G=>?_;{subst z;rw[O]at j;cases j;exact S ts J};{have e1:(s.heap.update T (Obj.mapFields (·.setIfInBounds 3 112))).objs.size=19:=sz;have G:=G;dsimp only at G;rw[e1]at G;refine k h' ⟨λb o j S hx q=>G.keep b o j S 81<|(B b λz=>hx (by simp[z])).trans q,λb o j q=>G.slot b o j<|(B b λz=>nf (z▸j)).trans q,mF<|aB _,G.exc,G.ent⟩}
end
def QS(H:Hp)(j h:Heap)(e:ai)(cls:au)(dc:Option ai):Prop:=∃oe B T q ts,h.get? e=some oe/\oe.cls=cls/\oe.dict=dc/\oe.data=.fields B/\B[1]?=some (.ref T)/\T≠e/\h.get? T=some q/\q.data=.fields ts/\ts[3]?=some .none/\H e=none/\H T=none/\j.objs.size<=e/\j.objs.size<=T
def z8w(H:Hp)(q h:Heap)(e:ai)(cls:au)(dc:Option ai):Prop:=∃oe j,h.get? e=some oe/\oe.cls=cls/\oe.dict=dc/\oe.data=.fields j/\j[1]?=some .none/\H e=none/\q.objs.size<=e
def yz(P:bD)(w:World):vK:=λj H s E u s'=>∃e cls dc H',u=.ref e/\s'.os=s.os/\AllBare s'.gens/\Un (jP j) [] H H' 91 s'.heap/\j4 P w H' s'.heap/\QS H' 91 s'.heap e cls dc/\E cls dc H'
def qN(X:Cx)(E:XK):Prop:=X.xe=(λu s'=>wpAny 83 X.A (leaving 106 u) (λ_ j=>yz 126 X.w X.outer X.qC X.dB E u j) (λq j=>yz 126 X.w X.outer X.qC X.dB E q j) s')/\X.stack=106::X.outer/\X.env.frame=some 119/\X.ex=[]
theorem Hi{K:aC}:qN (oE (yz P w) P w K mg base N j scope f q A outer s H E) E:=⟨Z,Z,Z,Z⟩
section
variable{X:Cx}{pins:bA}{σ:St}{H:Hp}{s:aF}{E:XK}{e:ai}{cls:au}{dc:Option ai}
theorem QT(I:55)(x:qN X E)(G:wj (jP<|106::X.outer) e T xs oe vs 91 h')(hc:oe.cls=cls)(Y:oe.dict=dc)(hz:1<vs.size)(He:H e=none)(nz:131<=e)(J:∀b∈xs,H b=none/\131<=b)(W:T≠e)(hsz:19<=T)(hE:E cls dc H):yz 126 X.w X.outer X.qC X.dB E (.ref e) {s with heap:=h'}:=by obtain⟨x1,x2,x3,O⟩:=x;have ne:X.dB.heap.get? e=none:=mF nz;have hx:∀b∈xs,H b=none/\X.dB.heap.get? b=none:=λb B=>⟨(J b B).1,mF (J b B).2⟩;have nL:∀b o,X.dB.heap.get? b=85->b≠119:=λb o q z=>absurd (aE q) (Nat.not_lt.mpr<|z▸I.ok.above);(have fr:∀b,b∈jP (106::X.outer)->b=119\/b∈jP X.outer:=λb B=>by unfold jP at B;rw[jl,x3]at B;exact aM.mp B);(have U:∀b,b∈jP X.outer->b∈jP (106::X.outer):=λb B=>by unfold jP;rw[jl,x3];exact aZ _ B);have j:∀b o,X.dB.heap.get? b=85->b≠e/\b∉xs:=λb o q=>⟨λz=>(by rw[z,ne]at q;cases q),λz=>(by rw[(hx b z).2]at q;cases q)⟩;have HT:H T=none:=I.bG.fresh hsz;(have sf:∀b∈jP (106::X.outer),H b=none:=by have:=I.mV;rw[x2]at this;z_go);refine⟨e,cls,dc,H,Z,I.os,I.bare,?_,?_,?_,hE⟩;{refine⟨λb o q n L _=>?_,λb o q n L _=>?_,λb o q n _=>I.base.free b o q n (by rw[O];simp),λb o q _=>?_,I.base.mK,I.base.lZ,I.base.mL⟩;{exact G.keep b o (j b o q).1 (λz=>(fr b z).elim (nL b o q) L) (j b o q).2<|I.base.keep b o q n L (by rw[O];simp)};{obtain⟨sl,z⟩:=I.base.slot b o q n L (by rw[O];simp);obtain⟨Ir,z'⟩:=G.slot b _ (U b L) z;exact⟨Ir,z'⟩};{obtain⟨o',z⟩:=I.base.there b o q (by rw[O];simp);by_cases B:b∈jP (106::X.outer);{obtain⟨sl,z'⟩:=G.slot b _ B z;exact⟨_,z'⟩};{exact⟨_,G.keep b _ (j b o q).1 B (j b o q).2 z⟩}}};{intro a o q;refine(I.bG a o q).fC (λb u B z=>?_) (λ_ z=>z) λ_ _ z=>z;(have S:H b≠none:=by rcases B with z|z;{rw[z,q];simp};{rw[z];simp});exact G.keep b u (λz=>S<|z▸He) (λz=>S<|sf b z) (λz=>S (hx b z).1) z};{obtain⟨oT,ts,t1,t2,t3⟩:=G.ent;refine⟨_,_,T,oT,ts,G.exc,hc,Y,Z,by simp[hz],W,t1,t2,t3,He,HT,nz,bF I.sz hsz⟩}
theorem zzb(I:55)(x:qN X E)(r:z8w H X.dB.heap 91 e cls dc)(L:E cls dc H):X.xe (.ref e) s:=by obtain⟨oe,vs,B,S,j,U,h1,J,W⟩:=r;have Y:=x;obtain⟨x1,x2,x3,x4⟩:=Y;rw[x1];have q:=I.ok.frames;have st:=I.stack;rw[x2]at q st;exact zpc q st x3 B U h1 λh' G=>QT I x G S j (iW.mp h1).1 J W (λb O=>absurd O 81) (gR<|aE B) (aB _) L
theorem z6u(I:55)(x:qN X E)(r:QS H X.dB.heap 91 e cls dc)(Y:E cls dc H):X.xe (.ref e) s:=by obtain⟨oe,vs,T,oT,ts,L,hc,q,hd,h1,j,hT,U,W,S,O,ne,nT⟩:=r;have x':=x;obtain⟨x1,x2,x3,x4⟩:=x';rw[x1];have B:=I.ok.frames;have st:=I.stack;rw[x2]at B st;refine zsq B st x3 L hd h1 hT U W j λh' G=>QT I x G hc q (iW.mp h1).1 S ne (λb J=>?_) (gR<|aE L) (aB _) Y;rw[cL]at J;subst J;exact⟨O,nT⟩
theorem z8x(x:qN X E):xR (yz 126 X.w) X E:=by intro pins σ H s u s' I h;obtain⟨e,cls,dc,H',rfl,os,j,un,J,W,hE⟩:=h;have S:=I.sZ os un J j (ch:=[]) (λb z=>absurd z 81);obtain⟨oe,vs,T,oT,ts,he,hc,B,hd,h1,q,hT,U,Y,O,L,ne,nT⟩:=W;exact z6u S x ⟨oe,vs,T,oT,ts,he,hc,B,hd,h1,q,hT,U,Y,O,L,bF I.sz ne,bF I.sz nT⟩ hE
end
def qO(P:bD)(w:World)(K:aC)(mg:Str->Option au)(base:Heap)(x:Str)(ps:88)(k:Nat)(sp:Sp):Prop:=∃f fd,mg x=some (.ref f)/\PySem.W.keepIn K (.ref f)=true/\(∃q od j,K.lookup f=some ⟨q,od,.func fd,j⟩)/\(∀us,109=127->bindArgs fd ⟨us,[]⟩=pure (ps.zip us))/\kD P w K mg base (yz P w) k f fd ps sp
section
variable{P:bD}{w:World}{K:aC}{mg:Str->Option au}{base:Heap}
theorem Df.Bg{st:Stmt}(D:Df K mg x st ps)(S:aA N ps (zp st))(B:∀vs H Q E,sp vs H Q E->vs.length=127)(body:∀f j A outer s H vs Q E,cI k (A.deeper<|envOfC x (zp st) 19 f j)->sp vs H Q E->∃t,qo (oE (yz P w) P w K mg base N x (zp st) f j A outer s H E) (vP st) t/\t {nx:=λ_ H'=>Q .cz H',rt:=Q} (start N vs) H):qO P w K mg base x ps (k+1) sp:=by obtain⟨f,fd,F,a,b⟩:=D;obtain⟨U,od,kV,O,pm,W,j,Y,J,e,L,q⟩:=id F.ex;k_go;exact⟨f,_,a,F.kp,⟨U,od,J,L⟩,b,Nz L q S B<|body f j⟩
theorem qO.good(F:qO P w K mg base x ps k sp)(h:∀vs H Q E,L vs H Q E->sp vs H Q (λ_ _ _=>False)):fB P w K mg base x ps k L:=by obtain⟨f,fd,a,kp,lk,b,G⟩:=F;refine⟨f,fd,a,kp,lk,b,λvs H Q E q=>G.len _ _ _ _<|h _ _ _ _ q,λA j s H B us vs Q E W U S Y hs=>?_⟩;refine fH (G.run A j s H B us vs Q _ W U S Y<|h _ _ _ _ hs) λr s' J=>?_;cases r with|ok O=>(cases O with|ret u=>exact J|next=>exact False.elim J|brk=>exact False.elim J|cont=>exact False.elim J)|error e=>obtain⟨_,_,_,_,_,_,_,_,_,_,z⟩:=J;exact z.elim
end
section
variable{X:Cx}{k:Nat}{ps:88}{sp:Sp}{E:XK}{C:ai}{m x:Str}{p pos apos:Pos}{o e:Expr}{es:List Expr}{t:TA}{ta:TE}
theorem QU(F:qO 126 X.w X.K X.mg X.base x ps k sp)(xe:qN X E)(O:cI k X.A)(L:Gl X x)(B:PA X (e::es) t)(j:(x==("__debug__":Str))=94:=by walk)(J:starEach (e::es) 106=(false,eval e 106)::103:=by rfl)(q:(backTo pos 103).any (·.1)=94:=by rfl):PE X (.Call (.Name x p) (e::es) [] pos) (Gh sp [] E t):=by obtain⟨f,fd,a,S,_,b,G⟩:=F;exact Nr G O L a S (.all b) .nil (z8x xe) B j J q
end
section
variable{prog:bD}{w:World}{A:Around}{E:aP}{h:Heap}{g:Array GenState}{d:Drawn}{t:Nat}{os:OsState}{C:ai}{bm:List au}
theorem zsr(U:f9 bm)(x:oK h C bm)(B:h.get? e=some oe)(q:oe.cls=.ref C)(k:Q () {heap:=h,gens:=g,drawn:=d,toks:=t,os:=os}):wpAny M A (checkBuiltinCall "ValueError.__init__" ⟨.ref e::us,[]⟩) Q E {heap:=h,gens:=g,drawn:=d,toks:=t,os:=os}:=by obtain⟨J,L,O,S,W,Y,a7,a8,a9,b1,b2,b3,b4,b5,b6,o⟩:=x;have F:=PySem.F.excBase_ValueError;have j:=Ey (C:=C) U.v;have hs:=F.noStar;simp only[checkBuiltinCall,F.initKind,F.initSplit,F.initRow];(repeat first|with_reducible refine jr B ?_;rw[q]|with_reducible refine jr o ?_|with_reducible refine pG o ?_;rw[j]|wp_step);refine lX ?_;have st:∀(a b:String)(n:Nat),Bind.check ⟨.positional,"*","ValueError",.self,[⟨"args",.varPos,94⟩]⟩ a b n (List.map (λx=>x.fst) ({pos:=Value.ref e::us}:Args).kw)=pure ():=λa b n=>check_star_args _ _ _ _ _ _;rw[st];exact av k
theorem z8y(U:f9 bm)(x:oK h C bm)(hz:109<=89)(O:h.get? e=some oe)(Y:oe.cls=.ref C)(B:oe.data=.fields vs)(L:vs[0]?=some (.ref t0))(k:∀h',(∀b o,b≠e->h.get? b=85->h'.get? b=85)->h'.get? e=some {oe with data:=.fields (vs.setIfInBounds 0<|.ref 123)}->Q .none {heap:=h',gens:=g,drawn:=d,toks:=t,os:=os}):wpAny 28 A (call (.builtin "ValueError.__init__")<|.ref e::us) Q E {heap:=h,gens:=g,drawn:=d,toks:=t,os:=os}:=by have F:=PySem.F.excBase_ValueError;refine f6<|jX F.init.plain F.initEntry<|zsr U x O Y ?_;unfold Builtin.«BaseException.__init__»;wp_walk;rw[B];refine av ?_;rw[L];refine av<|ah ?_;have j:=aX (h:=h) {cls:=.type 118,data:=.seq us.toArray} O;have z0:=(iW.mp L).1;refine gh j B z0 ?_;have J:=d9 (Obj.mapFields (·.setIfInBounds 0<|Value.ref 123)) j (jf<|gJ B _);rw[QO B]at J;have S:=k _ (λb o W q=>(dP _ _<|aG W).trans<|aX _ q) J;wp_walk;exact S
end
def xB:List au->Bool|[.type a,.type b,.type c,.type d]=>a=="ValueError"&&(b=="Exception"&&(c=="BaseException"&&d=="object"))|.ref _::r=>xB r|_=>false
theorem QV:∀{l},xB l=true->l=[.type "ValueError",.type "Exception",.type "BaseException",.type "object"]\/∃c r,l=.ref c::r/\xB r=true|[.type a,.type b,.type c,.type d],e=>by simp only[xB,c9,gU]at e;obtain⟨rfl,rfl,rfl,rfl⟩:=e;exact .inl Z|.ref c::r,e=>.inr ⟨c,r,Z,by unfold xB at e;exact e⟩
theorem QW self:∀{l},xB l=true->refuseLoop self "__setattr__" l=pure ()|[],e=>by cases e|v::r,e=>by rcases QV e with h|⟨c,q,h,j⟩;{rw[h];exact PySem.F.store_ValueError.passes self};{cases h;rw[refuseLoop_ref];exact QW self j}
theorem QX:∀{l},xB l=true->l.contains (.type "object")=true|[],e=>by cases e|v::r,e=>by rcases QV e with h|⟨c,q,h,j⟩;{rw[h];kt_k};{cases h;rw[List.contains_cons,QX j,Bool.or_true]}
def Lq(K:aC)(C:ai):Bool:=(PySem.W.clsIn K C).any λj=>xB j.mro
structure uB (K:aC) (C:ai):Prop where
  hd:PySem.W.hasDictIn K C=true
  po:Lq K C=true
  sa:PySem.W.findIn K (.ref C) "__setattr__" = some (some (.builtin "object.__setattr__"))
section
variable{prog:bD}{w:World}{A:Around}{E:aP}{R:Result->aF->Prop}{s:aF}{K:aC}{x C:ai}{name:Str}{v:au}
theorem zwd{ox:Obj}{od:Option Obj}{tk:Tok}{r:Option au}(X:K.In 91)(I:PySem.W.InstAt 91 x ox C od)(hp:(PySem.W.clsIn K C).any (λJ=>xB J.mro)=true)(ht:PySem.W.takerIn K C name=some r)(h:∀b,wpAny 28 A.in1 (match r with|some a=>Builtin.ObjectAttr.setByDescriptor a (.ref x) v|none=>Builtin.ObjectAttr.storeInOwnDict (.ref x) (.ref C) (.str name tk) name v b) (λO s'=>match O with|.done f=>R (.ok f) s'|.again c'=>c'.quiet=true/\codeAny 28 A c' R s') (λe s'=>R (.error e) s') s):codeAny 28 A (.call (.builtin "object.__setattr__") ⟨[.ref x,.str name tk,v],[]⟩) R s:=by have B:=PySem.F.store_object;obtain⟨J,U,L⟩:=PySem.W.any_some hp;(have ne:J.mro.isEmpty=94:=by cases q:J.mro with|nil=>rw[q]at L;cases L|cons _ _=>rfl);have S:PySem.W.Looks 28 91 (isInstance (.ref x)<|.type "object") true:=I.type.andThen (PySem.W.looks_mroIn X (by unfold PySem.W.mroIn;rw[U,Option.bind_some,ao (by rw[ne];walk),QX L]));refine jX B.slot.plain B.entry<|@PySem.W.check_slot 28 _ _ s "object.__setattr__" "object" "__setattr__" (.ref x) [.str name tk,v] [] _ B.kind B.split S (B.args (.ref x) (.str name tk) v) ?_;obtain⟨j,ha,W⟩:=Option.bind_eq_some_iff.mp ht;have hm:PySem.W.Looks 28 91 (mroOf<|.ref C) J.mro:=(PySem.W.looks_clsIn X U).andThen .now;(have Y:PySem.W.Looks 28 91 (Builtin.ObjectAttr.storeTaker? j) r:=by cases j with|none=>cases W;exact .now|some a=>obtain⟨b,hb,rfl⟩:=Option.map_eq_some_iff.mp W;refine(PySem.W.looks_takesIn X hb).andThen ?_;cases b<;>exact .now);rw[PySem.W.osa_eq,refuse_eq];refine ah<|ah<|I.type.here<|ah<|hm.here ?_;rw[QW _ L];refine av<|ah<|I.type.here<|ah<|(PySem.W.looks_findIn X ha).here<|ah<|Y.here ?_;exact h _
theorem Lr(X:K.In 91)(S:s.heap.get? x=some oe)(B:oe.cls=.ref C)(L:oe.dict=none)(O:oe.data=.fields vs)(c:uB K C)(ht:PySem.W.takerIn K C name=some none)(h:∀h' tk,(∀b o,b≠x->104=85->h'.get? b=85)->h'.get? x=some {oe with dict:=some 19}->h'.Ns1 19 (λy=>if y=name then some v else none)->Q () {s with heap:=h',toks:=tk}):wpAny 28 A (setAttr (.ref x) name v) Q E s:=by have J:PySem.W.InstAt 91 x oe C none:=⟨S,B,by unfold PySem.W.notCls;rw[O],by rw[L];trivial⟩;refine PySem.W.set_plain X J c.sa<|zwd (s:={s with toks:=124+1}) (r:=none) X J c.po ht λb=>?_;obtain⟨cd,hc,hd'⟩:=PySem.W.any_some c.hd;obtain⟨oc,od,odt,BW⟩:=oe;dsimp only at B L O;subst B L O;refine ah<|av<|ah<|ah<|wpAny_loadPart S<|ah<|PySem.W.Looks.here (s:={s with toks:=124+1}) (PySem.W.looks_clsIn X hc) ?_;rw[hd'];have j:(s.heap.push {cls:=.type "dict",data:=.dict #[]}).get? x=some {cls:=Value.ref C,data:=Data.fields vs,slots:=BW}:=aX _ S;have W:x≠19:=aS (aE S);rw[ao 82];show wpAny 28 _ (if(!true||!typeHasDict (Value.ref C))=true then pure none else _) _ _ _;rw[ao (by simp[typeHasDict])];refine ah<|wpAny_alloc' ?_;refine ah<|wpAny_update' j ?_;refine av ?_;have hgd:((s.heap.push {cls:=.type "dict",data:=.dict #[]}).update x λo=>{cls:=o.cls,dict:=some 19,data:=o.data,slots:=o.slots}).get? 19=some {cls:=.type "dict",data:=.dict #[]}:=(Heap.get?_update_ne _ _ _ _ W.symm).trans (Heap.get?_push_at Z Z);have hnd:((s.heap.push {cls:=.type "dict",data:=.dict #[]}).update x λo=>{cls:=o.cls,dict:=some 19,data:=o.data,slots:=o.slots}).Ns 19 (λ_=>none):=⟨_,#[],_,hgd,Z,λe S=>absurd S 81,λ_=>Z⟩;show wpAny _ _ (Builtin.ObjectAttr.storeInDict 19 (.str name 124) name v) _ _ _;unfold Builtin.ObjectAttr.storeInDict Builtin.ObjectAttr.newKeyGuard;refine ah<|av<|ah<|wpAny_nsSet1 (Heap.Ns1.of_empty hnd) λh' U hs=>?_;obtain⟨oD,esD,epD,hoD,hdD,Y⟩:=U.count (Within.cons name v Within.nil);refine ah<|wpAny_lookBehind hoD (by rw[hdD];exact pastItsLine_dict<|bF Y (by rw[cR,List.length_nil,gB];lia)) ?_;refine av<|h h' _ (λb o hb q=>?_) ?_ U;{exact(hs.2 b<|aS<|aE q).trans<|(Heap.get?_update_ne _ _ _ _ hb).trans<|aX _ q};{exact(hs.2 x W).trans<|d9 _ j Z}
end
def ia(e C:ai)(dc:Option ai):HO:=.ext λh=>∃oe j q,h.get? e=some oe/\oe.cls=.ref C/\oe.dict=dc/\oe.data=.fields j/\j[0]?=some (.ref q)/\j[1]?=some .none
section
variable{X:Cx}{pins:bA}{σ:St}{H:Hp}{s:aF}{a C:ai}{dc:Option ai}{f:Str}{A:Around}{E:aP}
theorem Ls(h1:h.get? a=some oe)(h2:oe.cls=.ref C)(J:oe.dict=dc)(L:oe.data=.fields vs)(O:vs[0]?=some (.ref t0))(S:vs[1]?=some .none):bQ P w H h a (ia a C dc):=⟨⟨oe,vs,t0,h1,h2,J,L,O,S⟩,⟨oe,h1⟩,λY g2⟨j,B,q,U,W⟩k=>⟨j,B,q,k _ U,W⟩⟩
theorem zpe(I:55)(e:H a=some (ia a C none))(c:uB X.K C)(n:cA X.K C f)(ry:RelV y u)(h:∀d s',H d=none->Inv X pins σ (upd (upd H d<|.xd [(f,y)]) a<|ia a C<|some d) s'->Q () s'):wpAny 83 A (setAttr 98 f u) Q E s:=by obtain⟨⟨oe,vs,t0,h1,h2,h3,L,h5,h6⟩,_,_⟩:=(show bQ 126 X.w H 91 a (ia a C none)from I.bG a _ e);refine Lr I.iM h1 h2 h3 L c n.zC λh' tk k S O=>?_;have hd:=I.bG.fresh (aB 19);have B:19≠a:=gR (aE h1);have fr:oe.isFreed=94:=jf L;have u1:(h'.update a λ_=>oe).get? a=some oe:=d9 _ S fr;have U:∀b,b≠a->(h'.update a λ_=>oe).get? b=h'.get? b:=λb j=>dP _ _ (aG j);have W:=I.laid (a:=19) (o:=.xd [(f,y)]) (h':=h'.update a λ_=>oe) (t':=tk) (λb o q=>by by_cases j:b=a;{subst j;rw[h1]at q;cases q;exact u1};{rw[U b j];exact k b o j q}) (aB _) ⟨_,O.at λo q=>by rw[U _ B];exact q,λg=>by by_cases J:g=f;{rw[ak J];subst J;rw[pP,pQ];exact ry};{rw[ao J,pP,gI.mpr J];exact True.intro}⟩;have Y:=W.write (x:=a) (e:=a) (o:=ia a C (some 19)) (h':=h') (t':=tk) (by rw[zi B.symm,e];exact True.intro) (.inl Z) (λb o j q=>by rw[U b j]at q;exact q) ⟨_,S⟩ (Ls S h2 Z L h5 h6);exact h _ _ hd Y
end
structure zW (K:aC) (D:ai):Prop where
  rd:PySem.W.readsIn K D (.type "type")=true
  ga:PySem.W.specialIn K (.ref D) "__getattribute__" = some (some (.builtin "type.__getattribute__"))
  fc:PySem.W.findCls K (.ref D) (.type "type") "__init__" = some (.val (.builtin "ValueError.__init__"))
def oZ(K:aC)(C:ai)(bm:List au):Prop:=∃nm q N bs j W J L B dd O k1 k2 S U,K.lookup C=some (excClassObj nm q C N bs bm j W J L B dd O k1 k2 S U "ValueError.__new__")
theorem oZ.in{K:aC}(x:oZ K C bm)(X:K.In h):oK h C bm:=by obtain⟨j,q,B,J,L,O,S,U,W,Y,b2,b3,b4,b5,b6,e⟩:=x;exact⟨j,q,B,J,L,O,S,U,W,Y,b2,b3,b4,b5,b6,X _ _ e⟩
def z6v(K:aC)(t:TA):TE:=λσ H Q=>t σ H λxs H1=>∃a C dc bm rest,xs=98::rest/\H1 a=some (ia a C dc)/\oZ K C bm/\f9 bm/\rest.length<=89/\Q .cz H1
def z8z(K:aC)(ta tv:TE)(f:Str):TS:=λD σ H=>tv σ H λy H1=>ta σ H1 λx H2=>∃a C,x=98/\H2 a=some (ia a C none)/\uB K C/\cA K C f/\∀d,H2 d=none->D.nx σ (upd (upd H2 d<|.xd [(f,y)]) a<|ia a C<|some d)
theorem z6w(h:H a=85):upd H a o=H:=by funext b;unfold upd;by_cases e:b=a;{rw[ak e,e,h]};{rw[ao e]}
section
variable{X:Cx}{o e value:Expr}{es:List Expr}{x f:Str}{p pos pos' apos:Pos}{ta tv:TE}{t:TA}{D:ai}
theorem QY(S:PE X o ta)(W:PE X value tv)(hs:swapsWith value (some<|.Attribute o f pos') pos.line 106=pure 94):PS X (.Assign [.Attribute o f pos'] value pos) (z8z X.K ta tv f):=by intro pins s σ H D I h;refine plainObj_wpAny_Assign_Attribute (bR (W pins s σ H _ I h) λu s1⟨y,H1,B,ry,q⟩=>bR (S pins s1 σ H1 _ B q) λY s2 j=>?_) hs;obtain⟨x,H2,J,rx,a,C,ex,O,c,n,q2⟩:=j;subst ex;obtain rfl:Y=Value.ref a:=rx;exact zpe J O c n ry λd s3 U L=>⟨σ,_,L,q2 d U⟩
theorem zzc{σ:St}(I:55)(e:H a=some (ia a C dc))(xo:oZ X.K C bm)(U:f9 bm)(hz:109<=89)(q:Q .cz H):wpAny 83 X.A (call (.builtin "ValueError.__init__")<|98::us) (EP X pins σ Q) X.xe s:=by obtain⟨⟨oe,vs,t0,h1,h2,L,O,B,S⟩,_,_⟩:=(show bQ 126 X.w H 91 a (ia a C dc)from I.bG a _ e);obtain⟨Y,g,d,tk,os⟩:=s;refine z8y U (xo.in I.iM) hz h1 h2 O B λh' k J=>?_;have z0:=(iW.mp B).1;have j:=I.write (x:=a) (e:=a) (o:=ia a C dc) (h':=h') (t':=tk) (by rw[e];exact True.intro) (.inl Z) (λb o W z=>k b o W z) ⟨_,J⟩ (Ls (t0:=Y.objs.size) J h2 L Z (by simp[z0]) (by rw[Array.getElem?_setIfInBounds_ne 82];exact S));rw[z6w e]at j;exact⟨.cz,H,j,Z,q⟩
theorem QZ {pl:Sem Bool}(hg:Gl X x) (hm:X.mg x=some (.ref D)) (b:zW X.K D) (ha:PA X (e::es) t) (j:(x == ("__debug__" : Str))=false:=by decide)
    (L:starEach (e::es) X.env=(false,eval e X.env)::starEach es X.env:=by rfl) (B:(backTo pos (starEach es X.env)).any (·.1)=false:=by rfl)
    (ht:eval (.Call (.Attribute (.Name x p) "__init__" apos) (e::es) [] pos) X.env=(do
      let W ←eval (.Name x p) X.env
      standAt apos.atName
      let (f,first) ←holding [W] (getMethod W "__init__" pl)
      callWith pos f first (backTo pos (starEach (e::es) X.env)) (backToKw pos (keywordEach [] X.env))):=by rfl) :
    PE X (.Call (.Attribute (.Name x p) "__init__" apos) (e::es) [] pos) (z6v X.K t):=by
  intro pins s σ H Q I h
  refine PySem.W.methodCall_KW (pl:=pl) (xJ I hg hm ?_ j) ht
  refine PySem.W.method_cls I.iM b.ga (PySem.W.cls_value I.iM b.rd b.fc (by decide +kernel) ?_)
  have S:=ha pos pins _ σ H _ (I.tok (s.toks+1)) h
  rw[L] at S ⊢
  refine ny (by show (false||(backTo pos (starEach es X.env)).any (·.1))=false;rw[B]<;>rfl) (nD ?_)
  refine bR S fun us s2 J=>?_
  obtain⟨vs,H2,Y,O,a,C,dc,bm,rest,ev,ea,xo,U,hz,q⟩:=J
  subst ev
  cases O with
  | cons r1 O=>
    cases r1
    exact zzc Y ea xo U (by rw[←O.length];exact hz) q
end
def del(H:Hp)(e:ai):Hp:=λb=>if b=e then none else H b
theorem Lu:del H e e=none:=by unfold del;rw[ak Z]
theorem Bh(h:b≠e):del H e b=H b:=by unfold del;rw[ao h]
structure XMk (K:aC) (C f:ai) (bm:List au):Prop where
  obj:oZ K C bm
  un:f9 bm
  init:PySem.W.findIn K (.ref C) "__init__" = some (some (.ref f))
  fn:PySem.W.isFn K (.ref f)=true
section
variable{X:Cx}{pins:bA}{σ:St}{H:Hp}{s:aF}
theorem Inv.drop(I:55)(j:H e=some (.ext J)):Inv X pins σ (del H e) s:=by refine I.un (h':=91) (t':=124) ⟨λ_ _ q _ _ _=>q,λb o q _ _ _=>⟨o.slots,q⟩,λb o _ n _=>?_,λb o q _=>⟨o,q⟩,λb xs q=>?_,λb o u q=>?_,λb ps q=>⟨#[],?_⟩⟩ λa o q=>?_;{by_cases z:b=e;{rw[z];exact Lu};{rw[Bh z];exact n}};{rw[Bh (λz=>by rw[z,j]at q;cases q)];exact q};{rw[Bh (λz=>by rw[z,j]at q;cases q)];exact q};{rw[Bh (λz=>by rw[z,j]at q;cases q),Array.append_empty];exact q};{(have B:a≠e:=λz=>by rw[z,Lu]at q;cases q);rw[Bh B]at q;refine(I.bG a o q).fC (λ_ _ _ z=>z) (λb z=>?_) λb xs z=>?_;{rw[Bh (λw=>by rw[w,j]at z;cases z)];exact z};{rw[Bh (λw=>by rw[w,j]at z;cases z)];exact z}}
end
def Q0(C:ai)(sp:Sp)(kT:99)(E E1:XK)(t:TA):TS:=λ_ σ H=>t σ H λj H1=>∀e,H1 e=none->sp (.ref e::(j++kT)) (upd H1 e<|ia e C none) (λv H2=>v=.cz/\∃dc,H2 e=some (ia e C dc)/\E (.ref C) dc (del H2 e)) E1
section
variable{X:Cx}{CX:vK}{k:Nat}{f C:ai}{fd:FuncData}{ps:88}{sp:Sp}{kT:99}{ds:List au}{E E1:XK}{x:Str}{p pos cD:Pos}{e:Expr}{es:List Expr}{t:TA}{bm:List au}
theorem zzd(M:XMk X.K C f bm)(F:kD 126 X.w X.K X.mg X.base CX k f fd ps sp)(hr:cI (k+1) X.A)(xe:qN X E)(hx:xR CX X E1)(hg:Gl X x)(hm:X.mg x=some (.ref C))(hb:Binds X.K fd ps ds)(hd:Vals kT ds)(uw:127<=1000)(ha:PA X (e::es) t)(W:(x==("__debug__":Str))=94:=by walk)(he:starEach (e::es) 106=(false,eval e 106)::103:=by rfl)(Y:(backTo cD 103).any (·.1)=94:=by rfl):PS X (.Raise (some<|.Call (.Name x p) (e::es) [] cD) none pos) (Q0 C sp kT E E1 t):=by intro pins s σ H D I h;refine zsp (vI:=.ref f) M.un hr.hd he Y<|xJ I hg hm ⟨Z,bR (ha cD pins s σ H _ I h) λus s2 tD=>?_⟩ W;obtain⟨vs,H1,B,r,q⟩:=tD;have fr:∀a,s2.heap.objs.size<=a->H1 a=none:=λa h=>B.bG.fresh h;have q0:=q _ (fr _<|aB _);have l0:=F.len _ _ _ _ q0;rw[cR,bN]at l0;have rl:=r.length;refine⟨by rw[gB];lia,M.obj.in B.iM,PySem.W.looks_findIn B.iM M.init,λO=>PySem.W.bind_fn B.iM O<|gU.mp M.fn,λh' ex hs L=>?_⟩;have hq:=q ex (fr ex hs);obtain⟨t0,h1,_,_⟩:=L.there;have S:=B.laid (a:=ex) (o:=ia ex C none) (h':=h') (t':=s2.toks) L.keeps hs (Ls h1 Z Z Z Z Z);have r2:Vals (V.ref ex::(vs++kT)) (Value.ref ex::(us++ds)):=.cons Z (r.append hd);(have hl:(Value.ref ex::us++ds).length=127:=by have e:=r2.length;rw[F.len _ _ _ _ hq]at e;exact e.symm);refine f6<|fH (F.run _ X.stack _ _ ⟨Value.ref ex::us,[]⟩ (Value.ref ex::(us++ds)) _ _ E1 (hr.make C us []) (S.xQ.make C us []) (hb _ (Value.ref ex::us) S.iM hl) r2 hq) λr s' j=>?_;cases r with|error e=>exact hx pins σ _ _ e s' S j|ok fl=>cases fl with|ret u=>obtain⟨v,H',U,rv,ev,dc,J,hE⟩:=S.after j;subst ev;obtain⟨⟨oe,ws,t1,g1,g2,g3,g4,g5,g6⟩,_,_⟩:=(show bQ 126 X.w H' s'.heap ex (ia ex C dc)from U.bG ex _ J);have I4:=U.drop J;exact⟨rv,oe,ws,M.obj.in U.iM,g1,g2,g4,g6,zzb I4 xe ⟨oe,ws,g1,g2,g3,g4,g6,Lu,bF B.sz hs⟩ hE⟩|next=>exact False.elim j|brk=>exact False.elim j|cont=>exact False.elim j
end
section
variable{M:Model}{A:Around}{E:aP}{s:aF}
theorem zwg(U:A.frames=some (env::outer))(hl:s.heap.FunFrames base (env::outer))(hf:env.frame=some L)(he:s.heap.get? e=some oe)(Y:oe.data=.fields vs)(h1:vs[1]?=some (.ref T))(O:s.heap.get? T=some oT)(J:oT.data=.fields ts)(W:ts[3]?=some .none)(ne:T≠e)(k:∀h',wj (jP<|env::outer) e 19 [T] oe vs 91 h'->Q () {s with heap:=h'}):wpAny M A (noteFrame (.ref e) env) (λ_ s'=>wpAny M A (setFlight (.ref e) none) Q E s') E s:=by unfold noteFrame;simp only[hf];refine ah<|dh he Y h1 ?_;rw[ak (show(Value.ref T !=112)=true from by simp)];refine ah<|dh O J W ?_;rw[ao (show¬((112==rawInt L)=true)from by simp[rawInt])];have z3:=(iW.mp W).1;refine ah<|gh O J z3 ?_;have B:∀b,b≠T->(s.heap.update T (Obj.mapFields (·.setIfInBounds 3 112))).get? b=104:=λb j=>dP _ _ (aG j);have self:=d9 (Obj.mapFields (·.setIfInBounds 3 112)) O (jf<|gJ J _);(have nf:T∉jP (env::outer):=λhm=>by obtain⟨_,o,ho,S⟩:=hl.mem hm;rw[O]at ho;cases ho;exact S ts J);have sz:(s.heap.update T (Obj.mapFields (·.setIfInBounds 3 112))).objs.size=19:=Heap.size_after_update ..;refine iG (s:={s with heap:=s.heap.update T (Obj.mapFields (·.setIfInBounds 3 112))}) U (hl.of_keeps λb o j S=>⟨o,(B b λz=>?_).trans j,Z⟩) hf ((B e ne.symm).trans he) Y (iW.mp h1).1 λh' G=>?_;{subst z;rw[O]at j;cases j;exact S ts J};{have e1:(s.heap.update T (Obj.mapFields (·.setIfInBounds 3 112))).objs.size=19:=sz;have G:=G;dsimp only at G;rw[e1]at G;refine k h' ⟨λb o j S hx q=>G.keep b o j S 81<|(B b λz=>hx (by simp[z])).trans q,λb o j q=>G.slot b o j<|(B b λz=>nf (z▸j)).trans q,mF<|aB _,G.exc,G.ent⟩}
end
def Met(X:Cx)(pins:bA)(H:Hp)(h:Heap)(e:ai)(cls:au)(dc:Option ai):Prop:=∃oe q T j ts,h.get? e=some oe/\oe.cls=cls/\oe.dict=dc/\oe.data=.fields q/\q[1]?=some (.ref T)/\T≠e/\h.get? T=some j/\j.data=.fields ts/\ts[3]?=some .none/\gF X pins H e/\gF X pins H T
section
variable{X:Cx}{pins:bA}{σ:St}{H:Hp}{s:aF}{E:XK}
theorem z3j(I:55)(x2:X.stack=106::X.outer)(x3:X.env.frame=some 119)(h:yz 126 X.w X.stack H s E u s')(k:∀e cls dc H' h',u=.ref e->Inv X pins σ H' {s' with heap:=h'}->Met X pins H' h' e cls dc->E cls dc H'->Q () {s' with heap:=h'}):wpAny 83 X.A (noteFrame u 106) (λ_ s1=>wpAny 83 X.A (setFlight u none) Q E' s1) E' s':=by obtain⟨e,cls,dc,H',rfl,os,O,un,B,fl,hE⟩:=h;have J:=I.sZ os un B O (ch:=[]) (λb z=>absurd z 81);obtain⟨oe,vs,T,oT,ts,he,hc,hdc,hd,h1,Y,hT,dT,h3,He,HT,ne,nT⟩:=fl;have fr:=J.ok.frames;have st:=J.stack;rw[x2]at fr st;refine zwg fr st x3 he hd h1 hT dT h3 Y λh' G=>?_;have F1:gF X pins H' e:=I.mP ne He;have F2:gF X pins H' T:=I.mP nT HT;(have sf:∀b∈jP (106::X.outer),H' b=none:=by have:=J.mV;rw[x2]at this;z_go);(have U:Un (jP X.stack) [e,T] H' H' s'.heap h':=by rw[x2];refine⟨λb o q n nf L=>G.keep b o (λz=>L (by simp[z])) nf (λz=>L (by rw[cL.mp z];simp)) q,λb o q n j L=>G.slot b o j q,λb o q n _=>n,λb o q L=>?_,λ_ _ z=>z,λ_ _ _ z=>z,λ_ ps z=>⟨#[],by rw[Array.append_empty];exact z⟩⟩;by_cases j:b∈jP (106::X.outer);{obtain⟨sl,z⟩:=G.slot b o j q;exact⟨_,z⟩};{exact⟨o,G.keep b o (λz=>L (by simp[z])) j (λz=>L (by rw[cL.mp z];simp)) q⟩});(have S:j4 126 X.w H' h':=λa o q=>by refine(B a o q).fC (λb u j z=>?_) (λ_ z=>z) λ_ _ z=>z;(have W:H' b≠none:=by rcases j with z|z;{rw[z,q];simp};{rw[z];simp});exact G.keep b u (λz=>W<|z▸He) (λz=>W<|sf b z) (λz=>W (by rw[cL.mp z];exact HT)) z);(have I2:Inv X pins σ H' {s' with heap:=h'}:=J.sZ (s':={s' with heap:=h'}) (ch:=[e,T]) Z U S J.bare λb j=>by(have F:gF X pins H' b:=by rcases aM.mp j with z|z;{rw[z];exact F1};{rw[cL.mp z];exact F2});exact⟨F.2.2.2.1,F.2.1,F.2.2.2.2.1,F.2.2.2.2.2⟩);obtain⟨oT',Bj,t1,t2,t3⟩:=G.ent;have hTn:s'.heap.objs.size≠e:=gR (aE he);exact k e cls dc H' h' Z I2 ⟨_,_,s'.heap.objs.size,oT',Bj,G.exc,hc,hdc,Z,by simp[(iW.mp h1).1],hTn,t1,t2,t3,F1,J.mP (aB _)<|B.fresh<|aB _⟩ hE
end
structure qk (K:aC) (D:ai):Prop where
  nt:PySem.W.instIn K (.ref D) (.type "tuple")=some false
  ty:PySem.W.isClsIn K D=true
  ex:PySem.W.mroIn K D (.type "BaseException")=some true
section
variable{M:Model}{A:Around}{E:aP}{s:aF}{K:aC}{e C D:ai}{oe:Obj}{b:Bool}
theorem zze(X:K.In 91)(U:s.heap.get? e=some oe)(j:oe.cls=.ref C)(q:qk K D)(hs:PySem.W.mroIn K C (.ref D)=some b)(h:Q b s):wpAny M A (excMatches (.ref e)<|.ref D) Q E s:=by have B:=PySem.W.looks_instIn (M:=M) X q.nt;have J:=PySem.W.looks_mroIn (M:=M) X q.ex;have L:=PySem.W.looks_mroIn (M:=M) X hs;have O:PySem.W.Looks M 91 (typeOf<|.ref e) (.ref C):=j▸(PySem.W.Looks.ld U).andThen .now;unfold excMatches;refine ah<|B.here ?_;fin2;rw[ao 82];refine ah<|av ?_;simp only[ju,nO];(have S:PySem.W.Looks M 91 (isExcClass<|.ref D) true:=by unfold isExcClass;refine PySem.W.Looks.andThen (a:=true) ?_ ?_;{obtain⟨c,j⟩:=Option.isSome_iff_exists.mp q.ty;unfold PySem.W.clsIn at j;split at j;{rename_i W;exact(PySem.W.Looks.ld (part:=_)<|X _ _ W).andThen .now};{cases j}};{exact J});refine ah<|ah<|ah<|S.here ?_;rw[ao 82];refine av<|av<|ah<|O.here<|ah<|ah<|ah<|L.here ?_;cases b with|true=>rw[ak Z];exact av<|av<|av h|false=>rw[ao 82];exact av<|av<|av h
end
section
variable{X:Cx}{pins:bA}{σ:St}{H:Hp}{s:aF}
theorem Inv.Ez(I:55)(f:gF X pins H a)(xe:X.ex=[])(Y:bQ 126 X.w (upd H a o) 91 a o):Inv X pins σ (upd H a o) s:=by obtain⟨j,O,f3,J,S,U⟩:=f;have J:131<=a:=J.resolve_left (by rw[xe];simp);refine⟨I.ok,I.os,I.bare,⟨I.base.keep,I.base.slot,λb B q n W=>?_,I.base.there,λb xs q=>?_,λb B u q=>?_,λb ps q=>?_⟩,I.loc,I.cell,?_,λx c z=>?_,λp L=>?_,λb B q=>?_,I.len⟩;{rw[zi (λz=>absurd (aE q)<|Nat.not_lt.mpr (by rw[z];exact J))];exact I.base.free b B q n W};{have:=I.base.mK b xs q;rw[zi (λz=>by rw[z,j]at this;cases this)];z_go};{have:=I.base.lZ b B u q;rw[zi (λz=>by rw[z,j]at this;cases this)];z_go};{obtain⟨m,this⟩:=I.base.mL b ps q;exists m;rw[zi (λz=>by rw[z,j]at this;cases this)];z_go};{rw[zi O.symm];exact I.free};{rw[zi (S x c z)];exact I.fT x c z};{obtain⟨q1,q2,q3,q4,q5⟩:=I.pin p L;exact⟨q1,by rw[zi (U p L)];exact q2,q3,q4,q5⟩};{by_cases z:b=a;{subst z;rw[zb]at q;cases q;exact Y};{rw[zi z]at q;refine(I.bG b B q).fC (λ_ _ _ z=>z) (λc w=>?_) λc xs w=>?_;{rw[zi (λz=>by rw[z,j]at w;cases w)];exact w};{rw[zi (λz=>by rw[z,j]at w;cases w)];exact w}}}
theorem Hj(I:55)(hN:X.N.Nodup)(hi:X.N[i]?=some n)(hl:X.env.scope.names.lookup n=some .local)(h:∀s',Inv X pins (σ.set i none) H s'->Q () s'):wpAny M A (do bindName 106 n .none;unbindBehindTheSuite 106 n pos) Q E s:=by(have S:(X.env.scope.kind==.class||(X.env.scope.kind==.module&&119 !=X.env.globals))=94:=by rw[I.ok.kind];rfl);refine ah<|wpAny_bindName<|BK I hN hi (.inl hl) (v:=.cz) Z (λs1 B=>?_)<|.inr hl;unfold unbindBehindTheSuite;refine lX ?_;unfold unbindName;refine ah<|wpAny_point<|ah ?_;unfold deleteName;obtain⟨m,hn,U⟩:=id B.loc;have W:X.env.kindOf n=some .local:=hl;simp only[W,S];rw[ao 82];(have Q2:i<(σ.set i<|some V.cz).length:=by rw[B.len];exact(cE.mp hi).1);obtain⟨u,ru,lu⟩:=U i n .cz hi (by rw[o9 (by simpa using Q2)]) (.inl hl);(have mn:(m n).isSome=true:=by rcases lu with⟨_,z⟩|⟨z,_⟩;{rw[z];rfl};{rw[W]at z;rcases z with z|z<;>cases z});refine ah<|wpAny_nsDel_keeps hn λh2 v xX J=>?_;rw[mn];simp only[gW,Bool.not_true,jm,fK];refine av<|wpAny_point<|h _ ?_;have O:=B.yY;obtain⟨oL,_,_,M1,_⟩:=id hn;refine⟨B.ok,B.os,B.bare,⟨λb o e n hb Y=>?_,λb o e n hb Y=>?_,B.base.free,λb o e Y=>?_,B.base.mK,B.base.lZ,B.base.mL⟩,⟨_,xX,λj y v' L e2 e3=>?_⟩,λy c e=>?_,B.free,B.fT,λp hp=>?_,λb ob e=>?_,by simpa using I.len⟩;{exact(J.2 b<|aS<|dm (aE e) B.ok.above).trans<|B.base.keep b o e n hb Y};{obtain⟨sl,L⟩:=B.base.slot b o e n hb Y;exact⟨sl,(J.2 b<|aS<|dm (aE e) B.ok.above).trans L⟩};{obtain⟨o',L⟩:=B.base.there b o e Y;exact⟨o',(J.2 b<|aS<|dm (aE e) B.ok.above).trans L⟩};{(have hj:j≠i:=λz=>by subst z;rw[o9 (by simpa using Q2)]at e2;cases e2);rw[pC (aG hj)]at e2;obtain⟨u',r',q⟩:=U j y v' L (by rw[pC (aG hj)];exact e2) e3;exists u',r';rcases q with⟨k,z⟩|⟨k,c,z1,z2⟩;{refine .inl ⟨k,?_⟩;have:y≠n:=λz=>hj (Iu hN L<|z▸hi);simp[this,z]};{exact .inr ⟨k,c,z1,z2.sameBut J<|O y c z1⟩}};{obtain⟨w',z⟩:=B.cell y c e;exact⟨w',z.sameBut J<|O y c e⟩};{obtain⟨e,n,ne,nf,d⟩:=B.pin p hp;exact⟨(J.2 p.1 ne).trans e,n,ne,nf,d⟩};{refine(B.bG b ob e).fC (λc w' hc q=>(J.2 c ?_).trans q) (λ_ q=>q) λ_ _ q=>q;rintro rfl;rcases hc with rfl|hc;{rw[B.free]at e;cases e};{rw[B.free]at hc;cases hc}}
end
def Cx.tS(X:Cx)(pn:bA)(xe:aP):Cx:={X with pn:=pn,xe:=xe}
def Cx.nc(X:Cx)(v:au)(xe:aP):Cx:={X with A:=X.A.mark (some v),calm:=false,xe:=xe}
structure Q3 (X:Cx):Prop where
  st:X.stack=X.env::X.outer
  fr:X.env.frame=some X.env.locals
  ex:X.ex = []
def Q4(X:Cx)(Es:St->XK):Prop:=∀pins(σ:St)H s u s',55->yz 126 X.w X.stack H s (Es σ) u s'->X.xe u s'
def se(e C:ai)(dc:Option ai):HO:=.ext λh=>∃oe j,h.get? e=some oe/\oe.cls=.ref C/\oe.dict=dc/\oe.data=.fields j
abbrev TH:=Ends->St->ai->Option ai->Hp->Prop
def PH(X:Cx)(hs:List ExceptHandler)(th:TH):Prop:=∀pins s(σ:St)H D e C dc,55->Met X pins H 91 e (.ref C) dc->th D σ C dc H->wpAny 83 X.A (handleBy (.ref e) 106 hs) (SP X pins D) X.xe s
def z9a:TH:=λ_ _ _ _ _=>False
def Q5(i:Nat)(D:Ends):Ends:={nx:=λσ H=>D.nx (σ.set i none) H,rt:=D.rt,bk:=λσ H=>D.bk (σ.set i none) H,ct:=λσ H=>D.ct (σ.set i none) H}
def Lv(K:aC)(i:Nat)(Dc:ai)(ts:TS)(Hl:TH):TH:=λD σ C dc H=>∃b,PySem.W.mroIn K C (.ref Dc)=some b/\if b=true then∀e,H e=none->ts (Q5 i D) (σ.set i<|some<|.ref e) (upd H e<|se e C dc)else Hl D σ C dc H
def Lw(tb:(St->XK)->TS)(th:TH):TS:=λD σ H=>tb (λj cls dc H'=>∃C,cls=.ref C/\th D j C dc H') D σ H
def z6z(sp:Sp)(kT:99)(Es:St->XK)(t:TA):TE:=λσ H Q=>t σ H λj H1=>sp (j++kT) H1 Q (Es σ)
section
variable{X:Cx}{pins:bA}{σ:St}{H:Hp}{s:aF}
theorem Q6(I:55):Inv (X.nc v xe) pins σ H s:=⟨⟨I.ok.mod,I.ok.kind,I.ok.glob,I.ok.blt,I.ok.above,I.ok.inj,I.ok.has,I.ok.Al,(λz=>absurd z bC),I.ok.frames,I.ok.BJ,I.ok.FU,I.ok.bs,I.ok.vc,I.ok.qD,I.ok.tZ,I.ok.kK,I.ok.xH⟩,I.os,I.bare,I.base,I.loc,I.cell,I.free,I.fT,I.pin,I.bG,I.len⟩
theorem Ho(j:X.Ok)(I:Inv (X.nc v xe) pins σ H s):55:=⟨j,I.os,I.bare,I.base,I.loc,I.cell,I.free,I.fT,I.pin,I.bG,I.len⟩
theorem z3k(I:55):Inv (X.tS (X.pn++pins) xe) [] σ H s:=⟨⟨I.ok.mod,I.ok.kind,I.ok.glob,I.ok.blt,I.ok.above,I.ok.inj,I.ok.has,I.ok.Al,I.ok.hd,I.ok.frames,I.ok.BJ,I.ok.FU,I.ok.bs,I.ok.vc,I.ok.qD,I.ok.tZ,I.ok.kK,I.ok.xH⟩,I.os,I.bare,I.base,I.loc,I.cell,I.free,I.fT,λp j=>I.pin p<|(bJ.mp j).elim id λz=>absurd z 81,I.bG,I.len⟩
theorem EA(B:X.Ok)(I:Inv (X.tS (X.pn++pins) xe) j σ H s):55:=⟨B,I.os,I.bare,I.base,I.loc,I.cell,I.free,I.fT,λp q=>I.pin p<|ir _ q,I.bG,I.len⟩
end
section
variable{X:Cx}{CX:vK}{k i:Nat}{f Dc:ai}{ps:88}{sp:Sp}{x n:Str}{p pos nY:Pos}{e:Expr}{es:List Expr}{t:TA}{Es:St->XK}{EB:Stmt}{zX body:List Stmt}{h₀:ExceptHandler}{rest hs:List ExceptHandler}{ts:TS}{Hl th:TH}{tb:(St->XK)->TS}
theorem z7a(F:qO 126 X.w X.K X.mg X.base x ps k sp)(xe:Q4 X Es)(hr:cI k X.A)(hg:Gl X x)(Y:PA X (e::es) t)(J:(x==("__debug__":Str))=94:=by walk)(he:starEach (e::es) 106=(false,eval e 106)::103:=by rfl)(L:(backTo pos 103).any (·.1)=94:=by rfl):PE X (.Call (.Name x p) (e::es) [] pos) (z6z sp [] Es t):=by obtain⟨f,fd,a,kp,_,b,G⟩:=F;intro pins s σ H Q I h;refine lJ<|xJ I hg a ?_ J;refine PySem.W.callWith_K (h₀:=X.base) I.ok.mod.xG kp (bR (Y pos pins s σ H _ I h) λus O⟨U,H1,j,r,q⟩=>⟨j.iM,?_⟩) he L;have S:Vals (U++[]) (us++[]):=r.append .nil;(have hl:(us++[]).length=127:=by rw[←S.length];exact G.len _ _ _ _ q);refine f6<|fH (G.run X.A X.stack O H1 ⟨us,[]⟩ (us++[]) (U++[]) Q (Es σ) hr j.xQ ((Binds.all b) O us j.iM hl) S q) λr s' B=>?_;cases r with|error e=>exact xe pins σ H1 O e s' j B|ok W=>cases W with|ret u=>exact j.after B|next=>exact False.elim B|brk=>exact False.elim B|cont=>exact False.elim B
theorem z7b(x:Q3 X)(hb:∀pn xe Es,Q4 (X.tS pn xe) Es->qo (X.tS pn xe) body (tb Es))(hh:PH X (h₀::hs) th):PS X (.Try body (h₀::hs) [] [] pos) (Lw tb th):=by intro pins s σ H D I h;refine wpAny_Try_except ?_;refine cT (hb (X.pn++pins) (λe B=>wpAny 83 X.A (noteFrame e 106) (λ_ L=>wpAny 83 X.A (setFlight e none) (λ_ O=>wpAny 83 X.A (handleBy e 106<|h₀::hs) (SP X pins D) X.xe O) X.xe L) X.xe B) (λj cls dc H'=>∃C,cls=.ref C/\th D j C dc H') (λY j H' s' u Gs I' S=>?_) [] s σ H D (z3k I) h) (λfl s1 q=>?_) λ_ _ z=>z;{refine z3j (EA I.ok I') x.st x.fr S λe cls dc H2 h' hu I2 W hE=>?_;subst hu;obtain⟨C,rfl,U⟩:=hE;exact hh pins _ j H2 D e C dc I2 W U};{cases fl with|next=>obtain⟨j,H',J,q⟩:=q;exact nK ⟨j,H',EA I.ok J,q⟩|brk=>obtain⟨j,H',J,q⟩:=q;exact⟨j,H',EA I.ok J,q⟩|cont=>obtain⟨j,H',J,q⟩:=q;exact⟨j,H',EA I.ok J,q⟩|ret u=>obtain⟨v,j,H',J,r,q⟩:=q;exact⟨v,j,H',EA I.ok J,r,q⟩}
theorem z7c:PH X [] z9a:=λ_ _ _ _ _ _ _ _ _ _ h=>h.elim
theorem Q7(xf:Q3 X)(hg:Gl X x)(hm:X.mg x=some (.ref Dc))(cd:qk X.K Dc)(S:X.N.Nodup)(hi:X.N[i]?=some n)(O:X.env.scope.names.lookup n=some .local)(hsu:∀v xe,qo (X.nc v xe) (EB::zX) ts)(hr:PH X rest Hl)(hdb:(x==("__debug__":Str))=94:=by walk):PH X (.ExceptHandler (some<|.Name x p) (some n) (EB::zX) nY::rest) (Lv X.K i Dc ts Hl):=by intro pins s σ H D e C dc I met h;obtain⟨oe,vs,T,oT,tvs,he,hc,W,hd,h1,U,hT,dT,h3,F1,F2⟩:=met;obtain⟨b,B,h⟩:=h;refine wpAny_handleBy_cons (codeAny_handlers_test<|xJ (X:=X.nc (.ref e) X.xe) (Q6 I) hg hm ?_ hdb) (by intro q;cases q);refine zze (K:=X.K) I.iM he hc cd B ?_;cases b with|false=>rw[ao 82]at h;exact hr pins s σ H D e C dc I ⟨oe,vs,T,oT,tvs,he,hc,W,hd,h1,U,hT,dT,h3,F1,F2⟩ h|true=>rw[ak Z]at h;refine codeAny_handlers_suite_as ?_;refine wpAny_setFlight_none he hd h1 hT dT (iW.mp h3).1 ?_;have Q8:∀b,b≠T->(s.heap.update T (Obj.mapFields (·.setIfInBounds 3 .none))).get? b=104:=λb B=>dP _ _ (aG B);(have I1:Inv X pins σ H {s with heap:=s.heap.update T (Obj.mapFields (·.setIfInBounds 3 .none))}:=I.kX (t':=124) (ch:=[T]) (λb o B q=>by rw[Q8 b (λz=>B (by simp[z]))];exact q) λb B=>by rw[cL.mp B];exact F2);have Y:=(Q8 e U.symm).trans he;have I2:=I1.Ez (a:=e) (o:=se e C dc) F1 xf.ex ⟨⟨oe,vs,Y,hc,W,hd⟩,⟨oe,Y⟩,λg1 g2⟨oe',vs',q1,q2⟩kk=>⟨oe',vs',kk _ q1,q2⟩⟩;refine BK I2 S hi (.inl O) (v:=.ref e) Z (λs2 I3=>?_)<|.inr O;refine bR (hsu (.ref e) _ pins s2 _ _ (Q5 i D) (Q6 I3)<|h e F1.1) λfl s3 q=>?_;cases fl with|next=>obtain⟨L,H',J,q⟩:=q;exact Hj (Ho I.ok J) S hi O λs5 j=>⟨_,H',j,q⟩|brk=>obtain⟨L,H',J,q⟩:=q;exact Hj (Ho I.ok J) S hi O λs5 j=>⟨_,H',j,q⟩|cont=>obtain⟨L,H',J,q⟩:=q;exact Hj (Ho I.ok J) S hi O λs5 j=>⟨_,H',j,q⟩|ret u=>obtain⟨v,L,H',J,r,q⟩:=q;exact Hj (Ho I.ok J) S hi O λs5 j=>⟨v,_,H',j,r,q⟩
end
end L2
namespace L2
def EC(K:aC)(C:PySem.Addr):Prop:=∃bm,oZ K C bm/\f9 bm
end L2
namespace L2
open PySem
def Hq(K:aC)(C:ai):Bool:=match K.lookup C with|some ⟨.type t,_,.cls j,q⟩=>t=="type"&&((match j.mro with|.ref c::bm=>c==C&&(bm.contains (.type "ValueError")&&(bm.contains (.type "BaseException")&&(!bm.contains (.type "AttributeError")&&!bm.contains (.type "NameError"))))|_=>false)&&(!j.hasDel&&(match q.toList with|[_,_,_,_,some (.builtin i),_]=>i=="ValueError.__new__"|_=>false)))|_=>false
theorem z7e(h:Hq K C=true):EC K C:=by unfold Hq at h;split at h;{rename_i t dd j sl W;rw[c9,c9,c9]at h;obtain⟨h1,h2,B,q⟩:=h;split at h2;{rename_i c bm J;split at q;{rename_i Y k1 k2 k3 i k5 hs;simp only[c9,gU,Bool.not_eq_true']at h1 h2 B q;obtain⟨rfl,L,O,S,U⟩:=h2;subst h1 q;refine⟨bm,⟨j.name,j.qualname,j.ns,j.bases,j.hasDict,j.slotNames,j.subclasses,j.abstract,j.collection,dd,Y,k1,k2,k3,k5,?_⟩,⟨L,O,S,U⟩⟩;rw[W];obtain⟨x1,x2,x3,x4,x5,x6,x7,x8,x9,y1,y2⟩:=j;dsimp only at J B;subst J B;obtain⟨l⟩:=sl;dsimp only at hs;subst hs;rfl};{cases q}};{cases h2}};{cases h}
end L2
namespace L2
open PySem PySem.Spec PyProof.Rows
structure uC (K:aC) (C:ai):Prop where
  ga:PySem.W.findIn K (.ref C) "__getattribute__" = some (some (.builtin "BaseException.__getattribute__"))
  gn:PySem.W.findIn K (.ref C) "__getattr__" = some none
  bx:PySem.W.mroIn K C (.type "BaseException")=some true
  hd:PySem.W.hasDictIn K C=true
section
variable{prog:bD}{w:World}{A:Around}{E:aP}{s:aF}{K:aC}{x C:ai}{ox:Obj}{od:Option Obj}{name:Str}{v:au}{expr:Bool}{Q:aP}
theorem zwh{Qf:Prop}(X:K.In 91)(I:PySem.W.InstAt 91 x ox C od)(g:uC K C)(h:wpAny 28 A.in1 (Builtin.«object.__getattribute__» ⟨[.ref x,.str name 124],[]⟩) (λj s'=>match j with|.done (.ret v)=>wpAny (28) A (handedOut v) Q E s'|_=>False) (λ_ _=>False) {s with toks:=124+1}):wpAny 28 A (getAttr (.ref x) name expr) Q E s:=by have q:=PySem.F.attrBase_ValueError;refine ah<|wpAny_mkText<|dS<|ah<|I.type _ _ _ _ (λ_ _ e=>e)<|ah<|PySem.W.looks_findIn X g.ga _ _ _ _ (λ_ _ e=>e) ?_;fin2;rw[show(onTheHeap (Value.ref C)&&Value.builtin "BaseException.__getattribute__"==Value.builtin "object.__getattribute__")=94 from by rw[show(Value.builtin "BaseException.__getattribute__"==Value.builtin "object.__getattribute__")=94 from by kt_k,nQ],ao 82];refine ah<|PySem.W.looks_hook (mc:=.ref C) X (r:=none) (by rw[ak (show onTheHeap (Value.ref C)=true from rfl)];exact g.gn) _ _ _ _ (λ_ _ e=>e)<|ah<|gA<|dS ?_;unfold callGetattribute;rw[show(expr&&onTheHeap (Value.builtin "BaseException.__getattribute__"))=94 from by cases expr<;>rfl,ao 82];unfold boundAndCalled;rw[q.ga.bind];refine ah<|av ?_;show wpAny _ _ (call (.builtin "BaseException.__getattribute__") [.ref x,.str name 124]) _ _ _;refine f6 ?_;refine jX q.ga.plain PySem.F.entry_bexc_ga ?_;refine@PySem.W.check_slot 28 _ _ {s with toks:=124+1} "BaseException.__getattribute__" "BaseException" "__getattribute__" (.ref x) [.str name 124] [] _ 50 50 (I.type.andThen<|PySem.W.looks_mroIn X g.bx) (PySem.F.args_bexc_ga (.ref x)<|.str name 124) ?_;refine cT h (λj s' z=>?_) λ_ _ z=>z.elim;rcases j with(_|_|_|_)|_<;>first|exact z|exact z.elim
theorem zss(X:K.In 91)(I:PySem.W.InstAt 91 x ox C od)(g:uC K C)(B:PySem.W.findObj K C od name=some (.value v))(J:PySem.W.handedIn v=true)(h:Q v {s with toks:=124+1}):wpAny 28 A (getAttr (.ref x) name expr) Q E s:=by refine zwh (Qf:=True) X I g ?_;obtain⟨L,g,d,t,os⟩:=s;have j:=I.type (M:=28);have q:=PySem.W.looks_find (M:=28) X I B;unfold Builtin.«object.__getattribute__»;refine ah<|av<|ah<|av<|ah<|j.at<|ah<|q.at ?_;refine av ?_;show wpAny _ _ (handedOut v) _ _ _;rw[PySem.W.handedOut_of J];exact av h
end
def Q9(K:aC)(ta:TE)(f:Str):TE:=λσ H Q=>ta σ H λx H1=>∃a C d fs v,x=98/\H1 a=some (se a C<|some d)/\H1 d=some (.xd fs)/\uC K C/\cA K C f/\fs.lookup f=some v/\Q v H1
section
variable{X:Cx}{pins:bA}{σ:St}{H:Hp}{s:aF}{a C d:ai}{fs:List (Str×V)}{f:Str}{v:V}{A:Around}{E:aP}
theorem zpf(I:55)(e:H a=some (se a C<|some d))(q:H d=some (.xd fs))(c:uC X.K C)(n:cA X.K C f)(l:fs.lookup f=some v)(h:∀u s',Inv X pins σ H s'->RelV v u->Q u s'):wpAny 83 A (getAttr 98 f b) Q E s:=by obtain⟨⟨oe,Y,h1,h2,B,L⟩,_,_⟩:=(show bQ 126 X.w H 91 a (se a C<|some d)from I.bG a _ e);obtain⟨mA,W,r⟩:=(show bQ 126 X.w H 91 d (.xd fs)from I.bG d _ q);obtain⟨u,U,j⟩:=gE.some_of (v:=v) (o:=mA f) (by rw[←l];exact r f);obtain⟨od,S,O⟩:=Nl W;have J:PySem.W.InstAt 91 a oe C (some od):=⟨h1,h2,by unfold PySem.W.notCls;rw[L],by rw[B];exact S⟩;exact zss I.iM J c (PySem.W.findObj_own c.hd n Z (by rw[O,U])) (Nn j)<|h u _ (I.tok _) j
end
section
variable{X:Cx}{e:Expr}{f:Str}{pos:Pos}{ta:TE}
theorem z3l(U:PE X e ta)(S:attributeBase e f 106 (eval e 106)=eval e 106):PE X (.Attribute e f pos) (Q9 X.K ta f):=by intro pins s σ H Q I h;refine Np S<|bR (U pins s σ H _ I h) λu s1 j=>?_;obtain⟨x,H1,B,Y,a,C,d,fs,v,ex,L,O,c,n,l,q⟩:=j;subst ex;obtain rfl:u=Value.ref a:=Y;exact zpf B L O c n l λu' s2 J W=>⟨v,H1,J,W,q⟩
end
end L2
namespace L2
open PySem
def yC(C:ai)(o:Obj):Bool:=(match o with|⟨.type t,_,.cls j,q⟩=>t=="type"&&((match j.mro with|.ref c::bm=>c==C&&(bm.contains (.type "ValueError")&&(bm.contains (.type "BaseException")&&(!bm.contains (.type "AttributeError")&&!bm.contains (.type "NameError"))))|_=>false)&&(!j.hasDel&&(match q.toList with|[_,_,_,_,some (.builtin i),_]=>i=="ValueError.__new__"|_=>false)))|_=>false)&&(match o.data with|.cls j=>xB j.mro|_=>false)
theorem Ra{dd:Option ai}(l:K.lookup C=some ⟨j,dd,.cls q,B⟩)(h:yC C ⟨j,dd,.cls q,B⟩=true):Hq K C=true/\Lq K C=true:=by unfold yC at h;rw[c9]at h;exists ?_;{unfold Hq;rw[l];cases j<;>first|exact h.1|have:=h.1;cases this};{unfold Lq PySem.W.clsIn;rw[l];exact h.2}
theorem tT{dd:Option ai}(l:K.lookup C=some ⟨j,dd,.cls q,B⟩)(h:yC C ⟨j,dd,.cls q,B⟩=true)(h1:PySem.W.hasDictIn K C=true)(h2:PySem.W.findIn K (.ref C) "__setattr__"=some (some<|.builtin "object.__setattr__")):uB K C:=⟨h1,(Ra l h).2,h2⟩
theorem wm{dd:Option ai}(l:K.lookup C=some ⟨j,dd,.cls q,B⟩)(h:yC C ⟨j,dd,.cls q,B⟩=true):EC K C:=z7e (Ra l h).1
end L2
namespace L2
open PySem PySem.Spec PyProof.Rows
section
variable{X:Cx}{k:Nat}{C:ai}{ps:88}{sp:Sp}{E:XK}{x:Str}{p pos cD:Pos}{e:Expr}{es:List Expr}{t:TA}
theorem Rb(M:kH 126 X.w X.K X.mg X.base C "__init__" ps k sp)(J:EC X.K C)(Y:cI (k+1) X.A)(xe:qN X E)(S:Gl X x)(W:X.mg x=some (.ref C))(B:127<=1000)(L:PA X (e::es) t)(j:(x==("__debug__":Str))=94:=by walk)(O:starEach (e::es) 106=(false,eval e 106)::103:=by rfl)(q:(backTo cD 103).any (·.1)=94:=by rfl):PS X (.Raise (some<|.Call (.Name x p) (e::es) [] cD) none pos) (Q0 C sp [] E (λ_ _ _=>False) t):=by obtain⟨f,fd,m,b,F⟩:=M;obtain⟨bm,J,U⟩:=J;exact zzd ⟨J,U,m.at_,m.fn⟩ F Y xe (λ_ _ _ _ _ _ _ z=>z.elim) S W (.all b) .nil B L j O q
end
theorem Rf K(h:X.K=K)(q:PE X e ta)(j:attributeBase e f 106 (eval e 106)=eval e 106):PE X (.Attribute e f pos) (Q9 K ta f):=h▸z3l q j
open Sem(wp)
namespace Rv
theorem slot_next:Slot 133 "__next__" "list_reverseiterator.__next__":=.of (owner:=133) (n:="__next__") (by rw[nN,nB];k_ne) 50 50 50 (by first|exact .inl 50|exact .inr 50) (by rw[gQ];k_ne)
theorem o4:Slot 133 "__iter__" "list_reverseiterator.__iter__":=.of (owner:=133) (n:="__iter__") (by rw[nN,nB];k_ne) 50 50 50 (by first|exact .inl 50|exact .inr 50) (by rw[gQ];k_ne)
theorem entry_next:entryFor table "list_reverseiterator.__next__"=some Builtin.«list_reverseiterator.__next__»:=entryFor_of_tree (by k_ne)
theorem sj:entryFor table "list_reverseiterator.__iter__"=some Builtin.«dict_keyiterator.__iter__»:=entryFor_alias (id':="dict_keyiterator.__iter__") (by k_ne) (by first|rfl|kt_k|unfold String.splitOn;simp+decide[String.splitOnAux]) 50 (by k_ne)
theorem owner:Manifest.owners.lookup (String.ofList ['r','o','t','a','r','e','t','i','e','s','r','e','v','e','r','_','t','s','i','l'].reverse)=some Manifest.sig_list_reverseiterator:=by k_ne
theorem args_next a:argsOk "list_reverseiterator.__next__" ⟨[a],[]⟩:=by unfold argsOk;rw[signature?_of (id:="list_reverseiterator.__next__") (n:="__txen__".toList) (o:="rotaretiesrever_tsil".toList) (by k_ne) owner];k_ne
theorem uD a:argsOk "list_reverseiterator.__iter__" ⟨[a],[]⟩:=by unfold argsOk;rw[signature?_of (id:="list_reverseiterator.__iter__") (n:="__reti__".toList) (o:="rotaretiesrever_tsil".toList) (by k_ne) owner];k_ne
theorem mro_reversed:mroOf (.type "reversed")=pure [.type "reversed",.type "object"]:=by rw[mroOf_type];k_ne
theorem zst:typeLookup (.type "reversed") "__new__"=pure (some<|.builtin "reversed.__new__"):=by rw[nN,nB];k_ne
theorem made:Bind.madeBy (.type "reversed")=pure (some "reversed.__new__"):=madeBy_type mro_reversed zst 50
theorem typeCall a:checkTypeCall "reversed" ⟨[a],[]⟩=pure ():=by k_ne
theorem yD a:checkBuiltinCall "reversed.__new__" ⟨[.type "reversed",a],[]⟩=pure ():=by k_ne
theorem iG:entryFor table "reversed.__new__"=some Builtin.«reversed.__new__»:=entryFor_of_tree (by k_ne)
theorem Bl:isSubtype (.type 133) (.type "reversed")=pure 94:=by rw[gQ];k_ne
theorem sub_self:isSubtype (.type "reversed") (.type "reversed")=pure true:=by rw[gQ];k_ne
theorem wo:isSubtype (.type "dict") (.type "dict")=pure true:=by rw[gQ];k_ne
end Rv
def jF(h:Heap)(it l:ai)(j:Int):Prop:=∃o,h.get? it=85/\o.cls=.type 133/\o.data=.fields #[.ref l,.int j 0]
theorem jF.typeIs{s:aF}(x:jF 91 it l j):s.TypeIs (.ref it) 133:=let⟨o,B,q,_⟩:=x;⟨o,B,q⟩
theorem jF.at(x:jF h it l j)(e:∀o,h.get? it=85->h'.get? it=85):jF h' it l j:=let⟨o,q,r⟩:=x;⟨o,e _ q,r⟩
section
variable{prog:bD}{w:World}{A:Around}{E:aP}{s:aF}
theorem Rg(q:jF 91 it l j)(h:Q (.ref it) s):wpAny 28 A (pyIter<|.ref it) Q E s:=by refine pK q.typeIs Rv.o4<|dQ Rv.o4 q.typeIs Rv.sj ?_<|Rv.uD _;show wpAny _ _ (ret<|.ref it) _ _ s;exact av ⟨_,Z,133,_,q.typeIs,Rv.slot_next.lookup,h⟩
theorem zzf{j:Nat}(q:jF 91 it l (j:Int))(W:s.heap.IsList l items)(Y:items[j]?=some x)(S:∀h',jF h' it l ((j:Int)-1)->Heap.SameBut it 91 h'->Q (some x) {s with heap:=h'}):wpAny 28 A (pyNext<|.ref it) Q E s:=by obtain⟨o,J,U,B⟩:=id q;obtain⟨ol,O,_,nl,L⟩:=W;unfold pyNext;refine ah<|gA<|gH (name:=Str.ofString "__next__") q.typeIs Rv.slot_next<|dQ Rv.slot_next q.typeIs Rv.entry_next ?_<|Rv.args_next _;show wpAny _ _ (field (.ref it) 1>>=_) _ _ s;refine ah<|dh J B (x:=.int j 0) Z ?_;show wpAny _ _ (if(j:Int)<0 then _ else _) _ _ s;rw[ao 80];show wpAny _ _ (field (.ref it) 0>>=_) _ _ s;refine ah<|dh J B (x:=.ref l) Z ?_;refine ah<|fF O L ?_;simp only[lQ,Y];refine ah<|gh J B 81<|av ⟨x,Z,av<|S _ ?_<|iw ..⟩;exact⟨_,d9 _ J<|jf<|gJ B _,(pJ ..).trans U,by rw[gJ B];simp[rawInt]⟩
theorem z3m(L:125=none)(q:jF 91 it l j)(O:j<0)(B:∀h',(∀b o,104=85->h'.get? b=85)->Q none {s with heap:=h'}):wpAny 28 A (pyNext<|.ref it) Q E s:=by obtain⟨o,S,U,J⟩:=id q;unfold pyNext;refine ah<|gA<|gH (name:=Str.ofString "__next__") q.typeIs Rv.slot_next<|dQ Rv.slot_next q.typeIs Rv.entry_next ?_<|Rv.args_next _;show wpAny _ _ (field (.ref it) 1>>=_) _ _ s;refine ah<|dh S J (x:=.int j 0) Z ?_;show wpAny _ _ (if j<0 then _ else _) _ _ s;rw[ak O];refine ah<|dz<|ah ?_;show wpAny _ _ (newExc (.type "StopIteration") []>>=_) _ _ _;refine ah ?_;simp only[newExc,newTuple];refine ah<|cQ ?_ (by size_fits);refine ah (m:=firstArgMember _ _)<|gT (a:=112) (by first|rfl|simp only[firstArgMember];rfl) ?_;refine cQ ?_ (by size_fits);simp only[raiseNew];refine ah<|nS ?_;rw[show A.in1.handled=none from L];refine ah<|av<|wpAny_throw ?_;refine ah<|j3 (T:="StopIteration") (b:=true) ⟨_,aV _ Z,Z⟩ nP ?_;exact av<|B _ λb o e=>aX _ (aX _ e)
end
def Cr(K:aC)(a:ai)(xs:99):It:=⟨λi H=>aH K H a xs/\i<84,λi H x H'=>H'=H/\xs.reverse[i]?=some x,λi _=>84<=i⟩
theorem zzg   {K:aC}   a it   xs  : Turn P w K tg (Cr K a xs) [it] it (fun i h=>jF h it a ((xs.length:Int)-1-i)) where
  mem:=by simp
  obj:=fun i h st b j=>by
    have e:b=it:=by simpa using j
    subst e
    obtain⟨o,e,c,d⟩:=st
    exact⟨o,e,fun v z=>by rw[d] at z;cases z⟩
  keep:=fun i h h' st k=>st.at fun o e=>k it (by simp) o e
  item:=by
    intro X L S J U i pins s σ H E I O st B
    subst L S J
    obtain⟨hq,hi⟩:=B
    obtain⟨its,rv,p,hz⟩:=I.list hq
    have W:xs[xs.length-1-i]? = some (xs[xs.length-1-i]'(by lia)):=cj _
    obtain⟨u,hu,ru⟩:=rv.get W
    obtain⟨f0,f1,f2,f3,f4,f5⟩:=O it (by simp)
    have ej:(xs.length:Int)-1-i=((xs.length-1-i:Nat):Int):=by lia
    rw[ej] at st
    refine zzf st p.isList (x:=u) (by simpa using hu) fun h' q sb=>?_
    have Y:Inv X pins σ H { s with heap:=h' }:=I.turned (t':=s.toks) (fun b o j e=>(sb.2 b j).trans e) f0 f1 f3 f4 f5
    obtain⟨o,e,c,d⟩:=id q
    refine⟨u,rfl,BP (s:={ s with heap:=h' }) e c d (by decide) ⟨_,H,Y,ru,⟨rfl,?_⟩,?_,fun b j=>(O b j).1⟩⟩
    · rw[List.getElem?_reverse hi];exact W
    · show jF h' it a ((xs.length:Int)-1-(i+1:Nat))
      have:(xs.length:Int)-1-(i+1:Nat)=((xs.length-1-i:Nat):Int)-1:=by lia
      rw[this]
      exact q
  done:=by
    intro X L S J U i pins s σ H E I O st B
    subst L S J
    have B:xs.length<=i:=B
    exact z3m (I.ok.hd U) st (by lia) fun h' eb=>⟨rfl,I.kept (t':=s.toks) eb⟩
  self:=fun _ _ _ _ _ st h=>Rg st h
def Cs(l:ai)(n:Nat):Obj:={cls:=.type 133,data:=.fields #[.ref l,rawInt ((n:Int)-1)]}
theorem zsv l items:Meets (Builtin.«list.__reversed__» ⟨[.ref l],[]⟩) (λ_ R s=>s.heap.IsList l items/\R (.ok<|.ret<|.ref 19) {s with heap:=s.heap.push (Cs l 105)}):=.of_wp λprog w A R s h=>by obtain⟨q,h⟩:=h;obtain⟨o,J,B,n,j⟩:=q;wp_walk;rw[j];wp_walk;exact⟨_,Z,h⟩
theorem zwj l items:Meets (Builtin.«reversed.__new__» ⟨[.type "reversed",.ref l],[]⟩) (λ_ R s=>s.heap.IsList l items/\R (.ok<|.ret<|.ref 19) {s with heap:=s.heap.push (Cs l 105)}):=.of_wp λprog w A R s h=>by obtain⟨q,h⟩:=h;have L:=q.typeIs;have W:=pD.lookup;have U:=pD.bind (.ref l);have S:=Rv.sub_self;wp_walk;refine fH (jX pD.plain F.entry_list_reversed<|pD.check _ _ _ _ _ _ _ _ L (F.args_list_reversed_1 _)<|zsv l items prog w A.in1 (wants (λv B=>v=.ref 19/\B={s with heap:=s.heap.push (Cs l 105)}) λe s'=>R (.error e) s') s ⟨q,Z,Z⟩) λr B j=>?_;cases r with|error e=>exact j|ok J=>cases J with|ret O=>obtain⟨rfl,rfl⟩:=j;exact av ⟨_,Z,h⟩|_=>exact j.elim
section
variable{prog:bD}{w:World}{A:Around}{E:aP}{s:aF}
theorem zzh    (W:s.heap.IsList l items)
    (h:Q (.ref s.heap.objs.size) { s with heap:=s.heap.push (Cs l items.size) }):wpAny (model prog w) A (call (.type "reversed") [.ref l]) Q E s:=by
  have U:=Rv.typeCall (.ref l)
  have q:=Rv.made
  have J:=Rv.mro_reversed
  refine f6 (nM ?_)
  show wpAny (model prog w) _ (callAny (.type "reversed") _) _ _ _
  refine av ⟨nH _ (by decide +kernel),gg F.entry_type_call ?_⟩
  rw[Around.under_plain (rL "reversed" [.ref l] []) (units_type_call_type "reversed" [.ref l] [])]
  have h1:(Value.type "reversed" == Value.type "type")=false:=by decide +kernel
  have h2:((Manifest.find? "reversed").bind (·.mro.findSome? fun t=>(Manifest.find? t).bind fun b=>if b.noNew then some true else if b.attrs.any (·.1 == "__new__") then some false else none)).getD false=false:=by decide +kernel
  repeat (any_goals first | wp_step | assumption)
  refine fH (jX (by decide +kernel) Rv.iG (gT (Rv.yD _) (zwj l items prog w A.in1
    (wants (fun j O=>j = .ref s.heap.objs.size/\O = { s with heap:=s.heap.push (Cs l items.size) }) E) s ⟨W,rfl,rfl⟩))) fun r O B=>?_
  cases r with
  | error e=>exact B
  | ok S=>
    cases S with
    | ret j=>
      obtain⟨rfl,rfl⟩:=B
      have Y:({ s with heap:=s.heap.push (Cs l items.size) }:aF).TypeIs (.ref s.heap.objs.size) "list_reverseiterator":=⟨_,aV _ rfl,rfl⟩
      have L:=Rv.Bl
      repeat (any_goals first | wp_step | assumption)
    | _=>exact B.elim
end
def ED(K:aC)(te:TE):TI:=λσ H R=>te σ H λx H1=>∃l xs,x=.ref l/\aH K H1 l xs/\R (Cr K l xs) H1
section
variable{X:Cx}{tg:Expr}
theorem z7g{e:Expr}{te:TE}{p pos:Pos}(hg:Gl X "reversed")(hm:X.mg "reversed"=none)(Y:PE X e te)(hs:starEach [e] 106=[(false,eval e 106)]:=by rfl):PI X tg (.Call (.Name "reversed" p) [e] [] pos) (ED X.K te):=by intro pins s σ H R I h;refine Call_<|yZ I hg hm boot_reversed<|ni (bR (za Y zd hs pos pins s σ H (λU H1=>match U with|[x]=>∃l xs,x=.ref l/\aH X.K H1 l xs/\R (Cr X.K l xs) H1|_=>False) I h) λus L O=>?_) (by rw[hs];rfl) Z;obtain⟨U,H1,J,r1,S⟩:=O;match U,S with|[x],S=>obtain⟨l,xs,rfl,hl,q⟩:=S;obtain⟨u,rfl,ru⟩:=kO r1;cases ru;obtain⟨B,rv,pl,hz⟩:=J.list hl;have hn:=rv.length;refine zzh pl.isList<|Rg (j:=(B.toArray.size:Int)-1) ⟨_,aV _ Z,Z,Z⟩ ?_;refine⟨L.heap.objs.size,[L.heap.objs.size],_,_,H1,Z,J.kept (t':=L.toks) λb o e=>aX _ e,zzg l _ xs,⟨_,aV _ Z,Z,?_⟩,λb W=>?_,q⟩;{show Data.fields #[.ref l,rawInt ((B.toArray.size:Int)-1)]=.fields #[.ref l,.int ((84:Int)-1-(0:Nat)) 0];rw[cg,hn];simp[rawInt]};{(have e:b=L.heap.objs.size:=by simpa using W);k_go;exact J.mP (aB _)<|J.bG.fresh<|aB _}
theorem z3n{e:Expr}{te:TE}{p pos:Pos}(K:aC)(h:X.K=K)(q:Gl X "reversed")(B:X.mg "reversed"=none)(j:PE X e te)(hs:starEach [e] 106=[(false,eval e 106)]:=by rfl):PI X tg (.Call (.Name "reversed" p) [e] [] pos) (ED K te):=h▸z7g q B j hs
theorem z3o{K:aC}{g:TG}{tb:TS}{D:Ends}(j:Nat->St->Hp->Prop)(S:j 0 σ H)(Y:∀i σ H,i<=84->j i σ H->aH K H a xs)(hs:∀i x σ H,xs.reverse[i]?=some x->j i σ H->g x σ H λJ H2=>tb {D with nx:=j (i+1),ct:=j (i+1),bk:=D.nx} J H2)(U:∀σ H,j 84 σ H->D.nx σ H):∃W:Nat->Nat->St->Hp->Prop,(∃m,W 0 m σ H)/\∀i m σ H,W i m σ H->((Cr K a xs).stop i H/\D.nx σ H)\/((Cr K a xs).go i H/\∃N,(∀B H',N B H'->∃O,O<m/\W (i+1) O B H')/\∀x H',(Cr K a xs).vf i H x H'->g x σ H' λJ H2=>tb {D with nx:=N,ct:=N,bk:=D.nx} J H2):=by existsλi m σ H=>m=84-i/\i<=84/\j i σ H,⟨84,81,fj _,S⟩;rintro i m σ H⟨rfl,hi,p⟩;have q:=Y i σ H hi p;by_cases L:i<84;{refine .inr ⟨⟨q,L⟩,j<|i+1,λB H' p'=>⟨84-(i+1),80,Z,L,p'⟩,λx H' y=>?_⟩;obtain⟨e,y⟩:=y;k_go;exact hs i x σ _ y p};{(have e:i=84:=by lia);k_go;exact .inl ⟨aB _,U σ H p⟩}
end
theorem zwk a b(ha:(a==sysModules)=94)(hb:(b==sysModules)=94)es L j:Meets (Builtin.«dict.__ne__» ⟨[98,.ref b],[]⟩) (λ_ R s=>kG 91 a es L/\kG 91 b #[] j/\R (.ok<|.ret<|.bool<|!decide (107=0)) s):=.of_wp λprog w A R s h=>by obtain⟨h1,h2,h⟩:=h;have t1:=h1.typeIs;have t2:=h2.typeIs;obtain⟨o1,O,W,q⟩:=h1;obtain⟨o2,S,Y,B⟩:=h2;have U:=Rv.wo;wp_walk;rw[q];refine av ?_;show wpAny _ _ (dictEntries b>>=_) _ _ _;refine ah<|pL S B ?_;by_cases e:107=0;{rw[ao (by rw[e];simp)];rw[aO e]at h;have J:es=#[]:=rF e;subst J;refine ah<|pW O q ?_;simp;wp_walk;exact⟨_,Z,h⟩};{rw[ak (by simp[e])];rw[aN e]at h;refine ah<|dz<|av ?_;exact av ⟨_,Z,h⟩}
section
variable{X:Cx}
theorem z3p(hu:X.A.units+9<cLine):i9 X (compareOp .NotEq) (λx y H Q=>∃p q kvs,x=101/\y=.ref q/\Rd H p (.dK kvs)/\H q=some (.dK [])/\Q (.bl<|!decide (kvs=[])) H):=by intro pins s σ H x y v u Q I rx ry h;obtain⟨p,q,kvs,rfl,rfl,hp,hq,k⟩:=h;cases rx;cases ry;obtain⟨z,hs,vs,W,o,es,ep,e,ex,dt,kk,pr,nd⟩:=vN I.bG hp;obtain⟨z',S,J,B,o',j,O,Y,Im,L,kk',U,nd'⟩:=vN I.bG (.inl hq);have l1:113=vs.length:=Paired.length W;(have l2:107=vs.length:=by rw[←pr.length];simp);have l3:[].length=J.length:=Paired.length B;(have l4:j.size=J.length:=by rw[←U.length];simp);have e0:j=#[]:=rF (by rw[l4,←l3];rfl);subst e0;refine richCompare_meets_room (op:=.NotEq) ⟨o,e,ex.1⟩ ⟨o',Y,Im.1⟩ PySem.F.slot_dict_ne PySem.F.entry_dict_ne (PySem.F.args_dict_ne_2 _ _) (zwk p q hs S es ep O) ⟨⟨o,e,ex,dt⟩,⟨o',Y,Im,L⟩,?_⟩ 80;refine⟨(λx=>nomatch x),.bl<|!decide (kvs=[]),H,I,?_,k⟩;show Value.bool _=Value.bool _;congr 2;exact iX.mpr ⟨λz=>List.eq_nil_of_length_eq_zero 80,λz=>by rw[z]at l1;simp at l1;lia⟩
end
section
variable{X:Cx}
theorem zwl K(O:X.K=K)(U:X.calm=true):jH X (.builtin "sum") (λxs H Q=>∃(a:ai)(B:List Int),xs=[V.ref a]/\aH K H a (B.map V.int)/\Q (.int B.sum) H):=by subst O;intro pins s σ H xs us Q I r h;obtain⟨a,B,rfl,S,q⟩:=h;obtain⟨u,rfl,ru⟩:=kO r;cases ru;obtain⟨J,rv,pl,hz⟩:=I.list S;have L:=Jc rv;have Y:=L.numsOf;obtain⟨ys,e⟩:=L.allInts.items;have j:numsOf J.toArray.toList=B:=Y;rw[e,nums_intItems]at j;refine sum_intListG (I.ok.hd U) (by rw[←e];exact pl.isList) λh' tk t' W=>?_;refine⟨.int B.sum,H,I.kept (t':=tk) W,⟨t',?_⟩,q⟩;rw[preSum_eq,lH 81,j]
end
section
variable{X:Cx}{pos:Pos}
theorem sset{i:Nat}{x:Str}{e:Expr}{te:TE}{pos':Pos}(j:X.N.Nodup)(q:PE X e te)(hi:X.N[i]?=some x:=by rfl)(J:Loc X.env.scope x:=by first|exact Or.inl Z|exact Or.inr Z)(hs:swapsWith e (some<|.Name x pos') pos.line 106=pure 94:=by rfl)(B:X.fn x=true\/X.env.scope.names.lookup x=some .local:=by first|exact .inl Z|exact .inr Z|assumption):PS X (.Assign [.Name x pos'] e pos) (xM te<|zz i):=Ug j hi J q hs B
theorem eS{i:Nat}{x:Str}(j:X.N.Nodup)(hi:X.N[i]?=some x:=by rfl)(B:Loc X.env.scope x:=by first|exact Or.inl Z|exact Or.inr Z)(q:X.fn x=true\/X.env.scope.names.lookup x=some .local:=by first|exact .inl Z|exact .inr Z|assumption):PG X (.Name x pos) (zz i):=oQ j hi B q
theorem aK{a b:Expr}{ta tb:TE}{r:R2}(B:AD X r)(j:PE X a ta)(q:PE X b tb)(hs:NN b:=by exactλ_ _=>Z):PE X (.Subscript a b pos) (C0 r ta tb):=U3 B j q hs
end
section
variable{X:Cx}{x:Str}{ps:88}{k:Nat}{sp:Sp}{e:Expr}{es:List Expr}{t:TA}{p pos:Pos}
theorem bS(F:fB 126 X.w X.K X.mg X.base x ps k sp)(B:PA X (e::es) t)(O:cI k X.A:=by exact cI.mono (by assumption) 82)(L:Gl X x:=by rfl)(j:(x==("__debug__":Str))=94:=by walk)(J:starEach (e::es) 106=(false,eval e 106)::103:=by rfl)(q:(backTo pos 103).any (·.1)=94:=by rfl):PE X (.Call (.Name x p) (e::es) [] pos) (Gh sp [] E0 t):=Wf F O L B j J q
end
theorem eT{N P:88}{sc:Scope}(h1:sc.kind=.function:=by rfl)(h2:sc.isCoroutine=94:=by rfl)(j:sc.isGenerator=94:=by rfl)(q:N.Nodup:=by kt_k)(B:N.take P.length=P:=by rfl)(J:∀x∈P,sc.names.lookup x=some .local\/sc.names.lookup x=some .cell:=by kt_k)(L:∀y∈sc.names,y.2≠.free:=by kt_k):aA N P sc:=⟨h1,h2,j,q,B,J,L⟩
section
variable{X:Cx}
theorem zwm K(hK:X.K=K)(hc:X.calm=true):jH X (.builtin "max") (λxs H Q=>∃a J,xs=[V.ref a]/\aH K H a (J.map V.int)/\J≠[]/\∀m,m∈J->(∀y∈J,y<=m)->Q (.int m) H):=by subst hK;intro pins s σ H xs us Q I r h;obtain⟨a,J,rfl,ha,L,q⟩:=h;obtain⟨u,rfl,ru⟩:=kO r;cases ru;obtain⟨S,rv,pl,hz⟩:=I.list ha;have Y:=Jc rv;obtain⟨ys,e⟩:=Y.allInts.items;have B:numsOf S.toArray.toList=J:=Y.numsOf;rw[e,nums_intItems]at B;have U:=jY.mpr L;(have O:0<ys.size:=by rw[←B,ay,cK]at U;exact U);refine max_intList (I.ok.hd hc) (by rw[←e];exact pl.isList) O λv h' tk hv hk=>?_;obtain⟨t,rfl⟩:=intItems_at hv;obtain⟨h1,h2⟩:=argBest_gt (numAt ys) (ys.size-1);refine⟨.int _,H,I.kept (t':=tk) hk,⟨t,Z⟩,q _ ?_ λy W=>?_⟩;{rw[←B,numAt_eq];exact getD_mem (by rw[ay,cK];lia)};{rw[←B]at W;obtain⟨j,hj,rfl⟩:=mem_getD W;rw[ay,cK]at hj;rw[←numAt_eq];exact h2 j 80}
theorem zwn K(hK:X.K=K)(hc:X.calm=true):jH X (.builtin "min") (λxs H Q=>∃a J,xs=[V.ref a]/\aH K H a (J.map V.int)/\J≠[]/\∀m,m∈J->(∀y∈J,m<=y)->Q (.int m) H):=by subst hK;intro pins s σ H xs us Q I r h;obtain⟨a,J,rfl,ha,L,q⟩:=h;obtain⟨u,rfl,ru⟩:=kO r;cases ru;obtain⟨S,rv,pl,hz⟩:=I.list ha;have Y:=Jc rv;obtain⟨ys,e⟩:=Y.allInts.items;have B:numsOf S.toArray.toList=J:=Y.numsOf;rw[e,nums_intItems]at B;have U:=jY.mpr L;(have O:0<ys.size:=by rw[←B,ay,cK]at U;exact U);refine min_intList (I.ok.hd hc) (by rw[←e];exact pl.isList) O λv h' tk hv hk=>?_;obtain⟨t,rfl⟩:=intItems_at hv;obtain⟨h1,h2⟩:=argBest_lt (numAt ys) (ys.size-1);refine⟨.int _,H,I.kept (t':=tk) hk,⟨t,Z⟩,q _ ?_ λy W=>?_⟩;{rw[←B,numAt_eq];exact getD_mem (by rw[ay,cK];lia)};{rw[←B]at W;obtain⟨j,hj,rfl⟩:=mem_getD W;rw[ay,cK]at hj;rw[←numAt_eq];exact h2 j 80}
end
end L2
namespace LK85
open PySem L2 Dm PySem.NumText
def top(i:Nat):Stmt:=PySem.Challenge.pw_digmatrix_k85_whole_text_to_witness.main.body.getD i (.Pass ⟨0,0,0,0⟩)
def dJ:List (Str×99):=[("dig",[V.str "year",V.str "year"]),("unit",[V.str "name"]),("over",[V.str "name",V.str "name"]),("cuts",[V.str "name",V.str "name"]),("fills",[V.str "name",V.str "name"]),("after",[V.str "name",V.str "name",V.str "gap"]),("same",[V.str "name",V.str "name"]),("find",[V.str "name",V.str "name",V.str "year",V.str "year"])]
structure Tx (K:aC) (mg:Str->Option au) (w:World) (C_Reading:ai) (zn:ai) (zk:ai) (zx:ai) (zq:ai) (zm:ai) (zr:ai) (zo:ai) (zv:ai) (zw:ai) (zh:ai):Prop where
 zta:mg "Reading" = some (.ref C_Reading)
 mz:tE K C_Reading
 ztb:PySem.W.makesIn K C_Reading=true
 ztc:PySem.W.keepIn K (.ref C_Reading)=true
 EE:cA K C_Reading "frame"
 EF:cA K C_Reading "units"
 Hr:cA K C_Reading "ties"
 Hs:cA K C_Reading "finds"
 zgq:um K C_Reading "Reading.__init__" "__init__" (oS (top 26) 0) ["self"]
 ze2:um K C_Reading "Reading.take_words" "take_words" (oS (top 26) 1) ["self","words","row"]
 ze3:um K C_Reading "Reading.take_entry" "take_entry" (oS (top 26) 2) ["self","entry","row"]
 zfr:um K C_Reading "Reading.take_unit" "take_unit" (oS (top 26) 3) ["self","name","row"]
 zgr:um K C_Reading "Reading.take_tie" "take_tie" (oS (top 26) 4) ["self","tie","row"]
 zfs:um K C_Reading "Reading.take_find" "take_find" (oS (top 26) 5) ["self","find","row"]
 zft:um K C_Reading "Reading.need_unit" "need_unit" (oS (top 26) 6) ["self","name","row"]
 zhe:um K C_Reading "Reading.telling" "telling" (oS (top 26) 7) ["self"]
 Rh:mg "DigError" = some (.ref zn)
 Ri:zW K zn
 z02:mg "TextError" = some (.ref zk)
 z7r:mg "BadRow" = some (.ref zx)
 z4q:mg "BadName" = some (.ref zq)
 z03:mg "BadNumber" = some (.ref zm)
 z4r:mg "BadSpan" = some (.ref zr)
 z4m:mg "BadTwice" = some (.ref zo)
 z4s:mg "BadUnit" = some (.ref zv)
 Rj:mg "Round" = some (.ref zw)
 zz7:qk K zw
 zz8:uB K zw
 Rk:EC K zw
 zz9:uC K zw
 zh5:um K zw "Round.__init__" "__init__" (oS (top 9) 0) ["self","ties"]
 Rm:cA K zw "ties"
 Ro:mg "NoDating" = some (.ref zh)
 zps:qk K zh
 zpt:uB K zh
 Rp:EC K zh
 zpu:uC K zh
 zfu:um K zh "NoDating.__init__" "__init__" (oS (top 10) 0) ["self","row"]
 Rq:cA K zh "row"
 zjm:PySem.W.mroIn K zw (.ref zw)=some true
 zgt:PySem.W.mroIn K zh (.ref zw)=some false
 zel:PySem.W.mroIn K zh (.ref zh)=some true
 zxl:Df K mg "is_name" (top 16) ["text"]
 zl5:Df K mg "read_number" (top 17) ["text"]
 zn8:Df K mg "is_made_of" (top 18) ["text","signs"]
 zl6:Df K mg "split_words" (top 21) ["line"]
 zh6:Df K mg "is_passed_over" (top 22) ["words"]
 zn9:Df K mg "read_entry" (top 23) ["words","row"]
 zpv:Df K mg "read_form" (top 24) ["form","words","row"]
 zoa:Df K mg "read_value" (top 25) ["kind","word","row"]
 zj0:Df K mg "read_telling" (top 27) ["text"]
 zpw:Df K mg "one_names" (top 29) ["units","ties"]
 zpx:Df K mg "join_ones" (top 30) ["names","first","second"]
 z7s:Df K mg "ones" (top 31) ["units","ties"]
 zj1:Df K mg "ties_beneath" (top 32) ["telling"]
 zh7:Df K mg "shortest_round" (top 34) ["telling"]
 zjn:Df K mg "round_through" (top 35) ["start","beneath"]
 Rr:Df K mg "refuse_round" (top 36) ["telling"]
 z4n:Df K mg "order" (top 37) ["telling"]
 zob:Df K mg "least_free" (top 38) ["beneath","placed"]
 ztd:Df K mg "rests_on" (top 39) ["lowers","placed"]
 z0a:Df K mg "gap_of" (top 41) ["tie"]
 zj2:Df K mg "finds_within" (top 42) ["telling"]
 z0b:Df K mg "floors" (top 43) ["telling"]
 zte:Df K mg "ceilings" (top 44) ["telling"]
 zl7:Df K mg "bare_chains" (top 45) ["bounds"]
 z0c:Df K mg "led_up" (top 46) ["chain","tie"]
 zh8:Df K mg "one_tie_longer" (top 47) ["beneath","chains"]
 zh9:Df K mg "impossible_row" (top 48) ["telling"]
 zia:Df K mg "refuse_undated" (top 49) ["telling"]
 zpy:Df K mg "chains_up" (top 51) ["telling"]
 zl8:Df K mg "chains_down" (top 52) ["telling"]
 ztf:Df K mg "led_down" (top 53) ["chain","tie"]
 zxm:Df K mg "reasons" (top 54) ["telling","name"]
 z4o:Df K mg "spans" (top 56) ["telling"]
 zj3:Df K mg "_law_cell_at" (top 58) ["_law_script","_law_k"]
 zpz:Df K mg "_law_part" (top 59) ["_law_cell","_law_k","_law_many"]
 zl9:Df K mg "_law_number" (top 60) ["_law_cell","_law_near"]
 ztg:Df K mg "_law_tie" (top 61) ["_law_units","_law_cell","_law_around"]
 zp0:Df K mg "_law_find" (top 62) ["_law_units","_law_frame","_law_many","_law_cell"]
 zp6:Df K mg "_law_text" (top 63) ["_law_script"]
 zp7:Df K mg "_law_ones" (top 64) ["_law_telling"]
 zoc:Df K mg "_law_links" (top 65) ["_law_telling"]
 zod:Df K mg "_law_keeps" (top 66) ["_law_telling","_law_years"]
 zth:Df K mg "_law_end" (top 67) ["_law_telling","_law_label","_law_name"]
 zoe:Df K mg "_law_leads" (top 68) ["_law_telling","_law_label","_law_ties"]
 zp8:Df K mg "_law_gaps" (top 69) ["_law_ties"]
 zj4:Df K mg "_law_from_to" (top 70) ["_law_label","_law_ties","_law_one"]
 zib:Df K mg "_law_row_right" (top 71) ["_law_telling","_law_row"]
 zgu:Df K mg "_law_round_right" (top 72) ["_law_telling","_law_ring"]
 zfv:Df K mg "_law_fewest_round" (top 73) ["_law_telling"]
 zhf:Df K mg "_law_fewest_row" (top 74) ["_law_telling"]
 zof:Df K mg "_law_asked" (top 75) ["_law_telling"]
 zp9:Df K mg "_law_held" (top 76) ["_law_telling","_law_label","_law_span","_law_name"]
 zgv:Df K mg "_law_spans_right" (top 77) ["_law_telling","_law_found","_law_cell"]
 z9c:Df K mg "law" (top 78) ["_law_script"]
 zxn:∃u,mg "FIGURES" = some u/\RelV (.str "0123456789") u
 zog:∃u,mg "NAME_SIGNS" = some u/\RelV (.str "abcdefghijklmnopqrstuvwxyz0123456789-") u
 zj5:∃u,mg "LONGEST_NAME" = some u/\RelV (.int 12) u
 zj6:∃u,mg "MOST_FIGURES" = some u/\RelV (.int 60) u
 z4p:∃a,mg "FORMS" = some (.ref a)/\Cd w K a dJ
 int:mg "int" = none
 all:mg "all" = none
 enumerate:mg "enumerate" = none
 min:mg "min" = none
 list:mg "list" = none
 sorted:mg "sorted" = none
 reversed:mg "reversed" = none
 range:mg "range" = none
 sum:mg "sum" = none
 len:mg "len" = none
 tuple:mg "tuple" = none
 isinstance:mg "isinstance" = none
 str:mg "str" = none
 max:mg "max" = none
 set:mg "set" = none
 zip:mg "zip" = none
theorem Tx.ex(T:20):∃C_Reading,∃zn,∃zk,∃zx,∃zq,∃zm,∃zr,∃zo,∃zv,∃zw,∃zh,20:=⟨_,_,_,_,_,_,_,_,_,_,_,T⟩
theorem zsw:aA ["text"] ["text"] (zp<|top 16):=eT
theorem jG:aA ["text","figures"] ["text"] (zp<|top 17):=eT
theorem zlx:aA ["text","signs"] ["text","signs"] (zp<|top 18):=eT
theorem zjv:aA ["line"] ["line"] (zp<|top 21):=eT
theorem zhb:aA ["words"] ["words"] (zp<|top 22):=eT
theorem zly:aA ["words","row"] ["words","row"] (zp<|top 23):=eT
theorem lg:aA ["form","words","row","values"] ["form","words","row"] (zp<|top 24):=eT
theorem j6:aA ["kind","word","row","number"] ["kind","word","row"] (zp<|top 25):=eT
theorem cY:aA ["text","reading","row","line","words"] ["text"] (zp<|top 27):=eT
theorem gq:aA ["units","ties","names","unit","tie"] ["units","ties"] (zp<|top 29):=eT
theorem iT:aA ["names","first","second","least","unit"] ["names","first","second"] (zp<|top 30):=eT
theorem ng:aA ["units","ties","names","members","unit"] ["units","ties"] (zp<|top 31):=eT
theorem cZ:aA [110,"names","beneath","members","tie"] [110] (zp<|top 32):=eT
theorem bW:aA [110,"beneath","shortest","name","ties"] [110] (zp<|top 34):=eT
theorem br:aA ["start","beneath","met","ways","longer","name","ties","lower","tie"] ["start","beneath"] (zp<|top 35):=eT
theorem eU:aA [110,"ties"] [110] (zp<|top 36):=eT
theorem oj:aA [110,"beneath","placed"] [110] (zp<|top 37):=eT
theorem j7:aA ["beneath","placed","free"] ["beneath","placed"] (zp<|top 38):=eT
theorem zpg:aA ["lowers","placed"] ["lowers","placed"] (zp<|top 39):=eT
theorem zwo:aA ["tie"] ["tie"] (zp<|top 41):=eT
theorem c5:aA [110,"names","within","members","find"] [110] (zp<|top 42):=eT
theorem jN:aA [110,"within","starts","name"] [110] (zp<|top 43):=eT
theorem gM:aA [110,"within","ends","name"] [110] (zp<|top 44):=eT
theorem gD:aA ["bounds","chains","name"] ["bounds"] (zp<|top 45):=eT
theorem zwp:aA ["chain","tie"] ["chain","tie"] (zp<|top 46):=eT
theorem bX:aA ["beneath","chains","longer","name","lower","tie","chain"] ["beneath","chains"] (zp<|top 47):=eT
theorem bY:aA [110,"beneath","ends","chains","name"] [110] (zp<|top 48):=eT
theorem gO:aA [110,"row"] [110] (zp<|top 49):=eT
theorem cP:aA [110,"beneath","chains","name","lower","tie","chain"] [110] (zp<|top 51):=eT
theorem ck:aA [110,"beneath","chains","name","lower","tie","chain"] [110] (zp<|top 52):=eT
theorem zph:aA ["chain","tie"] ["chain","tie"] (zp<|top 53):=eT
theorem iU:aA [110,"name","one","up","down"] [110,"name"] (zp<|top 54):=eT
theorem om:aA [110,"ups","downs"] [110] (zp<|top 56):=eT
theorem zjc:aA ["_law_script","_law_k"] ["_law_script","_law_k"] (zp<|top 58):=eT
theorem znz:aA ["_law_cell","_law_k","_law_many"] ["_law_cell","_law_k","_law_many"] (zp<|top 59):=eT
theorem zjw:aA ["_law_cell","_law_near"] ["_law_cell","_law_near"] (zp<|top 60):=eT
theorem dG:aA ["_law_units","_law_cell","_law_around","_law_a","_law_b","_law_kind"] ["_law_units","_law_cell","_law_around"] (zp<|top 61):=eT
theorem iV:aA ["_law_units","_law_frame","_law_many","_law_cell","_law_low","_law_high"] ["_law_units","_law_frame","_law_many","_law_cell"] (zp<|top 62):=eT
theorem bg:aA ["_law_script","_law_letter","_law_first","_law_frame","_law_around",96,"_law_text_here","_law_cell","_law_way","_law_line","_law_tie_here"] ["_law_script"] (zp<|top 63):=eT
theorem dO:aA [96,116,"_law_name","_law_k","_law_tie_here","_law_least"] [96] (zp<|top 64):=eT
theorem fP:aA [96,116,"_law_links_here","_law_tie_here"] [96] (zp<|top 65):=eT
theorem eK:aA [96,"_law_years",116,"_law_one","_law_find_here","_law_link"] [96,"_law_years"] (zp<|top 66):=eT
theorem mJ:aA [96,116,"_law_name","_law_find_here"] [96,116,"_law_name"] (zp<|top 67):=eT
theorem j8:aA [96,116,"_law_ties","_law_k"] [96,116,"_law_ties"] (zp<|top 68):=eT
theorem zn0:aA ["_law_ties"] ["_law_ties"] (zp<|top 69):=eT
theorem zjd:aA [116,"_law_ties","_law_one"] [116,"_law_ties","_law_one"] (zp<|top 70):=eT
theorem bZ:aA [96,"_law_row",116,"_law_start","_law_end_here","_law_low","_law_high"] [96,"_law_row"] (zp<|top 71):=eT
theorem d7:aA [96,"_law_ring",116,"_law_k"] [96,"_law_ring"] (zp<|top 72):=eT
theorem bI:aA [96,"_law_links_here","_law_reached","_law_one","_law_many"] [96] (zp<|top 73):=eT
theorem aL:aA [96,116,"_law_lows","_law_highs","_law_one","_law_many","_law_further","_law_upper","_law_lower","_law_gap","_law_tie_here"] [96] (zp<|top 74):=eT
theorem cG:aA [96,"_law_found","e"] [96] (zp<|top 75):=eT
theorem b8:aA [96,116,"_law_span","_law_name","_law_up","_law_down","_law_start","_law_end_here","_law_low","_law_here","_law_there","_law_high"] [96,116,"_law_span","_law_name"] (zp<|top 76):=eT
theorem aQ:aA [96,"_law_found","_law_cell",116,"_law_lows","_law_highs","_law_one","_law_low","_law_high","_law_k","_law_name","_law_span"] [96,"_law_found","_law_cell"] (zp<|top 77):=eT
theorem mC:aA ["_law_script","_law_text_here",96,"_law_found","_law_word"] ["_law_script"] (zp<|top 78):=eT
theorem zhc:aA ["self","ties"] ["self","ties"] (zp<|oS (top 9) 0):=eT
theorem zew:aA ["self","row"] ["self","row"] (zp<|oS (top 10) 0):=eT
theorem zfl:aA ["self"] ["self"] (zp<|oS (top 26) 0):=eT
theorem zeg:aA ["self","words","row"] ["self","words","row"] (zp<|oS (top 26) 1):=eT
theorem zeh:aA ["self","entry","row"] ["self","entry","row"] (zp<|oS (top 26) 2):=eT
theorem zex:aA ["self","name","row"] ["self","name","row"] (zp<|oS (top 26) 3):=eT
theorem zfm:aA ["self","tie","row"] ["self","tie","row"] (zp<|oS (top 26) 4):=eT
theorem zey:aA ["self","find","row"] ["self","find","row"] (zp<|oS (top 26) 5):=eT
theorem zez:aA ["self","name","row"] ["self","name","row"] (zp<|oS (top 26) 6):=eT
theorem zgk:aA ["self"] ["self"] (zp<|oS (top 26) 7):=eT
section
variable{P:bD}{w:World}{K:aC}{mg:Str->Option au}{base:Heap}{C_Reading:ai}{zn:ai}{zk:ai}{zx:ai}{zq:ai}{zm:ai}{zr:ai}{zo:ai}{zv:ai}{zw:ai}{zh:ai}
local macro_rules | `(tactic| walk_at "rd")=>`(tactic| repeat (first | refine⟨_,rfl,?_⟩ | refine⟨_,_,rfl,rfl,?_⟩ | refine⟨_,_,_,rfl,?_⟩))
local macro_rules | `(tactic| walk_at "rd")=>`(tactic| repeat (first | refine⟨_,rfl,?_⟩ | refine⟨_,_,rfl,rfl,?_⟩ | refine⟨_,_,_,rfl,?_⟩))
inductive wA(vs:99)(H:Hp)(Q:VK):Prop|mk a ns i(_:vs=[98,.int i])(_:aH K H a (ns.map V.int))(_:0<=i)(_:Q (.int<|qf ns i) H)
def z3q:Sp:=λj H Q _=>wA (K:=K) j H Q
theorem Ct(T:20):fB P w K mg base "_law_cell_at" ["_law_script","_law_k"] 1 (z3q (K:=K)):=by refine T.zj3.has zjc (λS H Q E h=>?_) λf L A B s H S Q E U h=>?_;{obtain⟨a,q,i,rfl,_⟩:=h;rfl};{obtain⟨a,q,i,rfl,J,O,k⟩:=h;exists _,(zc (dj (zy w9 (pv 1) (gC (qc K Z) 97 T.len cU<|za (pv 0) zd)<|c6 _) (zf<|cH<|aK (jD K Z) (pv 0)<|pv 1) d8)<|zf<|cH ze);exists _,Z,_,Z,a,_,Z,.inl J,_,_,Z,Z,_,Z;refine bH (λc=>?_) λc=>?_;{have c:=aW c;rw[ay]at c;(have hi:i.toNat<q.length:=by lia);refine⟨_,Z,_,Z,a,_,i,.int<|qf q i,Z,Z,J,?_,k⟩;(have e:qf q i=q[i.toNat]:=by unfold qf;rw[je,cj hi];rfl);have:=vh (xs:=q.map V.int) (j:=i.toNat) (v:=.int (qf q i)) (by rw[e];simp[hi]);rw[Int.toNat_of_nonneg O]at this;z_go};{have c:¬i<((q.map V.int).length:Int):=λz=>c (aO z);rw[ay]at c;(have e:qf q i=0:=by unfold qf;rw[je,pq 80];rfl);rw[e]at k;exact k}}
def z3r:Sp:=λj H Q _=>∃c k m,j=[.int c,.int k,.int m]/\0<m/\Q (.int<|pt c k m) H
theorem vF(T:20):fB P w K mg base "_law_part" ["_law_cell","_law_k","_law_many"] 1 z3r:=by refine T.zpz.has znz (λJ H Q E h=>?_) λf q A j s H J Q E W h=>?_;{obtain⟨c,i,m,rfl,_⟩:=h;rfl};{obtain⟨c,i,m,rfl,B,k⟩:=h;exists _,(zf<|cH<|fm xN (fm xN (fm Ge (fm xN (fm Ge (fm qG (fm xN (pv 0) ze) ze)<|fm qG ze<|fm Ge ze<|pv 1) ze)<|fm qG (pv 1) ze) ze)<|pv 2);have L:=jv c (show(99991:Int)≠0 by walk);have O:=jo c (show(0:Int)<99991 by walk);have S:=jv ((c%99991+17)*(48271+7919*i)) (show(65537:Int)≠0 by walk);have U:=jo ((c%99991+17)*(48271+7919*i)) (show(0:Int)<65537 by walk);walk_at "rd";exists(82:(0:Int)<99991);walk_at "rd";exists .inl ⟨82,82⟩;walk_at "rd";exists .inl ⟨80,80⟩;walk_at "rd";exists(82:(0:Int)<65537);walk_at "rd";exists .inl ⟨80,80⟩;walk_at "rd";exists(82:(0:Int)<8191);walk_at "rd";exact⟨B,k⟩}
theorem zsx{l:List Nat}:(l.map f).all id=l.all f:=by rw[List.all_map];rfl
def Rt(sg:Str):V->V|.str z=>.bl (!(Builtin.Str.occurrences sg z 0 sg.length 1).isEmpty)|_=>.cz
theorem z9b(l:99):l.filter (λ_=>true)=l:=pF.mpr λ_ _=>rfl
theorem zzi x sg:(((co x).map L2.sg).filter λ_=>true).map (Rt sg)=((co x).map λc=>decide (c∈co sg)).map V.bl:=by rw[z9b,bK,bK];apply gw;intro c _;show V.bl (!(Builtin.Str.occurrences sg ⟨#[c]⟩ 0 sg.length 1).isEmpty)=V.bl (decide<|c∈sg.cps.toList);rw[StrLaws.found_one]
def z3s:Sp:=λj H Q _=>∃x sg,j=[.str x,.str sg]/\120<=1000/\∀H',aj H H'->Q (.bl<|ye (co x) sg) H'
theorem Ru(T:20):fB P w K mg base "is_made_of" ["text","signs"] 1 z3s:=by refine T.zn8.has zlx (λU H Q E h=>?_) λf L A j s H U Q E W h=>?_;{obtain⟨x,sg,rfl,_⟩:=h;rfl};{obtain⟨x,sg,rfl,S,k⟩:=h;exists _,(zf<|cH<|gC (Ow K Z Z) 97 T.all PyProof.Rows.boot_all<|za (rS (own:=["sign"]) (cap:=["signs"]) (ix:=[1]) (mR:=zp (top 18)) Z ⟨Z,50,50,50,50⟩ Z (V7<|pv 0) (λ_ _ _ _=>oQ (i:=0) (show List.Nodup (["sign","signs"]:88)by kt_k) Z<|Or.inl Z) (λ_ _ _ _=>xq) λ_ _ _ _=>(xg UA (pv 0) (pv 1) (by k_in))) zd);refine⟨_,Z,x,Z,λD O=>?_⟩;refine Gu (V5 (x:=x)) (λ_=>true) (Rt sg) (λ_=>trivial) (by rw[ay,qt];exact i8 S) (λv B ys J q=>q) (λv B _ ys J q=>?_) ?_;{obtain⟨c,_,rfl⟩:=aD.mp B;exact⟨_,Z,_,Z,_,_,Z,Z,q⟩};{exists D,(co x).map λc=>decide (c∈co sg),Z,.inl<|.inl ?_;{rw[zb,zzi]};{rw[zsx];exact k _<|aj.new O}}}
def z3t:Sp:=λj H Q _=>∃x,j=[.str x]/\120<=1000/\∀H',aj H H'->Q (.bl<|jJ x) H'
theorem zwq(T:20):fB P w K mg base "is_name" ["text"] 2 z3t:=by refine T.zxl.has zsw (λvs H Q E h=>?_) λf fU A S s H vs Q E hr h=>?_;{obtain⟨x,rfl,_⟩:=h;rfl};{obtain⟨x,rfl,Y,k⟩:=h;obtain⟨O,B,J⟩:=T.zog;obtain⟨L,j,q⟩:=T.zj5;exists _,(zf<|cH<|CP (UB zB zB ze (gC NQ 97 T.len cU<|za (pv 0) zd)<|FW (v:=.int 12) 97 j q)<|BL<|bS (Ru T)<|za (pv 0)<|za (FW (v:=.str "abcdefghijklmnopqrstuvwxyz0123456789-") 97 B J) zd);exists _,Z,x,Z,i8 Y,_,_,Z,Z,_,Z;by_cases U:1<=120;{rw[aO (show(1:Int)<=(120:Int)by lia)];refine gi ⟨_,_,Z,Z,_,Z,?_⟩;by_cases W:120<=12;{rw[aO (show(120:Int)<=12 by lia)];refine gi ⟨_,Z,x,AV,Z,Y,λH' s'=>?_⟩;have:=k H' s';unfold jJ at this;rw[aO U,aO W]at this;z_go};{rw[aN (show¬(120:Int)<=12 by lia)];refine bh ?_;have:=k H (aj.refl H);unfold jJ at this;rw[aN W,nQ,fR]at this;z_go}};{rw[aN (show¬(1:Int)<=(120:Int)by lia)];refine bh ⟨_,Z,bh ?_⟩;have:=k H (aj.refl H);unfold jJ at this;rw[aN U,fR,fR]at this;z_go}}
def yE(x:Str):V:=if qI x=true then .int (l7 x)else .cz
def z7h:Sp:=λj H Q _=>∃x,j=[.str x]/\120<=1000/\∀H',aj H H'->Q (yE x) H'
theorem z3u(h:qI x=94):yE x=.cz:=by unfold yE;rw[h];exact ao bC
theorem Lx(h:qI x=true):yE x=.int (l7 x):=ak h
theorem zzj:(Str.ofString "-":Str)=⟨#[45]⟩:=by kt_k
theorem ql:(Str.ofString "0":Str)=⟨#[48]⟩:=by kt_k
theorem zl0(h:(co x).head?=some 45):fO (co x)=(co x).drop 1:=by cases e:co x with|nil=>rw[e]at h;cases h|cons c r=>rw[e]at h;have h:c=45:=dR h;subst h;rw[DO];rfl
theorem zl1(h:¬(co x).head?=some 45):fO (co x)=co x:=by cases e:co x with|nil=>rfl|cons c r=>rw[e]at h;exact DP r λz=>h (by rw[z];rfl)
theorem z3v l:(fO l).length<=l.length:=by cases l with|nil=>exact aB _|cons c r=>by_cases h:c=45;{subst h;rw[DO];exact fk _};{rw[DP r h];exact aB _}
theorem Rx(h:¬(1<=(fO<|co x).length/\(fO<|co x).length<=60)):qI x=94:=by unfold qI;by_cases h1:1<=(fO<|co x).length;{rw[aN (λz=>h ⟨h1,z⟩),nQ,fR,fR]};{rw[aN h1,fR,fR,fR]}
theorem zsy(h:ye (fO<|co x) qe=94):qI x=94:=by unfold qI;rw[h,nQ,fR]
theorem zwr(h1:1<=(fO<|co x).length)(h2:(fO<|co x).length<=60)(j:ye (fO<|co x) qe=true):qI x=!(decide ((fO<|co x).head?=some 48)&&!decide (x=yf)):=by unfold qI;rw[aO h1,aO h2,j];rfl
theorem zl2(T:20):fB P w K mg base "read_number" ["text"] 2 z7h:=by refine T.zl5.has jG (λvs H Q E h=>?_) λf fU A outer s H vs Q E hr h=>?_;{obtain⟨x,rfl,_⟩:=h;rfl};{obtain⟨x,rfl,hl,k⟩:=h;obtain⟨U,B,J⟩:=T.zxn;obtain⟨L,j,q⟩:=T.zj6;exists _,(zc (sset (i:=1) jG.nd<|M7 (pZ<|qY K Z PySem.F.plainAttrs_str PySem.F.slot_str_startswith PySem.F.type_str_startswith JF (pv 0)<|za eO zd) (zD Wc (pv 0) (xT ze) AA)<|pv 0)<|zc (dj (p6<|IT zB zB ze (gC NQ 97 T.len cU<|za (pv 1) zd)<|FW (v:=.int 60) 97 j q) (zf<|cH Am) d8)<|zc (dj (p6<|pZ<|bS (Ru T)<|za (pv 1)<|za (FW (v:=.str "0123456789") 97 B J) zd) (zf<|cH Am) d8)<|zc (dj (PW.pt<|tu (pZ<|qY K Z PySem.F.plainAttrs_str PySem.F.slot_str_startswith PySem.F.type_str_startswith JF (pv 1)<|za eO zd)<|vd<|zy vg (pv 0) eO<|c6 _) (zf<|cH Am) d8)<|zf<|cH<|nU Wa 97 T.int PyProof.Rows.boot_int<|za (pv 0) zd);exists _,Z,Z,x,_,Z,Z,_,Z;(have key:∀R:V->Hp->Prop,(∀y,co y=fO (co x)->R (.str y) H)->(if Txt.startswith x (Str.ofString "-")=true then NH Dz (vJ 0) (NG<|tC<|.int 1) NF (start ["text","figures"] [.str x]) H R else vJ 0 (start ["text","figures"] [.str x]) H R):=λR hR=>by rw[zzj,JY];by_cases c:(co x).head?=some 45;{rw[aO c];exact gi ⟨_,Z,_,Z,x,Z,i8 hl,hR _ (by rw[Xb,zl0 c])⟩};{rw[aN c];exact bh ⟨_,Z,hR x (zl1 c).symm⟩});refine key _ λy hy=>?_;(have hyl:y.length=(fO<|co x).length:=by rw[←qt,hy]);(have O:y.length<=1000:=by rw[hyl];exact bF (z3v _) (by rw[qt];exact hl));(have no:qI x=94->∀H',aj H H'->Q .cz H':=λz H' s'=>by have:=k H' s';rw[z3u z]at this;z_go);exists _,Z,y,Z,i8 O,_,_,Z,Z,_,Z;by_cases c1:1<=y.length;{rw[aO (show(1:Int)<=(y.length:Int)by lia)];refine gi ⟨_,_,Z,Z,_,Z,?_⟩;by_cases c2:y.length<=60;{rw[aO (show(y.length:Int)<=60 by lia)];refine bh ⟨_,Z,y,qe,Z,O,λH1 s1=>⟨_,Z,?_⟩⟩;rw[hy];cases c3:ye (fO<|co x) qe with|false=>exact gi<|no (zsy c3) H1 s1|true=>refine bh ⟨_,Z,Z,y,_,Z,Z,_,Z,?_⟩;have S:=zwr 80 80 c3;rw[ql,JY,hy];(have W:qI x=true->∀H',aj H H'->CS (Jb (λxs H Q=>∃x n,xs=[V.str x]/\PySem.intText? x=some n/\120<=640/\Q (.int n) H)<|IY (vJ 0) rO) {nx:=λ_ H'=>Q .cz H',rt:=Q} [some (.str x),some (.str y)] H':=λz H' s'=>by obtain⟨e1,e2⟩:=Xd z;exists _,Z,x,l7 x,Z,e1,bF e2 82;have:=k H' s';rw[Lx z]at this;z_go);by_cases c4:(fO<|co x).head?=some 48;{rw[aO c4]at S⊢;refine gi ⟨_,Z,Z,_,Z,?_⟩;by_cases Y:x=yf;{rw[aO Y]at S;rw[aO (show V.str x=V.str (⟨#[48]⟩:Str)by rw[Y];exact bw 114 ql)];exact bh<|W S H1 s1};{rw[aN Y]at S;rw[aN (show¬V.str x=V.str (⟨#[48]⟩:Str)fromλz=>Y ((V.str.inj z).trans ql.symm))];exact gi<|no S H1 s1}};{rw[aN c4]at S⊢;exact bh<|bh<|W S H1 s1}};{rw[aN (show¬(y.length:Int)<=60 by lia)];exact gi<|no (Rx 80) H<|aj.refl H}};{rw[aN (show¬(1:Int)<=(y.length:Int)by lia)];exact bh ⟨_,Z,gi<|no (Rx 80) H<|aj.refl H⟩}}
def EG:V->Bool|.str y=>!decide (y=(Str.ofString "":Str))|_=>false
def zzk:Sp:=λj H Q _=>∃x,j=[.str x]/\120<=1000000/\∀D H',H D=none->H' D=some (.lst<|(Dm.wordsOf x).map 114)->aj H H'->Q (.ref D) H'
theorem Ly x(h:120<=1000000)y:(Txt.split x y).length<=89:=by have:=(PyProof.Rows.fact_split x y).2;exact bF this<|bF (show 120+2<=1000002 by lia) 82
theorem Ry(h:n<=1000000):n<=89:=bF h 82
theorem zl3(T:20):fB P w K mg base "split_words" ["line"] 1 zzk:=by refine T.zl6.has zjv (λY H Q E h=>?_) λf W A L s H Y Q E hr h=>?_;{obtain⟨x,rfl,_⟩:=h;rfl};{obtain⟨x,rfl,B,k⟩:=h;exists _,(zf<|cH<|rS (own:=["word"]) (cap:=[]) (ix:=[]) (mR:=zp (top 21)) Z ⟨Z,50,50,50,50⟩ Z (jd K Z<|qY K Z PySem.F.plainAttrs_str PySem.F.slot_str_split PySem.F.type_str_split OC (pv 0)<|za eO zd) (λ_ _ _ _=>oQ (i:=0) (show List.Nodup (["word"]:88)by kt_k) Z<|Or.inl Z) (λ_ _ _ _=>AK<|zy vg (pv 0) eO<|c6 _) λ_ _ _ _=>(pv 0));refine⟨_,Z,Z,x,_,Z,Z,50,Ry B,Ly x B _,λp O=>?_⟩;refine⟨p,Z,⟨_,aH.of zb⟩,λD j=>?_⟩;have J:p≠D:=zj zb j;refine Gu (xu (a:=p) (K:=K) (xs:=(Txt.split x<|Str.ofString " ").map 114)) EG (λv=>v) (λys=>aH.of (by rw[zi J,zb])) (by rw[ay];exact Ly x B _) (λv S ys U q=>?_) (λv S _ ys U q=>?_) ?_;{obtain⟨y,_,rfl⟩:=aD.mp S;exists _,Z,Z,_,Z;(have e:EG (V.str y)=!decide (V.str y=V.str (Str.ofString "")):=by show(!decide (y=(Str.ofString "":Str)))=_;congr 1;exact iX.mpr ⟨λz=>bw 114 z,λz=>V.str.inj z⟩);rw[e]at q;exact q};{exact⟨_,Z,q⟩};{refine k D _ ((aj.new O).free j) ?_<|(aj.new O).trans<|aj.new j;rw[zb,List.map_id',List.filter_map];rfl}}
def zws:Sp:=λq H Q _=>∃a j,q=[98]/\aH K H a (j.map 114)/\∀H',aj H H'->Q (.bl<|Ei j) H'
theorem zhz(T:20):fB P w K mg base "is_passed_over" ["words"] 1 (zws (K:=K)):=by refine T.zh6.has zhb (λU H Q E h=>?_) λf L A q s H U Q E S h=>?_;{obtain⟨a,J,rfl,_⟩:=h;rfl};{obtain⟨a,J,rfl,B,k⟩:=h;exists _,(zf<|cH<|Ua (xg (AM K Z<|kF S) (pv 0) (gG zd)<|c6 _)<|BL<|qY K Z PySem.F.plainAttrs_str PySem.F.slot_str_startswith PySem.F.type_str_startswith JF (aK (jD K Z) (pv 0) ze)<|za eO zd);refine⟨_,Z,82,λe O=>?_⟩;have j:=aj.new (o:=.lst []) O;exists a,e,_,Z,Z,dY.nV (j.seq B)<|aH.of zb,_,Z;cases J with|nil=>exact gi<|k _ j|cons y r=>refine bh ⟨_,Z,a,_,_,_,Z,Z,j.seq B,vj,Z,y,_,Z,Z,k _ j⟩}
inductive oq:Str->V->Prop where|name{x:Str}(h:jJ x=true):oq "name" (.str x)|year{n:Int}(h:mY n):oq "year" (.int n)|gap{n:Int}(h0:0<=n)(h:mY n):oq "gap" (.int n)
def zzl:Sp:=λq H Q _=>∃j v r,q=[.str j,.str (fG v),r]/\oq j v/\∀H',aj H H'->Q v H'
theorem Cu(h:¬(Str.ofString a:Str)=Str.ofString b):decide (V.str (Str.ofString a)=V.str (Str.ofString b))=94:=aN λz=>h (V.str.inj z)
theorem zn2(T:20):fB P w K mg base "read_value" ["kind","word","row"] 3 zzl:=by refine T.zoa.has j6 (λW H Q E h=>?_) λf L A J s H W Q E hr h=>?_;{obtain⟨S,v,r,rfl,_⟩:=h;rfl};{obtain⟨S,v,r,rfl,O,k⟩:=h;exists _,(zc (dj (zy kM (pv 0) eO<|c6 _) (zc (dj (p6<|pZ<|bS (zwq T)<|za (pv 1) zd) (zf ud) d8)<|zf<|cH<|pv 1) d8)<|zc (sset (i:=3) j6.nd<|bS (zl2 T)<|za (pv 1) zd)<|zc (dj (PW.pt<|p5 (qF<|y9<|pv 3)<|uc<|PW.pt<|tu (zy kM (pv 0) eO<|c6 _)<|vd<|zy w9 (pv 3) ze<|c6 _) (zf ud) d8)<|zf<|cH<|pv 3);cases O with|name h=>rename_i x;have lx:=Ce h;exists _,Z,Z,_,Z;rw[aO Z];refine gi ⟨_,Z,x,Z,80,λH1 j=>⟨_,Z,?_⟩⟩;rw[h];exact bh ⟨_,Z,k _ j⟩|year h=>rename_i n;obtain⟨q,B,U⟩:qI (fG<|.int n)=true/\l7 (fG<|.int n)=n/\(fG<|.int n).length<=61:=DQ n h;exists _,Z,Z,_,Z;rw[Cu 50];refine bh ⟨_,Z,_,Z,80,λH1 j=>?_⟩;rw[Lx q,B];exists _,Z,_,Z;rw[aN (λz=>nomatch z)];refine bh ⟨_,Z,Z,_,Z,?_⟩;rw[Cu 50];exact bh<|bh ⟨_,Z,k _ j⟩|gap Y h=>rename_i n;obtain⟨q,B,U⟩:qI (fG<|.int n)=true/\l7 (fG<|.int n)=n/\(fG<|.int n).length<=61:=DQ n h;exists _,Z,Z,_,Z;rw[Cu 50];refine bh ⟨_,Z,_,Z,80,λH1 j=>?_⟩;rw[Lx q,B];exists _,Z,_,Z;rw[aN (λz=>nomatch z)];refine bh ⟨_,Z,Z,_,Z,?_⟩;rw[aO Z];refine gi ⟨_,Z,_,_,Z,Z,_,Z,?_⟩;rw[aN 80];exact bh ⟨_,Z,k _ j⟩}
structure zY (ws:List V) (kd:Str) (ks:List Str) (vs:List V):Prop where
 eq:ws = .str kd::vs
 Lz:(kd,ks.map V.str)∈dJ
 vals:Paired oq ks vs
 Rz:(Str.ofString "year" : Str)∈ks->∃pre lo hi,vs=pre++[.int lo,.int hi]/\lo<=hi
theorem z3w(h:cV ws):∃L ks vs,zY ws L ks vs:=by cases h with|dig B h1 h2=>exact⟨"dig",["year","year"],_,Z,by simp[dJ],.cons (.year h1)<|.cons (.year h2) .nil,λ_=>⟨[],_,_,Z,B⟩⟩|unit j=>exact⟨"unit",["name"],_,Z,by simp[dJ],.cons (.name j) .nil,λz=>absurd z 50⟩|plain q j J=>rename_i L x y;refine⟨L,["name","name"],_,Z,?_,.cons (.name j)<|.cons (.name J) .nil,λz=>absurd z 50⟩;unfold vo at q;simp only[aM,bE,bT]at q;rcases q with rfl|rfl|rfl|rfl<;>simp[dJ]|after j J O h1=>exact⟨"after",["name","name","gap"],_,Z,by simp[dJ],.cons (.name j)<|.cons (.name J)<|.cons (.gap O h1) .nil,λz=>absurd z 50⟩|find S j B h1 h2=>exact⟨"find",["name","name","year","year"],_,Z,by simp[dJ],.cons (.name S)<|.cons (.name j)<|.cons (.year h1)<|.cons (.year h2) .nil,λ_=>⟨[.str _,.str _],_,_,Z,B⟩⟩
theorem RA(h:oq j v):Bc (.str j) (.str<|fG v)=v:=by cases h with|name h=>rename_i x;show(if(Str.ofString "name":Str)=Str.ofString "name"then V.str x else V.int (l7 x))=V.str x;exact ak Z|year h=>rename_i n;show(if(Str.ofString "year":Str)=Str.ofString "name"then V.str (fG<|.int n)else V.int (l7<|Str.ofString<|toString n))=V.int n;rw[ao 50,(DQ _ h).2.1]|gap q h=>rename_i n;show(if(Str.ofString "gap":Str)=Str.ofString "name"then V.str (fG<|.int n)else V.int (l7<|Str.ofString<|toString n))=V.int n;rw[ao 50,(DQ _ h).2.1]
theorem RB:∀{ks}{vs},Paired oq ks vs->List.zipWith Bc (ks.map 114) (vs.map λv=>V.str (fG v))=vs|_,_,.nil=>rfl|_,_,.cons h t=>by rw[b7,b7,List.zipWith_cons_cons,RA h,RB t]
theorem zwu:∀x∈dJ,x.2.length<=4:=by kt_k
theorem zzm:∀x∈dJ,x.2≠[]:=by kt_k
theorem zzn(h:(j,ks)∈dJ):decide (j∈dJ.map (·.1))=true:=aO (aD.mpr ⟨_,h,Z⟩)
inductive uE(vs:99)(H:Hp)(Q:VK):Prop|mk a ws r(_:vs=[98,r])(_:aH K H a (ws.map λv=>V.str (fG v)))(_:cV ws)(_:∀p H',H p=none->H' p=some (.tup ws)->aj H H'->Q 101 H')
def zzo:Sp:=λj H Q _=>uE (K:=K) j H Q
inductive wB(vs:99)(H:Hp)(Q:VK):Prop|mk ad a kd ks us r(_:vs=[.ref ad,98,r])(_:(∀H',aI K H' ad (ks.map 114)))(_:aH K H a ((V.str kd::us).map λv=>V.str (fG v)))(_:zY (V.str kd::us) kd ks us)(_:∀p H',H p=none->H' p=some (.tup<|.str kd::us)->aj H H'->Q 101 H')
def z3x:Sp:=λj H Q _=>wB (K:=K) j H Q
theorem z3y{ks:88}(h:∀x∈ks,120<=100):∀v∈ks.map 114,Wd v:=by intro v j;obtain⟨x,q,rfl⟩:=aD.mp j;exact .inl ⟨x,Z,h x q⟩
theorem zpi:∀x∈dJ,∀v∈x.2,∀y,v=V.str y->y.length<=100:=by intro x q v j y e;k_go;simp[dJ]at q;rcases q with rfl|rfl|rfl|rfl|rfl|rfl|rfl|rfl<;>simp at j<;>(rcases j with rfl|rfl)<;>decide+kernel
theorem zpj(T:20):fB P w K mg base "read_form" ["form","words","row"] 4 (z3x (K:=K)):=by refine T.zpv.has lg (λL H Q E h=>?_) λf fU A outer s H L Q E hr h=>?_;{obtain⟨Y,a,kd,ks,us,r,rfl,_⟩:=h;rfl};{obtain⟨Y,a,kd,ks,L,r,rfl,kt,ha,⟨_,hf,S,hy⟩,k⟩:=h;exists _,(zc (dj (zy vg (gC (qc K Z) 97 T.len cU<|za (pv 1) zd) (fm qG (gC (qc K Z) 97 T.len cU<|za (pv 0) zd) ze)<|c6 _) (zf ud) d8)<|zc (Of (i:=3) (own:=["kind","word"]) (cap:=["row"]) (ix:=[2]) (mR:=zp (top 24)) Z lg.nd Z Z Z ⟨Z,50,50,50,50⟩ Z (W4 K Z true 94 97 T.zip<|za (pv 0)<|za (zD (Ot K Z) (pv 1) (xT ze) AA) zd) (λ_ _ _ _=>qZ (n:=2) K Z Z<|jB (oQ (i:=0) (show List.Nodup (["kind","word","row"]:88)by kt_k) Z<|Or.inl Z)<|jB (oQ (i:=1) (show List.Nodup (["kind","word","row"]:88)by kt_k) Z<|Or.inl Z) qX) (λ_ _ _ _=>xq) λ_ _ _ _=>(bS (zn2 T)<|za (pv 0)<|za (pv 1)<|za (pv 2) zd))<|zc (dj (PW.pt<|tu (zy (AM K Z<|kF hr) (zD (XX (K:=K) Z) (pv 0) (xT<|Au Ax ze) AA) (jI<|za eO<|za eO zd)<|c6 _)<|vd<|zy xO (aK (jD K Z) (pv 3)<|Au Ax ze) (aK (jD K Z) (pv 3)<|Au Ax ze)<|c6 _) (zf ud) d8)<|zf<|cH<|fm (Ou K Z) (jI<|za (aK (jD K Z) (pv 1) ze) zd)<|nU (Wm K Z) 97 T.tuple PyProof.Rows.boot_tuple<|za (pv 3) zd);have hl:ks.length=L.length:=Paired.length S;have h4:=zwu _ hf;(have h4:ks.length<=4:=by simpa using h4);have hsh:∀x∈ks,120<=100:=λx U=>zpi _ hf (.str x) (aD.mpr ⟨x,U,Z⟩) x Z;exists _,Z,a,_,Z,.inl ha,_,Z,Y,_,Z,.inr<|kt H,_,_,Z,Z,Z,_,Z;rw[aO (by simp only[ay,cR];congr 1;lia)];refine bh ?_;refine⟨_,Z,_,Z,_,Z,a,_,Z,ha,λp hp=>?_⟩;have s1:=aj.new (o:=.lst (gX ((V.str kd::L).map λv=>V.str (fG v)) (some 1) none)) hp;(have e1:upd H p (.lst<|gX ((V.str kd::L).map λv=>V.str (fG v)) (some 1) none) p=some (.lst<|L.map λv=>V.str (fG v)):=by rw[zb,b7,JL]);generalize upd H p (.lst<|gX ((V.str kd::L).map λv=>V.str (fG v)) (some 1) none)=H1 at s1 e1;refine⟨Y,p,_,_,Z,kt H1,aH.of e1,λD hD=>?_⟩;refine W0 (xs:=ks.map 114) (ys:=L.map λv=>V.str (fG v)) Bc hD (λH' s=>kt H') (λH' s=>s.seq<|aH.of e1) (by simp only[ay];exact hl) (i8 (by rw[ay];lia)) (λi x y ex ey H' Q' s hQ=>?_) λH2 s2 O=>?_;{rw[aT]at ex ey;cases ek:ks[i]? with|none=>rw[ek]at ex;cases ex|some kd'=>obtain⟨v,ev,RC⟩:=Paired.get' S ek;rw[ek]at ex;rw[ev]at ey;cases ex;cases ey;rw[RA RC]at hQ;exact⟨_,Z,_,Z,_,Z,kd',v,r,Z,RC,hQ⟩};rw[RB S]at O;have q2:=s1.trans s2;w_up;refine oU 94 (λQ' hQ=>?_) λH3 t3=>bh ?_;{(have yr:(Str.ofString "year":Str).length<=100:=by kt_k);(have wy:∀v∈[V.str "year",V.str "year"],Wd v:=λv S=>by simp at S;subst S;exact .inl ⟨_,Z,yr⟩);(have J:∀(t:ai)(zs:99)(q:Hp),aj H2 q->aI K q t zs->(∀z∈zs,z∈ks.map 114)->∀p2,q p2=none->∃b,dY K (upd q p2<|.tup [.str "year",.str "year"]) 8 (.ref t) (.ref p2) b/\(b=true->(Str.ofString "year":Str)∈ks):=by intro t zs q B ht hz p2 j;have wz:∀v∈zs,Wd v:=λv S=>z3y hsh v (hz v S);refine⟨_,dY.tG (n:=7) ((aj.new j).tup ht) (aI.of zb) (λx U=>(wz x U).flat) λx U=>(wy x U).flat,λz=>?_⟩;rw[O6 wz wy]at z;have z:=aW z;have:=hz (.str "year") (by rw[z];simp);obtain⟨x,U,e⟩:=aD.mp this;have e:=V.str.inj e;k_go;exact U);refine⟨_,Z,_,Z,_,Z,Y,_,Z,kt H2,λhw=>?W,λhw p9 hp9=>?C⟩;(case' W=>obtain⟨t,et⟩:∃t,t=Y:=⟨_,Z⟩;obtain⟨q,eH⟩:∃q,q=H2:=⟨_,Z⟩;(have B:aj H2 q:=by rw[eH];exact(aj.refl _));have Bm:=B _ _ O;have J:=J t (ks.map 114) q B (by rw[et];exact kt q) (λz h=>h);rw[←eH,←et]);(case' C=>have B:aj H2 (upd H2 p9<|.tup<|gX (ks.map 114) (some<|-2) none):=aj.new hp9;have e4:upd H2 p9 (.tup<|gX (ks.map 114) (some<|-2) none) p9=some (.tup<|gX (ks.map 114) (some<|-2) none):=zb;obtain⟨t,et⟩:∃t,t=p9:=⟨_,Z⟩;rw[←et];rw[←et]at e4 B;generalize upd H2 t (.tup<|gX (ks.map 114) (some<|-2) none)=q at B e4;have Bm:=B _ _ O;have J:=J t _ q B (aI.of e4) (λz h=>List.mem_of_mem_drop<|List.mem_of_mem_take h));all_goals refine⟨(by show 2<=89;walk),λp2 j=>?_⟩;obtain⟨b,hb,rj⟩:=J p2 j;have t5:=aj.new (o:=.tup [.str "year",.str "year"]) j;exists t,p2,b,Z,Z,hb,_,Z;refine bH (λc=>?_) λc=>hQ _<|B.trans t5;obtain⟨pre,lo,hi,rfl,AI⟩:=hy (rj c);have yF:=t5 _ _ Bm;exists _,Z,_,Z,D,_,_,_,Z,Z,aH.of yF,ZP _ _ _,_,Z,_,Z,D,_,_,_,Z,Z,aH.of yF,ZQ _ _ _,_,_,Z,Z,_,Z;rw[aN 80];exact hQ _<|B.trans t5};have LA:=t3 _ _ O;have q3:=q2.trans t3;refine⟨_,Z,a,_,_,_,Z,Z,q3.seq ha,vj,(by show 1<=89;walk),λp1 rY=>?_⟩;have s3:=aj.new (o:=.tup [.str kd]) rY;refine⟨_,Z,D,_,Z,.inl ⟨aH.of<|s3 _ _ LA,λp2 j=>?_⟩⟩;have B:=s3.trans (aj.new (o:=.tup L) j);refine⟨p1,p2,_,_,Z,Z,aI.of<|aj.new j _ _ zb,aI.of zb,81,i8 (by show 1+L.length<=1000;lia),λz=>?_,λ_ p3 Cj=>?_⟩;{subst z;have:ks=[]:=mD.mp (by simpa using hl);subst this;exact(zzm _ hf Z).elim};{exact k p3 _ ((q3.trans B).free Cj) zb<|(q3.trans B).trans<|aj.new Cj}}
theorem zn3(T:20):fB P w K mg base "read_entry" ["words","row"] 5 (zzo (K:=K)):=by refine T.zn9.has zly (λU H Q E h=>?_) λf fU A S s H U Q E hr h=>?_;{obtain⟨a,ws,r,rfl,_⟩:=h;rfl};{obtain⟨a,ws,r,rfl,L,hw,k⟩:=h;obtain⟨J,q,j⟩:=T.z4p;exists _,(zc (dj (qF<|WW j 97 q<|aK (jD K Z) (pv 0) ze) (zf ud) d8)<|zf<|cH<|bS (zpj T)<|za (WX j 97 q (aK (jD K Z) (pv 0) ze) λ_ _=>Z)<|za (pv 0)<|za (pv 1) zd);obtain⟨O,ks,U,B⟩:=z3w hw;have W:=B.Lz;have ew:=B.eq;subst ew;exists _,Z,a,_,_,_,Z,Z,L,vj,O,Z,_,Z;rw[zzn W];refine bh ?_;refine⟨_,Z,a,_,_,_,Z,Z,L,vj,O,_,Z,W,λY kt=>?_⟩;exact⟨_,Z,_,Z,Y,a,O,ks,U,r,Z,λH'=>kt.sq H',L,B,k⟩}
def z3z:Sp:=λJ H Q _=>∃p dx,J=[101]/\H p=some (.ins 93 dx [])/\∀B q j H',H B=none->H q=none->H j=none->cF 93 H' p B q j ⟨none,[],[],[]⟩->(∀b o,H b=85->b≠p->H' b=85)->Q .cz H'
theorem zgl(T:20):kH P w K mg base 93 "__init__" ["self"] 1 (z3z (C_Reading:=93)):=by refine T.zgq.has zfl (λvs H Q E h=>?_) λf fU A outer s H vs Q E hr h=>?_;{obtain⟨p,dx,rfl,_⟩:=h;rfl};{obtain⟨p,dx,rfl,hp,k⟩:=h;exists _,(zc (C6 (pv 0) Am Z)<|zc (C6 (pv 0) oR Z)<|zc (C6 (pv 0) Vx Z)<|zf<|C6 (pv 0) oR Z);exists _,Z,p,93,dx,[],Z,hp,T.mz,T.EE,(by show 0<1000;walk);intro j Y;have S:p≠j:=zj zb Y;exists _,Z,p,93,dx,_,Z,by rw[zi S,zb],T.mz,T.EF,(by show 1<1000;walk);intro q J;have U:p≠q:=zj zb J;exists _,Z,p,93,dx,_,Z,by rw[zi U,zb],T.mz,T.Hr,?_;{exact kg (C5 _ _ _) (by show 1+1<1000;walk)};intro W B;have n3:p≠W:=zj zb B;exists _,Z,p,93,dx,_,Z,by rw[zi n3,zb],T.mz,T.Hs,?_;{exact kg (C5 _ _ _)<|kg (lT<|C5 _ _ _) (by show 1+1+1<1000;walk)};(have O:∀{b:ai}{o:HO}{G:Hp},upd G p o b=none->b≠p->G b=none:=λh n=>by rwa[zi n]at h);have f1:H j=none:=O Y S.symm;(have e1:upd (upd (upd H p<|.ins 93 dx<|cM "frame" .cz []) j<|.dK []) p (.ins 93 dx<|cM "units" (.ref j)<|cM "frame" .cz []) j=some (.dK []):=by rw[zi S.symm,zb]);have L:j≠q:=zj e1 J;(have f2:H q=none:=by have:=O J U.symm;rw[zi L.symm]at this;exact O this U.symm);have e2:=zj (H:=upd (upd (upd (upd (upd H p<|.ins 93 dx<|cM "frame" .cz []) j<|.dK []) p<|.ins 93 dx<|cM "units" (.ref j)<|cM "frame" .cz []) q<|.dT []) p (.ins 93 dx<|cM "ties" (.ref q)<|cM "units" (.ref j)<|cM "frame" .cz [])) (a:=q) (b:=W) (o:=.dT []) (by rw[zi U.symm,zb]) B;have e3:=zj (H:=upd (upd (upd (upd (upd H p<|.ins 93 dx<|cM "frame" .cz []) j<|.dK []) p<|.ins 93 dx<|cM "units" (.ref j)<|cM "frame" .cz []) q<|.dT []) p (.ins 93 dx<|cM "ties" (.ref q)<|cM "units" (.ref j)<|cM "frame" .cz [])) (a:=j) (b:=W) (o:=.dK []) (by rw[zi S.symm,zi L,e1]) B;(have f3:H W=none:=by have:=O B n3.symm;rw[zi e2.symm]at this;have:=O this n3.symm;rw[zi e3.symm]at this;exact O this n3.symm);refine k j q W _ f1 f2 f3 ⟨⟨dx,.cz,?_,Z⟩,?_,?_,⟨[],.nil,?_⟩,e3,(λ_ h=>nomatch h),(λ_ h=>nomatch h)⟩ λb o e hb=>?_;{rw[zb,ZU]};{rw[zi S.symm,zi e3,zi S.symm,zi L,e1];rfl};{rw[zi U.symm,zi e2,zi U.symm,zb];rfl};{rw[zi n3.symm,zb];rfl};{rw[zi hb,zi (zj e f3),zi hb,zi (zj e f2),zi hb,zi (zj e f1),zi hb];exact e}}
inductive wC(vs:99)(H:Hp)(Q:VK):Prop|mk p du dt df s x r(_:vs=[101,.str x,r])(_:cF 93 H p du dt df s)(_:x∈s.us)(_:Q .cz H)
def z4a:Sp:=λj H Q _=>wC (C_Reading:=93) j H Q
theorem LB(T:20):kH P w K mg base 93 "need_unit" ["self","name","row"] 1 (z4a (C_Reading:=93)):=by refine T.zft.has zez (λW H Q E h=>?_) λf B A j s H W Q E O h=>?_;{obtain⟨p,q,L,J,st,x,r,rfl,_⟩:=h;rfl};{obtain⟨p,q,L,J,st,x,r,rfl,R,U,k⟩:=h;have S:=j5 O;exists _,(zf<|dj (qF<|Gm S (pv 1)<|ue (pv 0) Z) (zf ud) d8);obtain⟨dx,Y,h1,_⟩:=R.ob;exists _,Z,_,Z,p,93,dx,_,_,Z,h1,T.mz,T.EF,Hf _ _ _ _,q,_,Z,bL.k (k:=Sum.inr x) R.u,_,Z;rw[ZT (r8.mpr U)];exact bh k}
theorem zzp(R:cF 93 H p q J B s)(W:jJ x=true)(S:x∉s.us):cF 93 (upd H q<|.dK<|putK (dU s.us) (Sum.inr x:Key)<|.bl true) p q J B ⟨s.fr,s.us++[x],s.ts,s.fs⟩:=by obtain⟨dx,L,h1,h2⟩:=R.ob;obtain⟨af,U,O⟩:=R.f;(have st:∀b xs,H b=some (.tup xs)->upd H q (.dK<|putK (dU s.us) (Sum.inr x:Key)<|.bl true) b=some (.tup xs):=λb xs e=>by rw[zi (jO e R.u (by intro z;cases z))];exact e);rw[ZX S]at st⊢;refine⟨⟨dx,L,?_,h2.fC st⟩,zb,?_,⟨af,U.fC st,?_⟩,R.nu,λy j=>?_,R.qM⟩;{rw[zi (jO h1 R.u (by intro z;cases z))];exact h1};{rw[zi (jO R.t R.u (by intro z;cases z))];exact R.t};{rw[zi R.nu.symm];exact O};{rcases bJ.mp j with j|j;{exact R.names y j};{rw[cL]at j;subst j;exact W}}
theorem LC(h:n<=1000):n<89:=jC h
inductive uH(vs:99)(H:Hp)(Q:VK):Prop|mk p du dt df s x r(_:vs=[101,.str x,r])(_:cF 93 H p du dt df s)(_:jJ x=true)(_:x∉s.us)(_:s.us.length<=1000)(_:∀H',cF 93 H' p du dt df ⟨s.fr,s.us++[x],s.ts,s.fs⟩->iF H H' p du dt df->Q .cz H')
def zzq:Sp:=λj H Q _=>uH (C_Reading:=93) j H Q
theorem zfn(T:20):kH P w K mg base 93 "take_unit" ["self","name","row"] 1 (zzq (C_Reading:=93)):=by refine T.zfr.has zex (λvs H Q E h=>?_) λf O A q s H vs Q E Y h=>?_;{obtain⟨p,j,U,S,st,x,r,rfl,_⟩:=h;rfl};{obtain⟨p,j,U,S,st,x,r,rfl,R,hx,B,W,k⟩:=h;have J:=j5 Y;exists _,(zc (dj (qF<|BZ J (pv 1)<|ue (pv 0) Z) (zf ud) d8)<|zf<|mQ J (ue (pv 0) Z) (pv 1) ly Z);obtain⟨dx,fv,h1,_⟩:=R.ob;exists _,Z,_,Z,p,93,dx,_,_,Z,h1,T.mz,T.EF,Hf _ _ _ _,j,_,Z,bL.k (k:=Sum.inr x) R.u,_,Z;rw[Em (λz=>B<|r8.mp z)];refine bh ⟨_,Z,p,93,dx,_,_,Z,h1,T.mz,T.EF,Hf _ _ _ _,_,Z,j,_,Z,eE.k (k:=Sum.inr x) R.u ?_,?_⟩;{unfold dU;rw[ay];exact LC W};{exact k _ (zzp R hx B) λb o e b1 L b3 b4=>by rw[zi L];exact e}}
inductive wD(vs:99)(H:Hp)(Q:VK):Prop|mk p du dt df a s ws r(_:vs=[101,98,r])(_:cF 93 H p du dt df s)(_:H a=some (.tup ws))(_:iC s.us ws)(_:ws∉s.ts)(_:s.ts.length<=1000)(_:∀H',cF 93 H' p du dt df ⟨s.fr,s.us,s.ts++[ws],s.fs⟩->iF H H' p du dt df->Q .cz H')
def z4b:Sp:=λj H Q _=>wD (C_Reading:=93) j H Q
theorem zzr(R:cF 93 H p L q J s)(hw:∀v∈ws,Wd v)(S:ws∉s.ts):cF 93 (upd H q<|.dT<|putK (xA s.ts) (ws.map kW)<|.bl true) p L q J ⟨s.fr,s.us,s.ts++[ws],s.fs⟩:=by obtain⟨dx,O,h1,h2⟩:=R.ob;obtain⟨af,U,B⟩:=R.f;(have st:∀b xs,H b=some (.tup xs)->upd H q (.dT<|putK (xA s.ts) (ws.map kW)<|.bl true) b=some (.tup xs):=λb xs e=>by rw[zi (jO e R.t (by intro z;cases z))];exact e);rw[ZY R.qM hw S]at st⊢;refine⟨⟨dx,O,?_,h2.fC st⟩,?_,zb,⟨af,U.fC st,?_⟩,R.nu,R.names,λy j=>?_⟩;{rw[zi (jO h1 R.t (by intro z;cases z))];exact h1};{rw[zi (jO R.u R.t (by intro z;cases z))];exact R.u};{rw[zi (jO B R.t (by intro z;cases z))];exact B};{rcases bJ.mp j with j|j;{exact R.qM y j};{rw[cL]at j;subst j;exact hw}}
theorem RD(h:iC us ws):∃J x y,x∈us/\y∈us/\iZ ws 0=some (.str J)/\iZ ws 1=some (.str x)/\iZ ws 2=some (.str y)/\J∉([Str.ofString "dig",Str.ofString "unit",Str.ofString "find"]:88):=by cases h with|plain j q B=>exists _,_,_,q,B,Z,Z,Z;unfold vo at j;simp only[aM,bE,bT]at j;rcases j with rfl|rfl|rfl|rfl<;>decide+kernel|after q B L h1=>exact⟨_,_,_,q,B,Z,Z,Z,50⟩
theorem zgm(T:20):kH P w K mg base 93 "take_tie" ["self","tie","row"] 2 (z4b (C_Reading:=93)):=by refine T.zgr.has zfm (λvs H Q E h=>?_) λf fU A U s H vs Q E O h=>?_;{obtain⟨p,J,j,B,a,st,ws,r,rfl,_⟩:=h;rfl};{obtain⟨p,J,j,B,a,st,ws,r,rfl,R,L,Y,W,hl,k⟩:=h;have hu:=j5 O;exists _,(zc (dj (qF<|BZ hu (pv 1)<|ue (pv 0) Z) (zf ud) d8)<|zc (mW<|zI (LB T) T.mz (O.mono 82) (pv 0)<|za (aK 86 (pv 1) ze)<|za (pv 2) zd)<|zc (mW<|zI (LB T) T.mz (O.mono 82) (pv 0)<|za (aK 86 (pv 1) ze)<|za (pv 2) zd)<|zf<|mQ hu (ue (pv 0) Z) (pv 1) ly Z);obtain⟨dx,fv,h1,_⟩:=R.ob;have S:=(Y.words R.names).1;(have q:H a=some (.tup<|(ws.map kW).map kV):=by rw[G8 S];exact L);obtain⟨kd,x,y,hx,hy,i0,i1,i2,_⟩:=RD Y;exists _,Z,_,Z,p,93,dx,_,_,Z,h1,T.mz,T.Hr,Li _ _ _ _,j,_,Z,bL.t R.t q,_,Z;rw[Em (λz=>W<|(QM R.qM S).mp z)];refine bh ⟨_,Z,p,dx,_,Z,h1,yy _ _ _ _ 50,_,Z,a,_,_,_,Z,Z,aI.of L,i1,_,Z,p,J,j,B,st,x,r,Z,R,hx,?_⟩;exists _,Z,p,dx,_,Z,h1,yy _ _ _ _ 50,_,Z,a,_,_,_,Z,Z,aI.of L,i2,_,Z,p,J,j,B,st,y,r,Z,R,hy;exists _,Z,p,93,dx,_,_,Z,h1,T.mz,T.Hr,Li _ _ _ _,_,Z,j,_,Z,eE.t R.t q ?_;{unfold xA;rw[ay];exact LC hl};{exact k _ (zzr R S W) λb o e b1 b2 b3 b4=>by rw[zi b3];exact e}}
inductive uI(vs:99)(H:Hp)(Q:VK):Prop|mk p du dt df a s ws r(_:vs=[101,98,r])(_:cF 93 H p du dt df s)(_:H a=some (.tup ws))(_:rV s.us s.fs ws)(_:(∀f∈s.fs,∃x r,f=V.str x::r))(_:s.fs.length<=1000)(_:∀H',cF 93 H' p du dt df ⟨s.fr,s.us,s.ts,s.fs++[ws]⟩->iF H H' p du dt df->Q .cz H')
def zzs:Sp:=λj H Q _=>uI (C_Reading:=93) j H Q
theorem zfo(T:20):kH P w K mg base 93 "take_find" ["self","find","row"] 2 (zzs (C_Reading:=93)):=by refine T.zfs.has zey (λvs H Q E h=>?_) λf fU A U s H vs Q E hr h=>?_;{obtain⟨p,Y,W,q,a,st,ws,r,rfl,_⟩:=h;rfl};{obtain⟨p,Y,W,q,a,st,ws,r,rfl,R,L,ht,S,hl,k⟩:=h;have hu:=j5 hr;exists _,(zc (dj (qF<|BZ hu (aK 86 (pv 1) ze)<|ue (pv 0) Z) (zf ud) d8)<|zc (mW<|zI (LB T) T.mz (hr.mono 82) (pv 0)<|za (aK 86 (pv 1) ze)<|za (pv 2) zd)<|zf<|mQ hu (ue (pv 0) Z) (aK 86 (pv 1) ze) (pv 1) Z);obtain⟨dx,fv,h1,h2⟩:=R.ob;obtain⟨af,J,B⟩:=R.f;cases ht with|mk hn hx AI y1 y2 O=>rename_i nm x lo hi;obtain⟨e1,e2⟩:=ZZ (p:=a) (ws:=[.str nm,.str x,.int lo,.int hi]) J.len O ⟨_,Z⟩ S;exists _,Z,a,_,_,_,Z,Z,aI.of L,Z,_,Z,p,93,dx,_,_,Z,h1,T.mz,T.Hs,Lj _ _ _ _,q,_,Z,bL.k (k:=Sum.inr nm) B,_,Z;rw[e1];refine bh ⟨_,Z,p,dx,_,Z,h1,yy _ _ _ _ 50,_,Z,a,_,_,_,Z,Z,aI.of L,Z,_,Z,p,Y,W,q,st,x,r,Z,R,hx,?_⟩;exists _,Z,_,Z,p,93,dx,_,_,Z,h1,T.mz,T.Hs,Lj _ _ _ _,_,Z,a,_,_,_,Z,Z,aI.of L,Z,q,_,Z,eE.k (k:=Sum.inr nm) B ?_;{unfold dF;rw[iY,ay];exact LC<|bF (Nat.min_le_left _ _) hl};{(have j:∀b xs,H b=some (.tup xs)->upd H q (.dK<|putK (dF st.fs af) (Sum.inr nm:Key) 98) b=some (.tup xs):=λb xs e=>by rw[zi (jO e B (by intro z;cases z))];exact e);(refine k _ ⟨⟨dx,fv,?_,h2.fC j⟩,?_,?_,⟨af++[a],(J.fC j).snoc<|j _ _ L,?_⟩,R.nu,R.names,R.qM⟩ λb o e b1 b2 b3 b4=>by rw[zi b4];exact e);{rw[zi (jO h1 B (by intro z;cases z))];exact h1};{rw[zi R.nu];exact R.u};{rw[zi (jO R.t B (by intro z;cases z))];exact R.t};{rw[zb,e2]}}}
def EH(s:RS):Prop:=(∀f∈s.fs,∃x r,f=V.str x::r)/\s.us.length<=1000/\s.ts.length<=1000/\s.fs.length<=1000
inductive su(vs:99)(H:Hp)(Q:VK):Prop|mk p du dt df a s s' ws r(_:vs=[101,98,r])(_:cF 93 H p du dt df s)(_:H a=some (.tup ws))(_:f7 s ws s')(_:EH s)(_:∀H',cF 93 H' p du dt df s'->iF H H' p du dt df->Q .cz H')
def zwv:Sp:=λj H Q _=>su (C_Reading:=93) j H Q
theorem LD(h:(Str.ofString a:Str)=Str.ofString b):decide (V.str (Str.ofString a)=V.str (Str.ofString b))=true:=aO (bw 114 h)
theorem EI{xs:99}:¬(HT.cN (x::xs).length 0 (some 1)=0/\HT.cN (x::xs).length (x::xs).length none=(x::xs).length):=by rintro⟨z,_⟩;unfold HT.cN at z;simp at z
theorem ze0(T:20):kH P w K mg base 93 "take_entry" ["self","entry","row"] 3 (zwv (C_Reading:=93)):=by refine T.ze3.has zeh (λvs H Q E h=>?_) λf fU A outer s H vs Q E hr h=>?_;{obtain⟨p,Y,W,U,a,st,KW,ws,r,rfl,_⟩:=h;rfl};{obtain⟨p,Y,W,U,a,st,KW,ws,r,rfl,R,j,ht,J,k⟩:=h;exists _,(zf<|dj (zy kM (aK 86 (pv 1) ze) eO<|c6 _) (zf<|C6 (pv 0) (zD (Gx K Z) (pv 1) (xT ze) AA) Z)<|zf<|dj (zy kM (aK 86 (pv 1) ze) eO<|c6 _) (zf<|mW<|zI (zfn T) T.mz (hr.mono 82) (pv 0)<|za (aK 86 (pv 1) ze)<|za (pv 2) zd)<|zf<|dj (zy kM (aK 86 (pv 1) ze) eO<|c6 _) (zf<|mW<|zI (zfo T) T.mz (hr.mono 82) (pv 0)<|za (zD (Gx K Z) (pv 1) (xT ze) AA)<|za (pv 2) zd)<|zf<|mW<|zI (zgm T) T.mz (hr.mono 82) (pv 0)<|za (pv 1)<|za (pv 2) zd);obtain⟨dx,fv,h1,h2⟩:=R.ob;cases ht with|dig hl y1 y2=>rename_i us0 ts0 fs0 lo hi;exists _,Z,a,_,_,_,Z,Z,aI.of j,Z,Z,_,Z;rw[LD Z];refine gi ⟨_,Z,_,Z,a,_,Z,aI.of j,EI,λq hq=>?_⟩;rw[JL];have B:=aj.new (o:=.tup [V.int lo,V.int hi]) hq;exists _,Z,p,93,dx,_,Z,B _ _ h1,T.mz,T.EE,(by show 4<1000;walk);have O:=R.same B;(have L:∀b xs o,upd H q (.tup [V.int lo,V.int hi]) b=some (.tup xs)->upd (upd H q<|.tup [V.int lo,V.int hi]) p (.ins 93 dx o) b=some (.tup xs):=λb xs o e=>by rw[zi (jO e (B _ _ h1) (by intro z;cases z))];exact e);obtain⟨af,htf,hf⟩:=O.f;refine k _ ⟨⟨dx,.ref q,?_,q,Z,L _ _ _ zb⟩,?_,?_,⟨af,htf.fC λb xs e=>L b xs _ e,?_⟩,R.nu,R.names,R.qM⟩ λb o e b1 b2 b3 b4=>?_;{rw[zb,ZV]};{rw[zi (jO O.u (B _ _ h1) (by intro z;cases z))];exact O.u};{rw[zi (jO O.t (B _ _ h1) (by intro z;cases z))];exact O.t};{rw[zi (jO hf (B _ _ h1) (by intro z;cases z))];exact hf};{rw[zi b1];exact B _ _ e}|unit hx hn=>exists _,Z,a,_,_,_,Z,Z,aI.of j,Z,Z,_,Z;rw[Cu 50];refine bh ⟨_,Z,a,_,_,_,Z,Z,aI.of j,Z,Z,_,Z,?_⟩;rw[LD Z];exact gi ⟨_,Z,p,dx,_,Z,h1,yy _ _ _ _ 50,_,Z,a,_,_,_,Z,Z,aI.of j,Z,_,Z,p,Y,W,U,_,_,r,Z,R,hx,hn,J.2.1,k⟩|El ht hn=>obtain⟨kd,x,y,hx,hy,i0,i1,i2,hk⟩:=RD ht;simp only[aM,bE,bT,not_or]at hk;exists _,Z,a,_,_,_,Z,Z,aI.of j,i0,Z,_,Z;rw[aN (λz=>hk.1<|V.str.inj z)];refine bh ⟨_,Z,a,_,_,_,Z,Z,aI.of j,i0,Z,_,Z,?_⟩;rw[aN (λz=>hk.2.1<|V.str.inj z)];refine bh ⟨_,Z,a,_,_,_,Z,Z,aI.of j,i0,Z,_,Z,?_⟩;rw[aN (λz=>hk.2.2<|V.str.inj z)];exact bh ⟨_,Z,p,dx,_,Z,h1,yy _ _ _ _ 50,_,Z,_,Z,p,Y,W,U,a,_,_,r,Z,R,j,ht,hn,J.2.2.1,k⟩|find hf=>exists _,Z,a,_,_,_,Z,Z,aI.of j,vj,Z,_,Z;rw[Cu 50];refine bh ⟨_,Z,a,_,_,_,Z,Z,aI.of j,vj,Z,_,Z,?_⟩;rw[Cu 50];refine bh ⟨_,Z,a,_,_,_,Z,Z,aI.of j,vj,Z,_,Z,?_⟩;rw[LD Z];refine gi ⟨_,Z,p,dx,_,Z,h1,yy _ _ _ _ 50,_,Z,_,Z,a,_,Z,aI.of j,EI,λq hq=>?_⟩;rw[JL];rename_i f0 us0 ts0 fs0 S;have B:=aj.new (o:=.tup S) hq;exact⟨_,Z,p,Y,W,U,q,_,S,r,Z,R.same B,zb,hf,J.1,J.2.2.2,λH' R' kp=>k H' R'<|(aj.zU B).trans kp⟩}
inductive sC(vs:99)(H:Hp)(Q:VK):Prop|mk p du dt df a s s' ws r(_:vs=[101,98,r])(_:cF 93 H p du dt df s)(_:aH K H a (ws.map λv=>V.str (fG v)))(_:f7 s ws s')(_:EH s)(_:∀H',cF 93 H' p du dt df s'->iF H H' p du dt df->Q .cz H')
def zww:Sp:=λj H Q _=>sC (C_Reading:=93) (K:=K) j H Q
theorem zsz(h:f7 s ws s'):∃B r,ws=.str B::r/\decide (B=(Str.ofString "dig":Str))=s.fr.isNone:=by cases h with|dig W Y y2=>exact⟨_,_,Z,by show decide _=true;kt_k⟩|unit q J=>exact⟨_,_,Z,by show decide _=94;kt_k⟩|El L J=>(cases L with|plain j q O=>exists _,_,Z;unfold vo at j;simp only[aM,bE,bT]at j;rcases j with rfl|rfl|rfl|rfl<;>(show decide _=94;kt_k)|after q O S h1=>exact⟨_,_,Z,by show decide _=94;kt_k⟩)|find U=>exact⟨_,_,Z,by show decide _=94;kt_k⟩
theorem ze1(T:20):kH P w K mg base 93 "take_words" ["self","words","row"] 6 (zww (K:=K) (C_Reading:=93)):=by refine T.ze2.has zeg (λvs H Q E h=>?_) λf fU A L s H vs Q E hr h=>?_;{obtain⟨p,W,U,S,a,st,j,ws,r,rfl,_⟩:=h;rfl};{obtain⟨p,W,U,S,a,st,j,ws,r,rfl,R,ha,J,B,k⟩:=h;exists _,(zc (dj (zy vg (xg kM (aK (jD K Z) (pv 1) ze) eO<|c6 _) (IB<|y9<|ue (pv 0) Z)<|c6 _) (zf ud) d8)<|zf<|mW<|zI (ze0 T) T.mz (hr.mono 82) (pv 0)<|za (bS (zn3 T)<|za (pv 1)<|za (pv 2) zd)<|za (pv 2) zd);obtain⟨dx,Y,h1,h2⟩:=R.ob;obtain⟨kd,rest,rfl,hd⟩:=zsz J;have O:=(J.row R.names).1;exists _,Z,a,_,_,_,Z,Z,ha,vj,Z,_,Z,p,93,dx,_,_,Z,h1,T.mz,T.EE,Lh _ _ _ _,Z,_,Z;have e1:decide (V.str (fG<|.str kd)=V.str (Str.ofString "dig"))=decide (kd=(Str.ofString "dig":Str)):=iX.mpr ⟨λz=>V.str.inj z,λz=>bw 114 z⟩;(have e2:decide (Y=.cz)=st.fr.isNone:=by cases q:st.fr with|none=>rw[q]at h2;rw[show Y=V.cz from h2];rfl|some f=>rw[q]at h2;obtain⟨pp,e,_⟩:=h2;rw[e];rfl);rw[e1,e2,hd,aO Z];refine bh ⟨_,Z,p,dx,_,Z,h1,yy _ _ _ _ 50,_,Z,_,Z,a,_,r,Z,ha,O,λq H1 hq e s1=>?_⟩;exact⟨_,Z,p,W,U,S,q,st,j,_,r,Z,R.same s1,e,J,B,λH' R' kp=>k H' R'<|(aj.zU s1).trans kp⟩}
inductive qP(vs:99)(H:Hp)(Q:VK):Prop|mk p du dt df s lo hi(_:vs=[101])(_:cF 93 H p du dt df s)(_:s.fr=some (lo,hi))(_:∀tl pm pu pt pf at' af H',H tl=none->H pu=none->H pt=none->H pf=none->H' tl=some (.tup [.ref pm,.ref pu,.ref pt,.ref pf])->H' pm=some (.tup [.int lo,.int hi])->H' pu=some (.lst<|s.us.map 114)->H' pt=some (.lst<|at'.map 122)->bU H' at' s.ts->H' pf=some (.lst<|af.map 122)->bU H' af s.fs->pu≠pt->pu≠pf->pt≠pf->aj H H'->Q (.ref tl) H')
def zs0:Sp:=λj H Q _=>qP (C_Reading:=93) j H Q
theorem RE{H:Hp}:∀{as:List ai}{ts:List 99},(∀ws∈ts,∀v∈ws,Wd v)->GD H as (xA ts)->bU H as ts|[],[],_,_=>.nil|a::as,ws::ts,j,.cons h t=>by have h:H a=some (.tup<|(ws.map kW).map kV):=h;rw[G8 (j ws<|c8 ..)]at h;exact .cons h<|RE (λB q=>j B<|aZ _ q) t
theorem z4c(h:af.length=130):(dF fs af).map (·.2)=af.map 122:=by unfold dF;rw[List.map_snd_zip (by simp;lia)]
theorem zhd(T:20):kH P w K mg base 93 110 ["self"] 1 (zs0 (C_Reading:=93)):=by refine T.zhe.has zgk (λvs H Q E h=>?_) λf fU A outer s H vs Q E hr h=>?_;{obtain⟨p,du,dt,df,st,lo,hi,rfl,_⟩:=h;rfl};{obtain⟨p,du,dt,df,st,lo,hi,rfl,R,iO,k⟩:=h;exists _,(zf<|cH<|jI<|za (ue (pv 0) Z)<|za (nU (JV Z) 97 T.list ig<|za (ue (pv 0) Z) zd)<|za (nU (WS Z) 97 T.list ig<|za (ue (pv 0) Z) zd)<|za (nU (DN Z) 97 T.list ig<|za (DJ K Z PySem.F.plainAttrs_dict PySem.F.slot_dict_values PySem.F.type_dict_values DM<|ue (pv 0) Z) zd) zd);obtain⟨dx,fv,h1,h2⟩:=R.ob;obtain⟨af,U,hf⟩:=R.f;rw[iO]at h2;obtain⟨pm,rfl,zZ⟩:=h2;exists _,Z,p,93,dx,_,_,Z,h1,T.mz,T.EE,Lh _ _ _ _;refine⟨_,Z,p,93,dx,_,_,Z,h1,T.mz,T.EF,Hf _ _ _ _,du,_,Z,R.u,λpu S=>?_⟩;have s1:=aj.new (o:=.lst ((dU st.us).map λY=>kV Y.1)) S;(have e1:upd H pu (.lst<|(dU st.us).map λY=>kV Y.1) pu=some (.lst<|st.us.map 114):=by rw[zb];unfold dU;rw[bK];rfl);generalize upd H pu (.lst<|(dU st.us).map λY=>kV Y.1)=H1 at s1 e1;refine⟨_,Z,p,93,dx,_,_,Z,s1 _ _ h1,T.mz,T.Hr,Li _ _ _ _,dt,_,Z,s1 _ _ R.t,λj as kt J=>?_⟩;have tt:=RE R.qM kt;have s2:=aj.new (o:=.lst (as.map 122)) J;have O:=s1.trans s2;refine⟨_,Z,p,93,dx,_,_,Z,O _ _ h1,T.mz,T.Hs,Lj _ _ _ _,.inr<|.inr<|.inl ⟨Z,.inl ⟨_,O _ _ hf⟩⟩,df,_,Z,Z,O _ _ hf,λpv tU=>?_⟩;have B:=aj.new (o:=vm pv df) tU;refine⟨pv,df,_,Z,zb,B _ _<|O _ _ hf,λpf q=>?_⟩;rw[z4c U.len];have s4:=aj.new (o:=.lst (af.map 122)) q;have q4:=O.trans (B.trans s4);refine⟨(by show 4<=89;walk),λtl W=>?_⟩;have L:=aj.new (o:=.tup [.ref pm,.ref pu,.ref j,.ref pf]) W;have g1:=s2 _ _ e1;have g2:upd H1 j (.lst<|as.map 122) j=_:=zb;have n1:pu≠j:=zj e1 J;have n2:pu≠pf:=zj (B _ _ g1) q;have n3:j≠pf:=zj (B _ _ g2) q;exact k tl pm pu j pf as af _ (q4.free W) S (s1.free J) ((O.trans B).free q) zb (L _ _<|q4 _ _ zZ) (L _ _<|s4 _ _<|B _ _ g1) (L _ _<|s4 _ _<|B _ _ g2) (tt.same<|s2.trans<|B.trans<|s4.trans L) (L _ _ zb) (U.same<|q4.trans L) n1 n2 n3<|q4.trans L}
def Ht(s:RS)(i:Nat):Prop:=(∀f∈s.fs,∃x r,f=V.str x::r)/\s.us.length<=i/\s.ts.length<=i/\s.fs.length<=i
theorem Ht.step(h:Ht s i)(st:f7 s ws s'):Ht s' (i+1):=by obtain⟨a,b,c,d⟩:=h;cases st with|dig J S U=>exact⟨a,j0 b,j0 c,j0 d⟩|unit L q=>exact⟨a,by simp at b⊢;lia,by simp at c⊢;lia,by simp at d⊢;lia⟩|El O q=>exact⟨a,by simp at b⊢;lia,by simp at c⊢;lia,by simp at d⊢;lia⟩|find B=>refine⟨λf j=>?_,by simp at b⊢;lia,by simp at c⊢;lia,by simp at d⊢;lia⟩;rcases bJ.mp j with z|z;{exact a f z};{rw[cL]at z;subst z;cases B with|mk q L J h1 h2 _=>exact⟨_,_,Z⟩}
def z4d(H:Hp)(s:RS)(lo hi:Int)(Q:VK):Prop:=∀tl pm pu pt pf at' af H',H tl=none->H pu=none->H pt=none->H pf=none->H' tl=some (.tup [.ref pm,.ref pu,.ref pt,.ref pf])->H' pm=some (.tup [.int lo,.int hi])->H' pu=some (.lst<|s.us.map 114)->H' pt=some (.lst<|at'.map 122)->bU H' at' s.ts->H' pf=some (.lst<|af.map 122)->bU H' af s.fs->pu≠pt->pu≠pf->pt≠pf->aj H H'->Q (.ref tl) H'
inductive wF(vs:99)(H:Hp)(Q:VK):Prop|mk x s lo hi(_:vs=[.str x])(_:120<=1000000)(_:(∀l∈Txt.split x "\n",l.length<=1000000))(_:(Txt.split x "\n").length<=900)(_:Reads ⟨none,[],[],[]⟩ (Txt.split x "\n") s)(_:s.fr=some (lo,hi))(_:z4d H s lo hi Q)
def z4e:Sp:=λj H Q _=>wF j H Q
theorem zjx(T:20):fB P w K mg base "read_telling" ["text"] 7 z4e:=by refine T.zj0.has cY (λvs H Q E h=>?_) λf fU A outer s H vs Q E hr h=>?_;{obtain⟨x,st,lo,hi,rfl,_⟩:=h;rfl};{obtain⟨x,st,lo,hi,rfl,hl,Aa,hn,rd,iO,k⟩:=h;exists _,(zc (dj (p6<|pZ<|gC (Gz K Z) 97 T.isinstance o6<|za (pv 0)<|za (FY (v:=.ty "str") 97 T.str j9 Z) zd) (zf ud) d8)<|zc (sset (i:=1) cY.nd<|WZ (zgl T) T.ztb T.ztc (hr.mono 82) 97 T.zta)<|zc (iA bB Z (W2 K Z 1 82 97 T.enumerate<|qY K Z PySem.F.plainAttrs_str PySem.F.slot_str_split PySem.F.type_str_split OC (pv 0)<|za eO zd) (qZ K Z Z<|jB (eS (i:=2) cY.nd)<|jB (eS (i:=3) cY.nd) qX)<|zc (sset (i:=4) cY.nd<|bS (zl3 T)<|za (pv 3) zd)<|zf<|dj (p6<|pZ<|bS (zhz T)<|za (pv 4) zd) (zf<|mW<|zI (ze1 T) T.mz (hr.mono 82) (pv 1)<|za (pv 4)<|za (pv 2) zd) d8)<|zc (dj (qF<|y9<|ue (pv 1) Z) (zf ud) d8)<|zf<|cH<|WY (zhd T) T.mz (hr.mono 82)<|pv 1);refine⟨_,Z,_,_,_,true,Z,.str _,Z,_,Z,bh ?_⟩;intro r dx S hdx nrx;(have s0:aj H (upd (upd H dx<|.own r) r<|.ins 93 dx []):=λb o e=>by rw[zi (zj e S),zi (zj e hdx)];exact e);refine⟨r,dx,Z,zb,λdu dt df H1 f1 f2 f3 Y kp=>⟨Z,?_⟩⟩;have s1:aj H H1:=λb o e=>kp b o (s0 b o e) (zj e S);have fu:=s0.free f1;have ft:=s0.free f2;have ff:=s0.free f3;refine⟨_,Z,Z,x,_,Z,Z,50,Ry hl,Ly x hl _,λl B=>?_⟩;generalize LF:Txt.split x (Str.ofString "\n")=j at B;have eL:Txt.split x "\n"=j:=LF;rw[eL]at Aa hn rd;have s2:=aj.new (o:=.lst (j.map 114)) B;have fl:=s1.free B;(have nlr:l≠r:=by rintro rfl;obtain⟨_,_,e,_⟩:=Y.ob;rw[e]at B;cases B);(have Hu:l≠du:=λe=>by k_go;rw[Y.u]at B;cases B);(have nlt:l≠dt:=λe=>by k_go;rw[Y.t]at B;cases B);(have nlf:l≠df:=λe=>by k_go;obtain⟨_,_,e⟩:=Y.f;rw[e]at B;cases B);refine⟨l,_,Z,aH.of zb,W6 (xs:=j.map 114) (λi σ H'=>∃(W:RS)(v2 v3 v4:Option V),σ=[some (.str x),some (.ref r),v2,v3,v4]/\cF 93 H' r du dt df W/\Reads W (j.drop i) st/\Ht W i/\aj H H'/\H' l=some (.lst<|j.map 114)) ⟨_,none,none,none,Z,Y.same s2,by rw[List.drop_zero];exact rd,⟨(λ_ h=>nomatch h),aB _,aB _,aB _⟩,s1.trans s2,zb⟩ (λi σ H' _ h=>by obtain⟨_,_,_,_,_,_,_,_,_,e⟩:=h;exact aH.of e) ?_ ?_⟩;{rintro i v σ H' Tp hv⟨W,v2,v3,v4,rfl,R,J,fs,q,el⟩G2;rw[aT]at hv;cases ey:j[i]? with|none=>rw[ey]at hv;cases hv|some y=>rw[ey]at hv;cases hv;have hi:=(cE.mp ey).1;(have ed:j.drop i=y::j.drop (i+1):=by rw[List.drop_eq_getElem_cons hi];congr 1;exact(cE.mp ey).2);rw[ed]at J;have sT:=aj.new (o:=.tup [.int ((1+i:Nat):Int),.str y]) G2;exists Tp,_,Z,aI.of zb,Z,_,_,Z,_,_,Z,Z;refine⟨_,Z,y,Z,Aa y<|bM ey,λD H2 fD hD JO=>?_⟩;have sA:=sT.trans JO;refine⟨_,Z,D,_,Z,aH.of hD,λH3 s3=>⟨_,Z,?_⟩⟩;have U:=sA.trans s3;cases J with|skip h rr=>rw[h];exact bh ⟨W,_,_,_,Z,R.same U,rr,⟨fs.1,by have:=fs.2.1;lia,by have:=fs.2.2.1;lia,by have:=fs.2.2.2;lia⟩,q.trans U,U _ _ el⟩|row h uo rr=>rename_i GB ws;have np:=((uo.row R.names).1).uA;rw[h,np];obtain⟨L,fv',O,_⟩:=(R.same U).ob;(have LA:aH K H3 D (ws.map λv=>V.str (fG v)):=by have:=s3 _ _ hD;rw[h,bK]at this;exact aH.of this);refine gi ⟨_,Z,r,L,_,Z,O,yy _ _ _ _ 50,_,Z,_,Z,r,du,dt,df,D,W,GB,ws,_,Z,R.same U,LA,uo,⟨fs.1,by have:=fs.2.1;lia,by have:=fs.2.2.1;lia,by have:=fs.2.2.2;lia⟩,λH4 R4 Cv=>?_⟩;exact⟨GB,_,_,_,Z,R4,rr,fs.step uo,iF.same (q.trans U) Cv S fu ft ff,Cv _ _ (U _ _ el) nlr Hu nlt nlf⟩};{rintro σ H'⟨W,v2,v3,v4,rfl,R,J,fs,q,el⟩;rw[ay,List.drop_length]at J;cases J;obtain⟨L,fv',O,RG⟩:=R.ob;rw[iO]at RG;obtain⟨pm,rfl,zZ⟩:=RG;exists _,Z,r,93,L,_,_,Z,O,T.mz,T.EE,Lh _ _ _ _,_,Z;rw[aN (λz=>nomatch z)];refine bh ⟨_,Z,r,L,_,Z,O,yy _ _ _ _ 50,r,du,dt,df,st,lo,hi,Z,R,iO,λtl pm pu EJ pf at' af H5 g1 g2 g3 g4 g5 g6 g7 g8 g9 ga gb gc gd ge sF=>?_⟩;exact k tl pm pu EJ pf at' af H5 (q.free g1) (q.free g2) (q.free g3) (q.free g4) g5 g6 g7 g8 g9 ga gb gc gd ge<|q.trans sF}}
inductive wG(vs:99)(H:Hp)(Q:VK):Prop|mk pd us xw f s(_:vs=[.ref pd,.str f,.str s])(_:H pd=some (.dK<|dN us xw))(_:us.Nodup)(_:109<=1000)(_:∀H',H' pd=some (.dK<|dN us<|jn xw f s)->(∀b o,b≠pd->H b=85->H' b=85)->Q .cz H')
def z4f:Sp:=λj H Q _=>wG j H Q
theorem zpl(T:20):fB P w K mg base "join_ones" ["names","first","second"] 1 z4f:=by refine T.zpx.has iT (λvs H Q E h=>?_) λf fU A outer s H vs Q E hr h=>?_;{obtain⟨pd,us,j,f,s,rfl,_⟩:=h;rfl};{obtain⟨pd,us,j,f,s',rfl,hd,nd,hl,k⟩:=h;have hu:=j5 hr;exists _,(zc (sset (i:=3) iT.nd<|gC (PM Z) 97 T.min nC<|za (pv 1)<|za (pv 2) zd)<|zf<|iA bB Z (jd K Z<|nU (JV Z) 97 T.list ig<|za (pv 0) zd) (eS (i:=4) iT.nd)<|zf<|dj (zy (Gy K Z) (eZ hu (pv 0) (pv 4) λ_ _=>Z) (jI<|za (pv 1)<|za (pv 2) zd) (by k_in)) (zf<|mQ hu (pv 0) (pv 4) (pv 3) Z) d8);exists _,Z,_,Z,_,_,Z;refine⟨_,Z,pd,_,Z,hd,λl Y=>?_⟩;rw[Xm];have Ab:pd≠l:=zj hd Y;refine⟨l,Z,⟨_,aH.of zb⟩,mG (xs:=us.map 114) (λi σ H'=>∃v4,σ=[some (.ref pd),some (.str f),some (.str s'),some (.str<|kY f s'),v4]/\(∀b o,b≠pd->H b=85->H' b=85)/\H' l=some (.lst<|us.map 114)/\H' pd=some (.dK<|dN us λx=>if x∈us.take i then jn j f s' x else j x)) ⟨none,Z,λb o _ e=>aj.new Y _ _ e,zb,?_⟩ (λi σ H' _ h=>by obtain⟨_,_,_,q,_⟩:=h;exact aH.of q) ?_ ?_⟩;{rw[zi Ab,hd,Cf (f:=λx=>if x∈us.take 0 then jn j f s' x else j x) (g:=j) λx _=>81]};{rintro i x σ H1 hx⟨v4,rfl,kp,O,J⟩;rw[aT]at hx;cases L:us[i]? with|none=>rw[L]at hx;cases hx|some u=>rw[L]at hx;cases hx;have oG:u∈us:=bM L;have hi:=jE L;(have W:u∉us.take i:=by have:=tM nd i hi;rw[show us[i]=u from(cE.mp L).2]at this;z_go);have hg:=bL.k (k:=Sum.inr u) J;rw[oH oG,ao W]at hg;w_up;refine oU (decide<|j u=f\/j u=s') (λQ' hQ=>?_) λH2 t2=>?_;{refine⟨_,Z,_,Z,pd,_,Z,hg,_,Z,_,Z,(by show 2<=89;walk),λp hp=>?_⟩;exists p,_,Z,.inr<|aI.of zb,Z,Z,_,Z;(have e:xh (.str<|j u) [.str f,.str s']=decide (j u=f\/j u=s'):=by rw[show([.str f,.str s']:99)=[f,s'].map 114 from rfl,Lg];apply iX.mpr;simp);show Q' (xh (.str<|j u) [.str f,.str s']) _;rw[e];exact hQ _<|aj.new hp};{have U:=t2 _ _ J;have EK:∀b o,b≠pd->H b=85->H2 b=85:=λb o n e=>t2 _ _ (kp b o n e);refine bH (λc=>?_) λc=>?_;{have c:=aW c;exists _,Z,_,Z,_,Z,pd,_,Z,eE.k (k:=Sum.inr u) U (by rw[DT];exact jC hl);exists _,Z,λb o n e=>by rw[zi n];exact EK b o n e,?_;{rw[zi Ab.symm];exact t2 _ _ O};{rw[zb,Kg oG];congr 2;refine Cf λz hz=>?_;(have S:z∈us.take (i+1)↔z∈us.take i\/z=u:=by rw[aR,L];simp);by_cases e:z=u;{k_go;rw[ak Z,ak (S.mpr<|.inr Z)];exact(ak c).symm};{rw[ao e];by_cases B:z∈us.take i;{rw[ak B,ak (S.mpr<|.inl B)]};{rw[ao B,ao (λq=>(S.mp q).elim B e)]}}}};{have c:¬(j u=f\/j u=s'):=λz=>c (aO z);exists _,Z,EK,t2 _ _ O;rw[U];congr 2;refine Cf λz hz=>?_;(have S:z∈us.take (i+1)↔z∈us.take i\/z=u:=by rw[aR,L];simp);by_cases e:z=u;{k_go;rw[ao W,ak (S.mpr<|.inr Z)];exact(ao c).symm};{by_cases B:z∈us.take i;{rw[ak B,ak (S.mpr<|.inl B)]};{rw[ao B,ao (λq=>(S.mp q).elim B e)]}}}}};{rintro σ H1⟨v4,rfl,kp,O,J⟩;refine k _ ?_ kp;rw[J,ay,bu];congr 2;exact Cf λz hz=>ak hz}}
inductive yG(vs:99)(H:Hp)(Q:VK):Prop|mk pu pt us az ts(_:vs=[.ref pu,.ref pt])(_:aH K H pu (us.map 114))(_:aH K H pt (az.map 122))(_:bU H az (ts.map bO))(_:us.Nodup)(_:109<=1000)(_:(∀t∈ts,t.a∈us/\t.b∈us))(_:∀pd H',H pd=none->H' pd=some (.dK<|dN us<|aq ts)->aj H H'->Q (.ref pd) H')
def z7i:Sp:=λj H Q _=>yG (K:=K) j H Q
theorem Hv(T:20):fB P w K mg base "one_names" ["units","ties"] 2 (z7i (K:=K)):=by refine T.zpw.has gq (λvs H Q E h=>?_) λf fU A outer s H vs Q E hr h=>?_;{obtain⟨pu,pt,us,az,ts,rfl,_⟩:=h;rfl};{obtain⟨pu,pt,us,az,ts,rfl,Y,W,tp,nd,hl,iS,k⟩:=h;have hu:=j5 hr;exists _,(zc (sset (i:=2) gq.nd oR)<|zc (iA bB Z (jd K Z<|pv 0) (eS (i:=3) gq.nd)<|zf<|mQ hu (pv 2) (pv 3) (pv 3) Z)<|zc (iA bB Z (jd K Z<|pv 1) (eS (i:=4) gq.nd)<|zf<|dj (zy kM (aK 86 (pv 4) ze) eO<|c6 _) (zf<|mW<|bS (zpl T)<|za (pv 2)<|za (eZ hu (pv 2) (aK 86 (pv 4) ze) λ_ _=>Z)<|za (eZ hu (pv 2) (aK 86 (pv 4) ze) λ_ _=>Z) zd) d8)<|zf<|cH<|pv 2);(have U:az.length=129:=by have:=tp.len;rw[ay]at this;z_go);refineλpd B=>?_;have s0:=aj.new (o:=.dK []) B;refine⟨_,Z,pu,Z,⟨_,s0.seq Y⟩,mG (xs:=us.map 114) (λi σ H'=>∃v3,σ=[some (.ref pu),some (.ref pt),some (.ref pd),v3,none]/\aj H H'/\H' pd=some (.dK<|dN (us.take i) id)) ⟨none,Z,s0,zb⟩ (λi σ H' _ h=>by obtain⟨_,_,q,_⟩:=h;exact q.seq Y) ?_ ?_⟩;{rintro i x σ H1 L⟨v3,rfl,q,hd⟩;rw[aT]at L;cases O:us[i]? with|none=>rw[O]at L;cases L|some u=>rw[O]at L;cases L;have hi:=jE O;(have iO:u∉us.take i:=by have:=tM nd i hi;rw[show us[i]=u from(cE.mp O).2]at this;z_go);w_up;exists _,Z,_,Z,_,Z,pd,_,Z,eE.k (k:=Sum.inr u) hd (by rw[DT,bP];exact jC 80);exists _,Z,q.upd B;rw[zb,aR,O];congr 2;exact Pg iO};{rintro σ H1⟨v3,rfl,q,hd⟩;rw[ay,bu]at hd;refine⟨_,Z,pt,Z,⟨_,q.seq W⟩,mG (xs:=az.map 122) (λi σ H'=>∃v4,σ=[some (.ref pu),some (.ref pt),some (.ref pd),v3,v4]/\aj H H'/\H' pd=some (.dK<|dN us<|aq<|ts.take i)) ⟨none,Z,q,hd⟩ (λi σ H' _ h=>by obtain⟨_,_,q,_⟩:=h;exact q.seq W) ?_ ?_⟩;{rintro i x σ H2 L⟨v4,rfl,q2,j⟩;obtain⟨r,t,rfl,ht,_,hr⟩:=vp tp L;have J:=q2 _ _ hr;have S:=iS t (bM ht);w_up;exists _,Z,r,_,_,_,Z,Z,aI.of J,yi t,Z,_,Z;refine bH (λc=>?_) λc=>?_;{have c:t.k=c7:=V.str.inj (aW c);have g1:=bL.k (k:=Sum.inr t.a) j;have g2:=bL.k (k:=Sum.inr t.b) j;rw[oH S.1]at g1;rw[oH S.2]at g2;exists _,Z,_,Z,_,Z,r,_,_,_,Z,Z,aI.of J,yj t,pd,_,Z,g1,_,Z,_,Z,r,_,_,_,Z,Z,aI.of J,yk t,pd,_,Z,g2;refine⟨pd,us,_,_,_,Z,j,nd,hl,λH3 qA kp=>?_⟩;exists _,Z,λb o e=>kp b o (zj e B)<|q2 b o e;rw[qA,Pf ht];unfold uo;rw[ak c]};{have c:¬t.k=c7:=λz=>c (aO<|bw 114 z);exists _,Z,q2;rw[j,Pf ht];unfold uo;rw[ao c]}};{rintro σ H2⟨v4,rfl,q2,j⟩;rw[ay,U,bu]at j;exact⟨_,Z,k pd _ B j q2⟩}}}
abbrev EL(H:Hp):List ai->List 88->Prop:=Paired λa g=>H a=some (.lst<|g.map 114)
theorem RH:∀{ks:88},(∀k∈ks,H (ad k)=some (.lst<|(g k).map 114))->EL H (ks.map ad) (ks.map g)|[],_=>.nil|k::r,h=>.cons (h k 81) (RH λz j=>h z (aZ _ j))
inductive wH(vs:99)(H:Hp)(Q:VK):Prop|mk pu pt us az ts(_:vs=[.ref pu,.ref pt])(_:aH K H pu (us.map 114))(_:aH K H pt (az.map 122))(_:bU H az (ts.map bO))(_:us.Nodup)(_:109<64)(_:(∀t∈ts,t.a∈us/\t.b∈us))(_:∀p as H',H p=none->(∀a∈as,H a=none)->p∉as->as.Nodup->H' p=some (.lst<|as.map 122)->EL H' as (vt us ts)->aj H H'->Q 101 H')
def z4g:Sp:=λj H Q _=>wH (K:=K) j H Q
theorem RI(T:20):fB P w K mg base "ones" ["units","ties"] 3 (z4g (K:=K)):=by refine T.z7s.has ng (λvs H Q E h=>?_) λf fU A outer s H vs Q E hr h=>?_;{obtain⟨pu,pt,us,az,ts,rfl,_⟩:=h;rfl};{obtain⟨pu,pt,us,az,ts,rfl,Ac,vG,tp,nd,hl,iS,k⟩:=h;have hu:=j5 hr;exists _,(zc (sset (i:=2) ng.nd<|bS (Hv T)<|za (pv 0)<|za (pv 1) zd)<|zc (sset (i:=3) ng.nd oR)<|zc (iA bB Z (jd K Z<|gC (XW (K:=K) Z) 97 T.sorted lE<|za (pv 0) zd) (eS (i:=4) ng.nd)<|zf<|mW<|qY K Z PySem.F.plainAttrs_list 135 136 xj (X0 (pv 3) (eZ hu (pv 2) (pv 4) λ_ _=>Z) (gG zd) ⟨Z,Z,Z,Z⟩)<|za (pv 4) zd)<|zf<|cH<|nU (DN Z) 97 T.list ig<|za (DJ K Z PySem.F.plainAttrs_dict PySem.F.slot_dict_values PySem.F.type_dict_values DM<|pv 3) zd);refine⟨_,Z,_,Z,pu,pt,us,az,ts,Z,Ac,vG,tp,nd,80,iS,λpn H1 LG hn s1=>?_⟩;kd_p;refineλpd mU=>?_;have s2:=aj.new (o:=.dK []) mU;refine⟨_,Z,pu,us,Z,(s1.trans s2).seq Ac,hl,λl ms EM pm rs=>?_⟩;have em:=GN pm rs;subst em;have s3:=aj.new (o:=.lst ((aJ us).map 114)) EM;have tV:H pd=none:=s1.free mU;have fl:H l=none:=(s1.trans s2).free EM;have n1:pd≠l:=zj zb EM;have n2:pn≠pd:=zj hn mU;have n3:pn≠l:=zj (s2 _ _ hn) EM;refine⟨l,Z,⟨_,aH.of zb⟩,mG (xs:=(aJ us).map 114) (λi σ H'=>∃v4 J,σ=[some (.ref pu),some (.ref pt),some (.ref pn),some (.ref pd),v4]/\aj H H'/\H' l=some (.lst<|(aJ us).map 114)/\H' pn=some (.dK<|dN us<|aq ts)/\H' pd=some (.dK<|dV (keysOf ts<|(aJ us).take i) λk=>.ref (J k))/\(∀k∈keysOf ts ((aJ us).take i),H' (J k)=some (.lst<|(qx ts ((aJ us).take i) k).map 114)/\H (J k)=none/\J k≠pd/\J k≠l/\J k≠pn)/\(∀k∈keysOf ts ((aJ us).take i),∀k'∈keysOf ts ((aJ us).take i),J k=J k'->k=k')) ⟨none,λ_=>0,Z,s1.trans<|s2.trans s3,zb,s3 _ _<|s2 _ _ hn,s3 _ _ zb,(λk Y=>by simp[keysOf]at Y),λk Y=>by simp[keysOf]at Y⟩ (λi σ H' _ h=>by obtain⟨_,_,_,_,q,_⟩:=h;exact aH.of q) ?_ ?_⟩;{rintro i v σ H2 hx⟨v4,J,rfl,q,oX,xX,L,B,S⟩;rw[aT]at hx;cases W:(aJ us)[i]? with|none=>rw[W]at hx;cases hx|some u=>rw[W]at hx;cases hx;have oG:u∈us:=kZ.mp (bM W);have hi:=jE W;(have Qn:(keysOf ts<|(aJ us).take i).length<=63:=by have h1:(keysOf ts<|(aJ us).take i).length<=((aJ us).take i).length:=fQ _ _;(have h2:((aJ us).take i).length<=(aJ us).length:=by rw[bP];lia);rw[Km]at h2;lia);(have hgl:∀k,(qx ts ((aJ us).take i) k).length<=63:=λk=>by have h1:(qx ts ((aJ us).take i) k).length<=((aJ us).take i).length:=fQ _ _;(have h2:((aJ us).take i).length<=(aJ us).length:=by rw[bP];lia);rw[Km]at h2;lia);have g:=bL.k (k:=Sum.inr u) xX;rw[oH oG]at g;obtain⟨LH,LI⟩:=Xr (ts:=ts) nd W;kd_p;refine⟨_,Z,pd,Z,.inl ⟨_,.inl L⟩,_,Z,_,Z,pn,_,Z,g,82,λq0 U=>?_⟩;have t0:=aj.new (o:=.lst []) U;have qA:=t0 _ _ L;have nq:pd≠q0:=zj L U;refine⟨_,Sum.inr<|aq ts u,qA,Z,by rw[iH];exact jC 80,λv hv=>?_,λhv=>?_⟩;{(have j:aq ts u∈keysOf ts ((aJ us).take i):=gv λz=>by rw[AZ z]at hv;cases hv);rw[qw j]at hv;cases hv;obtain⟨h1,h2,h3,h4,h5⟩:=B _ j;(have tR:¬aq ts u=u:=λe=>by rw[e]at j;exact LH j);have RJ:=t0 _ _ h1;(exists .inl ⟨Z,_,aH.of RJ⟩,_,Z,J<|aq ts u,_,_,Z,Z,RJ,by rw[ay];exact jC (by have:=hgl (aq ts u);lia));(have ks:keysOf ts ((aJ us).take<|i+1)=keysOf ts ((aJ us).take i):=by rw[Pk W,ao tR,e9]);exists _,J,Z,(q.trans t0).upd h2,?_,?_,?_,?_;{rw[zi (aG h4)];exact t0 _ _ oX};{rw[zi (aG h5)];exact t0 _ _ xX};{rw[zi (aG h3),ks];exact qA};{rw[ks];intro k Y;obtain⟨b1,b2,b3,b4,b5⟩:=B k Y;refine⟨?_,b2,b3,b4,b5⟩;rw[Kn W];by_cases e:aq ts u=k;{k_go;rw[ak Z,zb,aU];rfl};{rw[ao e,e9,zi (λz=>e<|S _ j _ Y z.symm)];exact t0 _ _ b1}};{rw[ks];exact S}};{(have j:aq ts u∉keysOf ts ((aJ us).take i):=λz=>by rw[qw z]at hv;cases hv);have he:aq ts u=u:=gv λz=>j (Xq nd iS W z);rw[he];rw[he]at j;(have e3:upd (upd H2 q0<|.lst []) pd (.dK<|putK (dV (keysOf ts<|(aJ us).take i) λk=>.ref (J k)) (Sum.inr u)<|.ref q0) q0=some (.lst []):=by rw[zi (aG nq),zb]);(exists .inl ⟨Z,_,aH.of e3⟩,_,Z,q0,_,_,Z,Z,e3,82);(have ks:keysOf ts ((aJ us).take<|i+1)=keysOf ts ((aJ us).take i)++[u]:=by rw[Pk W,ak he]);have nl:l≠q0:=zj oX U;have nn:pn≠q0:=zj xX U;have RK:H q0=none:=q.free U;exists _,λz=>if z=u then q0 else J z,Z,((q.trans t0).upd tV).upd RK,?_,?_,?_,?_;{rw[zi nl,zi (aG n1)];exact t0 _ _ oX};{rw[zi nn,zi n2];exact t0 _ _ xX};{rw[zi nq,zb,ur j,ks];congr 2;refine tN λz hz=>?_;fin2;by_cases e:z=u;{rw[ak e,ak e]};{rw[ao e,ao e]}};{rw[ks];intro k Y;fin2;by_cases e:k=u;{k_go;rw[ak Z];refine⟨?_,RK,aG nq,aG nl,aG nn⟩;rw[zb,Kn W,ak he,LI he];rfl};{rw[ao e];(have ym:k∈keysOf ts ((aJ us).take i):=by rcases bJ.mp Y with h|h;{exact h};{exact absurd (by simpa using h) e});obtain⟨b1,b2,b3,b4,b5⟩:=B k ym;refine⟨?_,b2,b3,b4,b5⟩;have nk:J k≠q0:=zj b1 U;rw[zi nk,zi b3,Kn W,ao (λz=>e<|z.symm.trans he),e9];exact t0 _ _ b1}};{rw[ks];intro k Y k' ym z;dsimp only at z;(have O:∀z,z∈keysOf ts ((aJ us).take i)++[u]->z≠u->z∈keysOf ts ((aJ us).take i):=λz hz e=>by rcases bJ.mp hz with h|h;{exact h};{exact absurd (by simpa using h) e});by_cases e:k=u;{by_cases e':k'=u;{rw[e,e']};{rw[ak e,ao e']at z;have:=(B k'<|O _ ym e').1;exact absurd z.symm<|zj this U}};{by_cases e':k'=u;{rw[ao e,ak e']at z;have:=(B k<|O _ Y e).1;exact absurd z<|zj this U};{rw[ao e,ao e']at z;exact S k (O _ Y e) k' (O _ ym e') z}}}}};{rintro σ H2⟨v4,J,rfl,q,oX,xX,L,B,S⟩;rw[ay,bu]at L B S;refine⟨_,Z,.inr<|.inr<|.inl ⟨Z,.inl ⟨_,L⟩⟩,pd,_,Z,Z,L,λpv tU=>?_⟩;have s3:=aj.new (o:=vm pv pd) tU;refine⟨pv,pd,_,Z,zb,s3 _ _ L,λpf yH=>?_⟩;rw[Xp];(have em:(79).map (λk=>V.ref<|J k)=((79).map J).map 122:=by rw[bK];rfl);rw[em];have s4:=aj.new (o:=.lst (((79).map J).map 122)) yH;have q4:=s3.trans s4;have knd:(79).Nodup:=(Kl nd).sublist (lI ..);refine k pf ((79).map J) _ (q.free<|s3.free yH) (λa ha=>?_) (λz=>?_) ?_ zb (RH λx hx=>q4 _ _ (B x hx).1)<|q.trans q4;{obtain⟨x,hx,rfl⟩:=aD.mp ha;exact(B x hx).2.1};{obtain⟨x,hx,e⟩:=aD.mp z;have:=s3 _ _ (B x hx).1;rw[e,yH]at this;cases this};{clear B L s4 q4 em;generalize keysOf ts (aJ us)=ks at S knd;induction ks with|nil=>exact iK|cons x r ih=>rw[jj]at knd;rw[b7,jj];refine⟨λz=>?_,ih (λa ha b hb=>S a (aZ _ ha) b<|aZ _ hb) knd.2⟩;obtain⟨y,hy,e⟩:=aD.mp z;have:=S y (aZ _ hy) x 81 e;subst this;exact knd.1 hy}}}
inductive uJ(vs:99)(H:Hp)(Q:VK):Prop|mk p pu pt x y us az ts(_:vs=[101])(_:oJ K H p pu pt x y us az ts)(_:∀pd ob ad bs H',aj H H'->H pd=none->Bn H' pd ob 79 (fE ts 87) ad bs->Q (.ref pd) H')
def zzt:Sp:=λj H Q _=>uJ (K:=K) j H Q
inductive IvO(H3:Hp)(p pn pd:ai)(keys:88)(i:Nat)(σ:St)(H':Hp):Prop|mk v3(ad:Str->ai)(_:σ=[some 101,some (.ref pn),some (.ref pd),v3,none])(_:(∀b o,b≠pd->H3 b=85->H' b=85))(_:H' pd=some (.dK<|dV (keys.take i) λk=>.ref (ad k)))(_:(∀k∈keys.take i,H' (ad k)=some (.lst [])/\H3 (ad k)=none))(_:(∀k∈keys.take i,∀k'∈keys.take i,ad k=ad k'->k=k'))
inductive IvP(H3:Hp)(p pn pd:ai)(v3:Option V)(ad:Str->ai)(keys:88)(ts:List dW)(az:List ai)(i:Nat)(σ:St)(H':Hp):Prop|mk v4(bs:Str->List ai)(_:σ=[some 101,some (.ref pn),some (.ref pd),v3,v4])(_:(∀b o,b≠pd->H3 b=85->H' b=85))(_:H' pd=some (.dK<|dV keys λk=>.ref (ad k)))(_:∀k∈keys,H' (ad k)=some (.lst<|(bs k).map 122)/\Paired (λb p=>H' b=some (.tup [.str p.1,.ref p.2])) (bs k) (fE ts ((87).take i) k))
theorem EN (T:Tx K mg w C_Reading zn zk zx zq zm zr zo zv zw zh):fB P w K mg base "ties_beneath" ["telling"] 4 (zzt (K:=K)):=by
 refine T.zj1.has cZ (fun vs H Q E h=>?_) (fun f fU A outer s H vs Q E hr h=>?_)
 ·obtain⟨p,pu,pt,x,y,us,az,ts,rfl,_⟩:=h;rfl
 ·obtain⟨p,pu,pt,x,y,us,az,ts,rfl,hT,k⟩:=h
  have hu:=j5 hr
  refine⟨_,(zc (sset (i:=1) cZ.nd (bS (Hv T) (za (aK (zg K rfl) (pv 0) ze) (za (aK (zg K rfl) (pv 0) ze) zd))))
   (zc (sset (i:=2) cZ.nd oR)
   (zc (iA bB rfl (jd K rfl (bS (RI T) (za (aK (zg K rfl) (pv 0) ze) (za (aK (zg K rfl) (pv 0) ze) zd)))) (eS (i:=3) cZ.nd) (zf (mQ hu (pv 2) (aK (jD K rfl) (pv 3) ze) (gG zd) rfl)))
   (zc (iA bB rfl (jd K rfl (aK (zg K rfl) (pv 0) ze)) (eS (i:=4) cZ.nd) (zf (dj (zy vg (aK (zg K rfl) (pv 4) ze) eO (c6 _)) (zf (mW (qY K rfl PySem.F.plainAttrs_list PySem.F.slot_list_append PySem.F.type_list_append xj (eZ hu (pv 2) (eZ hu (pv 1) (aK (zg K rfl) (pv 4) ze) (fun _ _=>rfl)) (fun _ _=>rfl)) (za (jI (za (eZ hu (pv 1) (aK (zg K rfl) (pv 4) ze) (fun _ _=>rfl)) (za (pv 4) zd))) zd)))) d8)))
   (zf (zP (cH (pv 2)))))))),?_⟩
  have iS:=hT.ends
  obtain⟨hp,Ac,vG,tp,nd,hl,tl,_⟩:=hT
  have hlen:az.length=ts.length:=by have:=tp.len;rw[ay] at this;exact this
  refine⟨_,rfl,p,_,_,_,rfl,rfl,hp,rfl,_,rfl,p,_,_,_,rfl,rfl,hp,rfl,pu,pt,us,az,ts,rfl,Ac,vG,tp,nd,by lia,iS,fun pn H1 LG hn s1=>?_⟩
  try dsimp only [zz]
  refine fun pd mU=>?_
  have s2:=aj.new (o:=.dK []) mU
  have q2:=s1.trans s2
  refine⟨_,rfl,p,_,_,_,rfl,rfl,q2.tup hp,rfl,_,rfl,p,_,_,_,rfl,rfl,q2.tup hp,rfl,pu,pt,us,az,ts,rfl,q2.seq Ac,q2.seq vG,tp.same q2,nd,hl,iS,fun po as H3 Bo fas EO LJ uK Aa s3=>?_⟩
  have Hx:=s3 _ _ (s2 _ _ hn)
  have qA:=s3 _ _ (zb (H:=H1) (a:=pd) (o:=.dK []))
  have q3:=q2.trans s3
  have tV:H pd=none:=s1.free mU
  have Hy:pn≠pd:=zj hn mU
  have lk:as.length=(keysOf ts (aJ us)).length:=by have:=Paired.length Aa;unfold vt at this;rw[ay] at this;exact this
  have yI:(keysOf ts (aJ us)).length<=63:=by
   have:=Kp (us:=us) (ts:=ts) nd
   unfold vt at this
   rw[ay] at this
   lia
  have hz:∀{i:Nat}{t:dW}{r:ai},ts[i]? = some t->az[i]? = some r->(ts.zip az)[i]? = some (t,r):=fun h1 h2=>jV.mpr ⟨h1,h2⟩
  generalize ek:keysOf ts (aJ us)=keys at lk yI k
  have knd:keys.Nodup:=ek▸vz nd
  have LK:vt us ts=keys.map (qx ts (aJ us)):=by unfold vt;rw[ek]
  refine⟨po,rfl,⟨_,aH.of uK⟩,mG (xs:=as.map V.ref) (fun i σ H'=>IvO H3 p pn pd keys i σ H')
   ⟨none,fun _=>0,rfl,fun b o _ e=>e,qA,(fun k B=>by simp at B),fun k B=>by simp at B⟩ (fun i σ H' _ h=>by obtain⟨_,_,_,q,_⟩:=h;exact aH.of (q _ _ (jO uK qA (by simp)) uK)) ?_ ?_⟩
  ·rintro i v σ H4 hx ⟨v3,ad,rfl,kp,S,L,inj⟩
   obtain⟨r,g,rfl,hg,wI,hr⟩:=vX Aa hx
   rw[LK,aT] at hg
   cases eu:keys[i]? with
   | none=>rw[eu] at hg;cases hg
   | some u=>
    rw[eu] at hg
    cases hg
    have oG:u∈keys:=bM eu
    have hi:=jE eu
    have iO:u ∉ keys.take i:=by
     have:=tM knd i hi
     rw[show keys[i]=u from (cE.mp eu).2] at this
     exact this
    obtain⟨gr,LL⟩:=Po (us:=us) (ts:=ts) nd (k:=u) (ek▸oG)
    rw[LL] at hr
    have wJ:=kp _ _ (jO hr qA (by simp)) hr
    try dsimp only [zz]
    refine⟨by decide,fun q0 U=>?_⟩
    have t0:=aj.new (o:=.lst []) U
    have j:=t0 _ _ S
    have nq:pd≠q0:=zj S U
    refine⟨_,rfl,_,rfl,r,_,_,_,rfl,rfl,aH.of (t0 _ _ wJ),vj,pd,_,rfl,eE.k (k:=Sum.inr u) j (by rw[iH,bP];exact jC (by lia)),?_⟩
    have fq:H3 q0=none:=by
     cases e:H3 q0 with
     | none=>rfl
     | some o=>rw[kp _ _ (aG nq) e] at U;cases U
    refine⟨_,fun z=>if z=u then q0 else ad z,rfl,fun b o n e=>by rw[zi n];exact t0 _ _ (kp b o n e),?_,?_,?_⟩
    ·rw[zb,ur iO,aR,eu]
     congr 2
     refine tN fun z hz=>?_
     try dsimp only
     by_cases e:z=u
     ·rw[ak e,ak e]
     ·rw[ao e,ao e]
    ·intro k B
     rw[aR,eu,bJ] at B
     try dsimp only
     by_cases e:k=u
     ·rw[ak e]
      exact⟨by rw[zi (aG nq),zb],fq⟩
     ·rw[ao e]
      have Y:k∈keys.take i:=B.elim id fun z=>absurd (by simpa using z) e
      obtain⟨h1,h2⟩:=L k Y
      refine⟨?_,h2⟩
      rw[zi (fun z=>by rw[z,S] at h1;cases h1)]
      exact t0 _ _ h1
    ·intro k B k' Y e
     rw[aR,eu,bJ] at B Y
     try dsimp only at e
     by_cases c1:k=u<;>by_cases c2:k'=u
     ·rw[c1,c2]
     ·rw[ak c1,ao c2] at e
      have h2:=(L k' (Y.elim id fun z=>absurd (by simpa using z) c2)).1
      rw[←e,U] at h2
      cases h2
     ·rw[ao c1,ak c2] at e
      have h2:=(L k (B.elim id fun z=>absurd (by simpa using z) c1)).1
      rw[e,U] at h2
      cases h2
     ·rw[ao c1,ao c2] at e
      exact inj k (B.elim id fun z=>absurd (by simpa using z) c1) k' (Y.elim id fun z=>absurd (by simpa using z) c2) e
  ·rintro σ H4 ⟨v3,ad,rfl,kp,S,L,inj⟩
   rw[ay,lk,bu] at S L inj
   have yJ:∀{H':Hp},(∀b o,b≠pd->H3 b=some o->H' b=some o)->aj H H':=fun B8 b o e=>B8 b o (zj e tV) (q3 _ _ e)
   have q4:=yJ kp
   refine⟨_,rfl,p,_,_,_,rfl,rfl,q4.tup hp,rfl,pt,rfl,⟨_,q4.seq vG⟩,mG (xs:=az.map V.ref) (fun i σ H'=>IvP H3 p pn pd v3 ad keys ts az i σ H')
    ⟨none,fun _=>[],rfl,kp,S,fun k B=>⟨(L k B).1,.nil⟩⟩ (fun i σ H' _ h=>by obtain⟨_,_,_,q,_⟩:=h;exact (yJ q).seq vG) ?_ ?_⟩
   ·rintro i x σ H5 hx ⟨v4,bs,rfl,O,j,J⟩
    obtain⟨r,t,rfl,ht,wI,hr⟩:=vp tp hx
    have q5:=yJ O
    have ER:=q5 _ _ hr
    have yK:=iS t (bM ht)
    have hit:=jE ht
    have Bp:=hz ht wI
    try dsimp only [zz]
    refine⟨_,rfl,r,_,_,_,rfl,rfl,aI.of ER,yi t,rfl,_,rfl,?_⟩
    refine bH (fun c=>?_) (fun c=>?_)
    ·have c:t.k≠c7:=by
      intro z
      simp[z,c7] at c
     have g1:=bL.k (k:=Sum.inr t.a) (O _ _ Hy Hx)
     have g2:=bL.k (k:=Sum.inr t.b) (O _ _ Hy Hx)
     rw[oH yK.1] at g1
     rw[oH yK.2] at g2
     have yL:aq ts t.a∈keys:=ek▸zL iS yK.1
     have g3:=bL.k (k:=Sum.inr (aq ts t.a)) j
     rw[qw yL] at g3
     obtain⟨nX,qz⟩:=J _ yL
     refine⟨_,rfl,_,rfl,_,rfl,r,_,_,_,rfl,rfl,aI.of ER,yj t,pn,_,rfl,g1,pd,_,rfl,g3,?_⟩
     refine⟨.inl ⟨rfl,_,aH.of nX⟩,_,rfl,_,rfl,r,_,_,_,rfl,rfl,aI.of ER,yk t,pn,_,rfl,g2,_,rfl,(by show 2<=sizeLine;decide),fun b0 yM=>?_⟩
     have t0:=aj.new (o:=.tup [.str (aq ts t.b),.ref r]) yM
     have W:=t0 _ _ nX
     have lb:(bs (aq ts t.a)).length<=900:=by
      have h1:=Paired.length qz
      have h2:=Pq (ts:=ts) (z:=(ts.zip az).take i) (k:=aq ts t.a)
      rw[bP,iY] at h2
      lia
     refine⟨ad (aq ts t.a),_,_,rfl,rfl,W,by rw[ay];exact jC (by lia),?_⟩
     have st:∀b vs,H5 b=some (.tup vs)->upd (upd H5 b0 (.tup [.str (aq ts t.b),.ref r])) (ad (aq ts t.a)) (.lst ((bs (aq ts t.a)).map V.ref++[.ref b0])) b=some (.tup vs):=fun b vs e=>qv W _ _ (t0 _ _ e)
     refine⟨_,fun z=>if z=aq ts t.a then bs z++[b0] else bs z,rfl,fun b o n e=>?_,?_,fun k B=>?_⟩
     ·rw[zi (fun z=>by rw[z,(L _ yL).2] at e;cases e)]
      exact t0 _ _ (O b o n e)
     ·rw[zi (fun z=>by rw[←z,j] at nX;cases nX)]
      exact t0 _ _ j
     ·obtain⟨b1,b2⟩:=J k B
      have RL:=Paired.fS b2 fun b p e=>st b _ e
      rw[Pp Bp]
      try dsimp only
      by_cases e:k=aq ts t.a
      ·subst e
       rw[ak rfl,ak ⟨c,rfl⟩]
       refine⟨by rw[zb,aU];rfl,Paired.snoc RL ?_⟩
       exact qv W _ _ zb
      ·rw[ao e,ao (fun z=>e z.2.symm),e9]
       refine⟨?_,RL⟩
       rw[zi (fun z=>e (inj _ B _ yL z))]
       exact t0 _ _ b1
    ·have c:t.k=c7:=by
      simpa[c7] using c
     refine⟨_,bs,rfl,O,j,fun k B=>?_⟩
     rw[Pp Bp,ao (fun z=>z.1 c),e9]
     exact J k B
   ·rintro σ H5 ⟨v4,bs,rfl,O,j,J⟩
    rw[ay] at J
    have ez:(ts.zip az).take az.length=ts.zip az:=lH (by rw[iY];lia)
    rw[ez] at J
    refine .inr ⟨pd,_,j,fun ob=>⟨_,rfl,k pd ob ad bs _ ?_ tV ⟨zb,fun k B=>?_,fun k B=>?_⟩⟩⟩
    ·exact (yJ O).upd tV
    ·obtain⟨b1,b2⟩:=J k B
     rw[zi (fun z=>by rw[z,j] at b1;cases b1)]
     exact b1
    ·obtain⟨b1,b2⟩:=J k B
     refine Paired.fS b2 fun b p e=>?_
     rw[zi (fun z=>by rw[z,j] at e;cases e)]
     exact e
inductive qQ(vs:99)(H:Hp)(Q:VK):Prop|mk s pd ob keys ln ad bs(_:vs=[.str s,.ref pd])(_:Bn H pd ob keys ln ad bs)(_:s∈keys)(_:(∀k∈keys,∀l r,(l,r)∈ln k->l∈keys))(_:132<=63)(_:∀p rs H',aj H H'->H p=none->H' p=some (.lst<|rs.map 122)->111<=64->Pw ln s rs->Q 101 H')
def zs1:Sp:=λj H Q _=>qQ j H Q
inductive IvG(H5:Hp)(pd pm pw pl:ai)(s':Str)(ln:Ln)(keys M:88)(d:Nat)(es:List (Str×List ai))(i:Nat)(σ:St)(H':Hp):Prop|mk v5 v6 v7 v8 ml fs(_:σ=[some (.str s'),some (.ref pd),some (.ref pm),some (.ref pw),some (.ref pl),v5,v6,v7,v8])(_:vY H5 H' pm pl ln s' keys M d ml fs)(_:∀u∈(es.take i).map Prod.fst,∀v r,(v,r)∈ln u->v≠s'/\v∈M++fs.map Prod.fst)
inductive IvH(H5:Hp)(pd pm pw pl q:ai)(s':Str)(ln:Ln)(keys M:88)(d i:Nat)(es:List (Str×List ai))(e:Str×List ai)(j:Nat)(σ:St)(H':Hp):Prop|mk v7 v8 ml fs(_:σ=[some (.str s'),some (.ref pd),some (.ref pm),some (.ref pw),some (.ref pl),some (.str e.1),some (.ref q),v7,v8])(_:vY H5 H' pm pl ln s' keys M d ml fs)(_:(∀u∈(es.take i).map Prod.fst,∀v r,(v,r)∈ln u->v≠s'/\v∈M++fs.map Prod.fst))(_:∀p∈(ln e.1).take j,p.1≠s'/\p.1∈M++fs.map Prod.fst)
theorem zjf(T:20):fB P w K mg base "round_through" ["start","beneath"] 1 zs1:=by refine T.zjn.has br (λvs H Q E h=>?_) λf fU A outer s H vs Q E hr h=>?_;{obtain⟨s',pd,ob,keys,ln,ad,bs,rfl,_⟩:=h;rfl};{obtain⟨s',pd,ob,keys,ln,ad,bs,rfl,hB,hs,hc,hk,k⟩:=h;have J:=j5 hr;exists _,(zc (sset (i:=2) br.nd oR)<|zc (sset (i:=3) br.nd<|gG<|za (jI<|za (pv 0)<|za (gG zd) zd) zd)<|zc (II bB (zy (AN K Z<|kF hr) (pv 3) (gG zd)<|c6 _)<|zc (sset (i:=4) br.nd<|gG zd)<|zc (iA bB Z (jd K Z<|pv 3) (qZ K Z Z<|jB (eS (i:=5) br.nd)<|jB (eS (i:=6) br.nd) qX)<|zf<|iA bB Z (jd K Z<|eZ J (pv 1) (pv 5) λ_ _=>Z) (qZ K Z Z<|jB (eS (i:=7) br.nd)<|jB (eS (i:=8) br.nd) qX)<|zc (dj (zy kM (pv 7) (pv 0)<|c6 _) (zf<|cH<|fm xm (pv 6)<|gG<|za (pv 8) zd) d8)<|zf<|dj (qF<|Gm J (pv 7)<|pv 2) (zc (mQ J (pv 2) (pv 7) ly Z)<|zf<|mW<|qY K Z PySem.F.plainAttrs_list 135 136 xj (pv 4)<|za (jI<|za (pv 7)<|za (fm xm (pv 6)<|gG<|za (pv 8) zd) zd) zd) d8)<|zf<|sset (i:=3) br.nd<|pv 4)<|zf<|cH<|gG zd);refineλpm zZ=>?_;have s0:=aj.new (o:=.dK []) zZ;kd_p;refine⟨_,Z,82,λl0 Ad=>?_⟩;have s1:=aj.new (o:=.lst []) Ad;refine⟨(by show 2<=89;walk),λb0 yM=>?_⟩;have s2:=aj.new (o:=.tup [.str s',.ref l0]) yM;refine⟨(by show 1<=89;walk),λO hpw=>?_⟩;have s3:=aj.new (o:=.lst [.ref b0]) hpw;have q3:=s0.trans (s1.trans<|s2.trans s3);have GC:=s3 _ _ (s2 _ _<|s1 _ _<|zb (H:=H) (a:=pm) (o:=.dK []));have rW:=s3 _ _ (s2 _ _<|zb (H:=upd H pm (.dK [])) (a:=l0) (o:=.lst []));have Bq:=s3 _ _ (zb (H:=upd (upd H pm<|.dK []) l0 (.lst [])) (a:=b0) (o:=.tup [.str s',.ref l0]));have RM:=zb (H:=upd (upd (upd H pm<|.dK []) l0<|.lst []) b0 (.tup [.str s',.ref l0])) (a:=O) (o:=.lst [.ref b0]);generalize upd (upd (upd (upd H pm<|.dK []) l0<|.lst []) b0<|.tup [.str s',.ref l0]) O (.lst [.ref b0])=H3 at q3 GC rW Bq RM;existsλm σ H'=>∃(v4 v5 v6 v7 v8:Option V)(O:ai)(wl:List ai)(es:List (Str×List ai))(d:Nat)(M:List Str),σ=[some (.str s'),some (.ref pd),some (.ref pm),some (.ref O),v4,v5,v6,v7,v8]/\aj H H'/\H' pm=some (.dK<|dV M tP)/\H' O=some (.lst<|wl.map 122)/\Paired (Pr H') wl es/\(∀e∈es,Wk ln s' e.2 e.1/\e.2.length=d/\e.1∈keys)/\M.Nodup/\(∀v∈M,v∈keys)/\Bf ln s' d M (es.map Prod.fst)/\(es≠[]->d<=M.length)/\m=2*(132-M.length)+(if es=[]then 0 else 1),⟨_,none,none,none,none,none,O,[b0],[(s',[])],0,[],Z,q3,GC,RM,.cons ⟨l0,Bq,rW⟩ .nil,?_,81,81,Bf.zero,λ_=>aB _,Z⟩;{intro e he;(have:e=(s',[]):=by simpa using he);subst this;exact⟨.nil,Z,hs⟩};rintro m σ H4⟨v4,v5,v6,v7,v8,O,wl,es,d,M,rfl,q4,hm4,RN,LM,ok4,RO,U,bf,dle,rfl⟩;(have lM:M.length<=63:=by have:=vq RO U;lia);refine⟨_,Z,82,λle hle=>?_⟩;have t5:=aj.new (o:=.lst []) hle;exists O,le,_,Z,Z,dY.nV (aH.of<|t5 _ _ RN)<|aH.of zb,_,Z;have lw:wl.length=es.length:=Paired.length LM;have q5:=q4.trans t5;have L:=t5 _ _ hm4;have Hz:=t5 _ _ RN;have RP:Paired (Pr<|upd H4 le<|.lst []) wl es:=Paired.fS LM λ_ _⟨q,h1,h2⟩=>⟨q,t5 _ _ h1,t5 _ _ h2⟩;have t5':=t5;generalize upd H4 le (.lst [])=H5 at q5 L Hz RP t5';refine bH (λc=>?_) λc=>?_;{(have Y:es≠[]:=λz=>by subst z;have:wl=[]:=mD.mp (by simpa using lw);subst this;simp at c);have dM:=dle Y;existsλrq H'=>∃m',m'<2*(132-M.length)+(if es=[]then 0 else 1)/\_,λrq H' h=>h;kd_p;refine⟨82,λpl mX=>?_⟩;have t6:=aj.new (o:=.lst []) mX;have Ab:pl≠pm:=aG (zj L mX);have npw:O≠pm:=jO Hz L 81;have Bk:∀{H':Hp},(∀b o,b≠pm->H5 b=85->H' b=85)->aj H H':=λkp b o e=>kp b o (zj e zZ) (q5 _ _ e);refine⟨_,Z,O,Z,⟨_,aH.of<|t6 _ _ Hz⟩,mG (xs:=wl.map 122) (λi σ H'=>IvG H5 pd pm O pl s' ln keys M d es i σ H') ⟨v5,v6,v7,v8,[],[],Z,⟨λb o _ e=>t6 _ _ e,?_,zb,.nil,(λe he=>(bE he).elim),by simpa using RO⟩,λu J=>by simp at J⟩ (λi σ H' _ h=>by obtain⟨_,_,_,_,_,_,_,g,_⟩:=h;exact aH.of<|g.kp _ _ npw Hz) ?_ ?_⟩;{rw[kB,e9];exact t6 _ _ L};{rintro i x σ H6 hx⟨u5,u6,u7,u8,ml,fs,rfl,g,cond⟩;obtain⟨b,e,rfl,he,hbw,q,hb,hq⟩:=vX RP hx;have hie:=jE he;have hem:e∈es:=bM he;obtain⟨wk,LN,ek⟩:=ok4 e hem;have nb:b≠pm:=jO hb L 81;have nq:q≠pm:=jO hq L 81;exists b,_,Z,aI.of<|g.kp _ _ nb hb,Z,_,_,Z,_,_,Z,Z;have B6:=hB.same (Bk g.kp);refine⟨_,Z,_,Z,pd,_,Z,B6.get ek,ad e.1,Z,⟨_,aH.of<|B6.l _ ek⟩,mG (xs:=(bs e.1).map 122) (λj σ H'=>IvH H5 pd pm O pl q s' ln keys M d i es e j σ H') ⟨u7,u8,ml,fs,Z,g,cond,81⟩ (λj σ H' _ h=>by obtain⟨_,_,_,_,_,g,_⟩:=h;exact aH.of<|(hB.same<|Bk g.kp).l _ ek) ?_ ?_⟩;{rintro j x σ H7 hx⟨u7,u8,ml,fs,rfl,g,cond,B⟩;have B7:=hB.same (Bk g.kp);obtain⟨b',⟨l,r⟩,rfl,rA,rj,hbt⟩:=vX (B7.e _ ek) hx;have LO:(l,r)∈ln e.1:=bM rA;have sD:l∈keys:=hc _ ek l r LO;exists b',_,Z,aI.of hbt,Z,_,_,Z,_,_,Z,Z;have Ae:=g.kp _ _ nq hq;(have lfs:(M++fs.map Prod.fst).length<=63:=by(have:=vq g.nd (us:=keys) λv W=>(bJ.mp W).elim (U v) λz=>by obtain⟨e',h1,rfl⟩:=aD.mp z;exact(g.ok e' h1).2.2);lia);kd_p;exists _,Z,_,Z,Z,_,Z;refine bH (λc1=>?_) λc1=>?_;{have c1:l=s':=V.str.inj (aW c1);refine⟨_,Z,_,Z,(by show 1<=89;walk),λp1 rY=>?_⟩;have w1:=aj.new (o:=.lst [.ref r]) rY;refine⟨q,p1,_,_,Z,Z,w1 _ _ Ae,zb,by rw[ay];exact i8 (by show e.2.length+1<=1000;lia),λp2 S=>?_⟩;have w2:=aj.new (o:=.lst (e.2.map 122++[.ref r])) S;have q7:aj H _:=(Bk g.kp).trans (w1.trans w2);refine k p2 (e.2++[r]) _ q7 (((Bk g.kp).trans w1).free S) (by rw[zb,aU];rfl) (by rw[bN];show e.2.length+1<=64;lia)<|.inr ⟨81,c1▸wk.snoc LO,λj h1 h2=>bf.no j h1 ?_⟩;rw[bN]at h2;have h2:j<e.2.length+1:=h2;lia};{have c1:¬l=s':=λz=>c1 (aO<|bw 114 z);have g1:=bL.k (k:=Sum.inr l) g.m;exists _,Z,_,Z,pm,_,Z,g1,_,Z;refine bH (λc2=>?_) λc2=>?_;{(have W:l∉M++fs.map Prod.fst:=λz=>by rw[qw z]at c2;cases c2);exists _,Z,_,Z,pm,_,Z,eE.k (k:=Sum.inr l) g.m (by rw[iH];exact jC 80);rw[Pu W];(have LP:upd H7 pm (.dK<|dV (M++fs.map Prod.fst++[l]) tP) pl=some (.lst<|ml.map 122):=by rw[zi Ab];exact g.l);(have HA:upd H7 pm (.dK<|dV (M++fs.map Prod.fst++[l]) tP) q=some (.lst<|e.2.map 122):=by rw[zi nq];exact Ae);kd_p;refine⟨_,Z,.inl ⟨Z,_,aH.of LP⟩,_,Z,_,Z,_,Z,(by show 1<=89;walk),λp1 rY=>?_⟩;have w1:=aj.new (o:=.lst [.ref r]) rY;refine⟨q,p1,_,_,Z,Z,w1 _ _ HA,zb,by rw[ay];exact i8 (by show e.2.length+1<=1000;lia),λp2 S=>?_⟩;have w2:=aj.new (o:=.lst (e.2.map 122++[.ref r])) S;refine⟨(by show 2<=89;walk),λb9 hb9=>?_⟩;have w3:=aj.new (o:=.tup [.str l,.ref p2]) hb9;have w:=w1.trans (w2.trans w3);(have aeC:ml.length<=63:=by have h1:ml.length=130:=Paired.length g.w;rw[bN,ay]at lfs;lia);(exists pl,_,_,Z,Z,w _ _ LP,by rw[ay];exact jC 80);have g':=g.add mX Ab W w (rs:=e.2++[r]) (q:=p2) (b:=b9) (by rw[aU];exact w3 _ _ zb) (aG<|zj (w1 _ _ LP) S) zb ⟨wk.snoc LO,by rw[bN,LN];rfl,sD⟩;(have mm:∀v,v∈M++fs.map Prod.fst->v∈M++(fs++[(l,e.2++[r])]).map Prod.fst:=λv h=>by rw[aU,←gy];exact ir _ h);refine⟨_,_,_,_,Z,g',λu J v r' h=>⟨(cond u J v r' h).1,mm _ (cond u J v r' h).2⟩,Pd rA (λp hp=>⟨(B p hp).1,mm _ (B p hp).2⟩) ⟨c1,?_⟩⟩;rw[aU,←gy];simp};{(have W:l∈M++fs.map Prod.fst:=gv λz=>by rw[AZ z]at c2;exact c2 Z);exact⟨_,_,ml,fs,Z,g,cond,Pd rA B ⟨c1,W⟩⟩}}};{rintro σ H7⟨u7,u8,ml,fs,rfl,g,cond,B⟩;have B7:=hB.same (Bk g.kp);have lb:(bs e.1).length=(ln e.1).length:=Paired.length (B7.e _ ek);rw[ay,lb,bu]at B;refine⟨_,_,_,_,ml,fs,Z,g,λu J v r h=>?_⟩;rw[List.map_take,aR,aT,he,bJ]at J;rcases J with J|J;{exact cond u (by rw[List.map_take];exact J) v r h};{(have:u=e.1:=by simpa using J);subst this;exact B (v,r) h}}};{rintro σ H6⟨u5,u6,u7,u8,ml,fs,rfl,g,cond⟩;rw[ay,lw,bu]at cond;exists _,Z;kd_p;(have ES:∀v∈M++fs.map Prod.fst,v∈keys:=λv W=>(bJ.mp W).elim (U v) λz=>by obtain⟨e',h1,rfl⟩:=aD.mp z;exact(g.ok e' h1).2.2);have lN:=vq g.nd ES;refine⟨_,?_,_,_,_,_,_,pl,ml,fs,d+1,M++fs.map Prod.fst,Z,Bk g.kp,g.m,g.l,Paired.fS g.w λ_ _⟨q,_,h1,h2⟩=>⟨q,h1,h2⟩,g.ok,g.nd,ES,bf.succ (λv W=>?_) cond,λhf=>?_,Z⟩;{rw[ao Y,bN,ay]at*;cases fs with|nil=>simp|cons a r=>rw[ao 81];simp only[cR]at*;lia};{obtain⟨e',h1,rfl⟩:=aD.mp W;exact⟨e'.2,(g.ok e' h1).1,(g.ok e' h1).2.1⟩};{rw[bN,ay];have:=jY.mpr hf;lia}}};{(have Y:es=[]:=by(have:wl=[]:=by simpa using c);subst this;exact mD.mp lw.symm);subst Y;refine⟨82,λp hp=>?_⟩;exact k p [] _ (q5.trans<|aj.new hp) (q5.free hp) zb 81<|.inl ⟨Z,bf.done⟩}}
inductive uL(vs:99)(H:Hp)(Q:VK):Prop|mk p pu pt x y us az ts(_:vs=[101])(_:oJ K H p pu pt x y us az ts)(_:∀q rs H',aj H H'->H q=none->H' q=some (.lst<|rs.map 122)->111<=64->qy (fE ts 87) 79 rs->Q (.ref q) H')
def zzu:Sp:=λj H Q _=>uL (K:=K) j H Q
inductive IvS(H H1:Hp)(p pd:ai)(ln:Ln)(keys:88)(i:Nat)(σ:St)(H':Hp):Prop|mk v3 v4 ps rs(_:σ=[some 101,some (.ref pd),some (.ref ps),v3,v4])(_:aj H1 H')(_:H ps=none)(_:H' ps=some (.lst<|rs.map 122))(_:111<=64)(_:qy ln (keys.take i) rs)
theorem RQ(T:20):fB P w K mg base "shortest_round" [110] 5 (zzu (K:=K)):=by refine T.zh7.has bW (λvs H Q E h=>?_) λf fU A outer s H vs Q E hr h=>?_;{obtain⟨p,pu,pt,x,y,us,az,ts,rfl,_⟩:=h;rfl};{obtain⟨p,pu,pt,x,y,us,az,ts,rfl,hT,k⟩:=h;exists _,(zc (sset (i:=1) bW.nd<|bS (EN T)<|za (pv 0) zd)<|zc (sset (i:=2) bW.nd<|gG zd)<|zc (iA bB Z (xx<|pv 1) (eS (i:=3) bW.nd)<|zc (sset (i:=4) bW.nd<|bS (zjf T)<|za (pv 3)<|za (pv 1) zd)<|zf<|dj (PW.pt<|tu (zy (AN K Z<|kF hr) (pv 4) (gG zd)<|c6 _)<|vd<|PW.pt<|p5 (zy (AM K Z<|kF hr) (pv 2) (gG zd)<|c6 _)<|uc<|zy w9 (gC (qc K Z) 97 T.len cU<|za (pv 4) zd) (gC (qc K Z) 97 T.len cU<|za (pv 2) zd)<|c6 _) (zf<|sset (i:=2) bW.nd<|pv 4) d8)<|zf<|cH<|pv 2);have iS:=hT.ends;refine⟨_,Z,p,pu,pt,x,y,us,az,ts,Z,hT,λpd ob ad bs H1 s1 tV U=>?_⟩;have cl:=Kr (us:=us) (ts:=ts) (az:=az) iS;have lk:=hT.k6;generalize keysOf ts (aJ us)=keys at U cl lk k;generalize fE ts 87=ln at U cl k;kd_p;refine⟨82,λps W=>?_⟩;have s2:=aj.new (o:=.lst []) W;refine⟨_,Z,pd,ob,_,Z,s2 _ _ U.d,A6 (λi σ H'=>IvS H H1 p pd ln keys i σ H') ⟨none,none,ps,[],Z,s2,s1.free W,zb,81,by simpa using qy.nil⟩ (λi σ H' _ h=>by obtain⟨_,_,_,_,_,q,_⟩:=h;exact q _ _ U.d) ?_ ?_⟩;{rintro i kk vv σ H3 hx⟨v3,v4,ps,rs,rfl,Y,O,j,lr,hR⟩;obtain⟨u,hu,rfl,_⟩:=A1 hx;have kI:u∈keys:=bM hu;kd_p;refine⟨_,Z,_,Z,u,pd,ob,keys,ln,ad,bs,Z,U.same Y,kI,cl,lk,λpr xs H4 s4 LQ S lx hS=>?_⟩;have q4:=Y.trans s4;have B:=s4 _ _ j;kd_p;refine oU (decide<|xs≠[]/\(rs=[]\/84<111)) (λQ' hQ=>?_) λH5 t5=>?_;{refine⟨_,Z,82,λe1 Br=>?_⟩;have w1:=aj.new (o:=.lst []) Br;exists pr,e1,_,Z,Z,dY.nV (aH.of<|w1 _ _ S)<|aH.of zb,_,Z;refine bH (λc=>?_) λc=>?_;{(have c:xs≠[]:=by simpa using c);refine⟨_,Z,82,λe2 yc=>?_⟩;have w2:=aj.new (o:=.lst []) yc;have J:=w1.trans w2;exists ps,e2,_,Z,Z,dY.nV (aH.of<|J _ _ B)<|aH.of zb,_,Z;refine bH (λL=>?_) λL=>?_;{(have L:rs=[]:=by simpa using L);rw[show true=decide (xs≠[]/\(rs=[]\/84<111))from(aO ⟨c,.inl L⟩).symm];exact hQ _ J};{(have L:¬rs=[]:=by simpa using L);exists _,Z,pr,_,Z,.inl<|aH.of<|J _ _ S,_,Z,ps,_,Z,.inl<|aH.of<|J _ _ B,_,_,Z,Z,_,Z;(have:decide (((xs.map 122).length:Int)<((rs.map 122).length:Int))=decide (xs≠[]/\(rs=[]\/84<111)):=by rw[ay,ay];apply iX.mpr;left;{intro z;exact⟨c,.inr 80⟩};{rintro⟨_,z|z⟩;{exact absurd z L};{lia}});rw[←this]at hQ;exact hQ _ J}};{(have c:xs=[]:=by simpa using c);rw[show 94=decide (xs≠[]/\(rs=[]\/84<111))from(aN λz=>z.1 c).symm];exact hQ _ w1}};{have:=hR.step hS;rw[show keys.take i++[u]=keys.take (i+1)by rw[aR,hu];rfl]at this;refine bH (λc=>?_) λc=>?_;{have c:=aW c;rw[ak c]at this;exact⟨_,Z,_,_,pr,xs,Z,q4.trans t5,(s1.trans Y).free LQ,t5 _ _ S,lx,this⟩};{have c:¬(xs≠[]/\(rs=[]\/84<111)):=λz=>c (aO z);rw[ao c]at this;exact⟨_,_,ps,rs,Z,q4.trans t5,O,t5 _ _ B,lr,this⟩}}};{rintro σ H3⟨v3,v4,ps,rs,rfl,Y,O,j,lr,hR⟩;rw[iH,bu]at hR;exact⟨_,Z,k ps rs _ (s1.trans Y) O j lr hR⟩}}
theorem zs2{j:Type}(f:j->Bool)(l:List j):(l.map f).all id=l.all f:=by rw[List.all_map];rfl
inductive uM(vs:99)(H:Hp)(Q:VK):Prop|mk pl pp bs L M(_:vs=[.ref pl,.ref pp])(_:aH K H pl (bs.map 122))(_:Paired (λb p=>H b=some (.tup [.str p.1,.ref p.2])) bs L)(_:H pp=some (.dK<|dV M tP))(_:L.length<=900)(_:∀H',aj H H'->Q (.bl<|vB M L) H')
def zzv:Sp:=λj H Q _=>uM (K:=K) j H Q
theorem zs3(T:20):fB P w K mg base "rests_on" ["lowers","placed"] 1 (zzv (K:=K)):=by refine T.ztd.has zpg (λvs H Q E h=>?_) λf fU A S s H vs Q E hr h=>?_;{obtain⟨pl,U,bs,L,M,rfl,_⟩:=h;rfl};{obtain⟨pl,U,bs,L,M,rfl,hl,pr,hm,lL,k⟩:=h;have hu:=j5 hr;exists _,(zf<|cH<|gC (Ow K Z Z) 97 T.all PyProof.Rows.boot_all<|za (rS (own:=["lower","tie"]) (cap:=["placed"]) (ix:=[1]) (mR:=zp (top 39)) Z ⟨Z,50,50,50,50⟩ Z (jd K Z<|pv 0) (λ_ _ _ _=>qZ (n:=2) K Z Z<|jB (oQ (i:=0) (show List.Nodup (["lower","tie","placed"]:88)by kt_k) Z<|Or.inl Z)<|jB (oQ (i:=1) (show List.Nodup (["lower","tie","placed"]:88)by kt_k) Z<|Or.inl Z) qX) (λ_ _ _ _=>xq) λ_ _ _ _=>(IB<|BZ hu (pv 0)<|pv 2)) zd);have lb:bs.length=L.length:=Paired.length pr;refine⟨_,Z,pl,Z,⟨_,hl⟩,λD hD=>?_⟩;refine vn (xu (K:=K) (a:=pl) (xs:=bs.map 122)) (λi j ys H'=>∃W Y,j=[W,Y,some (.ref U)]/\ys=((L.take i).map λp=>decide (p.1∈M)).map V.bl/\aj H H'/\H' D=some (.lst ys)) ⟨none,none,Z,81,aj.new hD,zb⟩ (λi j ys H' h=>?_) (by rw[ay];exact i8 80) ?_ ?_;{obtain⟨_,_,_,rfl,q,B⟩:=h;exists q.seq hl,B;rw[ay,ay,bP];lia};{rintro i v j ys H' hx⟨W,Y,rfl,rfl,q,B⟩;obtain⟨b,⟨l,r⟩,rfl,O,_,hb⟩:=vX pr hx;have J:=jE hx;exists b,_,Z,aI.of<|q _ _ hb,Z,_,_,Z,_,_,Z,Z;kd_p;unfold qa;fin2;rw[ak Z];have g:=bL.k (k:=Sum.inr l) (q _ _ hm);refine⟨_,Z,_,Z,U,_,Z,g,B,qd J ⟨_,_,Z,?_,q.upd hD,zb⟩⟩;rw[aR,O,aU,aU];congr 1;show[V.bl (eB (dV M tP)<|Sum.inr l).isSome]=[V.bl (decide<|l∈M)];by_cases c:l∈M;{rw[qw c,aO c];rfl};{rw[AZ c,aN c];rfl}};rintro j ys H1⟨W,Y,rfl,rfl,q,B⟩;rw[ay,lb,bu]at B;exists D,_,Z,aH.of B;rw[zs2];exact k _ q}
inductive uN(vs:99)(H:Hp)(Q:VK):Prop|mk pd pp ob keys ln ad bs M u r(_:vs=[.ref pd,.ref pp])(_:Bn H pd ob keys ln ad bs)(_:H pp=some (.dK<|dV M tP))(_:132<=63)(_:(∀k∈keys,(ln k).length<=900))(_:uu ln keys M=u::r)(_:∀H',aj H H'->Q (.str u) H')
def zzw:Sp:=λj H Q _=>uN j H Q
theorem zn5(T:20):fB P w K mg base "least_free" ["beneath","placed"] 2 zzw:=by refine T.zob.has j7 (λvs H Q E h=>?_) λf fU A outer s H vs Q E hr h=>?_;{obtain⟨pd,O,ob,keys,ln,ad,bs,M,u,r,rfl,_⟩:=h;rfl};{obtain⟨pd,O,ob,keys,ln,ad,bs,M,u,r,rfl,hB,hm,lk,ll,hf,k⟩:=h;have hu:=j5 hr;exists _,(zc (Of (i:=2) (own:=["name"]) (cap:=["placed","beneath"]) (ix:=[1,0]) (mR:=zp (top 38)) Z j7.nd Z Z Z ⟨Z,50,50,50,50⟩ Z (xx<|pv 0) (λ_ _ _ _=>oQ (i:=0) (show List.Nodup (["name","placed","beneath"]:88)by kt_k) Z<|Or.inl Z) (λ_ _ _ _=>AK<|PW.pt<|tu (qF<|Gm hu (pv 0)<|pv 1)<|vd<|pZ<|bS (zs3 T)<|za (eZ hu (pv 2) (pv 0) λ_ _=>Z)<|za (pv 1) zd) λ_ _ _ _=>(pv 0))<|zf<|cH<|aK (jD K Z) (pv 2) ze);refine⟨_,Z,pd,ob,_,Z,hB.d,λD hD=>?_⟩;refine vn (K0 (a:=pd) (ob:=ob) (kvs:=dV keys λk=>.ref (ad k))) (λi B ys H'=>∃w0,B=[w0,some (.ref O),some (.ref pd)]/\ys=((keys.take i).filter λx=>decide (x∉M)&&vB M (ln x)).map 114/\aj H H'/\H' D=some (.lst ys)) ⟨none,Z,81,aj.new hD,zb⟩ (λi B ys H' h=>?_) (by rw[ay,iH];exact i8 80) ?_ ?_;{obtain⟨_,_,rfl,q,j⟩:=h;exists q _ _ hB.d,j;rw[ay];exact bF (fQ _ _) (by rw[bP];lia)};{rintro i v B ys H1 L⟨w0,rfl,rfl,q,j⟩;have J:=jE L;rw[GP,aT]at L;cases U:keys[i]? with|none=>rw[U]at L;cases L|some z=>rw[U]at L;cases L;have W:z∈keys:=bM U;have Y:=hB.same q;have g:=bL.k (k:=Sum.inr z) (q _ _ hm);(have no:∀(H2:Hp),aj H1 H2->(decide (z∉M)&&vB M (ln z))=94->∃w0',[some (V.str z),some (V.ref O),some (V.ref pd)]=[w0',some (.ref O),some (.ref pd)]/\((keys.take i).filter λx=>decide (x∉M)&&vB M (ln x)).map 114=((keys.take<|i+1).filter λx=>decide (x∉M)&&vB M (ln x)).map 114/\aj H H2/\H2 D=some (.lst<|((keys.take i).filter λx=>decide (x∉M)&&vB M (ln x)).map 114):=λH2 t e=>by refine⟨_,Z,?_,q.trans t,t _ _ j⟩;rw[aR,U,gx,aU];(have:(some z).toList.filter (λx=>decide (x∉M)&&vB M (ln x))=[]:=by show[z].filter _=[];rw[lG (by rw[e];exact bC)];rfl);rw[this,kB,e9]);kd_p;exists _,Z,_,Z,O,_,Z,g,_,Z;refine bH (λc=>?_) λc=>?_;{(have c1:z∉M:=λy=>by rw[qw y]at c;cases c);refine⟨_,Z,_,Z,pd,_,Z,Y.get W,_,Z,ad z,O,bs z,ln z,M,Z,aH.of<|Y.l z W,Y.e z W,q _ _ hm,ll z W,λH2 t2=>⟨_,Z,?_⟩⟩;refine bH (λS=>?_) λS=>?_;{refine⟨_,Z,t2 _ _ j,qd J ⟨_,Z,?_,(q.trans t2).upd hD,zb⟩⟩;rw[aR,U,gx,aU];congr 1;(have:(some z).toList.filter (λx=>decide (x∉M)&&vB M (ln x))=[z]:=by show[z].filter _=[z];rw[lF (by rw[aO c1,S];rfl)];rfl);rw[this];rfl};{(have S:vB M (ln z)=94:=by simpa using S);exact⟨t2 _ _ j,qd J<|no H2 t2 (by rw[S,nQ])⟩}};{(have c1:z∈M:=gv λy=>by rw[AZ y]at c;exact c Z);refine⟨j,qd J<|no H1 (aj.refl _) ?_⟩;rw[show decide (z∉M)=94 from aN (λy=>y c1),fR]}};rintro B ys H1⟨w0,rfl,rfl,q,j⟩;rw[ay,iH,bu]at j;have j:H1 D=some (.lst<|(uu ln keys M).map 114):=j;rw[hf]at j;kd_p;exact⟨_,Z,D,_,_,_,Z,Z,aH.of j,vj,k _ q⟩}
inductive sE(vs:99)(H:Hp)(Q:VK):Prop|mk p pu pt x y us az ts(_:vs=[101])(_:oJ K H p pu pt x y us az ts)(_:mj (fE ts 87) 79)(_:∀H',aj H H'->Q .cz H')
def zwy:Sp:=λj H Q _=>sE (K:=K) j H Q
theorem zjy(T:20):fB P w K mg base "refuse_round" [110] 6 (zwy (K:=K)):=by refine T.Rr.has eU (λvs H Q E h=>?_) λf L A B s H vs Q E Y h=>?_;{obtain⟨p,pu,pt,x,y,us,az,ts,rfl,_⟩:=h;rfl};{obtain⟨p,pu,pt,x,y,us,az,ts,rfl,O,nr,k⟩:=h;exists _,(zc (sset (i:=1) eU.nd<|bS (RQ T)<|za (pv 0) zd)<|zf<|dj (zy (AN K Z<|kF Y) (pv 1) (gG zd)<|c6 _) (zf ud) d8);refine⟨_,Z,p,pu,pt,x,y,us,az,ts,Z,O,λq rs H1 s1 fq W lr R=>?_⟩;(have e:rs=[]:=gv λz=>by obtain⟨s',hs,j,U,r⟩:=R.iN.mp z;exact nr s' hs j U r);k_go;kd_p;refine⟨_,Z,82,λe S=>?_⟩;have J:=aj.new (o:=.lst []) S;refine⟨q,e,_,Z,Z,dY.nV (aH.of<|J _ _ W)<|aH.of zb,_,Z,bh ?_⟩;exact k _<|s1.trans J}
inductive uO(vs:99)(H:Hp)(Q:VK):Prop|mk p pu pt x y us az ts(_:vs=[101])(_:oJ K H p pu pt x y us az ts)(_:mj (fE ts 87) 79)(_:∀q os H',aj H H'->H q=none->H' q=some (.lst<|os.map 114)->Ord (fE ts 87) 79 os->os.Perm 79->Q (.ref q) H')
def zzx:Sp:=λj H Q _=>uO (K:=K) j H Q
theorem RU(T:20):fB P w K mg base "order" [110] 7 (zzx (K:=K)):=by refine T.z4n.has oj (λvs H Q E h=>?_) λf fU A outer s H vs Q E hr h=>?_;{obtain⟨p,pu,pt,x,y,us,az,ts,rfl,_⟩:=h;rfl};{obtain⟨p,pu,pt,x,y,us,az,ts,rfl,B,U,k⟩:=h;have hu:=j5 hr;exists _,(zc (mW<|bS (zjy T)<|za (pv 0) zd)<|zc (sset (i:=1) oj.nd<|bS (EN T)<|za (pv 0) zd)<|zc (sset (i:=2) oj.nd oR)<|zc (II bB (zy w9 (gC Ju 97 T.len cU<|za (pv 2) zd) (gC YX 97 T.len cU<|za (pv 1) zd)<|c6 _)<|zf<|mQ hu (pv 2) (bS (zn5 T)<|za (pv 1)<|za (pv 2) zd) ly Z)<|zf<|cH<|nU (JV Z) 97 T.list ig<|za (pv 2) zd);refine⟨_,Z,p,pu,pt,x,y,us,az,ts,Z,B,U,λH1 s1=>?_⟩;refine⟨_,Z,p,pu,pt,x,y,us,az,ts,Z,B.same s1,λpd ob ad bs H2 s2 tV hB=>?_⟩;have Y:=Kr (us:=us) (ts:=ts) (az:=az) B.ends;have lk:=B.k6;have kn:=vz (ts:=ts) B.nd;have kl:=Pn (ts:=ts) B.nd;(have ll:∀k∈keysOf ts (aJ us),(fE ts 87 k).length<=900:=λk _=>by have h1:=Pq (ts:=ts) (z:=87) (k:=k);have h2:=B.tl;rw[iY]at h1;lia);generalize keysOf ts (aJ us)=keys at hB Y lk k U kn kl ll;generalize fE ts 87=ln at hB Y k U ll;have q2:=s1.trans s2;kd_p;refineλL S=>?_;have s3:=aj.new (o:=.dK []) S;existsλm σ H'=>∃os,σ=[some 101,some (.ref pd),some (.ref L)]/\aj H2 H'/\H' L=some (.dK<|dV os tP)/\Ord ln keys os/\m=132-os.length,⟨_,[],Z,s3,zb,Ord.nil,Z⟩;rintro m σ H4⟨os,rfl,W,j,O,rfl⟩;have B4:=hB.same W;have lo:=vq O.nd O.sub;exists _,Z,L,_,Z,j,_,Z,pd,_,Z,.inr ⟨_,B4.d⟩,_,_,Z,Z,_,Z;rw[iH,iH];refine bH (λc=>?_) λc=>?_;{have c:=aW c;(have hx:∃x∈keys,x∉os:=rG λhn=>by have:=vq (us:=os) kn λx hx=>gv λz=>hn ⟨x,hx,z⟩;lia);(obtain⟨u,r,J⟩:∃u r,uu ln keys os=u::r:=by cases e:uu ln keys os with|nil=>exact absurd e<|XR Y U hx|cons u r=>exact⟨u,r,Z⟩);obtain⟨m1,m2,m3⟩:=jL.mp (show u∈uu ln keys os by rw[J];simp);existsλrq H'=>∃m',m'<132-os.length/\_,λrq H' h=>h;refine⟨_,Z,_,Z,_,Z,pd,L,ob,keys,ln,ad,bs,os,u,r,Z,B4,j,lk,ll,J,λH5 s5=>?_⟩;exists L,_,Z,eE.k (k:=Sum.inr u) (s5 _ _ j) (by rw[iH];exact jC 80);rw[Pu m2];refine⟨_,?_,os++[u],Z,(W.trans s5).upd S,zb,O.snoc kl J,Z⟩;rw[bN];show 132-(os.length+1)<_;lia};{have c:¬((os.length:Int)<(132:Int)):=λz=>c (aO z);(have e:os.length=132:=by lia);refine⟨_,Z,L,_,Z,j,λq hq=>?_⟩;rw[GP];exact k q os _ (q2.trans<|W.trans<|aj.new hq) ((q2.trans W).free hq) zb O<|O.perm kn e}}
inductive yN(vs:99)(H:Hp)(Q:VK):Prop|mk r t us(_:vs=[.ref r])(_:H r=some (.tup<|bO t))(_:m7 us t)(_:∀H',aj H H'->Q (.int<|dH t) H')
def z7j:Sp:=λj H Q _=>yN j H Q
theorem RV(T:20):fB P w K mg base "gap_of" ["tie"] 1 z7j:=by refine T.z0a.has zwo (λL H Q E h=>?_) λf J A B s H L Q E q h=>?_;{obtain⟨r,t,us,rfl,_⟩:=h;rfl};{obtain⟨r,t,us,rfl,q,j,k⟩:=h;exists _,(zf<|cH<|M7 (zy kM (aK 86 (pv 0) ze) eO<|c6 _) (aK 86 (pv 0) ze) ze);exists _,Z,r,_,_,_,Z,Z,aI.of q,yi t,Z,_,Z;refine bH (λc=>?_) λc=>?_;{have c:t.k=vA:=V.str.inj (aW c);exact⟨_,Z,r,_,_,_,Z,Z,aI.of q,j.after c,k _<|aj.refl _⟩};{have c:¬t.k=vA:=λz=>c (aO<|bw 114 z);have:=k _ (aj.refl H);rw[j.plain c]at this;z_go}}
inductive sG(vs:99)(H:Hp)(Q:VK):Prop|mk p pm pu pt pf lo hi us az ts af fs(_:vs=[101])(_:gp K H p pm pu pt pf lo hi us az ts af fs)(_:∀pd ob ad H',aj H H'->H pd=none->Fw H' pd ob 79 (fX ts 92) ad->Q (.ref pd) H')
def zw0:Sp:=λj H Q _=>sG (K:=K) j H Q
theorem RW (T:Tx K mg w C_Reading zn zk zx zq zm zr zo zv zw zh):fB P w K mg base "finds_within" ["telling"] 4 (zw0 (K:=K)):=by
 refine T.zj2.has c5 (fun vs H Q E h=>?_) (fun f fU A outer s H vs Q E hr h=>?_)
 ·obtain⟨p,pm,pu,pt,pf,lo,hi,us,az,ts,af,fs,rfl,_⟩:=h;rfl
 ·obtain⟨p,pm,pu,pt,pf,lo,hi,us,az,ts,af,fs,rfl,hF,k⟩:=h
  have hu:=j5 hr
  refine⟨_,(zc (sset (i:=1) c5.nd (bS (Hv T) (za (aK (zg K rfl) (pv 0) ze) (za (aK (zg K rfl) (pv 0) ze) zd))))
   (zc (sset (i:=2) c5.nd oR)
   (zc (iA bB rfl (jd K rfl (bS (RI T) (za (aK (zg K rfl) (pv 0) ze) (za (aK (zg K rfl) (pv 0) ze) zd)))) (eS (i:=3) c5.nd) (zf (mQ hu (pv 2) (aK (jD K rfl) (pv 3) ze) (gG zd) rfl)))
   (zc (iA bB rfl (jd K rfl (aK (zg K rfl) (pv 0) ze)) (eS (i:=4) c5.nd) (zf (mW (qY K rfl PySem.F.plainAttrs_list PySem.F.slot_list_append PySem.F.type_list_append xj (eZ hu (pv 2) (eZ hu (pv 1) (aK (zg K rfl) (pv 4) ze) (fun _ _=>rfl)) (fun _ _=>rfl)) (za (pv 4) zd)))))
   (zf (zP (cH (pv 2)))))))),?_⟩
  have iS:=hF.cB.ends
  have ET:=hF.mT
  have EU:=hF.fl
  have HB:=hF.fu
  have RX:=hF.f
  have EV:=hF.ft
  obtain⟨hp,Ac,vG,tp,nd,hl,tl,_⟩:=hF.cB
  have hlen:az.length=ts.length:=by have:=tp.len;rw[ay] at this;exact this
  refine⟨_,rfl,p,_,_,_,rfl,rfl,hp,rfl,_,rfl,p,_,_,_,rfl,rfl,hp,rfl,pu,pt,us,az,ts,rfl,Ac,vG,tp,nd,by lia,iS,fun pn H1 LG hn s1=>?_⟩
  try dsimp only [zz]
  refine fun pd mU=>?_
  have s2:=aj.new (o:=.dK []) mU
  have q2:=s1.trans s2
  refine⟨_,rfl,p,_,_,_,rfl,rfl,q2.tup hp,rfl,_,rfl,p,_,_,_,rfl,rfl,q2.tup hp,rfl,pu,pt,us,az,ts,rfl,q2.seq Ac,q2.seq vG,tp.same q2,nd,hl,iS,fun po as H3 Bo fas EO LJ uK Aa s3=>?_⟩
  have Hx:=s3 _ _ (s2 _ _ hn)
  have qA:=s3 _ _ (zb (H:=H1) (a:=pd) (o:=.dK []))
  have q3:=q2.trans s3
  have tV:H pd=none:=s1.free mU
  have Hy:pn≠pd:=zj hn mU
  have lk:as.length=(keysOf ts (aJ us)).length:=by have:=Paired.length Aa;unfold vt at this;rw[ay] at this;exact this
  have yI:(keysOf ts (aJ us)).length<=63:=by
   have:=Kp (us:=us) (ts:=ts) nd
   unfold vt at this
   rw[ay] at this
   lia
  have hz:∀{i:Nat}{f:fY}{r:ai},fs[i]? = some f->af[i]? = some r->(fs.zip af)[i]? = some (f,r):=fun h1 h2=>jV.mpr ⟨h1,h2⟩
  generalize ek:keysOf ts (aJ us)=keys at lk yI k
  have knd:keys.Nodup:=ek▸vz nd
  have LK:vt us ts=keys.map (qx ts (aJ us)):=by unfold vt;rw[ek]
  refine⟨po,rfl,⟨_,aH.of uK⟩,mG (xs:=as.map V.ref) (fun i σ H'=>∃(v3:Option V) (U:Str->ai),σ = [some (.ref p),some (.ref pn),some (.ref pd),v3,none]/\(∀b o,b≠pd->H3 b=some o->H' b=some o)/\
   H' pd=some (.dK (dV (keys.take i) fun k=>.ref (U k)))/\(∀k∈keys.take i,H' (U k)=some (.lst [])/\H3 (U k)=none)/\(∀k∈keys.take i,∀k'∈keys.take i,U k=U k'->k=k'))
   ⟨none,fun _=>0,rfl,fun b o _ e=>e,qA,(fun k B=>by simp at B),fun k B=>by simp at B⟩ (fun i σ H' _ h=>by obtain⟨_,_,_,q,_⟩:=h;exact aH.of (q _ _ (jO uK qA (by simp)) uK)) ?_ ?_⟩
  ·rintro i v σ H4 hx ⟨v3,U,rfl,kp,O,J,inj⟩
   obtain⟨r,g,rfl,hg,wI,hr⟩:=vX Aa hx
   rw[LK,aT] at hg
   cases eu:keys[i]? with
   | none=>rw[eu] at hg;cases hg
   | some u=>
    rw[eu] at hg
    cases hg
    have oG:u∈keys:=bM eu
    have hi:=jE eu
    have iO:u ∉ keys.take i:=by
     have:=tM knd i hi
     rw[show keys[i]=u from (cE.mp eu).2] at this
     exact this
    obtain⟨gr,LL⟩:=Po (us:=us) (ts:=ts) nd (k:=u) (ek▸oG)
    rw[LL] at hr
    have wJ:=kp _ _ (jO hr qA (by simp)) hr
    try dsimp only [zz]
    refine⟨by decide,fun q0 S=>?_⟩
    have t0:=aj.new (o:=.lst []) S
    have j:=t0 _ _ O
    have nq:pd≠q0:=zj O S
    refine⟨_,rfl,_,rfl,r,_,_,_,rfl,rfl,aH.of (t0 _ _ wJ),vj,pd,_,rfl,eE.k (k:=Sum.inr u) j (by rw[iH,bP];exact jC (by lia)),?_⟩
    have fq:H3 q0=none:=by
     cases e:H3 q0 with
     | none=>rfl
     | some o=>rw[kp _ _ (aG nq) e] at S;cases S
    refine⟨_,fun z=>if z=u then q0 else U z,rfl,fun b o n e=>by rw[zi n];exact t0 _ _ (kp b o n e),?_,?_,?_⟩
    ·rw[zb,ur iO,aR,eu]
     congr 2
     refine tN fun z hz=>?_
     dsimp only
     by_cases e:z=u
     ·rw[ak e,ak e]
     ·rw[ao e,ao e]
    ·intro k B
     rw[aR,eu,bJ] at B
     dsimp only
     by_cases e:k=u
     ·rw[ak e]
      exact⟨by rw[zi (aG nq),zb],fq⟩
     ·rw[ao e]
      have W:k∈keys.take i:=B.elim id fun z=>absurd (by simpa using z) e
      obtain⟨h1,h2⟩:=J k W
      refine⟨?_,h2⟩
      rw[zi (fun z=>by rw[z,O] at h1;cases h1)]
      exact t0 _ _ h1
    ·intro k B k' W e
     rw[aR,eu,bJ] at B W
     dsimp only at e
     by_cases c1:k=u<;>by_cases c2:k'=u
     ·rw[c1,c2]
     ·rw[ak c1,ao c2] at e
      have h2:=(J k' (W.elim id fun z=>absurd (by simpa using z) c2)).1
      rw[←e,S] at h2
      cases h2
     ·rw[ao c1,ak c2] at e
      have h2:=(J k (B.elim id fun z=>absurd (by simpa using z) c1)).1
      rw[e,S] at h2
      cases h2
     ·rw[ao c1,ao c2] at e
      exact inj k (B.elim id fun z=>absurd (by simpa using z) c1) k' (W.elim id fun z=>absurd (by simpa using z) c2) e
  ·rintro σ H4 ⟨v3,U,rfl,kp,O,J,inj⟩
   rw[ay,lk,bu] at O J inj
   have yJ:∀{H':Hp},(∀b o,b≠pd->H3 b=some o->H' b=some o)->aj H H':=fun B8 b o e=>B8 b o (zj e tV) (q3 _ _ e)
   have q4:=yJ kp
   refine⟨_,rfl,p,_,_,_,rfl,rfl,q4.tup hp,rfl,pf,rfl,⟨_,q4.seq RX⟩,mG (xs:=af.map V.ref) (fun i σ H'=>∃(v4:Option V),σ = [some (.ref p),some (.ref pn),some (.ref pd),v3,v4]/\(∀b o,b≠pd->H3 b=some o->H' b=some o)/\
    H' pd=some (.dK (dV keys fun k=>.ref (U k)))/\∀k∈keys,H' (U k)=some (.lst ((fX ts ((fs.zip af).take i) k).map fun p=>V.ref p.2)))
    ⟨none,rfl,kp,O,fun k B=>by rw[List.take_zero];exact (J k B).1⟩ (fun i σ H' _ h=>by obtain⟨_,_,q,_⟩:=h;exact (yJ q).seq RX) ?_ ?_⟩
   ·rintro i x σ H5 hx ⟨v4,rfl,Y,j,L⟩
    obtain⟨r,f,rfl,hf,wI,hr⟩:=vp EV hx
    have q5:=yJ Y
    have ER:=q5 _ _ hr
    have yK:=HB f (bM hf)
    have hit:=jE hf
    have Bp:=hz hf wI
    have g1:=bL.k (k:=Sum.inr f.u) (Y _ _ Hy Hx)
    rw[oH yK] at g1
    have yL:aq ts f.u∈keys:=ek▸zL iS yK
    have g3:=bL.k (k:=Sum.inr (aq ts f.u)) j
    rw[qw yL] at g3
    have nX:=L _ yL
    have lb:(fX ts ((fs.zip af).take i) (aq ts f.u)).length<=60:=by
     have h2:=K4 (ts:=ts) (z:=(fs.zip af).take i) (k:=aq ts f.u)
     rw[bP,iY] at h2
     lia
    try dsimp only [zz]
    refine⟨_,rfl,_,rfl,_,rfl,r,_,_,_,rfl,rfl,aI.of ER,Ec f,pn,_,rfl,g1,pd,_,rfl,g3,?_⟩
    refine⟨.inl ⟨rfl,_,aH.of nX⟩,_,rfl,U (aq ts f.u),_,_,rfl,rfl,nX,by rw[ay];exact jC (by lia),?_⟩
    refine⟨_,rfl,fun b o n e=>?_,?_,fun k B=>?_⟩
    ·rw[zi (fun z=>by rw[z,(J _ yL).2] at e;cases e)]
     exact Y b o n e
    ·rw[zi (fun z=>by rw[←z,j] at nX;cases nX)]
     exact j
    ·rw[Zj Bp]
     by_cases e:aq ts f.u=k
     ·subst e
      rw[ak rfl,zb,aU]
      rfl
     ·rw[ao e,e9,zi (fun z=>e (inj _ yL _ B z.symm))]
      exact L k B
   ·rintro σ H5 ⟨v4,rfl,Y,j,L⟩
    rw[ay] at L
    have ez:(fs.zip af).take af.length=fs.zip af:=lH (by rw[iY];lia)
    rw[ez] at L
    refine .inr ⟨pd,_,j,fun ob=>⟨_,rfl,k pd ob U _ ?_ tV ⟨zb,fun k B=>?_⟩⟩⟩
    ·exact (yJ Y).upd tV
    ·have b1:=L k B
     rw[zi (fun z=>by rw[z,j] at b1;cases b1)]
     exact b1
inductive sH(vs:99)(H:Hp)(Q:VK):Prop|mk p pm pu pt pf lo hi us az ts af fs(_:vs=[101])(_:gp K H p pm pu pt pf lo hi us az ts af fs)(_:∀pd ob v ad H',aj H H'->H pd=none->Bd H' pd ob 79 v ad->(∀k∈keysOf ts (aJ us),ux (yp lo<|fX ts 92 k) (v k))->Q (.ref pd) H')
def zw1:Sp:=λj H Q _=>sH (K:=K) j H Q
theorem RY(T:20):fB P w K mg base "floors" [110] 5 (zw1 (K:=K)):=by refine T.z0b.has jN (λvs H Q E h=>?_) λf fU A outer s H vs Q E hr h=>?_;{obtain⟨p,pm,pu,pt,pf,lo,hi,us,az,ts,af,fs,rfl,_⟩:=h;rfl};{obtain⟨p,pm,pu,pt,pf,lo,hi,us,az,ts,af,fs,rfl,hF,k⟩:=h;have hu:=j5 hr;exists _,(zc (sset (i:=1) jN.nd<|bS (RW T)<|za (pv 0) zd)<|zc (sset (i:=2) jN.nd oR)<|zc (iA bB Z (xx<|pv 1) (eS (i:=3) jN.nd)<|zf<|mQ hu (pv 2) (pv 3) (gC (Ze (K:=K) Z Z hu) 97 T.max pA<|za (fm xm (gG<|za (jI<|za (aK 86 (aK 86 (pv 0) ze) ze)<|za eO zd) zd)<|rS (own:=["find"]) (cap:=[]) (ix:=[]) (mR:=zp (top 43)) Z ⟨Z,50,50,50,50⟩ Z (jd K Z<|eZ hu (pv 1) (pv 3) λ_ _=>Z) (λ_ _ _ _=>oQ (i:=0) (show List.Nodup (["find"]:88)by kt_k) Z<|Or.inl Z) (λ_ _ _ _=>xq) λ_ _ _ _=>(jI<|za (aK 86 (pv 0) ze)<|za (aK 86 (pv 0) ze) zd)) zd) Z)<|zf<|zP<|cH<|pv 2);have nd:=hF.cB.nd;have lk:=hF.cB.k6;have EU:=hF.fl;have EV:=hF.ft;refine⟨_,Z,p,pm,pu,pt,pf,lo,hi,us,az,ts,af,fs,Z,hF,λpw ow aw H1 s1 fpw hW=>?_⟩;have knd:=vz (ts:=ts) nd;(have EW:∀k,(fX ts 92 k).length<=60:=λk=>by have h2:=K4 (ts:=ts) (z:=92) (k:=k);rw[iY]at h2;lia);(have EX:∀k,∀q∈fX ts 92 k,H q.2=some (.tup<|eY q.1):=λk q hq=>by have:=(bV.mp hq).1;obtain⟨i,hi⟩:=kJ.mp this;obtain⟨h1,h2⟩:=jV.mp hi;exact zR EV h2 (by rw[aT,h1];rfl));generalize keysOf ts (aJ us)=keys at hW lk k knd;generalize fX ts 92=fw at hW k EW EX;kd_p;refineλpd U=>?_;have s2:=aj.new (o:=.dK []) U;refine⟨_,Z,pw,ow,_,Z,s2 _ _ hW.d,A6 (λi σ H'=>∃(v3:Option V)(v:Str->IS)(ad:Str->ai),σ=[some 101,some (.ref pw),some (.ref pd),v3]/\aj H1 H'/\H' pd=some (.dK<|dV (keys.take i) λk=>.ref (ad k))/\∀k∈keys.take i,H' (ad k)=some (.tup [.int (v k).1,.str (v k).2])/\ux (yp lo<|fw k) (v k)) ⟨none,λ_=>(0,""),λ_=>0,Z,s2,zb,λk Y=>by simp at Y⟩ (λi σ H' _ h=>by obtain⟨_,_,_,_,q,_⟩:=h;exact q _ _ hW.d) ?_ ?_⟩;{rintro i kk vv σ H3 hx⟨v3,v,ad,rfl,q3,J,O⟩;obtain⟨u,S,rfl,_⟩:=A1 hx;have kI:u∈keys:=bM S;have F3:=hF.same (s1.trans q3);have W3:=hW.same q3;kd_p;refine⟨_,Z,p,_,_,_,Z,Z,F3.cB.p,Z,pm,_,_,_,Z,Z,F3.m,Z,(by show 2<=89;walk),λB yM=>?_⟩;have t1:=aj.new (o:=.tup [.int lo,.str ""]) yM;refine⟨by show 1<=89;walk,λl0 Ad=>?_⟩;have t2:=aj.new (o:=.lst [.ref B]) Ad;have q5:=q3.trans (t1.trans t2);have Af:=t2 _ _ (zb (H:=H3) (a:=B) (o:=.tup [.int lo,.str ""]));have sI:upd (upd H3 B<|.tup [.int lo,.str ""]) l0 (.lst [.ref B]) l0=some (.lst [.ref B]):=zb;have EY:=t1.trans t2;generalize upd (upd H3 B<|.tup [.int lo,.str ""]) l0 (.lst [.ref B])=H5 at q5 Af sI t2 EY;have W5:=hW.same q5;have lL:=EW u;have tL:=EX u;have Bs:=W5.l u kI;generalize eL:fw u=L at lL tL Bs;refine⟨_,Z,_,Z,pw,_,Z,m8 W5.d kI,aw u,Z,⟨_,aH.of Bs⟩,λD hD=>?_⟩;refine vn (xu (K:=K) (a:=aw u) (xs:=L.map λp=>V.ref p.2)) (λi' W ys H'=>∃(w0:Option V)(bs:List ai),W=[w0]/\ys=bs.map 122/\Paired (λa(p:IS)=>H' a=some (.tup [.int p.1,.str p.2])) bs ((L.take i').map λp=>(p.1.lo,p.1.n))/\aj H5 H'/\H' D=some (.lst ys)) ⟨none,[],Z,Z,.nil,aj.new hD,zb⟩ (λi' W ys H' h=>?_) (by rw[ay];exact i8 80) ?_ ?_;{obtain⟨_,bs,_,rfl,pb,q,hd⟩:=h;exists aH.of<|q _ _ Bs,hd;have:=Paired.length pb;rw[ay,bP]at this;rw[ay];lia};{rintro i' v' W ys H' hx⟨w0,bs,rfl,rfl,pb,q,hd⟩;have lz:=jE hx;rw[aT]at hx;cases ef:L[i']? with|none=>rw[ef]at hx;cases hx|some f=>rw[ef]at hx;cases hx;have hf:=q _ _ (q5 _ _<|s1 _ _<|tL f<|bM ef);kd_p;unfold qa;fin2;rw[ak Z];refine⟨_,Z,f.2,_,_,_,Z,Z,aI.of hf,G6 f.1,_,Z,f.2,_,_,_,Z,Z,aI.of hf,K3 f.1,(by show 2<=89;walk),λb1 nX=>?_⟩;have w1:=aj.new (o:=.tup [.int f.1.lo,.str f.1.n]) nX;have wK:=w1 _ _ hd;refine⟨wK,qd lz ⟨_,bs++[b1],Z,by rw[aU];rfl,?_,(q.trans w1).upd hD,zb⟩⟩;rw[aR,ef,aU];exact Paired.snoc (Paired.fS pb λa z e=>qv wK _ _ (w1 _ _ e))<|qv wK _ _ zb};rintro W ys H6⟨w0,bs,rfl,rfl,pb,t6,uP⟩;rw[ay,bu]at pb;have lb:=Paired.length pb;rw[ay]at lb;have yO:=t6 _ _ sI;refine⟨l0,D,_,_,Z,Z,yO,uP,by rw[ay];exact i8 (show 1+_<=1000 by lia),λl hl=>?_⟩;have t7:=aj.new (o:=.lst ([V.ref B]++bs.map 122)) hl;have pr:Paired (λa(p:IS)=>H6 a=some (.tup [.int p.1,.str p.2])) (B::bs) (yp lo L):=.cons (t6 _ _ Af) pb;have EZ:=Paired.fS pr λa z e=>t7 _ _ e;refine⟨l,B::bs,yp lo L,Z,aH.of zb,Paired.fS EZ λa z e=>aI.of e,by unfold yp;simp,λj a m ha hm Bt=>?_⟩;have Cw:=zR EZ ha hm;have q7:=q5.trans (t6.trans t7);have E2:=EY.trans (t6.trans t7);have E3:=E2 _ _ J;(have iO:u∉keys.take i:=by have hi:=jE S;have:=tM knd i hi;rw[show keys[i]=u from(cE.mp S).2]at this;z_go);exists _,Z,_,Z,pd,_,Z,eE.k (k:=Sum.inr u) E3 (by rw[iH,bP];exact jC 80);(have E4:∀b vs,upd H6 l (.lst<|[V.ref B]++bs.map 122) b=some (.tup vs)->upd (upd H6 l<|.lst<|[V.ref B]++bs.map 122) pd (.dK<|putK (dV (keys.take i) λk=>.ref (ad k)) (Sum.inr u) 98) b=some (.tup vs):=λb vs e=>by rw[zi (jO e E3 (by intro z;cases z))];exact e);refine⟨_,λz=>if z=u then m else v z,λz=>if z=u then a else ad z,Z,q7.upd U,?_,λk Y=>?_⟩;{rw[zb,ur iO,aR,S];congr 2;refine tN λz hz=>?_;x_go;by_cases e:z=u;{rw[ak e,ak e]};{rw[ao e,ao e]}};{rw[aR,S,bJ]at Y;x_go;by_cases e:k=u;{rw[ak e,ak e];exists E4 _ _ Cw;rw[e,eL];exact⟨bM hm,Bt⟩};{rw[ao e,ao e];obtain⟨h1,h2⟩:=O k (Y.elim id λz=>absurd (by simpa using z) e);exact⟨E4 _ _<|E2 _ _ h1,h2⟩}}};{rintro σ H3⟨v3,v,ad,rfl,q3,J,O⟩;rw[iH,bu]at J O;refine .inr ⟨pd,_,J,λob=>⟨_,Z,k pd ob v ad _ ((s1.trans q3).upd<|s1.free U) (s1.free U) ⟨zb,λk Y=>?_⟩ λk Y=>(O k Y).2⟩⟩;have b1:=(O k Y).1;rw[zi (λz=>by rw[z,J]at b1;cases b1)];exact b1}}
inductive wL(vs:99)(H:Hp)(Q:VK):Prop|mk p pm pu pt pf lo hi us az ts af fs(_:vs=[101])(_:gp K H p pm pu pt pf lo hi us az ts af fs)(_:∀pd ob v ad H',aj H H'->H pd=none->Bd H' pd ob 79 v ad->(∀k∈keysOf ts (aJ us),uy (yq hi<|fX ts 92 k) (v k))->Q (.ref pd) H')
def z4h:Sp:=λj H Q _=>wL (K:=K) j H Q
theorem RZ(T:20):fB P w K mg base "ceilings" [110] 5 (z4h (K:=K)):=by refine T.zte.has gM (λvs H Q E h=>?_) λf fU A outer s H vs Q E hr h=>?_;{obtain⟨p,pm,pu,pt,pf,lo,hi,us,az,ts,af,fs,rfl,_⟩:=h;rfl};{obtain⟨p,pm,pu,pt,pf,lo,hi,us,az,ts,af,fs,rfl,hF,k⟩:=h;have hu:=j5 hr;exists _,(zc (sset (i:=1) gM.nd<|bS (RW T)<|za (pv 0) zd)<|zc (sset (i:=2) gM.nd oR)<|zc (iA bB Z (xx<|pv 1) (eS (i:=3) gM.nd)<|zf<|mQ hu (pv 2) (pv 3) (gC (Zi (K:=K) Z Z hu) 97 T.min nC<|za (fm xm (gG<|za (jI<|za (aK 86 (aK 86 (pv 0) ze) ze)<|za eO zd) zd)<|rS (own:=["find"]) (cap:=[]) (ix:=[]) (mR:=zp (top 44)) Z ⟨Z,50,50,50,50⟩ Z (jd K Z<|eZ hu (pv 1) (pv 3) λ_ _=>Z) (λ_ _ _ _=>oQ (i:=0) (show List.Nodup (["find"]:88)by kt_k) Z<|Or.inl Z) (λ_ _ _ _=>xq) λ_ _ _ _=>(jI<|za (aK 86 (pv 0) ze)<|za (aK 86 (pv 0) ze) zd)) zd) Z)<|zf<|zP<|cH<|pv 2);have nd:=hF.cB.nd;have lk:=hF.cB.k6;have EU:=hF.fl;have EV:=hF.ft;refine⟨_,Z,p,pm,pu,pt,pf,lo,hi,us,az,ts,af,fs,Z,hF,λpw ow aw H1 s1 fpw hW=>?_⟩;have knd:=vz (ts:=ts) nd;(have EW:∀k,(fX ts 92 k).length<=60:=λk=>by have h2:=K4 (ts:=ts) (z:=92) (k:=k);rw[iY]at h2;lia);(have EX:∀k,∀q∈fX ts 92 k,H q.2=some (.tup<|eY q.1):=λk q hq=>by have:=(bV.mp hq).1;obtain⟨i,hi⟩:=kJ.mp this;obtain⟨h1,h2⟩:=jV.mp hi;exact zR EV h2 (by rw[aT,h1];rfl));generalize keysOf ts (aJ us)=keys at hW lk k knd;generalize fX ts 92=fw at hW k EW EX;kd_p;refineλpd U=>?_;have s2:=aj.new (o:=.dK []) U;refine⟨_,Z,pw,ow,_,Z,s2 _ _ hW.d,A6 (λi σ H'=>∃(v3:Option V)(v:Str->IS)(ad:Str->ai),σ=[some 101,some (.ref pw),some (.ref pd),v3]/\aj H1 H'/\H' pd=some (.dK<|dV (keys.take i) λk=>.ref (ad k))/\∀k∈keys.take i,H' (ad k)=some (.tup [.int (v k).1,.str (v k).2])/\uy (yq hi<|fw k) (v k)) ⟨none,λ_=>(0,""),λ_=>0,Z,s2,zb,λk Y=>by simp at Y⟩ (λi σ H' _ h=>by obtain⟨_,_,_,_,q,_⟩:=h;exact q _ _ hW.d) ?_ ?_⟩;{rintro i kk vv σ H3 hx⟨v3,v,ad,rfl,q3,J,O⟩;obtain⟨u,S,rfl,_⟩:=A1 hx;have kI:u∈keys:=bM S;have F3:=hF.same (s1.trans q3);have W3:=hW.same q3;kd_p;refine⟨_,Z,p,_,_,_,Z,Z,F3.cB.p,Z,pm,_,_,_,Z,Z,F3.m,Z,(by show 2<=89;walk),λB yM=>?_⟩;have t1:=aj.new (o:=.tup [.int hi,.str ""]) yM;refine⟨by show 1<=89;walk,λl0 Ad=>?_⟩;have t2:=aj.new (o:=.lst [.ref B]) Ad;have q5:=q3.trans (t1.trans t2);have Af:=t2 _ _ (zb (H:=H3) (a:=B) (o:=.tup [.int hi,.str ""]));have sI:upd (upd H3 B<|.tup [.int hi,.str ""]) l0 (.lst [.ref B]) l0=some (.lst [.ref B]):=zb;have EY:=t1.trans t2;generalize upd (upd H3 B<|.tup [.int hi,.str ""]) l0 (.lst [.ref B])=H5 at q5 Af sI t2 EY;have W5:=hW.same q5;have lL:=EW u;have tL:=EX u;have Bs:=W5.l u kI;generalize eL:fw u=L at lL tL Bs;refine⟨_,Z,_,Z,pw,_,Z,m8 W5.d kI,aw u,Z,⟨_,aH.of Bs⟩,λD hD=>?_⟩;refine vn (xu (K:=K) (a:=aw u) (xs:=L.map λp=>V.ref p.2)) (λi' W ys H'=>∃(w0:Option V)(bs:List ai),W=[w0]/\ys=bs.map 122/\Paired (λa(p:IS)=>H' a=some (.tup [.int p.1,.str p.2])) bs ((L.take i').map λp=>(p.1.hi,p.1.n))/\aj H5 H'/\H' D=some (.lst ys)) ⟨none,[],Z,Z,.nil,aj.new hD,zb⟩ (λi' W ys H' h=>?_) (by rw[ay];exact i8 80) ?_ ?_;{obtain⟨_,bs,_,rfl,pb,q,hd⟩:=h;exists aH.of<|q _ _ Bs,hd;have:=Paired.length pb;rw[ay,bP]at this;rw[ay];lia};{rintro i' v' W ys H' hx⟨w0,bs,rfl,rfl,pb,q,hd⟩;have lz:=jE hx;rw[aT]at hx;cases ef:L[i']? with|none=>rw[ef]at hx;cases hx|some f=>rw[ef]at hx;cases hx;have hf:=q _ _ (q5 _ _<|s1 _ _<|tL f<|bM ef);kd_p;unfold qa;fin2;rw[ak Z];refine⟨_,Z,f.2,_,_,_,Z,Z,aI.of hf,G7 f.1,_,Z,f.2,_,_,_,Z,Z,aI.of hf,K3 f.1,(by show 2<=89;walk),λb1 nX=>?_⟩;have w1:=aj.new (o:=.tup [.int f.1.hi,.str f.1.n]) nX;have wK:=w1 _ _ hd;refine⟨wK,qd lz ⟨_,bs++[b1],Z,by rw[aU];rfl,?_,(q.trans w1).upd hD,zb⟩⟩;rw[aR,ef,aU];exact Paired.snoc (Paired.fS pb λa z e=>qv wK _ _ (w1 _ _ e))<|qv wK _ _ zb};rintro W ys H6⟨w0,bs,rfl,rfl,pb,t6,uP⟩;rw[ay,bu]at pb;have lb:=Paired.length pb;rw[ay]at lb;have yO:=t6 _ _ sI;refine⟨l0,D,_,_,Z,Z,yO,uP,by rw[ay];exact i8 (show 1+_<=1000 by lia),λl hl=>?_⟩;have t7:=aj.new (o:=.lst ([V.ref B]++bs.map 122)) hl;have pr:Paired (λa(p:IS)=>H6 a=some (.tup [.int p.1,.str p.2])) (B::bs) (yq hi L):=.cons (t6 _ _ Af) pb;have EZ:=Paired.fS pr λa z e=>t7 _ _ e;refine⟨l,B::bs,yq hi L,Z,aH.of zb,Paired.fS EZ λa z e=>aI.of e,by unfold yq;simp,λj a m ha hm Bt=>?_⟩;have Cw:=zR EZ ha hm;have q7:=q5.trans (t6.trans t7);have E2:=EY.trans (t6.trans t7);have E3:=E2 _ _ J;(have iO:u∉keys.take i:=by have hi:=jE S;have:=tM knd i hi;rw[show keys[i]=u from(cE.mp S).2]at this;z_go);exists _,Z,_,Z,pd,_,Z,eE.k (k:=Sum.inr u) E3 (by rw[iH,bP];exact jC 80);(have E4:∀b vs,upd H6 l (.lst<|[V.ref B]++bs.map 122) b=some (.tup vs)->upd (upd H6 l<|.lst<|[V.ref B]++bs.map 122) pd (.dK<|putK (dV (keys.take i) λk=>.ref (ad k)) (Sum.inr u) 98) b=some (.tup vs):=λb vs e=>by rw[zi (jO e E3 (by intro z;cases z))];exact e);refine⟨_,λz=>if z=u then m else v z,λz=>if z=u then a else ad z,Z,q7.upd U,?_,λk Y=>?_⟩;{rw[zb,ur iO,aR,S];congr 2;refine tN λz hz=>?_;x_go;by_cases e:z=u;{rw[ak e,ak e]};{rw[ao e,ao e]}};{rw[aR,S,bJ]at Y;x_go;by_cases e:k=u;{rw[ak e,ak e];exists E4 _ _ Cw;rw[e,eL];exact⟨bM hm,Bt⟩};{rw[ao e,ao e];obtain⟨h1,h2⟩:=O k (Y.elim id λz=>absurd (by simpa using z) e);exact⟨E4 _ _<|E2 _ _ h1,h2⟩}}};{rintro σ H3⟨v3,v,ad,rfl,q3,J,O⟩;rw[iH,bu]at J O;refine .inr ⟨pd,_,J,λob=>⟨_,Z,k pd ob v ad _ ((s1.trans q3).upd<|s1.free U) (s1.free U) ⟨zb,λk Y=>?_⟩ λk Y=>(O k Y).2⟩⟩;have b1:=(O k Y).1;rw[zi (λz=>by rw[z,J]at b1;cases b1)];exact b1}}
theorem zw2(e:aj H H')(h:aI K H a xs):aI K H' a xs:=by rcases h with(h|⟨o,h⟩)|h;{exact .inl<|.inl<|e _ _ h};{exact .inl<|.inr ⟨o,e _ _ h⟩};{exact .inr h}
inductive uQ(C:ai)(vs:99)(H:Hp)(Q:VK):Prop|mk e p xs(_:vs=[.ref e,101])(_:H e=some (ia e C none))(_:aH K H p xs)(_:84<=1000)(_:∀q d,q≠e->d≠e->H q=none->H d=none->d≠q->Q .cz (upd (upd (upd H q<|.lst xs) d<|.xd [("ties",.ref q)]) e<|ia e C<|some d))
def zzy(C:ai):Sp:=λj H Q _=>uQ (K:=K) C j H Q
theorem zh0(T:20):kH P w K mg base zw "__init__" ["self","ties"] 1 (zzy (K:=K) zw):=by refine T.zh5.has zhc (λvs H Q E h=>?_) λf W A L s H vs Q E hr h=>?_;{obtain⟨e,p,xs,rfl,_⟩:=h;rfl};{obtain⟨e,p,xs,rfl,B,Y,hl,k⟩:=h;exists _,(zc (mW<|QZ 97 T.Rh T.Ri<|za (pv 0)<|za eO zd)<|zf<|QY (pv 0) (nU (Ov K Z) 97 T.list ig<|za (pv 1) zd) Z);obtain⟨bm,xo,U⟩:=T.Rk;exists _,Z,e,zw,none,bm,_,Z,B,xo,U,(by show 1<=89;walk);refine⟨_,Z,p,xs,Z,.inl Y,λq J=>?_⟩;(have S:q≠e:=λz=>by rw[z,B]at J;cases J);refine⟨_,Z,e,zw,Z,by rw[zi S.symm];exact B,T.zz8,T.Rm,λd j=>?_⟩;(have O:d≠q:=λz=>by rw[z,zb]at j;cases j);rw[zi O]at j;exact k q d S (λz=>by rw[z,B]at j;cases j) J j O}
inductive uR(C:ai)(vs:99)(H:Hp)(Q:VK):Prop|mk e p p1 x0 x2 xs(_:vs=[.ref e,101])(_:H e=some (ia e C none))(_:aI K H p [x0,.ref p1,x2])(_:aH K H p1 xs)(_:84<=1000)(_:∀q r d,q≠e->r≠e->d≠e->H q=none->H r=none->H d=none->r≠q->d≠q->d≠r->Q .cz (upd (upd (upd (upd H q<|.lst xs) r<|.tup [x0,.ref q,x2]) d<|.xd [("row",.ref r)]) e<|ia e C<|some d))
def zzz(C:ai):Sp:=λj H Q _=>uR (K:=K) C j H Q
theorem zfp(T:20):kH P w K mg base zh "__init__" ["self","row"] 1 (zzz (K:=K) zh):=by refine T.zfu.has zew (λvs H Q E h=>?_) λf fU A Y s H vs Q E B h=>?_;{obtain⟨e,p,p1,x0,x2,xs,rfl,_⟩:=h;rfl};{obtain⟨e,p,p1,x0,x2,xs,rfl,J,S,W,hl,k⟩:=h;exists _,(zc (mW<|QZ 97 T.Rh T.Ri<|za (pv 0)<|za eO zd)<|zf<|QY (pv 0) (jI<|za (aK 86 (pv 1) ze)<|za (nU (Ov K Z) 97 T.list ig<|za (aK 86 (pv 1) ze) zd)<|za (aK 86 (pv 1) ze) zd) Z);obtain⟨bm,xo,U⟩:=T.Rp;exists _,Z,e,zh,none,bm,_,Z,J,xo,U,(by show 1<=89;walk);x_go;refine⟨_,Z,p,_,_,x0,Z,Z,S,Z,_,Z,p,_,_,.ref p1,Z,Z,S,Z,p1,xs,Z,.inl W,λq O=>?_⟩;have t1:=aj.new (o:=.lst xs) O;refine⟨_,Z,p,_,_,x2,Z,Z,zw2 t1 S,Z,(by show 3<=89;walk),λr B=>?_⟩;(have ne:q≠e:=λz=>by rw[z,J]at O;cases O);(have nr:r≠q:=λz=>by rw[z,zb]at B;cases B);rw[zi nr]at B;(have L:r≠e:=λz=>by rw[z,J]at B;cases B);refine⟨_,Z,e,zh,Z,by rw[zi L.symm,zi ne.symm];exact J,T.zpt,T.Rq,λd j=>?_⟩;(have d1:d≠r:=λz=>by rw[z,zb]at j;cases j);rw[zi d1]at j;(have d2:d≠q:=λz=>by rw[z,zb]at j;cases j);rw[zi d2]at j;exact k q r d ne L (λz=>by rw[z,J]at j;cases j) O B j nr d2 d1}
inductive wM(vs:99)(H:Hp)(Q:VK):Prop|mk pb ob keys v ab fz(_:vs=[.ref pb])(_:Bd H pb ob keys v ab)(_:keys.Nodup)(_:132<=63)(_:∀pd o ad H',aj H H'->H pd=none->H' pd=some (Zu fz o keys ad)->(∀k∈keys,cO H H' (ad k) ((v k).1,(v k).2,[]))->Q (.ref pd) H')
def z4i:Sp:=λj H Q _=>wM j H Q
theorem LR(T:20):fB P w K mg base "bare_chains" ["bounds"] 1 z4i:=by refine T.zl7.has gD (λvs H Q E h=>?_) λf fU A outer s H vs Q E hr h=>?_;{obtain⟨pb,ob,keys,v,ab,fz,rfl,_⟩:=h;rfl};{obtain⟨pb,ob,keys,v,ab,fz,rfl,hB,knd,lk,k⟩:=h;have hu:=j5 hr;exists _,(zc (sset (i:=1) gD.nd oR)<|zc (iA bB Z (xx<|pv 0) (eS (i:=2) gD.nd)<|zf<|mQ hu (pv 1) (pv 2) (fm (Ou K Z) (eZ hu (pv 0) (pv 2) λ_ _=>Z)<|jI<|za (gG zd) zd) Z)<|zf<|zP<|cH<|pv 1);kd_p;refineλpd J=>?_;have s1:=aj.new (o:=.dK []) J;refine⟨_,Z,pb,ob,_,Z,s1 _ _ hB.d,A6 (λi σ H'=>∃(v2:Option V)(O:Str->ai),σ=[some (.ref pb),some (.ref pd),v2]/\aj H H'/\H' pd=some (.dK<|dV (keys.take i) λk=>.ref (O k))/\∀k∈keys.take i,cO H H' (O k) ((v k).1,(v k).2,[])) ⟨none,λ_=>0,Z,s1,zb,λk W=>by simp at W⟩ (λi σ H' _ h=>by obtain⟨_,_,_,q,_⟩:=h;exact q _ _ hB.d) ?_ ?_⟩;{rintro i kk vv σ H3 hx⟨v2,O,rfl,q3,j,B⟩;obtain⟨u,L,rfl,_⟩:=A1 hx;have kI:u∈keys:=bM L;have B3:=hB.same q3;kd_p;refine⟨_,Z,_,Z,pb,_,Z,m8 B3.d kI,by show 0<=89;walk,λY Ad=>?_⟩;have t1:=aj.new (o:=.lst []) Ad;refine⟨by show 1<=89;walk,λb0 yM=>?_⟩;have t2:=aj.new (o:=.tup [.ref Y]) yM;refine⟨ab u,b0,_,_,Z,Z,aI.of<|t2 _ _<|t1 _ _<|B3.e u kI,aI.of zb,81,by show 3<=89;walk,λz=>by simp at z,λ_ p hp=>?_⟩;have t3:=aj.new (o:=.tup [.int (v u).1,.str (v u).2,.ref Y]) hp;have S:=t1.trans (t2.trans t3);have U:=S _ _ j;(have iO:u∉keys.take i:=by have hi:=jE L;have:=tM knd i hi;rw[show keys[i]=u from(cE.mp L).2]at this;z_go);have hc:cO H (upd (upd (upd H3 Y<|.lst []) b0<|.tup [.ref Y]) p<|.tup [.int (v u).1,.str (v u).2,.ref Y]) p ((v u).1,(v u).2,[]):=⟨Y,zb,t3 _ _<|t2 _ _ zb,q3.free Ad⟩;exists _,Z,_,Z,pd,_,Z,eE.k (k:=Sum.inr u) U (by rw[iH,bP];exact jC 80);refine⟨_,λz=>if z=u then p else O z,Z,(q3.trans S).upd J,?_,λk W=>?_⟩;{rw[zb,ur iO,aR,L];congr 2;refine tN λz hz=>?_;x_go;by_cases e:z=u;{rw[ak e,ak e]};{rw[ao e,ao e]}};{rw[aR,L,bJ]at W;x_go;by_cases e:k=u;{rw[ak e,e];exact hc.put U};{rw[ao e];exact((B k<|W.elim id λz=>absurd (by simpa using z) e).same S).put U}}};{rintro σ H3⟨v2,O,rfl,q3,j,B⟩;rw[iH,bu]at j B;cases fz with|false=>exact .inl ⟨_,Z,k pd ob O _ q3 J j B⟩|true=>exact .inr ⟨pd,_,j,λBu=>⟨_,Z,k pd Bu O _ (q3.upd J) J zb λk W=>(B k W).put j⟩⟩}}
inductive uS(vs:99)(H:Hp)(Q:VK):Prop|mk a r c t us(_:vs=[98,.ref r])(_:cO (λ_=>none) H a c)(_:H r=some (.tup<|bO t))(_:m7 us t)(_:c.2.2.length<=900)(_:∀q H',aj H H'->H q=none->cO H H' q (c.1+dH t,c.2.1,c.2.2++[(t,r)])->Q (.ref q) H')
def zz0:Sp:=λj H Q _=>uS j H Q
theorem R1(T:20):fB P w K mg base "led_up" ["chain","tie"] 2 zz0:=by refine T.z0c.has zwp (λvs H Q E h=>?_) λf Y A O s H vs Q E hr h=>?_;{obtain⟨a,r,c,t,us,rfl,_⟩:=h;rfl};{obtain⟨a,r,c,t,us,rfl,⟨l,B,hl,_⟩,L,S,lc,k⟩:=h;exists _,(zf<|cH<|jI<|za (fm qG (aK 86 (pv 0) ze)<|bS (RV T)<|za (pv 1) zd)<|za (aK 86 (pv 0) ze)<|za (fm xm (aK 86 (pv 0) ze)<|gG<|za (pv 1) zd) zd);refine⟨_,Z,a,_,_,_,Z,Z,aI.of B,Z,_,Z,r,t,us,Z,L,S,λH1 j=>?_⟩;refine⟨_,_,Z,Z,_,Z,a,_,_,_,Z,Z,aI.of<|j _ _ B,Z,_,Z,a,_,_,_,Z,Z,aI.of<|j _ _ B,Z,_,Z,by show 1<=89;walk,λl1 J=>?_⟩;have t1:=aj.new (o:=.lst [.ref r]) J;refine⟨l,l1,_,_,Z,Z,t1 _ _<|j _ _ hl,zb,by rw[ay];exact i8 (show _+1<=1000 by lia),λl2 q=>?_⟩;have t2:=aj.new (o:=.lst (c.2.2.map (λp=>V.ref p.2)++[.ref r])) q;refine⟨by show 3<=89;walk,λb U=>?_⟩;have W:=aj.new (o:=.tup [.int (c.1+dH t),.str c.2.1,.ref l2]) U;refine k b _ (j.trans<|t1.trans<|t2.trans W) ((j.trans<|t1.trans t2).free U) ⟨l2,zb,?_,(j.trans t1).free q⟩;rw[W _ _ zb,aU];rfl}
inductive qR(vs:99)(H:Hp)(Q:VK):Prop|mk a r c t us(_:vs=[98,.ref r])(_:cO (λ_=>none) H a c)(_:H r=some (.tup<|bO t))(_:m7 us t)(_:c.2.2.length<=900)(_:∀q H',aj H H'->H q=none->cO H H' q (c.1-dH t,c.2.1,(t,r)::c.2.2)->Q (.ref q) H')
def zs4:Sp:=λj H Q _=>qR j H Q
theorem zs5(T:20):fB P w K mg base "led_down" ["chain","tie"] 2 zs4:=by refine T.ztf.has zph (λvs H Q E h=>?_) λf Y A O s H vs Q E hr h=>?_;{obtain⟨a,r,c,t,us,rfl,_⟩:=h;rfl};{obtain⟨a,r,c,t,us,rfl,⟨l,B,hl,_⟩,L,S,lc,k⟩:=h;exists _,(zf<|cH<|jI<|za (fm BV (aK 86 (pv 0) ze)<|bS (RV T)<|za (pv 1) zd)<|za (aK 86 (pv 0) ze)<|za (fm xm (gG<|za (pv 1) zd)<|aK 86 (pv 0) ze) zd);refine⟨_,Z,a,_,_,_,Z,Z,aI.of B,Z,_,Z,r,t,us,Z,L,S,λH1 j=>?_⟩;refine⟨_,_,Z,Z,_,Z,a,_,_,_,Z,Z,aI.of<|j _ _ B,Z,_,Z,by show 1<=89;walk,λl1 J=>?_⟩;have t1:=aj.new (o:=.lst [.ref r]) J;exists _,Z,a,_,_,_,Z,Z,aI.of<|t1 _ _<|j _ _ B,Z;refine⟨l1,l,_,_,Z,Z,zb,t1 _ _<|j _ _ hl,by rw[ay];exact i8 (show 1+_<=1000 by lia),λl2 q=>?_⟩;have t2:=aj.new (o:=.lst ([V.ref r]++c.2.2.map (λp=>V.ref p.2))) q;refine⟨by show 3<=89;walk,λb U=>?_⟩;have W:=aj.new (o:=.tup [.int (c.1-dH t),.str c.2.1,.ref l2]) U;refine k b _ (j.trans<|t1.trans<|t2.trans W) ((j.trans<|t1.trans t2).free U) ⟨l2,zb,?_,(j.trans t1).free q⟩;rw[W _ _ zb];rfl}
inductive sJ(vs:99)(H:Hp)(Q:VK):Prop|mk pb pc ob oc keys R xC bs M v(adc:Str->ai)(_:vs=[.ref pb,.ref pc])(_:Bn H pb ob keys (uz R) xC bs)(_:H pc=some (.fL oc<|.dK<|dV M λk=>.ref (adc k)))(_:(∀k∈M,cO (λ_=>none) H (adc k) (v k)))(_:(∀k l b,(l,b)∈R k->H b.2=some (.tup<|bO b.1)/\∃us,m7 us b.1))(_:keys.Nodup)(_:132<=63)(_:(∀k,(R k).length<=900))(_:(∀k∈M,(v k).2.2.length<=900))(_:∀pd o M'(v':Str->jM)(ad:Str->ai)H',aj H H'->H pd=none->H' pd=some (.fL o<|.dK<|dV M' λk=>.ref (ad k))->(∀k∈M',cO H H' (ad k) (v' k))->M'.Nodup->(∀k∈M',k∈keys)->(∀k∈keys,n8 R M v k (R k) (k∈M') (v' k))->Q (.ref pd) H')
def zw3:Sp:=λj H Q _=>sJ j H Q
inductive IvM(H:Hp)(pb pc pd:ai)(R:Rw)(keys M:88)(v:Str->jM)(i:Nat)(σ:St)(H':Hp):Prop|mk v3 v4 v5 v6 M'(v':Str->jM)(ad:Str->ai)(_:σ=[some (.ref pb),some (.ref pc),some (.ref pd),v3,v4,v5,v6])(_:aj H H')(_:H' pd=some (.dK<|dV M' λk=>.ref (ad k)))(_:(∀k∈M',cO H H' (ad k) (v' k)))(_:M'.Nodup)(_:(∀k∈M',k∈keys.take i))(_:∀k∈keys.take i,n8 R M v k (R k) (k∈M') (v' k))
inductive IvN(H:Hp)(pb pc pd:ai)(u:Str)(i:Nat)(R:Rw)(keys M:88)(v:Str->jM)(j:Nat)(σ:St)(H':Hp):Prop|mk v4 v5 v6 M'(v':Str->jM)(ad:Str->ai)(_:σ=[some (.ref pb),some (.ref pc),some (.ref pd),some (.str u),v4,v5,v6])(_:aj H H')(_:H' pd=some (.dK<|dV M' λk=>.ref (ad k)))(_:(∀k∈M',cO H H' (ad k) (v' k)))(_:M'.Nodup)(_:(∀k∈M',k∈keys.take i++[u]))(_:(∀k∈keys.take i,n8 R M v k (R k) (k∈M') (v' k)))(_:n8 R M v u ((R u).take j) (u∈M') (v' u))
theorem zh1(T:20):fB P w K mg base "one_tie_longer" ["beneath","chains"] 3 zw3:=by refine T.zh8.has bX (λvs H Q E h=>?_) λf fU A outer s H vs Q E hr h=>?_;{obtain⟨pb,pc,ob,oc,keys,R,xC,bs,M,v,adc,rfl,_⟩:=h;rfl};{obtain⟨pb,pc,ob,oc,keys,R,xC,bs,M,v,adc,rfl,hB,hC,hM,hR,knd,lk,lR,lM,k⟩:=h;have hu:=j5 hr;exists _,(zc (sset (i:=2) bX.nd oR)<|zc (iA bB Z (xx<|pv 0) (eS (i:=3) bX.nd)<|zf<|iA bB Z (jd K Z<|eZ hu (pv 0) (pv 3) λ_ _=>Z) (qZ K Z Z<|jB (eS (i:=4) bX.nd)<|jB (eS (i:=5) bX.nd) qX)<|zf<|dj (qF<|BZ hu (pv 4)<|pv 1) (zc (sset (i:=6) bX.nd<|bS (R1 T)<|za (eZ hu (pv 1) (pv 4) λ_ _=>Z)<|za (pv 5) zd)<|zf<|dj (PW.pt<|p5 (qF<|Gm hu (pv 3)<|pv 2)<|uc<|zy xO (aK 86 (pv 6) ze) (aK 86 (eZ hu (pv 2) (pv 3) λ_ _=>Z) ze)<|c6 _) (zf<|mQ hu (pv 2) (pv 3) (pv 6) Z) d8) d8)<|zf<|zP<|cH<|pv 2);kd_p;refineλpd mU=>?_;have s1:=aj.new (o:=.dK []) mU;refine⟨_,Z,pb,ob,_,Z,s1 _ _ hB.d,A6 (λi σ H'=>IvM H pb pc pd R keys M v i σ H') ⟨none,none,none,none,[],λ_=>(0,"",[]),λ_=>0,Z,s1,zb,λk B=>by simp at B,iK,λk B=>by simp at B,λk B=>by simp at B⟩ (λi σ H' _ h=>by obtain⟨_,_,_,_,_,_,_,_,q,_⟩:=h;exact q _ _ hB.d) ?_ ?_⟩;{rintro i kk vv σ H3 hx⟨v3,v4,v5,v6,J,O,S,rfl,q3,qA,HC,HD,Cy,E5⟩;obtain⟨u,oG,rfl,_⟩:=A1 hx;have kI:u∈keys:=bM oG;have B3:=hB.same q3;have E6:(bs u).length=(R u).length:=(Paired.length<|hB.e u kI).trans K9;(have iO:u∉keys.take i:=by have hi:=jE oG;have:=tM knd i hi;rw[show keys[i]=u from(cE.mp oG).2]at this;z_go);(have tk:keys.take (i+1)=keys.take i++[u]:=by rw[aR,oG];rfl);kd_p;refine⟨_,Z,_,Z,pb,_,Z,B3.get kI,xC u,Z,⟨_,aH.of<|B3.l u kI⟩,mG (xs:=(bs u).map 122) (λj σ H'=>IvN H pb pc pd u i R keys M v j σ H') ⟨v4,v5,v6,J,O,S,Z,q3,qA,HC,HD,λk B=>ir _<|Cy k B,E5,n8.nil λz=>iO (Cy u z)⟩ (λj σ H' _ h=>by obtain⟨_,_,_,_,_,_,_,q,_⟩:=h;exact aH.of<|(hB.same q).l u kI) ?_ ?_⟩;{clear HC HD Cy E5 qA q3 B3;rintro j x σ H4 hx⟨v4,v5,v6,J,O,S,rfl,q4,Bm,wN,U,W,Cz,CA⟩;have B4:=hB.same q4;obtain⟨b,⟨l,r⟩,rfl,rA,_,hb⟩:=vX (B4.e u kI) hx;obtain⟨t,ht⟩:=K8 rA;have wO:(l,(t,r))∈R u:=bM ht;obtain⟨E8,us,tok⟩:=hR u l (t,r) wO;(have rt:(R u).take (j+1)=(R u).take j++[(l,(t,r))]:=by rw[aR,ht];rfl);have uT:=q4 _ _ hC;exists b,_,Z,aI.of hb,Z,_,_,Z,_,_,Z,Z;kd_p;refine yb (decide<|l∈M) (λQ' hQ=>?_) ?_;{by_cases c:l∈M;{exists _,Z,_,Z,pc,_,Z,m8 uT c;rw[aO c]at hQ;exact⟨_,Z,hQ⟩};{exists _,Z,_,Z,pc,none,Z,Qw uT c;rw[aN c]at hQ;exact⟨_,Z,hQ⟩}};refine bH (λc=>?_) λc=>?_;{have c:=aW c;refine⟨_,Z,_,Z,pc,_,Z,m8 uT c,_,Z,adc l,r,v l,t,us,Z,(hM l c).same q4,q4 _ _ E8,tok,lM l c,λq H5 s5 fq hq=>?_⟩;have q5:=q4.trans s5;have yF:=s5 _ _ Bm;have R3:cO H H5 q ((v l).1+dH t,(v l).2.1,(v l).2.2++[(t,r)]):=hq.old q4;have qB:∀k∈J,cO H H5 (S k) (O k):=λk B=>(wN k B).same s5;kd_p;refine yb (decide<|u∉J\/(O u).1<(v l).1+dH t) (λQ' hQ=>?_) ?_;{by_cases Y:u∈J;{have g:=bL.k (k:=Sum.inr u) yF;rw[qw Y]at g;obtain⟨lq,h1,_⟩:=R3;obtain⟨lu,h2,_⟩:=qB u Y;refine⟨_,Z,_,Z,pd,_,Z,g,_,Z,bh ⟨_,Z,q,_,_,_,Z,Z,aI.of h1,Z,_,Z,_,Z,pd,_,Z,g,S u,_,_,_,Z,Z,aI.of h2,Z,_,_,Z,Z,_,Z,?_⟩⟩;rw[show decide (u∉J\/(O u).1<(v l).1+dH t)=decide ((v l).1+dH t>(O u).1)from iX.mpr ⟨λz=>z.elim (λz=>absurd Y z) id,λz=>.inr z⟩]at hQ;exact hQ};{have g:=bL.k (k:=Sum.inr u) yF;rw[AZ Y]at g;refine⟨_,Z,_,Z,pd,_,Z,g,_,Z,gi ?_⟩;rw[aO (Or.inl Y)]at hQ;exact hQ}};refine bH (λY=>?_) λY=>?_;{have Y:=aW Y;(have lM':J.length<=63:=by(have:=vq (us:=keys) U λk B=>by rcases bJ.mp (W k B)with z|z;{exact List.mem_of_mem_take z};{rw[show k=u by simpa using z];exact kI});lia);exists _,Z,_,Z,_,Z,pd,_,Z,eE.k (k:=Sum.inr u) yF (by rw[iH];exact jC 80);have adq:∀k,k≠u->(if k=u then q else S k)=S k:=λk n=>ao n;(have ek:∀(L:88),(dV L λz=>if z=u then V.ref q else V.ref (S z))=dV L λk=>V.ref (if k=u then q else S k):=λL=>tN λz _=>by split<;>rfl);(have rB:∀(kv:List (Key×V)),∀k,(k=u\/k∈J)->cO H (upd H5 pd<|.dK kv) (if k=u then q else S k) (if k=u then((v l).1+dH t,(v l).2.1,(v l).2.2++[(t,r)])else O k):=λkv k B=>by by_cases e:k=u;{rw[ak e,ak e];exact R3.put yF};{rw[ao e,ao e];exact(qB k<|B.resolve_left e).put yF});(have R5:∀(hs:Prop),hs->n8 R M v u ((R u).take<|j+1) hs (if u=u then((v l).1+dH t,(v l).2.1,(v l).2.2++[(t,r)])else O u):=λhs hh=>by rw[ak Z,rt];exact CA.take c hh (λz=>Y.elim (λy=>absurd z y) id) Z);by_cases c3:u∈J;{rw[DU c3,ek];refine⟨_,_,_,J,λk=>if k=u then((v l).1+dH t,(v l).2.1,(v l).2.2++[(t,r)])else O k,λk=>if k=u then q else S k,Z,q5.upd mU,zb,λk B=>rB _ k<|.inr B,U,W,λk B=>?_,R5 _ c3⟩;exact(Cz k B).congr Iff.rfl (by x_go;rw[ao (λz=>iO (z▸B):¬k=u)])};{rw[ur c3,ek];refine⟨_,_,_,J++[u],λk=>if k=u then((v l).1+dH t,(v l).2.1,(v l).2.2++[(t,r)])else O k,λk=>if k=u then q else S k,Z,q5.upd mU,zb,λk B=>rB _ k ?_,?_,λk B=>?_,λk B=>?_,R5 _ 81⟩;{rcases oz B with z|z;{exact .inr z};{exact .inl z}};{rw[jq];refine⟨U,81,λa ha b hb e=>?_⟩;(have hb:b=u:=by simpa using hb);exact c3<|hb▸e▸ha};{rcases oz B with z|z;{exact W k z};{rw[z];simp}};{have ne:k≠u:=λz=>iO (z▸B);refine(Cz k B).congr ⟨λz=>ir _ z,λz=>?_⟩ (by x_go;rw[ao ne]);rcases oz z with z|z;{exact z};{exact absurd z ne}}}};{have Y:¬(u∉J\/(O u).1<(v l).1+dH t):=λz=>Y (aO z);have c3:u∈J:=gv λz=>Y (.inl z);exists _,_,_,J,O,S,Z,q5,yF,qB,U,W,Cz;rw[rt];exact CA.fC c3 (by have:¬((O u).1<(v l).1+dH t):=λz=>Y (.inr z);show(v l).1+dH t<=_;lia)}};{have c:l∉M:=λz=>c (aO z);exists _,_,_,J,O,S,Z,q4,Bm,wN,U,W,Cz;rw[rt];exact CA.skip c}};{rintro σ H4⟨v4,v5,v6,J,O,S,rfl,q4,Bm,wN,U,W,Cz,CA⟩;rw[ay,E6,bu]at CA;refine⟨_,_,_,_,J,O,S,Z,q4,Bm,wN,U,by rw[tk];exact W,λk B=>?_⟩;rw[tk]at B;rcases oz B with z|z;{exact Cz k z};{rw[z];exact CA}}};{rintro σ H3⟨v3,v4,v5,v6,J,O,S,rfl,q3,qA,HC,HD,Cy,E5⟩;rw[iH,bu]at Cy E5;exact .inr ⟨pd,_,qA,λBu=>⟨_,Z,k pd Bu J O S _ (q3.upd mU) mU zb (λk B=>(HC k B).put qA) HD Cy E5⟩⟩}}
inductive sL(vs:99)(H:Hp)(Q:VK):Prop|mk p pm pu pt pf lo hi us az ts af fs(_:vs=[101])(_:gp K H p pm pu pt pf lo hi us az ts af fs)(_:mj (fE ts 87) 79)(_:(∀H',aj H H'->dZ lo hi us az ts af fs->Q .cz H'))(_:∀q c w H',aj H H'->Co H' q c w->A9 lo hi us az ts af fs c w->Q (.ref q) H')
def zw4:Sp:=λj H Q _=>sL (K:=K) j H Q
theorem zh2(T:20):fB P w K mg base "impossible_row" [110] 6 (zw4 (K:=K)):=by refine T.zh9.has bY (λvs H Q E h=>?_) λf fU A outer s H vs Q E hr h=>?_;{obtain⟨p,pm,pu,pt,pf,lo,hi,us,az,ts,af,fs,rfl,_⟩:=h;rfl};{obtain⟨p,pm,pu,pt,pf,lo,hi,us,az,ts,af,fs,rfl,hF,nr,kN,kR⟩:=h;have hu:=j5 hr;exists _,(zc (sset (i:=1) bY.nd<|bS (EN T)<|za (pv 0) zd)<|zc (sset (i:=2) bY.nd<|bS (RZ T)<|za (pv 0) zd)<|zc (sset (i:=3) bY.nd<|bS (LR T)<|za (bS (RY T)<|za (pv 0) zd) zd)<|zc (II bB (zy (z3p<|kF hr) (pv 3) oR<|c6 _)<|zc (iA bB Z (xx<|pv 3) (eS (i:=4) bY.nd)<|zf<|dj (zy xO (aK 86 (eZ hu (pv 3) (pv 4) λ_ _=>Z) ze) (aK 86 (eZ hu (pv 2) (pv 4) λ_ _=>Z) ze)<|c6 _) (zf<|cH<|jI<|za (aK 86 (eZ hu (pv 3) (pv 4) λ_ _=>Z) ze)<|za (aK 86 (eZ hu (pv 3) (pv 4) λ_ _=>Z) ze)<|za (aK 86 (eZ hu (pv 2) (pv 4) λ_ _=>Z) ze) zd) d8)<|zf<|sset (i:=3) bY.nd<|bS (zh1 T)<|za (pv 1)<|za (pv 3) zd)<|zf<|cH Am);have knd:=vz (ts:=ts) hF.cB.nd;have lk:=hF.cB.k6;have lf:=hF.mT;have cl:=yw (az:=az) hF.cB.ends;(have lR:∀k,(bz ts 87 k).length<=900:=λk=>by have h1:=Zv (ts:=ts) (z:=87) (k:=k);have h2:=hF.cB.tl;rw[iY]at h1;lia);have hR:∀k l b,(l,b)∈bz ts 87 k->H b.2=some (.tup<|bO b.1)/\m7 us b.1:=λk l b h=>K7 hF.cB h;(have uF:∀k m Y,i6 ts lo 92 k m->i6 ts lo 92 k Y->m.1=Y.1:=λk m Y h h'=>by rw[h.low lf,h'.low lf]);(have uG:∀k m Y,i7 ts hi 92 k m->i7 ts hi 92 k Y->m.1=Y.1:=λk m Y h h'=>by rw[h.high lf,h'.high lf]);rw[vC]at nr;refine⟨_,Z,p,pu,pt,_,_,us,az,ts,Z,hF.cB,λpb ob xC bs H1 s1 yP hB=>?_⟩;rw[vC]at hB;kd_p;refine⟨_,Z,p,pm,pu,pt,pf,lo,hi,us,az,ts,af,fs,Z,hF.same s1,λpe oe ve ae H2 s2 fpe hE HE=>?_⟩;kd_p;refine⟨_,Z,p,pm,pu,pt,pf,lo,hi,us,az,ts,af,fs,Z,hF.same<|s1.trans s2,λpl ol vl al H3 s3 Ag hL uU=>?_⟩;refine⟨pl,ol,_,vl,al,true,Z,hL,knd,lk,λS oc B H4 s4 HF hC Bv=>?_⟩;have hC:H4 S=some (.fL oc<|.dK<|dV 79 λk=>.ref (B k)):=hC;have s24:=s3.trans s4;have R6:=s2.trans s24;have Bw:=s1.trans R6;have HE:∀k∈keysOf ts (aJ us),i7 ts hi 92 k (ve k):=HE;have uU:∀k∈keysOf ts (aJ us),i6 ts lo 92 k (vl k):=uU;unfold dZ at kN;unfold A9 at kR;generalize keysOf ts (aJ us)=keys at*;generalize bz ts 87=R at*;generalize i6 ts lo 92=F at*;generalize i7 ts hi 92=G at*;have R0:mq R F keys 0 keys (λk=>((vl k).1,(vl k).2,[])):=mq.zero knd (λk j=>⟨Z,uU k j⟩) uF;kd_p;existsλm σ H'=>∃(n:Nat)(S:ai)(oc:Obj)(M:List Str)(v:Str->jM)(B:Str->ai)(v4:Option V),σ=[some 101,some (.ref pb),some (.ref pe),some (.ref S),v4]/\aj H4 H'/\H' S=some (.fL oc<|.dK<|dV M λk=>.ref (B k))/\(∀k∈M,cO (λ_=>none) H' (B k) (v k))/\mq R F keys n M v/\(∀k∈keys,∀c m,Up R F k c->G k m->c.2.2.length<n->c.1<=m.1)/\m=132-n,⟨_,0,S,oc,keys,_,B,none,Z,aj.refl _,hC,λk j=>(Bv k j).any,R0,λk j c m _ _ z=>absurd z<|Nat.not_lt_zero _,Z⟩;rintro m σ H5⟨n,S,oc,M,v,B,v4,rfl,q5,R7,R8,U,sm,rfl⟩;refine⟨_,Z,λe he=>?_⟩;have t6:=aj.new (o:=.dK []) he;have q6:=q5.trans t6;have L:=t6 _ _ R7;exists S,e,_,Z,Z,.inr ⟨oc,L⟩,zb,_,Z;have LS:∀k∈M,cO (λ_=>none) (upd H5 e<|.dK []) (B k) (v k):=λk j=>(R8 k j).same t6;clear R7 R8;generalize upd H5 e (.dK [])=H6 at q6 L LS t6;refine bH (λc=>?_) λc=>?_;{(have ne:M≠[]:=λz=>by rw[z]at c;simp[dV]at c);obtain⟨k0,Bx⟩:=List.exists_mem_of_ne_nil _ ne;(have hn:n<132:=by have:=(U.is k0 Bx).1.short cl nr (U.sub k0 Bx);rw[(U.is k0 Bx).2]at this;z_go);existsλrq H'=>∃Y,Y<132-n/\_,λrq H' h=>h;refine⟨_,Z,S,oc,_,Z,L,A6 (λi σ H'=>∃(v4:Option V),σ=[some 101,some (.ref pb),some (.ref pe),some (.ref S),v4]/\aj H6 H'/\∀k∈M.take i,(v k).1<=(ve k).1) ⟨_,Z,aj.refl _,λk j=>by simp at j⟩ (λi σ H' _ h=>by obtain⟨_,_,q,_⟩:=h;exact q _ _ L) ?_ ?_⟩;{rintro i kk vv σ H7 hx⟨v4,rfl,q7,HG⟩;obtain⟨u,oG,rfl,_⟩:=A1 hx;have J:u∈M:=bM oG;have O:u∈keys:=U.sub u J;have E7:=hE.same (s3.trans<|s4.trans<|q6.trans q7);obtain⟨l,h1,h2,_⟩:=(LS u J).same q7;have W:=q7 _ _ L;kd_p;exists _,Z,_,Z,S,_,Z,m8 W J,B u,_,_,_,Z,Z,aI.of h1,Z,_,Z,_,Z,pe,_,Z,m8 E7.d O,ae u,_,_,_,Z,Z,aI.of<|E7.e u O,Z,_,_,Z,Z,_,Z;refine bH (λc2=>?_) λc2=>?_;{have c2:(ve u).1<(v u).1:=aW c2;refine⟨_,Z,_,Z,S,_,Z,m8 W J,B u,_,_,_,Z,Z,aI.of h1,Z,_,Z,_,Z,S,_,Z,m8 W J,B u,_,_,_,Z,Z,aI.of h1,Z,_,Z,_,Z,pe,_,Z,m8 E7.d O,ae u,_,_,_,Z,Z,aI.of<|E7.e u O,Z,by show 3<=89;walk,λq hq=>?_⟩;have t8:=aj.new (o:=.tup [.str (v u).2.1,.ref l,.str (ve u).2]) hq;refine kR q (v u) (ve u).2 _ (Bw.trans<|q6.trans<|q7.trans t8) ⟨l,zb,t8 _ _ h2⟩ ⟨u,ve u,O,(U.is u J).1,HE u O,Z,c2,λk' ym c' Y u' g' lt=>sm k' ym c' Y u' g' ?_⟩;rw[(U.is u J).2]at lt;exact lt};{have c2:¬((v u).1>(ve u).1):=λz=>c2 (aO z);refine⟨_,Z,q7,λk j=>?_⟩;rw[aR,oG]at j;rcases oz j with z|z;{exact HG k z};{rw[z];lia}}};{rintro σ H7⟨v4,rfl,q7,HG⟩;rw[iH,bu]at HG;have LU:=q6.trans q7;have B7:=hB.same (R6.trans LU);have W:=q7 _ _ L;refine⟨_,Z,_,Z,pb,S,ob,oc,keys,R,xC,bs,M,v,B,Z,B7,W,λk j=>(LS k j).same q7,λk l b h=>⟨LU _ _<|Bw _ _ (hR k l b h).1,us,(hR k l b h).2⟩,knd,lk,lR,λk j=>by have:=(U.is k j).1.short cl nr (U.sub k j);lia,λpd o M' v' ad H8 s8 tV CB hk8 nd8 sb8 gr8=>?_⟩;refine⟨132-(n+1),80,n+1,pd,o,M',v',ad,_,Z,LU.trans s8,CB,λk j=>(hk8 k j).any,U.next cl nd8 sb8 gr8,λk j c m u g lt=>?_,Z⟩;by_cases e:c.2.2.length=n;{obtain⟨h1,h2⟩:=U.all k j c u e;have h3:=HG k h1;rw[uG k m (ve k) g (HE k j)];lia};{exact sm k j c m u g 80}}};{(have e:M=[]:=by cases M with|nil=>rfl|cons a b=>simp[dV]at c);k_go;have st:=U.stop cl;exact kN _ (Bw.trans q6) λk j c m u g=>sm k j c m u g (st k j c u)}}
inductive yQ(vs:99)(H:Hp)(Q:VK):Prop|mk p pm pu pt pf lo hi us az ts af fs(_:vs=[101])(_:gp K H p pm pu pt pf lo hi us az ts af fs)(_:mj (fE ts 87) 79)(_:∀pd o(v:Str->jM)(ad:Str->ai)H',aj H H'->H pd=none->H' pd=some (.fL o<|.dK<|dV 79 λk=>.ref (ad k))->(∀k∈keysOf ts (aJ us),cO H H' (ad k) (v k))->(∀k∈keysOf ts (aJ us),Up (bz ts 87) (i6 ts lo 92) k (v k)/\jT (bz ts 87) (i6 ts lo 92) k (v k).1)->Q (.ref pd) H')
def z7k:Sp:=λj H Q _=>yQ (K:=K) j H Q
inductive LV(H H4:Hp)(p pb pc:ai)(u:Str)(i:Nat)(R:Rw)(F:Str->IS->Prop)(keys os:88)(j:Nat)(σ:St)(H':Hp):Prop|mk v4 v5 v6 v(ad:Str->ai)(_:σ=[some 101,some (.ref pb),some (.ref pc),some (.str u),v4,v5,v6])(_:(∀b o,b≠pc->H4 b=85->H' b=85))(_:H' pc=some (.dK<|dV keys λk=>.ref (ad k)))(_:(∀k∈keys,cO H H' (ad k) (v k)))(_:n9 R F keys (os.take i) v)(_:∀l b,(l,b)∈(R u).take j->(v l).1+dH b.1<=(v u).1)
inductive IvK(H H4:Hp)(p pb pc:ai)(R:Rw)(F:Str->IS->Prop)(keys os:88)(i:Nat)(σ:St)(H':Hp):Prop|mk v3 v4 v5 v6 v(ad:Str->ai)(_:σ=[some 101,some (.ref pb),some (.ref pc),v3,v4,v5,v6])(_:(∀b o,b≠pc->H4 b=85->H' b=85))(_:H' pc=some (.dK<|dV keys λk=>.ref (ad k)))(_:(∀k∈keys,cO H H' (ad k) (v k)))(_:n9 R F keys (os.take i) v)
theorem R9(T:20):fB P w K mg base "chains_up" [110] 8 (z7k (K:=K)):=by refine T.zpy.has cP (λvs H Q E h=>?_) λf fU A outer s H vs Q E hr h=>?_;{obtain⟨p,pm,pu,pt,pf,lo,hi,us,az,ts,af,fs,rfl,_⟩:=h;rfl};{obtain⟨p,pm,pu,pt,pf,lo,hi,us,az,ts,af,fs,rfl,hF,By,k⟩:=h;have hu:=j5 hr;exists _,(zc (sset (i:=1) cP.nd<|bS (EN T)<|za (pv 0) zd)<|zc (sset (i:=2) cP.nd<|bS (LR T)<|za (bS (RY T)<|za (pv 0) zd) zd)<|zc (iA bB Z (jd K Z<|bS (RU T)<|za (pv 0) zd) (eS (i:=3) cP.nd)<|zf<|iA bB Z (jd K Z<|eZ hu (pv 1) (pv 3) λ_ _=>Z) (qZ K Z Z<|jB (eS (i:=4) cP.nd)<|jB (eS (i:=5) cP.nd) qX)<|zc (sset (i:=6) cP.nd<|bS (R1 T)<|za (eZ hu (pv 2) (pv 4) λ_ _=>Z)<|za (pv 5) zd)<|zf<|dj (zy xO (aK 86 (pv 6) ze) (aK 86 (eZ hu (pv 2) (pv 3) λ_ _=>Z) ze)<|c6 _) (zf<|mQ hu (pv 2) (pv 3) (pv 6) Z) d8)<|zf<|zP<|cH<|pv 2);have knd:=vz (ts:=ts) hF.cB.nd;have lk:=hF.cB.k6;have lf:=hF.mT;have cl:=yw (az:=az) hF.cB.ends;have hR:∀k l b,(l,b)∈bz ts 87 k->H b.2=some (.tup<|bO b.1)/\m7 us b.1:=λk l b h=>K7 hF.cB h;(have uF:∀k m m',i6 ts lo 92 k m->i6 ts lo 92 k m'->m.1=m'.1:=λk m m' h h'=>by rw[h.low lf,h'.low lf]);have nr:=By;rw[vC]at nr;refine⟨_,Z,p,pu,pt,_,_,us,az,ts,Z,hF.cB,λpb ob xC bs H1 s1 yP hB=>?_⟩;rw[vC]at hB;kd_p;refine⟨_,Z,p,pm,pu,pt,pf,lo,hi,us,az,ts,af,fs,Z,hF.same s1,λpl ol vl al H2 s2 Ag hL uU=>?_⟩;refine⟨pl,ol,_,vl,al,94,Z,hL,knd,lk,λS oc adc H3 s3 HF hC Bv=>?_⟩;have hC:H3 S=some (.dK<|dV 79 λk=>.ref (adc k)):=hC;have E9:=s2.trans s3;have Fb:=s1.trans E9;kd_p;refine⟨_,Z,p,pu,pt,_,_,us,az,ts,Z,(hF.same Fb).cB,By,λpo os H4 s4 Bo uK O LW=>?_⟩;have yR:=hB.same (E9.trans s4);have uT:=s4 _ _ hC;have Bw:=Fb.trans s4;have U:H S=none:=(s1.trans s2).free HF;(have EO:po≠S:=λz=>by rw[z,hC]at Bo;cases Bo);have BA:∀k∈keysOf ts (aJ us),cO H H4 (adc k) ((vl k).1,(vl k).2,[]):=λk B=>((Bv k B).same s4).old (s1.trans s2);have uU:∀k∈keysOf ts (aJ us),i6 ts lo 92 k (vl k):=uU;rw[vC]at O;clear By hB hC Bv;generalize keysOf ts (aJ us)=keys at*;generalize bz ts 87=R at*;generalize i6 ts lo 92=F at*;have U0:n9 R F keys [] (λk=>((vl k).1,(vl k).2,[])):=⟨λk B=>Up.bare<|uU k B,λk B m hm=>Int.le_of_eq<|uF k m (vl k) hm<|uU k B,λk B=>by simp at B⟩;have hh:∀{H':Hp},(∀b o,b≠S->H4 b=85->H' b=85)->aj H H':=λkp b o e=>kp b o (zj e U) (Bw _ _ e);refine⟨po,Z,⟨_,aH.of uK⟩,mG (xs:=os.map 114) (λi σ H'=>IvK H H4 p pb S R F keys os i σ H') ⟨none,none,none,none,_,adc,Z,λb o _ e=>e,uT,BA,by simpa using U0⟩ (λi σ H' _ h=>by obtain⟨_,_,_,_,_,_,_,q,_⟩:=h;exact aH.of<|q _ _ EO uK) ?_ ?_⟩;{rintro i x σ H5 hx⟨v3,v4,v5,v6,v,L,rfl,rC,W,qB,U5⟩;rw[aT]at hx;cases eu:os[i]? with|none=>rw[eu]at hx;cases hx|some u=>rw[eu]at hx;cases hx;have J:u∈keys:=O.sub u (bM eu);obtain⟨fr,Hu,low⟩:=Qy O eu;have B5:=yR.keep uT rC;have E6:(bs u).length=(R u).length:=(Paired.length<|yR.e u J).trans K9;(have tk:os.take (i+1)=os.take i++[u]:=by rw[aR,eu];rfl);kd_p;refine⟨_,Z,_,Z,pb,_,Z,B5.get J,xC u,Z,⟨_,aH.of<|B5.l u J⟩,mG (xs:=(bs u).map 122) (λj σ H'=>LV H H4 p pb S u i R F keys os j σ H') ⟨v4,v5,v6,v,L,Z,rC,W,qB,U5,λl b h=>by simp at h⟩ (λj σ H' _ h=>by obtain⟨_,_,_,_,_,_,q,_⟩:=h;exact aH.of<|(yR.keep uT q).l u J) ?_ ?_⟩;{clear qB W U5 B5 rC;rintro j x σ H6 hx⟨v4,v5,v6,v,L,rfl,oM,uP,rB,U6,wQ⟩;have B6:=yR.keep uT oM;have q6:aj H H6:=hh oM;obtain⟨b,⟨l,r⟩,rfl,rA,_,hb⟩:=vX (B6.e u J) hx;obtain⟨t,ht⟩:=K8 rA;have wO:(l,(t,r))∈R u:=bM ht;obtain⟨E8,tok⟩:=hR u l (t,r) wO;have sD:l∈keys:=(cl _ _ _ wO).2;have nl:l≠u:=Hu l r (Cm wO);(have rt:(R u).take (j+1)=(R u).take j++[(l,(t,r))]:=by rw[aR,ht];rfl);exists b,_,Z,aI.of hb,Z,_,_,Z,_,_,Z,Z;kd_p;have gl:=bL.k (k:=Sum.inr l) uP;rw[qw sD]at gl;(have lv:(v l).2.2.length<=900:=by have:=(U6.is l sD).short cl nr sD;lia);refine⟨_,Z,_,Z,S,_,Z,gl,_,Z,L l,r,v l,t,us,Z,(rB l sD).any,q6 _ _ E8,tok,lv,λq H7 s7 fq hq=>?_⟩;have Y:=s7 _ _ uP;have wR:∀b o,b≠S->H4 b=85->H7 b=85:=λb o n e=>s7 _ _ (oM b o n e);have tW:∀k∈keys,cO H H7 (L k) (v k):=λk B=>(rB k B).same s7;have Ae:=hq.old q6;have gu:=bL.k (k:=Sum.inr u) Y;rw[qw J]at gu;obtain⟨lq,h1,_⟩:=id Ae;obtain⟨lu,h2,_⟩:=tW u J;kd_p;exists _,Z,q,_,_,_,Z,Z,aI.of h1,Z,_,Z,_,Z,S,_,Z,gu,L u,_,_,_,Z,Z,aI.of h2,Z,_,_,Z,Z,_,Z;refine bH (λc=>?_) λc=>?_;{have c:(v u).1<(v l).1+dH t:=aW c;exists _,Z,_,Z,_,Z,S,_,Z,eE.k (k:=Sum.inr u) Y (by rw[iH];exact jC 80);rw[DU J,show(dV keys λz=>if z=u then V.ref q else V.ref (L z))=dV keys λk=>V.ref (if k=u then q else L k)from tN λz _=>by split<;>rfl];refine⟨_,_,_,λk=>if k=u then((v l).1+dH t,(v l).2.1,(v l).2.2++[(t,r)])else v k,λk=>if k=u then q else L k,Z,λb o n e=>by rw[zi n];exact wR b o n e,zb,λk B=>?_,U6.set fr (λk B l b hb=>low k B l b.2<|Cm hb) ((U6.is l sD).up wO)<|Int.le_of_lt c,λl' b' h'=>?_⟩;{x_go;by_cases e:k=u;{rw[ak e,ak e];exact Ae.put Y};{rw[ao e,ao e];exact(tW k B).put Y}};{x_go;rw[ak Z];show _<=(v l).1+dH t;rw[rt]at h';rcases oz h' with z|z;{rw[ao (Hu l' b'.2<|Cm<|List.mem_of_mem_take z)];have:=wQ l' b' z;lia};{cases z;rw[ao nl];exact fJ _}}};{have c:¬((v l).1+dH t>(v u).1):=λz=>c (aO z);refine⟨_,_,_,v,L,Z,wR,Y,tW,U6,λl' b' h'=>?_⟩;rw[rt]at h';rcases oz h' with z|z;{exact wQ l' b' z};{cases z;show(v l).1+dH t<=_;lia}}};{rintro σ H6⟨v4,v5,v6,v,L,rfl,oM,uP,rB,U6,wQ⟩;rw[ay,E6,bu]at wQ;exact⟨_,_,_,_,v,L,Z,oM,uP,rB,by rw[tk];exact U6.snoc wQ⟩}};{rintro σ H5⟨v3,v4,v5,v6,v,L,rfl,rC,W,qB,U5⟩;rw[ay,bu]at U5;have all:∀k∈keys,k∈os:=λk B=>LW.mem_iff.mpr B;exact .inr ⟨S,_,W,λBu=>⟨_,Z,k S Bu v L _ ((hh rC).upd U) U zb (λk B=>(qB k B).put W) λk B=>⟨U5.is k B,U5.lo cl all B⟩⟩⟩}}
inductive yS(vs:99)(H:Hp)(Q:VK):Prop|mk p pm pu pt pf lo hi us az ts af fs(_:vs=[101])(_:gp K H p pm pu pt pf lo hi us az ts af fs)(_:mj (fE ts 87) 79)(_:∀pd o(v:Str->jM)(ad:Str->ai)H',aj H H'->H pd=none->H' pd=some (.fL o<|.dK<|dV 79 λk=>.ref (ad k))->(∀k∈keysOf ts (aJ us),cO H H' (ad k) (v k))->(∀k∈keysOf ts (aJ us),Dn (bz ts 87) (i7 ts hi 92) k (v k)/\jU (bz ts 87) (i7 ts hi 92) k (v k).1)->Q (.ref pd) H')
def z7l:Sp:=λj H Q _=>yS (K:=K) j H Q
inductive IvJ(H H4:Hp)(p pb pc:ai)(u:Str)(i:Nat)(R:Rw)(F:Str->IS->Prop)(keys os:88)(j:Nat)(σ:St)(H':Hp):Prop|mk v4 v5 v6 v(ad:Str->ai)(_:σ=[some 101,some (.ref pb),some (.ref pc),some (.str u),v4,v5,v6])(_:(∀b o,b≠pc->H4 b=85->H' b=85))(_:H' pc=some (.dK<|dV keys λk=>.ref (ad k)))(_:(∀k∈keys,cO H H' (ad k) (v k)))(_:oh R F keys (os.reverse.take i) v)(_:∀l b,(l,b)∈(R u).take j->(v l).1<=(v u).1-dH b.1)
inductive IvI(H H4:Hp)(p pb pc:ai)(R:Rw)(F:Str->IS->Prop)(keys os:88)(i:Nat)(σ:St)(H':Hp):Prop|mk v3 v4 v5 v6 v(ad:Str->ai)(_:σ=[some 101,some (.ref pb),some (.ref pc),v3,v4,v5,v6])(_:(∀b o,b≠pc->H4 b=85->H' b=85))(_:H' pc=some (.dK<|dV keys λk=>.ref (ad k)))(_:(∀k∈keys,cO H H' (ad k) (v k)))(_:oh R F keys (os.reverse.take i) v)
theorem Sa(T:20):fB P w K mg base "chains_down" [110] 8 (z7l (K:=K)):=by refine T.zl8.has ck (λvs H Q E h=>?_) λf fU A outer s H vs Q E hr h=>?_;{obtain⟨p,pm,pu,pt,pf,lo,hi,us,az,ts,af,fs,rfl,_⟩:=h;rfl};{obtain⟨p,pm,pu,pt,pf,lo,hi,us,az,ts,af,fs,rfl,hF,By,k⟩:=h;have hu:=j5 hr;exists _,(zc (sset (i:=1) ck.nd<|bS (EN T)<|za (pv 0) zd)<|zc (sset (i:=2) ck.nd<|bS (LR T)<|za (bS (RZ T)<|za (pv 0) zd) zd)<|zc (iA bB Z (z3n K Z 97 T.reversed<|bS (RU T)<|za (pv 0) zd) (eS (i:=3) ck.nd)<|zf<|iA bB Z (jd K Z<|eZ hu (pv 1) (pv 3) λ_ _=>Z) (qZ K Z Z<|jB (eS (i:=4) ck.nd)<|jB (eS (i:=5) ck.nd) qX)<|zc (sset (i:=6) ck.nd<|bS (zs5 T)<|za (eZ hu (pv 2) (pv 3) λ_ _=>Z)<|za (pv 5) zd)<|zf<|dj (zy w9 (aK 86 (pv 6) ze) (aK 86 (eZ hu (pv 2) (pv 4) λ_ _=>Z) ze)<|c6 _) (zf<|mQ hu (pv 2) (pv 4) (pv 6) Z) d8)<|zf<|zP<|cH<|pv 2);have knd:=vz (ts:=ts) hF.cB.nd;have lk:=hF.cB.k6;have lf:=hF.mT;have cl:=yw (az:=az) hF.cB.ends;have hR:∀k l b,(l,b)∈bz ts 87 k->H b.2=some (.tup<|bO b.1)/\m7 us b.1:=λk l b h=>K7 hF.cB h;(have uF:∀k m m',i7 ts hi 92 k m->i7 ts hi 92 k m'->m.1=m'.1:=λk m m' h h'=>by rw[h.high lf,h'.high lf]);have nr:=By;rw[vC]at nr;refine⟨_,Z,p,pu,pt,_,_,us,az,ts,Z,hF.cB,λpb ob xC bs H1 s1 yP hB=>?_⟩;rw[vC]at hB;kd_p;refine⟨_,Z,p,pm,pu,pt,pf,lo,hi,us,az,ts,af,fs,Z,hF.same s1,λpl ol vl al H2 s2 Ag hL uU=>?_⟩;refine⟨pl,ol,_,vl,al,94,Z,hL,knd,lk,λS oc adc H3 s3 HF hC Bv=>?_⟩;have hC:H3 S=some (.dK<|dV 79 λk=>.ref (adc k)):=hC;have E9:=s2.trans s3;have Fb:=s1.trans E9;kd_p;refine⟨_,Z,p,pu,pt,_,_,us,az,ts,Z,(hF.same Fb).cB,By,λpo os H4 s4 Bo uK O LW=>?_⟩;have yR:=hB.same (E9.trans s4);have uT:=s4 _ _ hC;have Bw:=Fb.trans s4;have U:H S=none:=(s1.trans s2).free HF;(have EO:po≠S:=λz=>by rw[z,hC]at Bo;cases Bo);have BA:∀k∈keysOf ts (aJ us),cO H H4 (adc k) ((vl k).1,(vl k).2,[]):=λk J=>((Bv k J).same s4).old (s1.trans s2);have uU:∀k∈keysOf ts (aJ us),i7 ts hi 92 k (vl k):=uU;rw[vC]at O;clear By hB hC Bv;generalize keysOf ts (aJ us)=keys at*;generalize bz ts 87=R at*;generalize i7 ts hi 92=F at*;have U0:oh R F keys [] (λk=>((vl k).1,(vl k).2,[])):=⟨λk J=>Dn.bare<|uU k J,λk J m hm=>Int.le_of_eq (uF k m (vl k) hm<|uU k J).symm,λk J=>by simp at J⟩;have hh:∀{H':Hp},(∀b o,b≠S->H4 b=85->H' b=85)->aj H H':=λkp b o e=>kp b o (zj e U) (Bw _ _ e);refine⟨po,os.map 114,Z,aH.of uK,z3o (xs:=os.map 114) (λi σ H'=>IvI H H4 p pb S R F keys os i σ H') ⟨none,none,none,none,_,adc,Z,λb o _ e=>e,uT,BA,by simpa using U0⟩ (λi σ H' _ h=>by obtain⟨_,_,_,_,_,_,_,q,_⟩:=h;exact aH.of<|q _ _ EO uK) ?_ ?_⟩;{rintro i x σ H5 hx⟨v3,v4,v5,v6,v,L,rfl,rC,W,qB,U5⟩;rw[←List.map_reverse,aT]at hx;cases eu:os.reverse[i]? with|none=>rw[eu]at hx;cases hx|some u=>rw[eu]at hx;cases hx;have B:u∈keys:=O.sub u (List.mem_reverse.mp<|bM eu);obtain⟨fr,low⟩:=Zw O eu;have B5:=yR.keep uT rC;have E6:(bs u).length=(R u).length:=(Paired.length<|yR.e u B).trans K9;(have tk:os.reverse.take (i+1)=os.reverse.take i++[u]:=by rw[aR,eu];rfl);kd_p;refine⟨_,Z,_,Z,pb,_,Z,B5.get B,xC u,Z,⟨_,aH.of<|B5.l u B⟩,mG (xs:=(bs u).map 122) (λj σ H'=>IvJ H H4 p pb S u i R F keys os j σ H') ⟨v4,v5,v6,v,L,Z,rC,W,qB,U5,λl b h=>by simp at h⟩ (λj σ H' _ h=>by obtain⟨_,_,_,_,_,_,q,_⟩:=h;exact aH.of<|(yR.keep uT q).l u B) ?_ ?_⟩;{clear qB W U5 B5 rC;rintro j x σ H6 hx⟨v4,v5,v6,v,L,rfl,oM,uP,rB,U6,wQ⟩;have B6:=yR.keep uT oM;have q6:aj H H6:=hh oM;obtain⟨b,⟨l,r⟩,rfl,rA,_,hb⟩:=vX (B6.e u B) hx;obtain⟨t,ht⟩:=K8 rA;have wO:(l,(t,r))∈R u:=bM ht;obtain⟨E8,tok⟩:=hR u l (t,r) wO;have sD:l∈keys:=(cl _ _ _ wO).2;obtain⟨frl,nl⟩:=low l r (Cm wO);(have rt:(R u).take (j+1)=(R u).take j++[(l,(t,r))]:=by rw[aR,ht];rfl);exists b,_,Z,aI.of hb,Z,_,_,Z,_,_,Z,Z;kd_p;have gu:=bL.k (k:=Sum.inr u) uP;rw[qw B]at gu;(have lv:(v u).2.2.length<=900:=by have:=(U6.is u B).short cl nr B;lia);refine⟨_,Z,_,Z,S,_,Z,gu,_,Z,L u,r,v u,t,us,Z,(rB u B).any,q6 _ _ E8,tok,lv,λq H7 s7 fq hq=>?_⟩;have Y:=s7 _ _ uP;have wR:∀b o,b≠S->H4 b=85->H7 b=85:=λb o n e=>s7 _ _ (oM b o n e);have tW:∀k∈keys,cO H H7 (L k) (v k):=λk J=>(rB k J).same s7;have Ae:=hq.old q6;have gl:=bL.k (k:=Sum.inr l) Y;rw[qw sD]at gl;obtain⟨lq,h1,_⟩:=id Ae;obtain⟨lu,h2,_⟩:=tW l sD;kd_p;exists _,Z,q,_,_,_,Z,Z,aI.of h1,Z,_,Z,_,Z,S,_,Z,gl,L l,_,_,_,Z,Z,aI.of h2,Z,_,_,Z,Z,_,Z;refine bH (λc=>?_) λc=>?_;{have c:(v u).1-dH t<(v l).1:=aW c;exists _,Z,_,Z,_,Z,S,_,Z,eE.k (k:=Sum.inr l) Y (by rw[iH];exact jC 80);rw[DU sD,show(dV keys λz=>if z=l then V.ref q else V.ref (L z))=dV keys λk=>V.ref (if k=l then q else L k)from tN λz _=>by split<;>rfl];refine⟨_,_,_,λk=>if k=l then((v u).1-dH t,(v u).2.1,(t,r)::(v u).2.2)else v k,λk=>if k=l then q else L k,Z,λb o n e=>by rw[zi n];exact wR b o n e,zb,λk J=>?_,U6.set frl ((U6.is u B).dn wO)<|Int.le_of_lt c,λl' b' h'=>?_⟩;{x_go;by_cases e:k=l;{rw[ak e,ak e];exact Ae.put Y};{rw[ao e,ao e];exact(tW k J).put Y}};{x_go;rw[ao (aG nl)];rw[rt]at h';rcases oz h' with z|z;{have h8:=wQ l' b' z;by_cases e:l'=l;{rw[ak e];rw[e]at h8;show(v u).1-dH t<=_;lia};{rw[ao e];exact h8}};{cases z;rw[ak Z];exact fJ _}}};{have c:¬((v u).1-dH t<(v l).1):=λz=>c (aO z);refine⟨_,_,_,v,L,Z,wR,Y,tW,U6,λl' b' h'=>?_⟩;rw[rt]at h';rcases oz h' with z|z;{exact wQ l' b' z};{cases z;show(v l).1<=(v u).1-dH t;lia}}};{rintro σ H6⟨v4,v5,v6,v,L,rfl,oM,uP,rB,U6,wQ⟩;rw[ay,E6,bu]at wQ;exact⟨_,_,_,_,v,L,Z,oM,uP,rB,by rw[tk];exact U6.snoc wQ⟩}};{rintro σ H5⟨v3,v4,v5,v6,v,L,rfl,rC,W,qB,U5⟩;rw[ay,←List.length_reverse (as:=os),bu]at U5;have all:∀k∈keys,k∈os.reverse:=λk J=>List.mem_reverse.mpr (LW.mem_iff.mpr J);exact .inr ⟨S,_,W,λBu=>⟨_,Z,k S Bu v L _ ((hh rC).upd U) U zb (λk J=>(qB k J).put W) λk J=>⟨U5.is k J,U5.hi cl all J⟩⟩⟩}}
theorem Sb(j:H e=none)(s:∀b o,b≠e->H b=85->H' b=85):aj H (del H' e):=λb o h=>by have n:=zj h j;unfold del;rw[ao n];exact s b o n h
inductive wU(C:ai)(vs:99)(H:Hp)(Q:VK)(E:XK):Prop|mk p pu pt x y us az ts(_:vs=[101])(_:oJ K H p pu pt x y us az ts)(_:(mj (fE ts 87) 79->∀H',aj H H'->Q .cz H'))(_:∀d q rs H',aj H H'->H' d=some (.xd [("ties",.ref q)])->H' q=some (.lst<|rs.map 122)->rs≠[]->111<=64->qy (fE ts 87) 79 rs->E (.ref C) (some d) H')
def z4j(C:ai):Sp:=λj H Q E=>wU (K:=K) C j H Q E
theorem zjz(T:20):qO P w K mg base "refuse_round" [110] 6 (z4j (K:=K) zw):=by refine T.Rr.Bg eU (λvs H Q E h=>?_) λf fU A S s H vs Q E hr h=>?_;{obtain⟨p,pu,pt,x,y,us,az,ts,rfl,_⟩:=h;rfl};{obtain⟨p,pu,pt,x,y,us,az,ts,rfl,hT,kQ,kE⟩:=h;exists _,(zc (sset (i:=1) eU.nd<|bS (RQ T)<|za (pv 0) zd)<|zf<|dj (zy (AN K Z<|kF hr) (pv 1) (gG zd)<|c6 _) (zf<|Rb (zh0 T) T.Rk (hr.mono 82) Hi 97 T.Rj 82<|za (pv 1) zd) d8);refine⟨_,Z,p,pu,pt,x,y,us,az,ts,Z,hT,λq rs H1 s1 fq hq lr R=>?_⟩;kd_p;refine⟨_,Z,82,λe he=>?_⟩;have J:=aj.new (o:=.lst []) he;exists q,e,_,Z,Z,dY.nV (aH.of<|J _ _ hq)<|aH.of zb,_,Z;refine bH (λc=>?_) λc=>?_;{(have c:rs≠[]:=λz=>by rw[z]at c;simp at c);have B:=J _ _ hq;have q2:=s1.trans J;generalize upd H1 e (.lst [])=H2 at B q2;refine⟨_,Z,λo Y=>?_⟩;have t3:=aj.new (o:=ia o zw none) Y;refine⟨o,q,_,Z,zb,aH.of<|t3 _ _ B,by rw[ay];lia,λq' d L O U W n3=>?_⟩;exists Z,some d,zb;rw[zi L]at U;rw[zi O]at W;refine kE d q' rs _ (q2.trans<|Sb Y λb o' n h=>?_) ?_ ?_ c lr R;{rw[zi n,zi (zj h W),zi (zj h U),zi n];exact h};{unfold del;rw[ao O,zi O,zb]};{unfold del;rw[ao L,zi L,zi (aG n3),zb]}};{(have c:rs=[]:=by simpa using c);refine kQ (λs hs j hj r=>?_) _<|s1.trans J;exact(R.iN.mpr ⟨s,hs,j,hj,r⟩) c}}
inductive sM(C:ai)(vs:99)(H:Hp)(Q:VK)(E:XK):Prop|mk p pm pu pt pf lo hi us az ts af fs(_:vs=[101])(_:gp K H p pm pu pt pf lo hi us az ts af fs)(_:mj (fE ts 87) 79)(_:(∀H',aj H H'->dZ lo hi us az ts af fs->Q .cz H'))(_:∀d r c w H',aj H H'->H' d=some (.xd [("row",.ref r)])->Co H' r c w->A9 lo hi us az ts af fs c w->E (.ref C) (some d) H')
def zw5(C:ai):Sp:=λj H Q E=>sM (K:=K) C j H Q E
inductive qS(C1 C:ai)(vs:99)(H:Hp)(Q:VK)(E:XK):Prop|mk p pm pu pt pf lo hi us az ts af fs(_:vs=[101])(_:gp K H p pm pu pt pf lo hi us az ts af fs)(_:(mj (fE ts 87) 79->∀H',aj H H'->dZ lo hi us az ts af fs->Q .cz H'))(_:(∀d q rs H',aj H H'->H' d=some (.xd [("ties",.ref q)])->H' q=some (.lst<|rs.map 122)->rs≠[]->111<=64->qy (fE ts 87) 79 rs->E (.ref C1) (some d) H'))(_:(mj (fE ts 87) 79->∀d r c w H',aj H H'->H' d=some (.xd [("row",.ref r)])->Co H' r c w->A9 lo hi us az ts af fs c w->E (.ref C) (some d) H'))
def zs6(j C:ai):Sp:=λq H Q E=>qS (K:=K) j C q H Q E
theorem Sd(T:20):qO P w K mg base "refuse_undated" [110] 7 (zs6 (K:=K) zw zh):=by refine T.zia.Bg gO (λvs H Q E h=>?_) λf fU A W s H vs Q E hr h=>?_;{obtain⟨p,pm,pu,pt,pf,lo,hi,us,az,ts,af,fs,rfl,_⟩:=h;rfl};{obtain⟨p,pm,pu,pt,pf,lo,hi,us,az,ts,af,fs,rfl,B,kN,L,kR⟩:=h;exists _,(zc (mW<|QU (zjz T) Hi (hr.mono 82) 97<|za (pv 0) zd)<|zc (sset (i:=1) gO.nd<|bS (zh2 T)<|za (pv 0) zd)<|zf<|dj (qF<|T6<|pv 1) (zf<|Rb (zfp T) T.Rp (hr.mono 82) Hi 97 T.Ro 82<|za (pv 1) zd) d8);refine⟨_,Z,p,pu,pt,_,_,us,az,ts,Z,B.cB,λJ H1 Y=>?_,L⟩;kd_p;refine⟨_,Z,p,pm,pu,pt,pf,lo,hi,us,az,ts,af,fs,Z,B.same Y,J,λH2 s2 no=>?_,λq c w H2 s2 ra ri=>?_⟩;{kd_p;refine⟨_,Z,_,Z,bh ?_⟩;exact kN J _ (Y.trans s2) no};{kd_p;refine⟨_,Z,_,Z,gi ?_⟩;obtain⟨l,h1,h2⟩:=ra;refine⟨_,Z,λe he=>?_⟩;have t3:=aj.new (o:=ia e zh none) he;(have lc:c.2.2.length<=900:=by obtain⟨k,m,hk,u,_⟩:=ri;have j:=J;rw[vC]at j;have:=u.short (yw (az:=az) B.cB.ends) j hk;have:=B.cB.k6;lia);refine⟨e,q,l,.str c.2.1,.str w,_,Z,zb,aI.of<|t3 _ _ h1,aH.of<|t3 _ _ h2,by rw[ay];lia,λq' r d O S U fq fr fd n4 n5 n6=>?_⟩;exists Z,some d,zb;rw[zi O]at fq;rw[zi S]at fr;rw[zi U]at fd;refine kR J d r c w _ (Y.trans<|s2.trans<|Sb he λb o n h=>?_) ?_ ⟨q',?_,?_⟩ ri;{rw[zi n,zi (zj h fd),zi (zj h fr),zi (zj h fq),zi n];exact h};{unfold del;rw[ao U,zi U,zb]};{unfold del;rw[ao S,zi S,zi (aG n6),zb]};{unfold del;rw[ao O,zi O,zi (aG n5),zi (aG n4),zb]}}}
theorem z7m(J:mj (fE ts 87) 79)(B:rs≠[])(R:qy (fE ts 87) 79 rs):False:=by obtain⟨s,hs,j,q,r⟩:=R.iN.mp B;exact J s hs j q r
theorem zh3(T:20):fB P w K mg base "refuse_undated" [110] 7 (λvs H Q _=>zw5 (K:=K) zh vs H Q λ_ _ _=>False):=(Sd T).good λvs H Q E h=>by obtain⟨p,pm,pu,pt,pf,lo,hi,us,az,ts,af,fs,e,j,O,J,L⟩:=h;exact⟨p,pm,pu,pt,pf,lo,hi,us,az,ts,af,fs,e,j,λ_=>J,λd q rs H' _ _ _ B _ R=>z7m O B R,λ_=>L⟩
def LX(H:Hp)(q:ai)(keys:88)(f g:Str->Int):Prop:=∃as,H q=some (.lst<|as.map 122)/\Paired (λa k=>H a=some (.tup [.str k,.int (f k),.int (g k)])) as keys
inductive sN(C1 C:ai)(vs:99)(H:Hp)(Q:VK)(E:XK):Prop|mk p pm pu pt pf lo hi us az ts af fs(_:vs=[101])(_:gp K H p pm pu pt pf lo hi us az ts af fs)(_:(mj (fE ts 87) 79->∀q f g H',aj H H'->H q=none->LX H' q 79 f g->(∀k∈keysOf ts (aJ us),jT (bz ts 87) (i6 ts lo 92) k (f k))->(∀k∈keysOf ts (aJ us),jU (bz ts 87) (i7 ts hi 92) k (g k))->dZ lo hi us az ts af fs->Q (.ref q) H'))(_:(∀d q rs H',aj H H'->H' d=some (.xd [("ties",.ref q)])->H' q=some (.lst<|rs.map 122)->rs≠[]->111<=64->qy (fE ts 87) 79 rs->E (.ref C1) (some d) H'))(_:(mj (fE ts 87) 79->∀d r c w H',aj H H'->H' d=some (.xd [("row",.ref r)])->Co H' r c w->A9 lo hi us az ts af fs c w->E (.ref C) (some d) H'))
def zw6(j C:ai):Sp:=λq H Q E=>sN (K:=K) j C q H Q E
theorem z4k(T:20):qO P w K mg base "spans" [110] 9 (zw6 (K:=K) zw zh):=by refine T.z4o.Bg om (λvs H Q E h=>?_) λf fU A outer s H vs Q E hr h=>?_;{obtain⟨p,pm,pu,pt,pf,lo,hi,us,az,ts,af,fs,rfl,_⟩:=h;rfl};{obtain⟨p,pm,pu,pt,pf,lo,hi,us,az,ts,af,fs,rfl,hF,kN,Se,kR⟩:=h;have hu:=j5 hr;exists _,(zc (mW<|QU (Sd T) Hi (hr.mono 82) 97<|za (pv 0) zd)<|zc (sset (i:=1) om.nd<|bS (R9 T)<|za (pv 0) zd)<|zc (sset (i:=2) om.nd<|bS (Sa T)<|za (pv 0) zd)<|zf<|cH<|rS (own:=["name"]) (cap:=["ups","downs"]) (ix:=[1,2]) (mR:=zp (top 56)) Z ⟨Z,50,50,50,50⟩ Z (xx<|pv 1) (λ_ _ _ _=>oQ (i:=0) (show List.Nodup (["name","ups","downs"]:88)by kt_k) Z<|Or.inl Z) (λ_ _ _ _=>xq) λ_ _ _ _=>(jI<|za (pv 0)<|za (aK 86 (eZ hu (pv 1) (pv 0) λ_ _=>Z) ze)<|za (aK 86 (eZ hu (pv 2) (pv 0) λ_ _=>Z) ze) zd));have lk:=hF.cB.k6;refine⟨_,Z,p,pm,pu,pt,pf,lo,hi,us,az,ts,af,fs,Z,hF,λnr H1 s1 no=>?_,Se,kR⟩;kd_p;refine⟨_,Z,p,pm,pu,pt,pf,lo,hi,us,az,ts,af,fs,Z,hF.same s1,nr,λpa oa va aa H2 s2 fpa LY LZ ua=>?_⟩;kd_p;refine⟨_,Z,p,pm,pu,pt,pf,lo,hi,us,az,ts,af,fs,Z,hF.same<|s1.trans s2,nr,λpb ob vb ab H3 s3 yP L0 L1 ub=>?_⟩;have q3:=s1.trans (s2.trans s3);have j:=s3 _ _ LY;have W:∀k∈keysOf ts (aJ us),cO H1 H3 (aa k) (va k):=λk Y=>(LZ k Y).same s3;have kN':=λq H' s f h=>kN nr q (λk=>(va k).1) (λk=>(vb k).1) H' s f h (λk Y=>(ua k Y).2) (λk Y=>(ub k Y).2) no;clear ua ub kN Se kR;generalize keysOf ts (aJ us)=keys at*;kd_p;refine⟨_,Z,pa,oa,_,Z,j,λD hD=>?_⟩;refine vn (K0 (a:=pa) (ob:=oa) (kvs:=dV keys λk=>.ref (aa k))) (λi J ys H'=>∃(w0:Option V)(as:List ai),J=[w0,some (.ref pa),some (.ref pb)]/\ys=as.map 122/\Paired (λa k=>H' a=some (.tup [.str k,.int (va k).1,.int (vb k).1])) as (keys.take i)/\aj H3 H'/\H' D=some (.lst ys)) ⟨none,[],Z,Z,.nil,aj.new hD,zb⟩ (λi J ys H' h=>?_) (by rw[ay,iH];exact i8 80) ?_ ?_;{obtain⟨_,as,_,rfl,pb',q,hd⟩:=h;exists q _ _ j,hd;have:=Paired.length pb';rw[bP]at this;rw[ay];lia};{rintro i x J ys H4 U⟨w0,as,rfl,rfl,pr,S,O⟩;have lz:=jE U;rw[GP,aT]at U;cases eu:keys[i]? with|none=>rw[eu]at U;cases U|some u=>rw[eu]at U;cases U;have B:u∈keys:=bM eu;obtain⟨la,h1,_⟩:=(W u B).same S;obtain⟨lb,h2,_⟩:=(L1 u B).same S;kd_p;unfold qa;fin2;rw[ak Z];refine⟨_,Z,_,Z,_,Z,pa,_,Z,m8 (S _ _ j) B,aa u,_,_,_,Z,Z,aI.of h1,Z,_,Z,_,Z,pb,_,Z,m8 (S _ _ L0) B,ab u,_,_,_,Z,Z,aI.of h2,Z,(by show 3<=89;walk),λb1 nX=>?_⟩;have w1:=aj.new (o:=.tup [.str u,.int (va u).1,.int (vb u).1]) nX;have L:=w1 _ _ O;refine⟨L,qd lz ⟨_,as++[b1],Z,by rw[aU];rfl,?_,(S.trans w1).upd hD,zb⟩⟩;rw[aR,eu];exact Paired.snoc (Paired.fS pr λa z e=>qv L _ _ (w1 _ _ e))<|qv L _ _ zb};rintro J ys H4⟨w0,as,rfl,rfl,pr,S,O⟩;rw[ay,iH,bu]at pr;exact kN' D _ (q3.trans S) (q3.free hD) ⟨as,O,pr⟩}
def L3(H0 H:Hp)(r j q:ai)(J B:jM):Prop:=∃a b,H r=some (.tup [98,.ref b])/\H a=some (.tup [.str J.2.1,.ref j])/\H b=some (.tup [.str B.2.1,.ref q])/\H j=some (.lst<|J.2.2.map λp=>V.ref p.2)/\H q=some (.lst<|B.2.2.map λp=>V.ref p.2)/\H0 j=none/\H0 q=none/\j≠q
inductive qT(vs:99)(H:Hp)(Q:VK):Prop|mk p pm pu pt pf lo hi us az ts af fs nm(_:vs=[101,.str nm])(_:gp K H p pm pu pt pf lo hi us az ts af fs)(_:mj (fE ts 87) 79)(_:dZ lo hi us az ts af fs)(_:nm∈us)(_:∀r la lb cu cd H',aj H H'->L3 H H' r la lb cu cd->Up (bz ts 87) (i6 ts lo 92) (aq ts nm) cu->jT (bz ts 87) (i6 ts lo 92) (aq ts nm) cu.1->Dn (bz ts 87) (i7 ts hi 92) (aq ts nm) cd->jU (bz ts 87) (i7 ts hi 92) (aq ts nm) cd.1->Q (.ref r) H')
def zs7:Sp:=λj H Q _=>qT (K:=K) j H Q
theorem zw7(T:20):fB P w K mg base "reasons" [110,"name"] 9 (zs7 (K:=K)):=by refine T.zxm.has iU (λvs H Q E h=>?_) λf fU A outer s H vs Q E hr h=>?_;{obtain⟨p,pm,pu,pt,pf,lo,hi,us,az,ts,af,fs,nm,rfl,_⟩:=h;rfl};{obtain⟨p,pm,pu,pt,pf,lo,hi,us,az,ts,af,fs,nm,rfl,O,nr,no,J,k⟩:=h;have hu:=j5 hr;exists _,(zc (mW<|bS (zh3 T)<|za (pv 0) zd)<|zc (sset (i:=2) iU.nd<|eZ hu (bS (Hv T)<|za (aK 86 (pv 0) ze)<|za (aK 86 (pv 0) ze) zd) (pv 1) λ_ _=>Z)<|zc (sset (i:=3) iU.nd<|eZ hu (bS (R9 T)<|za (pv 0) zd) (pv 2) λ_ _=>Z)<|zc (sset (i:=4) iU.nd<|eZ hu (bS (Sa T)<|za (pv 0) zd) (pv 2) λ_ _=>Z)<|zf<|cH<|jI<|za (zD (Gx K Z) (pv 3) (xT ze) AA)<|za (zD (Gx K Z) (pv 4) (xT ze) AA) zd);have L:=O.cB.ends;have j:=Ed (ts:=ts) L J;refine⟨_,Z,p,pm,pu,pt,pf,lo,hi,us,az,ts,af,fs,Z,O,nr,λH1 S _=>?_,λd r c w H1 S _ _ ri=>?_⟩;{have F1:=O.same S;have q:=F1.cB;kd_p;refine⟨_,Z,p,_,_,_,Z,Z,q.p,Z,_,Z,p,_,_,_,Z,Z,q.p,Z,pu,pt,us,az,ts,Z,q.u,q.t,q.tt,q.nd,by have:=q.ul;lia,L,λpn H2 LG hn s2=>?_⟩;have g1:=bL.k (k:=Sum.inr nm) hn;rw[oH J]at g1;exists _,Z,pn,_,Z,g1;kd_p;refine⟨_,Z,p,pm,pu,pt,pf,lo,hi,us,az,ts,af,fs,Z,F1.same s2,nr,λpa oa va aa H3 s3 fpa LY LZ ua=>?_⟩;exists _,Z,pa,_,Z,m8 LY j;kd_p;have q3:=S.trans (s2.trans s3);refine⟨_,Z,p,pm,pu,pt,pf,lo,hi,us,az,ts,af,fs,Z,O.same q3,nr,λpb ob vb ab H4 s4 yP L0 L1 ub=>?_⟩;exists _,Z,pb,_,Z,m8 L0 j;obtain⟨la,a1,a2,a3⟩:=LZ _ j;obtain⟨lb,b1,b2,b3⟩:=L1 _ j;have U:=s4 _ _ a1;have W:=s4 _ _ a2;have nab:la≠lb:=zj a2 b3;kd_p;refine⟨_,Z,1,Z,aa<|aq ts nm,_,Z,aI.of U,by show¬(HT.cN 3 0 (some 1)=0/\HT.cN 3 3 none=3);walk,λc1 Y=>?_⟩;have t1:=aj.new (o:=.tup [.str (va<|aq ts nm).2.1,.ref la]) Y;refine⟨_,Z,1,Z,ab<|aq ts nm,_,Z,aI.of<|t1 _ _ b1,by show¬(HT.cN 3 0 (some 1)=0/\HT.cN 3 3 none=3);walk,λc2 L4=>?_⟩;have t2:=aj.new (o:=.tup [.str (vb<|aq ts nm).2.1,.ref lb]) L4;refine⟨by show 2<=89;walk,λr qm=>?_⟩;have t3:=aj.new (o:=.tup [.ref c1,.ref c2]) qm;have B:=t1.trans (t2.trans t3);refine k r la lb (va<|aq ts nm) (vb<|aq ts nm) _ (q3.trans<|s4.trans B) ⟨c1,c2,zb,t3 _ _<|t2 _ _ zb,t3 _ _ zb,B _ _ W,B _ _ b2,(S.trans s2).free a3,q3.free b3,nab⟩ (ua _ j).1 (ua _ j).2 (ub _ j).1 (ub _ j).2};{obtain⟨kk,m,hk,u,g,_,hl,_⟩:=ri;have:=no kk hk c m u g;lia}}
inductive uV(vs:99)(H:Hp)(Q:VK):Prop|mk p pu pt x y us az ts(_:vs=[101])(_:oJ K H p pu pt x y us az ts)(_:∀pd H',aj H H'->H pd=none->H' pd=some (.dK<|dN us<|aq ts)->Q (.ref pd) H')
def zz1:Sp:=λj H Q _=>uV (K:=K) j H Q
theorem BB(T:20):fB P w K mg base "_law_ones" [96] 1 (zz1 (K:=K)):=by refine T.zp7.has dO (λvs H Q E h=>?_) λf fU A outer s H vs Q E hr h=>?_;{obtain⟨p,pu,pt,x,y,us,az,ts,rfl,_⟩:=h;rfl};{obtain⟨p,pu,pt,x,y,us,az,ts,rfl,hT,k⟩:=h;have hu:=j5 hr;exists _,(zc (sset (i:=1) dO.nd oR)<|zc (iA bB Z (jd K Z<|aK 86 (pv 0) ze) (eS (i:=2) dO.nd)<|zf<|mQ hu (pv 1) (pv 2) (pv 2) Z)<|zc (iA bB Z (CY 97 T.range<|za (gC (qc K Z) 97 T.len cU<|za (aK 86 (pv 0) ze) zd) zd) (eS (i:=3) dO.nd)<|zf<|iA bB Z (jd K Z<|aK 86 (pv 0) ze) (eS (i:=4) dO.nd)<|zf<|dj (zy kM (aK 86 (pv 4) ze) eO<|c6 _) (zc (sset (i:=5) dO.nd<|gC (PM Z) 97 T.min nC<|za (eZ hu (pv 1) (aK 86 (pv 4) ze) λ_ _=>Z)<|za (eZ hu (pv 1) (aK 86 (pv 4) ze) λ_ _=>Z) zd)<|zc (mQ hu (pv 1) (aK 86 (pv 4) ze) (pv 5) Z)<|zf<|mQ hu (pv 1) (aK 86 (pv 4) ze) (pv 5) Z) d8)<|zf<|cH<|pv 1);have iS:=hT.ends;have hlen:=hT.len;obtain⟨hp,W,vG,tp,nd,hl,tl,_⟩:=hT;refineλpd J=>?_;have s0:=aj.new (o:=.dK []) J;refine⟨_,Z,p,_,_,_,Z,Z,s0.tup hp,Z,pu,Z,⟨_,s0.seq W⟩,mG (xs:=us.map 114) (λi σ H'=>∃v2,σ=[some 101,some (.ref pd),v2,none,none,none]/\aj H H'/\H' pd=some (.dK<|dN (us.take i) id)) ⟨none,Z,s0,zb⟩ (λi σ H' _ h=>by obtain⟨_,_,q,_⟩:=h;exact q.seq W) ?_ ?_⟩;{rintro i x σ H1 Y⟨v2,rfl,q,hd⟩;rw[aT]at Y;cases eu:us[i]? with|none=>rw[eu]at Y;cases Y|some u=>rw[eu]at Y;cases Y;have hi:=jE eu;(have iO:u∉us.take i:=by have:=tM nd i hi;rw[show us[i]=u from(cE.mp eu).2]at this;z_go);w_up;exists _,Z,_,Z,_,Z,pd,_,Z,eE.k (k:=Sum.inr u) hd (by rw[DT,bP];exact jC 80);exists _,Z,q.upd J;rw[zb,aR,eu];congr 2;exact Pg iO};{rintro σ H1⟨v2,rfl,q,hd⟩;have lu:(us.map 114).length=109:=ay _;rw[lu,bu]at hd;refine⟨_,Z,p,_,_,_,Z,Z,q.tup hp,Z,pu,_,Z,.inl<|q.seq W,((us.map 114).length:Int),Z,80,80,BU (lo:=0) (n:=(us.map 114).length) (λn σ H'=>∃v3 O S,σ=[some 101,some (.ref pd),v2,v3,O,S]/\aj H H'/\H' pd=some (.dK<|dN us<|gj ts n)) ⟨none,none,none,Z,q,hd⟩ ?_ ?_⟩;{rintro n σ H2 hn⟨v3,O,S,rfl,q2,U⟩;refine⟨_,Z,p,_,_,_,Z,Z,q2.tup hp,Z,pt,Z,⟨_,q2.seq vG⟩,mG (xs:=az.map 122) (λi σ H'=>∃O S,σ=[some 101,some (.ref pd),v2,some (.int<|0+(n:Int)),O,S]/\aj H H'/\H' pd=some (.dK<|dN us<|qh (ts.take i)<|gj ts n)) ⟨O,S,Z,q2,U⟩ (λi σ H' _ h=>by obtain⟨_,_,_,q,_⟩:=h;exact q.seq vG) ?_ ?_⟩;{rintro i x σ H3 Y⟨O,S,rfl,q3,j⟩;obtain⟨r,t,rfl,ht,_,hr⟩:=vp tp Y;have B:=q3 _ _ hr;have L:=iS t (bM ht);kd_p;exists _,Z,r,_,_,_,Z,Z,aI.of B,yi t,Z,_,Z;refine bH (λc=>?_) λc=>?_;{have c:t.k=c7:=V.str.inj (aW c);have g1:=bL.k (k:=Sum.inr t.a) j;have g2:=bL.k (k:=Sum.inr t.b) j;rw[oH L.1]at g1;rw[oH L.2]at g2;exists _,Z,_,Z,r,_,_,_,Z,Z,aI.of B,yj t,pd,_,Z,g1,_,Z,_,Z,r,_,_,_,Z,Z,aI.of B,yk t,pd,_,Z,g2,_,_,Z;kd_p;exists _,Z,_,Z,_,Z,r,_,_,_,Z,Z,aI.of B,yj t,pd,_,Z,eE.k (k:=Sum.inr t.a) j (by rw[DT];exact jC 80);rw[Kg L.1];(have nr:r≠pd:=λz=>by rw[z,j]at B;cases B);(have wJ:upd H3 pd (.dK<|dN us λz=>if z=t.a then kY (qh (ts.take i) (gj ts n) t.a) (qh (ts.take i) (gj ts n) t.b)else qh (ts.take i) (gj ts n) z) r=some (.tup<|bO t):=by rw[zi nr];exact B);exists _,Z,_,Z,_,Z,r,_,_,_,Z,Z,aI.of wJ,yk t,pd,_,Z,eE.k (k:=Sum.inr t.b) zb (by rw[DT];exact jC 80);rw[Kg L.2];exists _,_,Z,(q3.upd J).upd J;rw[zb,Px ht];congr 2;refine Cf λz _=>?_;(have el:l8 (qh (ts.take i)<|gj ts n) t z=if z=t.a\/z=t.b then kY (qh (ts.take i) (gj ts n) t.a) (qh (ts.take i) (gj ts n) t.b)else qh (ts.take i) (gj ts n) z:=by unfold l8;rw[ak c]);rw[el];by_cases e1:z=t.b;{rw[ak e1,ak (Or.inr e1:z=t.a\/z=t.b)];rfl};{rw[ao e1];by_cases e2:z=t.a;{rw[ak e2,ak (Or.inl e2:z=t.a\/z=t.b)];rfl};{rw[ao e2,ao (λq:z=t.a\/z=t.b=>q.elim e2 e1)]}}};{have c:¬t.k=c7:=λz=>c (aO<|bw 114 z);exists _,_,Z,q3;rw[j,Px ht];unfold l8;rw[ao c]}};{rintro σ H3⟨O,S,rfl,q3,j⟩;rw[ay,hlen,bu]at j;exact⟨_,_,_,Z,q3,j⟩}};{rintro σ H2⟨v3,O,S,rfl,q2,U⟩;refine⟨_,Z,k pd _ q2 J ?_⟩;rw[U,lu,Cf (Xz iS)]}}}
inductive sO(vs:99)(H:Hp)(Q:VK):Prop|mk p pu pt x y us az ts(_:vs=[101])(_:oJ K H p pu pt x y us az ts)(_:∀q ls H',aj H H'->H q=none->H' q=some (.lst<|ls.map 122)->bU H' ls ((gk ts 87).map Ks)->Q (.ref q) H')
def zw8:Sp:=λj H Q _=>sO (K:=K) j H Q
theorem L5 (T:Tx K mg w C_Reading zn zk zx zq zm zr zo zv zw zh):fB P w K mg base "_law_links" ["_law_telling"] 2 (zw8 (K:=K)):=by
 refine T.zoc.has fP (fun vs H Q E h=>?_) (fun f fU A outer s H vs Q E hr h=>?_)
 ·obtain⟨p,pu,pt,x,y,us,az,ts,rfl,_⟩:=h;rfl
 ·obtain⟨p,pu,pt,x,y,us,az,ts,rfl,U,k⟩:=h
  have hu:=j5 hr
  refine⟨_,(zc (sset (i:=1) fP.nd (bS (BB T) (za (pv 0) zd)))
   (zc (sset (i:=2) fP.nd (gG zd))
   (zc (iA bB rfl (jd K rfl (aK (zg K rfl) (pv 0) ze)) (eS (i:=3) fP.nd) (zf (dj (zy kM (aK (zg K rfl) (pv 3) ze) eO (c6 _)) (zf (mW (qY K rfl PySem.F.plainAttrs_list PySem.F.slot_list_append PySem.F.type_list_append xj (pv 2) (za (jI (za (eZ hu (pv 1) (aK (zg K rfl) (pv 3) ze) (fun _ _=>rfl)) (za (eZ hu (pv 1) (aK (zg K rfl) (pv 3) ze) (fun _ _=>rfl)) (za (aK (zg K rfl) (pv 3) ze) (za (pv 3) zd))))) zd)))) (zf (dj (zy vg (aK (zg K rfl) (pv 3) ze) eO (c6 _)) (zf (mW (qY K rfl PySem.F.plainAttrs_list PySem.F.slot_list_append PySem.F.type_list_append xj (pv 2) (za (jI (za (eZ hu (pv 1) (aK (zg K rfl) (pv 3) ze) (fun _ _=>rfl)) (za (eZ hu (pv 1) (aK (zg K rfl) (pv 3) ze) (fun _ _=>rfl)) (za ze (za (pv 3) zd))))) zd)))) d8)))))
   (zf (cH (pv 2)))))),?_⟩
  refine⟨_,rfl,p,pu,pt,x,y,us,az,ts,rfl,U,fun pd H1 s1 tV hd=>?_⟩
  have iS:=U.ends
  have hlen:=U.len
  try dsimp only [zz]
  refine⟨by decide,fun S tD=>?_⟩
  have s2:=aj.new (o:=.lst []) tD
  have T2:=U.same (s1.trans s2)
  refine⟨_,rfl,p,_,_,_,rfl,rfl,T2.p,rfl,pt,rfl,⟨_,T2.t⟩,mG (xs:=az.map V.ref) (fun i σ H'=>∃(v3:Option V) (O:List ai),σ = [some (.ref p),some (.ref pd),some (.ref S),v3]/\aj H1 H'/\H' S=some (.lst (O.map V.ref))/\bU H' O (qi ts ((ts.zip az).take i)))
   ⟨none,[],rfl,s2,zb,.nil⟩ (fun i σ H' _ h=>by obtain⟨_,_,_,q,_⟩:=h;exact (U.same (s1.trans q)).t) ?_ ?_⟩
  ·rintro i x σ H3 hx ⟨v3,O,rfl,q3,j,tl⟩
   have T3:=U.same (s1.trans q3)
   obtain⟨r,t,rfl,ht,wI,J⟩:=vp T3.tt hx
   have Bp:(ts.zip az)[i]? = some (t,r):=jV.mpr ⟨ht,wI⟩
   have tok:=U.ok t (bM ht)
   have yK:=iS t (bM ht)
   have ll:O.length<=900:=by
    have h1:=tl.len
    have h2:=XD (ts:=ts) (z:=(ts.zip az).take i)
    have h3:=U.tl
    rw[bP,iY] at h2
    lia
   have g1:=bL.k (k:=Sum.inr t.a) (q3 _ _ hd)
   have g2:=bL.k (k:=Sum.inr t.b) (q3 _ _ hd)
   rw[oH yK.1] at g1
   rw[oH yK.2] at g2
   have fin:∀L,H3 L=none->t.k≠c7->∃(v3:Option V) (Sf:List ai),[some (.ref p),some (.ref pd),some (.ref S),some (V.ref r)] = [some (.ref p),some (.ref pd),some (.ref S),v3]/\aj H1 (upd (upd H3 L (.tup [.str (aq ts t.a),.str (aq ts t.b),.int (dH t),.ref r])) S (.lst (O.map V.ref++[.ref L])))/\
     upd (upd H3 L (.tup [.str (aq ts t.a),.str (aq ts t.b),.int (dH t),.ref r])) S (.lst (O.map V.ref++[.ref L])) S=some (.lst (Sf.map V.ref))/\bU (upd (upd H3 L (.tup [.str (aq ts t.a),.str (aq ts t.b),.int (dH t),.ref r])) S (.lst (O.map V.ref++[.ref L]))) Sf (qi ts ((ts.zip az).take (i+1))):=by
    intro L B c
    have t0:=aj.new (o:=.tup [.str (aq ts t.a),.str (aq ts t.b),.int (dH t),.ref r]) B
    have W:=t0 _ _ j
    refine⟨_,O++[L],rfl,(q3.trans t0).upd tD,by rw[zb,aU];rfl,?_⟩
    rw[PF Bp,ak c]
    exact bU.snoc ((tl.same t0).fC (qv W)) (qv W _ _ zb)
   try dsimp only [zz]
   refine⟨_,rfl,r,_,_,_,rfl,rfl,aI.of J,yi t,rfl,_,rfl,?_⟩
   refine bH (fun c=>?_) (fun c=>?_)
   ·have c:t.k=vA:=V.str.inj (aW c)
    refine⟨_,rfl,.inl ⟨rfl,_,aH.of j⟩,_,rfl,_,rfl,r,_,_,_,rfl,rfl,aI.of J,yj t,pd,_,rfl,g1,_,rfl,_,rfl,r,_,_,_,rfl,rfl,aI.of J,yk t,pd,_,rfl,g2,_,rfl,r,_,_,_,rfl,rfl,aI.of J,tok.after c,_,rfl,(by show 4<=sizeLine;decide),fun L B=>?_⟩
    refine⟨S,_,_,rfl,rfl,aj.new B _ _ j,by rw[ay];exact jC (by lia),?_⟩
    exact fin L B (by rw[c];decide)
   ·have c:¬t.k=vA:=fun z=>c (aO (bw V.str z))
    refine⟨_,rfl,r,_,_,_,rfl,rfl,aI.of J,yi t,rfl,_,rfl,?_⟩
    refine bH (fun Y=>?_) (fun Y=>?_)
    ·have Y:t.k≠c7:=by
      intro z
      simp[z,c7] at Y
     refine⟨_,rfl,.inl ⟨rfl,_,aH.of j⟩,_,rfl,_,rfl,r,_,_,_,rfl,rfl,aI.of J,yj t,pd,_,rfl,g1,_,rfl,_,rfl,r,_,_,_,rfl,rfl,aI.of J,yk t,pd,_,rfl,g2,_,rfl,(by show 4<=sizeLine;decide),fun L B=>?_⟩
     refine⟨S,_,_,rfl,rfl,aj.new B _ _ j,by rw[ay];exact jC (by lia),?_⟩
     have:=fin L B Y
     rw[tok.plain c] at this
     exact this
    ·have Y:t.k=c7:=by simpa[c7] using Y
     refine⟨_,O,rfl,q3,j,?_⟩
     rw[PF Bp,ao (fun z=>z Y),e9]
     exact tl
  ·rintro σ H3 ⟨v3,O,rfl,q3,j,tl⟩
   rw[ay] at tl
   have ez:(ts.zip az).take az.length=ts.zip az:=lH (by rw[iY];lia)
   rw[ez,XE] at tl
   exact⟨_,rfl,k S O _ (s1.trans q3) (s1.free tD) j tl⟩
inductive sP(vs:99)(H:Hp)(Q:VK):Prop|mk p pm pu pt pf lo hi us az ts af fs py oy yr(_:vs=[101,.ref py])(_:gp K H p pm pu pt pf lo hi us az ts af fs)(_:K5 H py oy 79 yr)(_:∀H',aj H H'->Q (.bl<|qj lo hi 79 ts fs (gk ts 87) yr) H')
def zw9:Sp:=λj H Q _=>sP (K:=K) j H Q
theorem Sg(T:20):fB P w K mg base "_law_keeps" [96,"_law_years"] 4 (zw9 (K:=K)):=by refine T.zod.has eK (λvs H Q E h=>?_) λf fU A outer s H vs Q E Y h=>?_;{obtain⟨p,pm,pu,pt,pf,lo,hi,us,az,ts,af,fs,U,oy,j,rfl,_⟩:=h;rfl};{obtain⟨p,pm,pu,pt,pf,lo,hi,us,az,ts,af,fs,U,oy,j,rfl,hF,hy,k⟩:=h;have hu:=j5 Y;exists _,(zc (sset (i:=2) eK.nd<|bS (BB T)<|za (pv 0) zd)<|zc (iA bB Z (xx<|pv 1) (eS (i:=3) eK.nd)<|zf<|dj (p6<|IT zB zB (aK 86 (aK 86 (pv 0) ze) ze) (eZ hu (pv 1) (pv 3) λ_ _=>Z)<|aK 86 (aK 86 (pv 0) ze) ze) (zf<|cH ly) d8)<|zc (iA bB Z (jd K Z<|aK 86 (pv 0) ze) (eS (i:=4) eK.nd)<|zf<|dj (p6<|IT zB zB (aK 86 (pv 4) ze) (eZ hu (pv 1) (eZ hu (pv 2) (aK 86 (pv 4) ze) λ_ _=>Z) λ_ _=>Z)<|aK 86 (pv 4) ze) (zf<|cH ly) d8)<|zc (iA bB Z (jd K Z<|bS (L5 T)<|za (pv 0) zd) (eS (i:=5) eK.nd)<|zf<|dj (zy w9 (eZ hu (pv 1) (aK 86 (pv 5) ze) λ_ _=>Z) (fm qG (eZ hu (pv 1) (aK 86 (pv 5) ze) λ_ _=>Z)<|aK 86 (pv 5) ze)<|c6 _) (zf<|cH ly) d8)<|zf<|cH ly);have iS:=hF.cB.ends;have HB:=hF.fu;have L6:=Qq (us:=us) (ts:=ts) (az:=az) iS;have CC:=λ(x:Str)(hx:x∈us)=>Ed (ts:=ts) iS hx;(have no:¬(qj lo hi 79 ts fs (gk ts 87) j=true)->∀H',aj H H'->Q (.bl 94) H':=λn H' s'=>by have:=k H' s';rw[show qj lo hi 79 ts fs (gk ts 87) j=94 by simpa using n]at this;z_go);(have yes:qj lo hi 79 ts fs (gk ts 87) j=true->∀H',aj H H'->Q (.bl true) H':=λn H' s'=>by have:=k H' s';rw[n]at this;z_go);rw[Qs]at no yes;refine⟨_,Z,p,pu,pt,_,_,us,az,ts,Z,hF.cB,λpb H1 s1 yP hb=>?_⟩;generalize keysOf ts (aJ us)=keys at hy L6 CC no yes;have HH:H1 U=some (.fL oy<|.dK<|dV keys λk=>.int (j k)):=s1 _ _ hy;kd_p;refine⟨_,Z,U,oy,_,Z,HH,A6 (λi σ H'=>∃(v3:Option V),σ=[some 101,some (.ref U),some (.ref pb),v3,none,none]/\aj H1 H'/\∀k∈keys.take i,A7 lo hi j k=true) ⟨none,Z,aj.refl _,λk L=>by simp at L⟩ (λi σ H' _ h=>by obtain⟨_,_,q,_⟩:=h;exact q _ _ HH) ?_ ?_⟩;{rintro i kk vv σ H2 hx⟨v3,rfl,O,HJ⟩;obtain⟨u,oG,rfl,_⟩:=A1 hx;have kI:u∈keys:=bM oG;have S:=hF.same (s1.trans O);have HK:=O _ _ HH;kd_p;refine yb (!A7 lo hi j u) (λQ' B=>?_) ?_;{exists _,Z,p,_,_,_,Z,Z,S.cB.p,Z,pm,_,_,_,Z,Z,S.m,Z,_,Z,_,Z,U,_,Z,m8 HK kI,_,_,Z,Z,_,Z;unfold A7 at B;refine bH (λc=>?_) λc=>?_;{rw[c,lY]at B;exact⟨_,Z,p,_,_,_,Z,Z,S.cB.p,Z,pm,_,_,_,Z,Z,S.m,Z,_,_,Z,Z,_,Z,B⟩};{(have c:decide (lo<=j u)=94:=by simpa using c);rw[c,fR]at B;exact⟨_,Z,B⟩}};{refine bH (λc=>?_) λc=>?_;{refine no (λz=>?_) _<|s1.trans O;rw[z.1 u kI]at c;cases c};{refine⟨_,Z,O,λk L=>?_⟩;rw[aR,oG,bJ]at L;rcases L with L|L;{exact HJ k L};{(have:k=u:=by simpa using L);rw[this];simpa using c}}}};rintro σ H2⟨v3,rfl,O,HJ⟩;rw[iH,bu]at HJ;have S:=hF.same (s1.trans O);have HK:=O _ _ HH;have qz:=O _ _ hb;refine⟨_,Z,p,_,_,_,Z,Z,S.cB.p,Z,pf,Z,⟨_,S.f⟩,mG (xs:=af.map 122) (λi σ H'=>∃(v4:Option V),σ=[some 101,some (.ref U),some (.ref pb),v3,v4,none]/\aj H2 H'/\∀f∈fs.take i,A8 ts j f=true) ⟨none,Z,aj.refl _,λk L=>by simp at L⟩ (λi σ H' _ h=>by obtain⟨_,_,q,_⟩:=h;exact(S.same q).f) ?_ ?_⟩;{rintro i x σ H3 hx⟨v4,rfl,W,HL⟩;obtain⟨r,f,rfl,hf,wI,Y⟩:=vp (S.same W).ft hx;have L7:=bM hf;have CD:=CC f.u (HB f L7);have L8:=W _ _ HK;have g1:=bL.k (k:=Sum.inr f.u) (W _ _ qz);rw[oH (HB f L7)]at g1;kd_p;refine yb (!A8 ts j f) (λQ' B=>?_) ?_;{exists _,Z,r,_,_,_,Z,Z,aI.of Y,G6 f,_,Z,_,Z,_,Z,r,_,_,_,Z,Z,aI.of Y,Ec f,pb,_,Z,g1,U,_,Z,m8 L8 CD,_,_,Z,Z,_,Z;unfold A8 at B;refine bH (λc=>?_) λc=>?_;{rw[c,lY]at B;exact⟨_,Z,r,_,_,_,Z,Z,aI.of Y,G7 f,_,_,Z,Z,_,Z,B⟩};{(have c:decide (f.lo<=j (aq ts f.u))=94:=by simpa using c);rw[c,fR]at B;exact⟨_,Z,B⟩}};{refine bH (λc=>?_) λc=>?_;{refine no (λz=>?_) _<|s1.trans<|O.trans W;rw[z.2.1 f L7]at c;cases c};{refine⟨_,Z,W,λg hg=>?_⟩;rw[aR,hf,bJ]at hg;rcases hg with hg|hg;{exact HL g hg};{(have:g=f:=by simpa using hg);rw[this];simpa using c}}}};rintro σ H3⟨v4,rfl,W,HL⟩;rw[ay,hF.mT,bu]at HL;have F3:=S.same W;have L8:=W _ _ HK;refine⟨_,Z,p,pu,pt,_,_,us,az,ts,Z,F3.cB,λpk ls H4 s4 Sh Fc tl=>?_⟩;(have Fd:ls.length=(gk ts 87).length:=by have:=tl.len;rw[ay]at this;z_go);have hy4:=s4 _ _ L8;refine⟨pk,Z,⟨_,aH.of Fc⟩,mG (xs:=ls.map 122) (λi σ H'=>∃(v5:Option V),σ=[some 101,some (.ref U),some (.ref pb),v3,v4,v5]/\aj H4 H'/\∀q∈(gk ts 87).take i,zS j q=true) ⟨none,Z,aj.refl _,λk L=>by simp at L⟩ (λi σ H' _ h=>by obtain⟨_,_,q,_⟩:=h;exact aH.of<|q _ _ Fc) ?_ ?_⟩;{rintro i x σ H5 hx⟨v5,rfl,q5,HM⟩;obtain⟨r,⟨a,b,g,t⟩,rfl,rA,wI,Y⟩:=vp (tl.same q5) hx;have hm:=bM rA;obtain⟨ha,rj⟩:=L6 _ hm;have Si:=q5 _ _ hy4;kd_p;refine yb (!zS j (a,b,g,t)) (λQ' B=>?_) ?_;{exists _,Z,_,Z,r,_,_,_,Z,Z,aI.of Y,Z,U,_,Z,m8 Si ha,_,Z,_,Z,r,_,_,_,Z,Z,aI.of Y,Z,U,_,Z,m8 Si rj,_,Z,r,_,_,_,Z,Z,aI.of Y,Z,_,_,Z,Z,_,_,Z,Z,_,Z;(have e:(!zS j (a,b,g,t))=decide (j a<j b+g):=by unfold zS;rw[kr,Bool.not_eq_true',decide_eq_false_iff_not,cJ];show¬(j b+g<=j a)↔_;lia);rw[e]at B;exact B};{refine bH (λc=>?_) λc=>?_;{refine no (λz=>?_) _<|s1.trans<|O.trans<|W.trans<|s4.trans q5;rw[z.2.2 _ hm]at c;cases c};{refine⟨_,Z,q5,λq' J=>?_⟩;rw[aR,rA,bJ]at J;rcases J with J|J;{exact HM q' J};{(have:q'=(a,b,g,t):=by simpa using J);rw[this];simpa using c}}}};rintro σ H5⟨v5,rfl,q5,HM⟩;rw[ay,Fd,bu]at HM;exact yes ⟨HJ,HL,HM⟩ _<|s1.trans<|O.trans<|W.trans<|s4.trans q5}
inductive qU(vs:99)(H:Hp)(Q:VK):Prop|mk p pm pu pt pf lo hi us az ts af fs(_:vs=[101])(_:gp K H p pm pu pt pf lo hi us az ts af fs)(_:∀r q wd H',aj H H'->H' r=some (.tup [.str wd,.ref q])->((wd="spans"/\mj (fE ts 87) 79/\H q=none/\∃f g,LX H' q 79 f g/\(∀k∈keysOf ts (aJ us),jT (bz ts 87) (i6 ts lo 92) k (f k))/\(∀k∈keysOf ts (aJ us),jU (bz ts 87) (i7 ts hi 92) k (g k))/\dZ lo hi us az ts af fs)\/(wd="row"/\mj (fE ts 87) 79/\∃c w,Co H' q c w/\A9 lo hi us az ts af fs c w)\/(wd="round"/\∃rs,H' q=some (.lst<|rs.map 122)/\rs≠[]/\111<=64/\qy (fE ts 87) 79 rs))->Q (.ref r) H')
def zs8:Sp:=λj H Q _=>qU (K:=K) j H Q
theorem zn6(T:20):fB P w K mg base "_law_asked" [96] 10 (zs8 (K:=K)):=by refine T.zof.has cG (λvs H Q E h=>?_) λf fU A outer s H vs Q E hr h=>?_;{obtain⟨p,pm,pu,pt,pf,lo,hi,us,az,ts,af,fs,rfl,_⟩:=h;rfl};{obtain⟨p,pm,pu,pt,pf,lo,hi,us,az,ts,af,fs,rfl,hF,k⟩:=h;exists _,(zc (sset (i:=1) cG.nd<|jI zd)<|zc (z7b ⟨Z,Z,Z⟩ (λpn xe Es pt=>(zf<|sset (i:=1) cG.nd<|jI<|za eO<|za (z7a (z4k T) pt (hr.mono 82) 97<|za (pv 0) zd) zd))<|Q7 (i:=2) ⟨Z,Z,Z⟩ 97 T.Rj T.zz7 cG.nd Z Z (λ_ _=>(zf<|sset (i:=1) cG.nd<|jI<|za eO<|za (Rf K Z (pv 2) Z) zd))<|Q7 (i:=2) ⟨Z,Z,Z⟩ 97 T.Ro T.zps cG.nd Z Z (λ_ _=>(zf<|sset (i:=1) cG.nd<|jI<|za eO<|za (Rf K Z (pv 2) Z) zd)) z7c)<|zf<|cH<|pv 1);refine⟨by show 0<=89;walk,λb0 S=>?_⟩;have L:=aj.new (o:=.tup []) S;refine⟨_,Z,p,pm,pu,pt,pf,lo,hi,us,az,ts,af,fs,Z,hF.same L,λnr q f g H1 J fq hS hf hg no=>?_,λd q rs H1 J U hq Y hl R=>?_,λnr d r c w H1 J U Ma Mb=>?_⟩;{refine⟨by show 2<=89;walk,λr qm=>?_⟩;have t2:=aj.new (o:=.tup [.str "spans",.ref q]) qm;obtain⟨as,h1,h2⟩:=hS;exact⟨_,Z,k r q "spans" _ (L.trans<|J.trans t2) zb<|.inl ⟨Z,nr,L.free fq,f,g,⟨as,t2 _ _ h1,Paired.fS h2 λa k e=>t2 _ _ e⟩,hf,hg,no⟩⟩};{exists zw,Z,true,T.zjm;rw[ak Z];intro e W;have t2:=aj.new (o:=se e zw (some d)) W;refine⟨_,Z,e,zw,d,_,_,Z,zb,t2 _ _ U,T.zz9,T.Rm,Z,by show 2<=89;walk,λO j=>?_⟩;have B:=aj.new (o:=.tup [.str "round",.ref q]) j;exact⟨_,Z,k O q "round" _ (L.trans<|J.trans<|t2.trans B) zb<|.inr<|.inr ⟨Z,rs,B _ _<|t2 _ _ hq,Y,hl,R⟩⟩};{exists zh,Z,94,T.zgt;rw[ao bC];exists true,T.zel;rw[ak Z];intro e W;have t2:=aj.new (o:=se e zh (some d)) W;refine⟨_,Z,e,zh,d,_,_,Z,zb,t2 _ _ U,T.zpu,T.Rq,Z,by show 2<=89;walk,λO j=>?_⟩;have B:=aj.new (o:=.tup [.str "row",.ref r]) j;obtain⟨l,h1,h2⟩:=Ma;exact⟨_,Z,k O r "row" _ (L.trans<|J.trans<|t2.trans B) zb<|.inr<|.inl ⟨Z,nr,c,w,⟨l,B _ _<|t2 _ _ h1,B _ _<|t2 _ _ h2⟩,Mb⟩⟩}}
inductive yT(vs:99)(H:Hp)(Q:VK):Prop|mk p pm pu pt pf pb lo hi us az ts af fs nm x y1 y2(_:vs=[101,.ref pb,.str nm])(_:gp K H p pm pu pt pf lo hi us az ts af fs)(_:H pb=some (.dK<|dN us<|aq ts))(_:(fs.map fY.n).Nodup)(_:Lb lo hi ts fs nm x y1 y2)(_:∀r H',aj H H'->H' r=some (.tup [.str x,.int y1,.int y2])->Q (.ref r) H')
def z7n:Sp:=λj H Q _=>yT (K:=K) j H Q
theorem HN(T:20):fB P w K mg base "_law_end" [96,116,"_law_name"] 2 (z7n (K:=K)):=by refine T.zth.has mJ (λvs H Q E h=>?_) λf fU A outer s H vs Q E hr h=>?_;{obtain⟨p,pm,pu,pt,pf,pb,lo,hi,us,az,ts,af,fs,nm,x,y1,y2,rfl,_⟩:=h;rfl};{obtain⟨p,pm,pu,pt,pf,pb,lo,hi,us,az,ts,af,fs,nm,x,y1,y2,rfl,B,hb,rD,he,k⟩:=h;have hu:=j5 hr;exists _,(zc (dj (zy kM (pv 2) eO<|c6 _) (zf<|cH<|jI<|za eO<|za (aK 86 (aK 86 (pv 0) ze) ze)<|za (aK 86 (aK 86 (pv 0) ze) ze) zd) d8)<|zc (iA bB Z (jd K Z<|aK 86 (pv 0) ze) (eS (i:=3) mJ.nd)<|zf<|dj (zy kM (aK 86 (pv 3) ze) (pv 2)<|c6 _) (zf<|cH<|jI<|za (eZ hu (pv 1) (aK 86 (pv 3) ze) λ_ _=>Z)<|za (aK 86 (pv 3) ze)<|za (aK 86 (pv 3) ze) zd) d8)<|zf<|cH Am);exists _,Z,Z,_,Z;rcases he with⟨S,U,W,Y⟩|⟨ne,f,hf,S,U,W,Y⟩;{subst S U W Y;refine bH (λ_=>?_) λc=>absurd (aO Z) c;refine⟨_,Z,p,_,_,_,Z,Z,B.cB.p,Z,pm,_,_,_,Z,Z,B.m,Z,_,Z,p,_,_,_,Z,Z,B.cB.p,Z,pm,_,_,_,Z,Z,B.m,Z,(by show 3<=89;walk),λr j=>?_⟩;exact k r _ (aj.new j) zb};{subst S U W Y;refine bH (λc=>absurd (V.str.inj<|aW c) ne) λ_=>?_;(try unfold mO);x_go;refine⟨_,Z,p,_,_,_,Z,Z,B.cB.p,Z,pf,Z,⟨_,B.f⟩,mG (xs:=af.map 122) (λi σ H'=>∃(v3:Option V),σ=[some 101,some (.ref pb),some (.str f.n),v3]/\aj H H'/\f∉fs.take i) ⟨none,Z,aj.refl _,81⟩ (λi σ H' _ h=>by obtain⟨_,_,q,_⟩:=h;exact(B.same q).f) ?_ ?_⟩;{rintro i x σ H2 hx⟨v3,rfl,O,J⟩;obtain⟨r,g,rfl,hg,wI,j⟩:=vp (B.same O).ft hx;have L:=bM hg;kd_p;exists _,Z,r,_,_,_,Z,Z,aI.of j,K3 g,_,Z,Z,_,Z;refine bH (λc=>?_) λc=>?_;{have c:g.n=f.n:=V.str.inj (aW c);have e:=ZC rD L hf c;k_go;have g1:=bL.k (k:=Sum.inr g.u) (O _ _ hb);rw[oH (B.fu g L)]at g1;refine⟨_,Z,_,Z,r,_,_,_,Z,Z,aI.of j,Ec g,pb,_,Z,g1,_,Z,r,_,_,_,Z,Z,aI.of j,G6 g,_,Z,r,_,_,_,Z,Z,aI.of j,G7 g,(by show 3<=89;walk),λb rj=>?_⟩;exact k b _ (O.trans<|aj.new rj) zb};{have c:¬g.n=f.n:=λz=>c (aO<|bw 114 z);refine⟨_,Z,O,λhm=>?_⟩;rw[aR,hg]at hm;rcases oz hm with z|z;{exact J z};{exact c (by rw[z])}}};{rintro σ H2⟨v3,rfl,O,J⟩;have lf:=B.mT;rw[ay,lf,bu]at J;exact absurd hf J}}}
inductive uW(vs:99)(H:Hp)(Q:VK):Prop|mk p pm pu pt pf pb l lo hi us az qV ts af fs rs ss ee(_:vs=[101,.ref pb,.ref l])(_:gp K H p pm pu pt pf lo hi us az ts af fs)(_:H pb=some (.dK<|dN us<|aq ts))(_:(∀vs∈ts.map bO,∀v∈vs,Wd v))(_:H l=some (.lst<|rs.map λp=>V.ref p.2))(_:111<=900)(_:bU H qV (ts.map bO))(_:rZ ts (ts.zip qV) ss ee rs)(_:∀H',aj H H'->Q (.bl true) H')
def zz2:Sp:=λj H Q _=>uW (K:=K) j H Q
theorem Mc(T:20):fB P w K mg base "_law_leads" [96,116,"_law_ties"] 2 (zz2 (K:=K)):=by refine T.zoe.has j8 (λvs H Q E h=>?_) λf fU A outer s H vs Q E hr h=>?_;{obtain⟨p,pm,pu,pt,pf,pb,l,lo,hi,us,az,qV,ts,af,fs,rs,ss,ee,rfl,_⟩:=h;rfl};{obtain⟨p,pm,pu,pt,pf,pb,l,lo,hi,us,az,qV,ts,af,fs,rs,ss,ee,rfl,hF,W,hw,hl,Me,tb,wk,k⟩:=h;have hu:=j5 hr;exists _,(zc (iA bB Z (CY 97 T.range<|za (gC (qc K Z) 97 T.len cU<|za (pv 2) zd) zd) (eS (i:=3) j8.nd)<|zc (dj (PW.pt<|p5 (zy (JK K Z<|AO hr) (aK (jD K Z) (pv 2)<|pv 3) (aK 86 (pv 0) ze) (by k_in))<|uc<|zy kM (aK 86 (aK (jD K Z) (pv 2)<|pv 3) ze) eO<|c6 _) (zf<|cH ly) d8)<|zf<|dj (PW.pt<|tu (zy xO (pv 3) ze<|c6 _)<|vd<|zy vg (eZ hu (pv 1) (aK 86 (aK (jD K Z) (pv 2)<|pv 3) ze) λ_ _=>Z) (eZ hu (pv 1) (aK 86 (aK (jD K Z) (pv 2)<|fm BV (pv 3) ze) ze) λ_ _=>Z)<|c6 _) (zf<|cH ly) d8)<|zf<|cH ly);have Y:=hF.cB.ends;(have lrs:((rs.map λ(p:Tr)=>V.ref p.2).length:Int)=111:=by rw[ay]);(have mt:∀{H':Hp},aj H H'->∀(i:Nat)b,rs[i]?=some b->H' b.2=some (.tup<|bO b.1)/\m7 us b.1/\b.1∈ts/\b.1.k≠c7:=λs i b W=>by obtain⟨hz,ns⟩:=wk.mem b (bM W);obtain⟨a1,_,a3⟩:=(tb.same s).tQ hz;exact⟨a1,hF.cB.ok _ a3,a3,ns⟩);(have xw:∀{H':Hp},aj H H'->∀x∈us,bL H' pb (.str x) (some<|.str<|aq ts x):=λs x hx=>by have g:=bL.k (k:=Sum.inr x) (s _ _ W);rw[oH hx]at g;exact g);have O:∀(i:Nat)b,rs[i]?=some b->iZ (rs.map λ(p:Tr)=>V.ref p.2) (i:Int)=some (.ref b.2):=λi b W=>vh (by rw[aT,W];rfl);refine⟨_,Z,l,_,Z,.inl<|aH.of hl,((rs.map λ(p:Tr)=>V.ref p.2).length:Int),Z,80,80,BU (lo:=0) (n:=(rs.map λ(p:Tr)=>V.ref p.2).length) (λi σ H'=>∃(v3:Option V),σ=[some 101,some (.ref pb),some (.ref l),v3]/\aj H H') ⟨none,Z,aj.refl _⟩ ?_ ?_⟩;{rintro i σ H5 hi⟨v6,rfl,J⟩;rw[ay]at hi;obtain⟨b,q⟩:∃b,rs[i]?=some b:=⟨rs[i],cj hi⟩;obtain⟨ht,tok,tm,ns⟩:=mt J i b q;have F5:=hF.same J;have S:=J _ _ hl;have ha:=O i b q;(have i0:(0:Int)+(i:Int)=(i:Int):=by lia);kd_p;rw[i0];refine oU 94 (λQ' hQ=>?_) λH6 s6=>bh ?_;{exists _,Z,_,Z,l,_,_,_,Z,Z,aH.of S,ha,_,Z,p,_,_,_,Z,Z,F5.cB.p,Z,pt,_,_,Z,.inl F5.cB.t,F5.cB.tt.J5 (n:=7) hw ht<|hw _<|aD.mpr ⟨b.1,tm,Z⟩,_,Z;rw[ak Z,F5.cB.tt.AX,aO (aD.mpr ⟨b.1,tm,Z⟩)];refine bh ?_;exists _,Z,_,Z,l,_,_,_,Z,Z,aH.of S,ha,b.2,_,_,_,Z,Z,aI.of ht,yi b.1,Z,_,Z;rw[show decide (V.str b.1.k=V.str "same")=94 from aN (λz=>ns<|V.str.inj z)];exact hQ _<|aj.refl _};have L:=J.trans s6;obtain⟨ht6,_⟩:=mt L i b q;have U:=L _ _ hl;(try unfold mO);x_go;refine oU 94 (λQ' hQ=>?_) λH7 s7=>bh ⟨_,Z,L.trans s7⟩;{exists _,Z,_,_,Z,Z,_,Z;refine bH (λz=>?_) λ_=>hQ _<|aj.refl _;have z:(0:Int)<(i:Int):=aW z;(have Gr:i-1<111:=by lia);obtain⟨B,j⟩:∃B,rs[i-1]?=some B:=⟨rs[i-1],cj Gr⟩;obtain⟨ht',Fe,tm',_⟩:=mt L (i-1) B j;(have Sj:iZ (rs.map λ(p:Tr)=>V.ref p.2) ((i:Int)-1)=some (.ref B.2):=by rw[show(i:Int)-1=((i-1:Nat):Int)by lia];exact O (i-1) B j);exists _,Z,_,Z,_,Z,l,_,_,_,Z,Z,aH.of U,ha,b.2,_,_,_,Z,Z,aI.of ht6,yk b.1,pb,_,Z,xw L _ (Y _ tm).2;exists _,Z,_,Z,_,Z,_,_,Z,Z,l,_,_,_,Z,Z,aH.of U,Sj,B.2,_,_,_,Z,Z,aI.of ht',yj B.1,pb,_,Z,xw L _ (Y _ tm').1,Z,_,Z;have en:=wk.La (i-1) B b j (by rw[show i-1+1=i by lia];exact q);rw[en,aO Z];exact hQ _<|aj.refl _}};rintro σ H5⟨v6,rfl,J⟩;exact k _ J}
inductive uX(vs:99)(H:Hp)(Q:VK):Prop|mk l us rs(_:vs=[.ref l])(_:H l=some (.lst<|rs.map λp=>V.ref p.2))(_:(∀b∈rs,H b.2=some (.tup<|bO b.1)/\m7 us b.1))(_:111<=900)(_:∀H',aj H H'->Q (.int<|rm rs) H')
def zz3:Sp:=λj H Q _=>uX j H Q
theorem Mf(T:20):fB P w K mg base "_law_gaps" ["_law_ties"] 1 (zz3):=by refine T.zp8.has zn0 (λvs H Q E h=>?_) λf fU A Y s H vs Q E hr h=>?_;{obtain⟨l,us,rs,rfl,_⟩:=h;rfl};{obtain⟨l,us,rs,rfl,hl,hm,Me,k⟩:=h;exists _,(zf<|cH<|gC (zwl K Z Z) 97 T.sum PyProof.Rows.boot_sum<|za (rS (own:=["_law_tie_here"]) (cap:=[]) (ix:=[]) (mR:=zp (top 69)) Z ⟨Z,50,50,50,50⟩ Z (jd K Z<|pv 0) (λ_ _ _ _=>oQ (i:=0) (show List.Nodup (["_law_tie_here"]:88)by kt_k) Z<|Or.inl Z) (λ_ _ _ _=>AK<|zy kM (aK 86 (pv 0) ze) eO<|c6 _) λ_ _ _ _=>(aK 86 (pv 0) ze)) zd);refine⟨_,Z,l,Z,⟨_,aH.of hl⟩,λD hD=>?_⟩;refine vn (xu (K:=K) (a:=l) (xs:=rs.map λ(p:Tr)=>V.ref p.2)) (λi j ys H'=>∃w0,j=[w0]/\ys=(zT<|rs.take i).map V.int/\aj H H'/\H' D=some (.lst ys)) ⟨none,Z,Z,aj.new hD,zb⟩ (λi j ys H' h=>?_) (by rw[ay];exact i8 80) ?_ ?_;{obtain⟨_,_,rfl,q,L⟩:=h;exists aH.of<|q _ _ hl,L;rw[ay];exact bF ZH (by rw[bP];lia)};{rintro i v j ys H9 B⟨w0,rfl,rfl,U,L⟩;have S:=jE B;rw[aT]at B;cases J:rs[i]? with|none=>rw[J]at B;cases B|some b=>rw[J]at B;cases B;obtain⟨W,tok⟩:=hm b (bM J);have W:=U _ _ W;kd_p;exists _,Z,b.2,_,_,_,Z,Z,aI.of W,yi b.1,Z,_,Z;refine bH (λz=>?_) λz=>?_;{have z:b.1.k=vA:=V.str.inj (aW z);refine⟨_,Z,b.2,_,_,_,Z,Z,aI.of W,tok.after z,L,qd S ⟨_,Z,?_,U.upd hD,zb⟩⟩;rw[QF J,ak z,aU];rfl};{have z:¬b.1.k=vA:=λy=>z (aO<|bw 114 y);refine⟨L,qd S ⟨_,Z,?_,U,L⟩⟩;rw[QF J,ao z,e9]}};rintro j ys H9⟨w0,rfl,rfl,U,O⟩;rw[ay,bu]at O;exists D,_,Z,aH.of O;rw[ZI λb hb=>(hm b hb).2];exact k _ U}
inductive sQ(vs:99)(H:Hp)(Q:VK):Prop|mk pb l us ts z rs o s e(_:vs=[.ref pb,.ref l,.str o])(_:H pb=some (.dK<|dN us<|aq ts))(_:H l=some (.lst<|rs.map λp=>V.ref p.2))(_:(∀b∈rs,H b.2=some (.tup<|bO b.1)/\b.1.a∈us/\b.1.b∈us))(_:rZ ts z s e rs)(_:∀r H',aj H H'->H' r=some (.tup [.str (if rs=[]then o else s),.str (if rs=[]then o else e)])->Q (.ref r) H')
def zxa:Sp:=λj H Q _=>sQ j H Q
theorem Mg(T:20):fB P w K mg base "_law_from_to" [116,"_law_ties","_law_one"] 2 (zxa):=by refine T.zj4.has zjd (λvs H Q E h=>?_) λf fU A W s H vs Q E B h=>?_;{obtain⟨L,l,us,ts,z,rs,o,s,e,rfl,_⟩:=h;rfl};{obtain⟨L,l,us,ts,z,rs,o,s,e,rfl,hb,U,hm,wk,k⟩:=h;have hu:=j5 B;exists _,(zc (dj (zy (AM K Z<|kF B) (pv 1) (gG zd)<|c6 _) (zf<|cH<|jI<|za (pv 2)<|za (pv 2) zd) d8)<|zf<|cH<|jI<|za (eZ hu (pv 0) (aK 86 (aK (jD K Z) (pv 1) ze) ze) λ_ _=>Z)<|za (eZ hu (pv 0) (aK 86 (aK (jD K Z) (pv 1)<|Au Ax ze) ze) λ_ _=>Z) zd);refine⟨_,Z,by show 0<=89;walk,λY he=>?_⟩;have t1:=aj.new (o:=.lst []) he;exists l,Y,_,Z,Z,dY.nV (aH.of<|t1 _ _ U)<|aH.of zb,_,Z;refine bH (λz=>?_) λz=>?_;{(have z:rs=[]:=by simpa using z);refine⟨_,Z,_,Z,by show 2<=89;walk,λr B=>k r _ (t1.trans<|aj.new B) ?_⟩;rw[ak z,ak z];exact zb};{(have z:rs≠[]:=λy=>by rw[y]at z;simp at z);have lp:0<111:=jY.mpr z;obtain⟨b,q⟩:∃b,rs[0]?=some b:=⟨rs[0],cj lp⟩;obtain⟨c,S⟩:∃b,rs[111-1]?=some b:=⟨rs[111-1],cj 80⟩;obtain⟨b1,_,b2⟩:=hm b (bM q);obtain⟨c1,c2,_⟩:=hm c (bM S);(have J:∀x∈us,bL (upd H Y<|.lst []) L (.str x) (some<|.str<|aq ts x):=λx hx=>by have g:=bL.k (k:=Sum.inr x) (t1 _ _ hb);rw[oH hx]at g;exact g);have O:iZ (rs.map λ(p:Tr)=>V.ref p.2) (-1)=some (.ref c.2):=Lc (by rw[ay,aT,S];rfl);(try unfold mO);x_go;refine⟨_,Z,_,Z,l,_,_,_,Z,Z,aH.of<|t1 _ _ U,vh (j:=0) (by rw[aT,q];rfl),b.2,_,_,_,Z,Z,aI.of<|t1 _ _ b1,yk b.1,L,_,Z,J _ b2,_,Z,_,Z,_,Z,l,_,_,_,Z,Z,aH.of<|t1 _ _ U,O,c.2,_,_,_,Z,Z,aI.of<|t1 _ _ c1,yj c.1,L,_,Z,J _ c2,by show 2<=89;walk,λr B=>k r _ (t1.trans<|aj.new B) ?_⟩;rw[ao z,ao z,←wk.fst b q,←wk.lst c S];exact zb}}
inductive sR(vs:99)(H:Hp)(Q:VK):Prop|mk p pu pt pf x y us az qV rs ts ws(_:vs=[101,.ref pf])(_:oJ K H p pu pt x y us az ts)(_:(∀vs∈ts.map bO,∀v∈vs,Wd v))(_:H pf=some (.lst<|rs.map 122))(_:rs≠[])(_:111<=1000)(_:bU H qV (ts.map bO))(_:A2 ts qV rs ws)(_:∀H',aj H H'->Q (.bl true) H')
def zxb:Sp:=λj H Q _=>sR (K:=K) j H Q
theorem zgo(T:20):fB P w K mg base "_law_round_right" [96,"_law_ring"] 2 (zxb (K:=K)):=by refine T.zgu.has d7 (λvs H Q E h=>?_) λf fU A outer s H vs Q E J h=>?_;{obtain⟨p,pu,pt,pf,x,y,us,az,qV,rs,ts,ws,rfl,_⟩:=h;rfl};{obtain⟨p,pu,pt,pf,x,y,us,az,qV,rs,ts,ws,rfl,hT,hw,hf,tR,lr,tb,R,k⟩:=h;have hu:=j5 J;exists _,(zc (sset (i:=2) d7.nd<|bS (BB T)<|za (pv 0) zd)<|zc (dj (PW.pt<|p5 (p6<|pZ<|gC (Gz K Z) 97 T.isinstance o6<|za (pv 1)<|za (FY (v:=.ty 115) 97 T.list ig Z) zd)<|uc<|zy (AM K Z<|kF J) (pv 1) (gG zd)<|c6 _) (zf<|cH ly) d8)<|zc (iA bB Z (CY 97 T.range<|za (gC (qc K Z) 97 T.len cU<|za (pv 1) zd) zd) (eS (i:=3) d7.nd)<|zf<|dj (PW.pt<|p5 (zy (JK K Z<|AO J) (aK (jD K Z) (pv 1)<|pv 3) (aK 86 (pv 0) ze) (by k_in))<|p5 (zy kM (aK 86 (aK (jD K Z) (pv 1)<|pv 3) ze) eO<|c6 _)<|uc<|zy vg (eZ hu (pv 2) (aK 86 (aK (jD K Z) (pv 1)<|pv 3) ze) λ_ _=>Z) (eZ hu (pv 2) (aK 86 (aK (jD K Z) (pv 1)<|fm BV (pv 3) ze) ze) λ_ _=>Z)<|c6 _) (zf<|cH ly) d8)<|zf<|cH ly);refine⟨_,Z,p,pu,pt,x,y,us,az,ts,Z,hT,λpd H0 s0 tV hd=>?_⟩;have O:(rs.map 122).length=111:=ay _;kd_p;refine oU 94 (λQ' hQ=>?_) λH1 s1=>bh ?_;{refine⟨_,Z,_,_,_,true,Z,.lst<|s0 _ _ hf,Z,_,Z,bh ?_⟩;refine⟨_,Z,by show 0<=89;walk,λe he=>?_⟩;have t1:=aj.new (o:=.lst []) he;exists pf,e,_,Z,Z,dY.nV (aH.of<|t1 _ _<|s0 _ _ hf)<|aH.of zb,_,Z;rw[aN (λz=>tR<|List.map_eq_nil_iff.mp z)];exact hQ _ t1};have U:=s0.trans s1;have Sl:=U _ _ hf;have Y:=s1 _ _ hd;(try unfold mO);x_go;refine⟨_,Z,pf,_,Z,.inl<|aH.of Sl,((rs.map 122).length:Int),Z,80,80,BU (lo:=0) (n:=(rs.map 122).length) (λn σ H'=>∃(v3:Option V),σ=[some 101,some (.ref pf),some (.ref pd),v3]/\aj H1 H') ⟨none,Z,(aj.refl _)⟩ ?_ ?_⟩;{rintro n σ H2 hn⟨v3,rfl,S⟩;have q:=U.trans S;have T2:=hT.same q;have B:=aH.of (K:=K) (S _ _ Sl);rw[O]at hn;have er:rs[n]?=some rs[n]:=cj hn;obtain⟨t,hz,hk,ha,hb⟩:=R.at' n _ er;obtain⟨J,hrm,L⟩:=(tb.same q).tQ hz;(have tU:(if n=0 then 111-1 else n-1)<111:=by split<;>lia);obtain⟨t',hz',ym,Sj,rj⟩:=R.at' (if n=0 then 111-1 else n-1) _ (cj tU);obtain⟨qm,afP,Mh⟩:=(tb.same q).tQ hz';(have elb:aq ts t.a=aq ts t'.b:=by rw[ha,rj];by_cases c:n=0;{rw[ak c,c,R.cl];congr 1;lia};{rw[ao c];congr 1;lia});have tok:=hT.ok t L;have Fe:=hT.ok t' Mh;have g1:=bL.k (k:=Sum.inr t.a) (S _ _ Y);have g2:=bL.k (k:=Sum.inr t'.b) (S _ _ Y);rw[oH tok.a]at g1;rw[oH Fe.b]at g2;(have j:iZ (rs.map 122) (0+(n:Int))=some (.ref rs[n]):=by rw[Int.zero_add];exact vh (by rw[aT,er];rfl));(have W:iZ (rs.map 122) (0+(n:Int)-1)=some (.ref rs[if n=0 then 111-1 else n-1]):=by refine XG (by rw[O];exact hn) ?_;rw[O,aT,cj tU];rfl);generalize rs[if n=0 then 111-1 else n-1]=r' at qm W;generalize rs[n]=r at J j;kd_p;refine oU 94 (λQ' hQ=>?_) λH3 s3=>bh ⟨_,Z,S.trans s3⟩;exists _,Z,_,Z,pf,_,_,_,Z,Z,B,j,_,Z,p,_,_,_,Z,Z,T2.p,Z,pt,_,_,Z,.inl T2.t,T2.tt.J5 (n:=7) hw J<|hw _<|aD.mpr ⟨t,L,Z⟩,_,Z;rw[ak Z,T2.tt.AX,aO (aD.mpr ⟨t,L,Z⟩)];refine bh ?_;exists _,Z,_,Z,pf,_,_,_,Z,Z,B,j,r,_,_,_,Z,Z,aI.of J,yi t,Z,_,Z;rw[show decide (V.str t.k=V.str "same")=94 from aN (λz=>hk<|V.str.inj z)];refine bh ?_;exists _,Z,_,Z,_,Z,pf,_,_,_,Z,Z,B,j,r,_,_,_,Z,Z,aI.of J,yj t,pd,_,Z,g1,_,Z,_,Z,_,Z,_,_,Z,Z,pf,_,_,_,Z,Z,B,W,r',_,_,_,Z,Z,aI.of qm,yk t',pd,_,Z,g2,Z,_,Z;rw[elb,aO Z];exact hQ _<|aj.refl _};{rintro σ H2⟨v3,rfl,S⟩;exact k _<|U.trans S}}
inductive sS(vs:99)(H:Hp)(Q:VK):Prop|mk p pm pu pt pf q lo hi us az qV ts af bf fs c w(_:vs=[101,.ref q])(_:gp K H p pm pu pt pf lo hi us az ts af fs)(_:mj (fE ts<|ts.zip qV) 79)(_:(fs.map fY.n).Nodup)(_:(∀f∈fs,f.n≠""))(_:(∀vs∈ts.map bO,∀v∈vs,Wd v))(_:Co H q c w)(_:bU H qV (ts.map bO))(_:A9 lo hi us qV ts bf fs c w)(_:∀H',aj H H'->Q (.bl true) H')
def zxc:Sp:=λj H Q _=>sS (K:=K) j H Q
theorem zh4(T:20):fB P w K mg base "_law_row_right" [96,"_law_row"] 4 (zxc (K:=K)):=by refine T.zib.has bZ (λvs H Q E h=>?_) λf fU A outer s H vs Q E hr h=>?_;{obtain⟨p,pm,pu,pt,pf,q,lo,hi,us,az,qV,ts,af,bf,fs,c,w,rfl,_⟩:=h;rfl};{obtain⟨p,pm,pu,pt,pf,q,lo,hi,us,az,qV,ts,af,bf,fs,c,w,rfl,hF,nr,rD,xD,hw,⟨l,h1,h2⟩,tb,Mb,k⟩:=h;exists _,(zc (sset (i:=2) bZ.nd<|bS (BB T)<|za (pv 0) zd)<|zc (dj (PW.pt<|p5 (p6<|pZ<|gC (Gz K Z) 97 T.isinstance o6<|za (pv 1)<|za (FY (v:=.ty 118) 97 T.tuple PyProof.Rows.boot_tuple Z) zd)<|p5 (zy vg (gC (qc K Z) 97 T.len cU<|za (pv 1) zd) ze<|c6 _)<|uc<|p6<|pZ<|gC (Gz K Z) 97 T.isinstance o6<|za (aK 86 (pv 1) ze)<|za (FY (v:=.ty 115) 97 T.list ig Z) zd) (zf<|cH ly) d8)<|zc (sset (i:=3) bZ.nd<|bS (HN T)<|za (pv 0)<|za (pv 2)<|za (aK 86 (pv 1) ze) zd)<|zc (sset (i:=4) bZ.nd<|bS (HN T)<|za (pv 0)<|za (pv 2)<|za (aK 86 (pv 1) ze) zd)<|zc (dj (PW.pt<|p5 (qF<|y9<|pv 3)<|p5 (qF<|y9<|pv 4)<|uc<|p6<|pZ<|bS (Mc T)<|za (pv 0)<|za (pv 2)<|za (aK 86 (pv 1) ze) zd) (zf<|cH ly) d8)<|zc (BO (bS (Mg T)<|za (pv 2)<|za (aK 86 (pv 1) ze)<|za (aK 86 (pv 3) ze) zd)<|qZ K Z Z<|jB (eS (i:=5) bZ.nd)<|jB (eS (i:=6) bZ.nd) qX)<|zc (dj (PW.pt<|tu (zy (AM K Z<|kF hr) (aK 86 (pv 1) ze) (gG zd)<|c6 _)<|tu (zy vg (aK 86 (pv 3) ze) eO<|c6 _)<|vd<|zy (DI K Z) (aK 86 (pv 4) ze) (gG<|za eO<|za (aK 86 (pv 3) ze) zd) (by k_in)) (zf<|cH ly) d8)<|zc (dj (PW.pt<|tu (zy (AN K Z<|kF hr) (aK 86 (pv 1) ze) (gG zd)<|c6 _)<|vd<|PW.pt<|p5 (zy (DI K Z) (aK 86 (pv 3) ze) (gG<|za eO<|za (pv 5) zd) (by k_in))<|uc<|zy (DI K Z) (aK 86 (pv 4) ze) (gG<|za eO<|za (pv 6) zd) (by k_in)) (zf<|cH ly) d8)<|zf<|cH<|xg xO (fm qG (aK 86 (pv 3) ze)<|bS (Mf T)<|za (aK 86 (pv 1) ze) zd) (aK 86 (pv 4) ze)<|c6 _);have iS:=hF.cB.ends;have lk:=hF.cB.k6;obtain⟨kk,m,CD,up,Ah,hmw,rR,_⟩:=Mb;rw[vC]at nr;have lc:=up.short (yw (az:=qV) iS) nr CD;obtain⟨ss,m0,ET,HP,BC,wk⟩:=up.walk;obtain⟨x0,Mi,yU,HQ⟩:=ET.end_ (hi:=hi) xD;obtain⟨x1,Mj,Br,HR⟩:=Ah.end_ (lo:=lo) xD;rw[HP]at yU;rw[hmw]at Br;obtain⟨cy,cw,rs⟩:=c;dsimp only at h1 h2 lc HP BC wk yU rR;(have l9:111<=900:=by lia);(have mt:∀{H':Hp},aj H H'->∀b∈rs,H' b.2=some (.tup<|bO b.1)/\m7 us b.1:=λs b L=>by obtain⟨a1,_,a3⟩:=(tb.same s).tQ (wk.mem b L).1;exact⟨a1,hF.cB.ok _ a3⟩);refine⟨_,Z,p,pu,pt,_,_,us,az,ts,Z,hF.cB,λpb H1 s1 yP L=>?_⟩;kd_p;have j:=s1 _ _ h1;have Sm:=s1 _ _ h2;refine oU 94 (λQ' J=>?_) λH2 s2=>bh ?_;{refine⟨_,Z,_,_,_,true,Z,.tup j,Z,_,Z,bh ?_⟩;refine⟨_,Z,q,_,Z,.inr<|aI.of j,Z,_,Z,bH (λz=>absurd z 81) λ_=>?_⟩;exists _,Z,q,_,_,_,Z,Z,aI.of j,Z,_,_,_,true,Z,.lst Sm,Z,_,Z;exact J _<|aj.refl _};have q2:=s1.trans s2;have Ml:=s2 _ _ j;(try unfold mO);x_go;refine⟨_,Z,_,Z,_,Z,q,_,_,_,Z,Z,aI.of Ml,Z,p,pm,pu,pt,pf,pb,lo,hi,us,az,ts,af,fs,cw,x0,m0.1,Mi,Z,hF.same q2,s2 _ _ L,rD,yU,λr0 H3 s3 Mm=>?_⟩;have q3:=q2.trans s3;kd_p;refine⟨_,Z,_,Z,_,Z,q,_,_,_,Z,Z,aI.of<|s3 _ _ Ml,Z,p,pm,pu,pt,pf,pb,lo,hi,us,az,ts,af,fs,w,x1,Mj,m.1,Z,hF.same q3,s3 _ _<|s2 _ _ L,rD,Br,λr1 H4 s4 Ff=>?_⟩;have q4:=q3.trans s4;have Mn:=s4 _ _ Mm;have CF:=s4 _ _ (s3 _ _<|s2 _ _ L);have Sn:=q4 _ _ h1;have So:=q4 _ _ h2;clear j Sm Ml s2 s3;kd_p;refine oU 94 (λQ' J=>?_) λH5 Y=>bh ?_;{refine⟨_,Z,_,Z,bh ⟨_,Z,_,Z,bh ?_⟩⟩;refine⟨_,Z,_,Z,_,Z,q,_,_,_,Z,Z,aI.of Sn,Z,p,pm,pu,pt,pf,pb,l,lo,hi,us,az,qV,ts,af,fs,rs,ss,kk,Z,hF.same q4,CF,hw,So,l9,tb.same q4,wk,λH5 Y=>⟨_,Z,?_⟩⟩;exact J _ Y};have q5:=q4.trans Y;have O:=Y _ _ Mn;have Sq:=Y _ _ Sn;have Ss:=Y _ _ So;(try unfold mO);x_go;refine⟨_,Z,_,Z,q,_,_,_,Z,Z,aI.of Sq,Z,_,Z,r0,_,_,_,Z,Z,aI.of O,Z,pb,l,us,ts,_,rs,x0,ss,kk,Z,Y _ _ CF,Ss,λb L=>⟨(mt q5 b L).1,(mt q5 b L).2.a,(mt q5 b L).2.b⟩,wk,λr2 H6 s6 yo=>?_⟩;exists r2,_,Z,aI.of yo,Z,_,_,Z,_,_,Z,Z;have q6:=q5.trans s6;have B:=s6 _ _ O;have U:=s6 _ _ (Y _ _ Ff);have Su:=s6 _ _ Sq;have Sv:=s6 _ _ Ss;kd_p;refine oU 94 (λQ' J=>?_) λH7 s7=>bh ?_;{refine⟨_,Z,q,_,_,_,Z,Z,aI.of Su,Z,by show 0<=89;walk,λe he=>?_⟩;have t1:=aj.new (o:=.lst []) he;exists l,e,_,Z,Z,dY.nV (aH.of<|t1 _ _ Sv)<|aH.of zb,_,Z;refine bH (λz=>?_) λ_=>J _ t1;(have z:rs=[]:=by simpa using z);exists _,Z,r0,_,_,_,Z,Z,aI.of<|t1 _ _ B,Z,Z,_,Z;refine bH (λd0=>?_) λ_=>J _ t1;(have d0:x0≠"":=λy=>by rw[y]at d0;simp at d0);refine⟨_,Z,r1,_,_,_,Z,Z,aI.of<|t1 _ _ U,Z,_,Z,r0,_,_,_,Z,Z,aI.of<|t1 _ _ B,Z,by show 2<=89;walk,λe2 yc=>?_⟩;have t2:=aj.new (o:=.lst [.str "",.str x0]) yc;exists e2,_,Z,.inl<|aH.of zb,Z,Z,_,Z;rw[ak Z,Eg (by rw[HQ.resolve_left d0,wk.nil z];exact HR)];exact J _<|t1.trans t2};have q7:=q6.trans s7;have S:=s7 _ _ B;have W:=s7 _ _ U;have Sw:=s7 _ _ Su;have Sx:=s7 _ _ Sv;(try unfold mO);x_go;refine oU 94 (λQ' J=>?_) λH8 s8=>bh ?_;{refine⟨_,Z,q,_,_,_,Z,Z,aI.of Sw,Z,by show 0<=89;walk,λe he=>?_⟩;have t1:=aj.new (o:=.lst []) he;exists l,e,_,Z,Z,dY.nV (aH.of<|t1 _ _ Sx)<|aH.of zb,_,Z;refine bH (λz=>?_) λ_=>J _ t1;(have z:rs≠[]:=λy=>by rw[y]at z;simp at z);rw[ao z,ao z];refine⟨_,Z,r0,_,_,_,Z,Z,aI.of<|t1 _ _ S,Z,_,Z,by show 2<=89;walk,λe2 yc=>?_⟩;have t2:=aj.new (o:=.lst [.str "",.str ss]) yc;exists e2,_,Z,.inl<|aH.of zb,Z,Z,_,Z;rw[ak Z,Eg HQ];refine bh ?_;refine⟨_,Z,r1,_,_,_,Z,Z,aI.of<|t2 _ _<|t1 _ _ W,Z,_,Z,by show 2<=89;walk,λe3 Fg=>?_⟩;have t3:=aj.new (o:=.lst [.str "",.str kk]) Fg;exists e3,_,Z,.inl<|aH.of zb,Z,Z,_,Z;rw[ak Z,Eg HR];exact J _<|t1.trans<|t2.trans t3};have q8:=q7.trans s8;(try unfold mO);x_go;refine⟨_,Z,r0,_,_,_,Z,Z,aI.of<|s8 _ _ S,Z,_,Z,q,_,_,_,Z,Z,aI.of<|s8 _ _ Sw,Z,l,us,rs,Z,s8 _ _ Sx,mt q8,l9,λH9 s9=>?_⟩;exists _,_,Z,Z,_,Z,r1,_,_,_,Z,Z,aI.of<|s9 _ _<|s8 _ _ W,Z,_,_,Z,Z;rw[←BC];show Q (.bl<|decide<|m.1<cy) H9;rw[aO rR];exact k _<|q8.trans s9}
inductive sU(vs:99)(H:Hp)(Q:VK):Prop|mk p pu pt x y us az ts(_:vs=[101])(_:oJ K H p pu pt x y us az ts)(_:129<=60)(_:∀m H',aj H H'->mh (fE ts 87) 79 m->Q (.int m) H')
def zxd:Sp:=λj H Q _=>sU (K:=K) j H Q
inductive IvD(H4:Hp)(p pl pr:ai)(ks:88)(i:Nat)(σ:St)(H':Hp):Prop|mk v3(ad:Str->ai)(_:σ=[some 101,some (.ref pl),some (.ref pr),v3,none])(_:(∀b o,b≠pr->H4 b=85->H' b=85))(_:H' pr=some (.dK<|dV (ks.take i) λk=>.ref (ad k)))(_:∀k∈ks.take i,H' (ad k)=some (.lst [.str k]))
inductive IvE(H4:Hp)(p pl pr:ai)(ks:88)(ln:Ln)(n:Nat)(σ:St)(H':Hp):Prop|mk v3 v4(ad:Str->ai)(Lf:Str->88)(_:σ=[some 101,some (.ref pl),some (.ref pr),v3,v4])(_:(∀b o,b≠pr->H4 b=85->H' b=85))(_:H' pr=some (.dK<|dV ks λk=>.ref (ad k)))(_:(∀k∈ks,H' (ad k)=some (.lst<|(Lf k).map 114)/\∀v,v∈Lf k↔Rc ln k n v))(_:∀k∈ks,∀j,1<=j->j<=n->¬Rc ln k j k)
inductive IvF(H4:Hp)(p pl pr qs:ai)(n:Nat)(ks ms:88)(ln:Ln)(i:Nat)(σ:St)(H':Hp):Prop|mk v3(ad:Str->ai)(Lf:Str->88)(_:σ=[some 101,some (.ref pl),some (.ref pr),v3,some (.int<|1+(n:Int))])(_:(∀b o,b≠pr->H4 b=85->H' b=85))(_:H' qs=some (.lst<|ms.map 114))(_:H' pr=some (.dK<|dV ks λk=>.ref (ad k)))(_:(∀k∈ks,H' (ad k)=some (.lst<|(Lf k).map 114)/\∀v,v∈Lf k↔Rc ln k (if k∈ms.take i then n+1 else n) v))(_:(∀k∈ks,∀j,1<=j->j<=n->¬Rc ln k j k))(_:∀k∈ms.take i,¬Rc ln k (n+1) k)
theorem Sy(T:20):fB P w K mg base "_law_fewest_round" [96] 3 (zxd (K:=K)):=by refine T.zfv.has bI (λvs H Q E h=>?_) λf fU A outer s H vs Q E hr h=>?_;{obtain⟨p,pu,pt,x,y,us,az,ts,rfl,_⟩:=h;rfl};{obtain⟨p,pu,pt,x,y,us,az,ts,rfl,hT,t60,k⟩:=h;have hu:=j5 hr;exists _,(zc (sset (i:=1) bI.nd<|bS (L5 T)<|za (pv 0) zd)<|zc (sset (i:=2) bI.nd oR)<|zc (iA bB Z (jd K Z<|gC (G4 (P:=P) (w:=w) Z Z Z) 97 T.sorted lE<|za (nU (G3 (P:=P) (w:=w) (K:=K) Z Z Z Z) 97 T.set pB<|za (nU (DN Z) 97 T.list ig<|za (DJ K Z PySem.F.plainAttrs_dict PySem.F.slot_dict_values PySem.F.type_dict_values DM<|bS (BB T)<|za (pv 0) zd) zd) zd) zd) (eS (i:=3) bI.nd)<|zf<|mQ hu (pv 2) (pv 3) (gG<|za (pv 3) zd) Z)<|zc (iA bB Z (Us 97 T.range<|za ze<|za (fm qG (gC Ju 97 T.len cU<|za (pv 2) zd) ze) zd) (eS (i:=4) bI.nd)<|zf<|iA bB Z (jd K Z<|gC (Y3 Z) 97 T.sorted lE<|za (pv 2) zd) (eS (i:=3) bI.nd)<|zc (mQ hu (pv 2) (pv 3) (gC (G4 (P:=P) (w:=w) Z Z Z) 97 T.sorted lE<|za (nU (G3 (P:=P) (w:=w) (K:=K) Z Z Z Z) 97 T.set pB<|za (rS (own:=["_law_link"]) (cap:=["_law_reached","_law_one"]) (ix:=[2,3]) (mR:=zp (top 73)) Z ⟨Z,50,50,50,50⟩ Z (jd K Z<|pv 1) (λ_ _ _ _=>oQ (i:=0) (show List.Nodup (["_law_link","_law_reached","_law_one"]:88)by kt_k) Z<|Or.inl Z) (λ_ _ _ _=>AK<|zy (Gy K Z) (aK 86 (pv 0) ze) (eZ hu (pv 1) (pv 2) λ_ _=>Z) (by k_in)) λ_ _ _ _=>(aK 86 (pv 0) ze)) zd) zd) Z)<|zf<|dj (zy (Gy K Z) (pv 3) (eZ hu (pv 2) (pv 3) λ_ _=>Z) (by k_in)) (zf<|cH<|pv 4) d8)<|zf<|cH ze);have hlen:=hT.len;have ul:=hT.ul;have iS:=hT.ends;refine⟨_,Z,p,pu,pt,x,y,us,az,ts,Z,hT,λpl ls H1 s1 Ag mX tl=>?_⟩;kd_p;refineλpr Sz=>?_;have s2:=aj.new (o:=.dK []) Sz;have HS:=s1.trans s2;have LQ:H pr=none:=s1.free Sz;kd_p;refine⟨_,Z,p,pu,pt,x,y,us,az,ts,Z,hT.same HS,λpb H3 s3 yP Bq=>?_⟩;refine⟨.inr<|.inr<|.inl ⟨Z,.inl ⟨_,Bq⟩⟩,pb,_,Z,Z,Bq,λpv tU=>?_⟩;have t2:=aj.new (o:=vm pv pb) tU;refine⟨pv,pb,_,Z,zb,t2 _ _ Bq,λl2 oX=>?_⟩;(have Fi:((dN us<|aq ts).map λkv=>kv.2)=(us.map<|aq ts).map 114:=by unfold dN;rw[bK,bK];rfl);rw[show(dN us<|aq ts).map (·.2)=(us.map<|aq ts).map 114 from Fi];have t3:=aj.new (o:=.lst ((us.map<|aq ts).map 114)) oX;refine⟨l2,us.map<|aq ts,Z,aH.of zb,by rw[ay];lia,λps ds uw vH W qW=>?_⟩;have t4:=aj.new (o:=k8 P w ps ds) uw;rw[ay]at qW;refine⟨ps,ds,Z,zb,vH,80,λl3 m3 rW p3 r3=>?_⟩;have em:=K6 hT.nd iS vH W p3 r3;subst em;have Fj:=s3.trans (t2.trans<|t3.trans<|t4.trans<|aj.new (o:=.lst ((79).map 114)) rW);have knd:=vz (ts:=ts) hT.nd;have yI:=hT.k6;have q4:=HS.trans Fj;have wJ:=Fj _ _ (zb (H:=H1) (a:=pr) (o:=.dK []));have Y:=Fj _ _ (s2 _ _ mX);have SA:=(tl.same s2).same Fj;have Fl:=zb (H:=upd (upd (upd H3 pv<|vm pv pb) l2<|.lst<|(us.map<|aq ts).map 114) ps (k8 P w ps ds)) (a:=l3) (o:=.lst ((79).map 114));generalize upd (upd (upd (upd H3 pv<|vm pv pb) l2<|.lst<|(us.map<|aq ts).map 114) ps<|k8 P w ps ds) l3 (.lst<|(79).map 114)=H4 at q4 wJ Y SA Fl;clear Fj t2 t3 t4 oX uw tU Bq vH W qW p3 r3 rW;have SD:=XF (ts:=ts) hlen;(have Fd:ls.length=(jR ts).length:=by rw[SD,ay];have:=tl.len;rw[ay]at this;z_go);(have lkl:(jR ts).length<=60:=by(have:(jR ts).length<=129:=by unfold jR;rw[ay];exact fQ _ _);lia);generalize SE:fE ts 87=ln at k;generalize keysOf ts (aJ us)=ks at*;have Sk:∀{H':Hp},(∀b o,b≠pr->H4 b=85->H' b=85)->aj H H':=λB8 b o e=>B8 b o (zj e LQ) (q4 _ _ e);(have Mp:pl≠pr:=λz=>by rw[z,wJ]at Y;cases Y);(have nl3:l3≠pr:=λz=>by rw[z,wJ]at Fl;cases Fl);refine⟨l3,Z,⟨_,aH.of Fl⟩,mG (xs:=ks.map 114) (λi σ H'=>IvD H4 p pl pr ks i σ H') ⟨none,λ_=>0,Z,λb o _ e=>e,wJ,81⟩ (λi σ H' _ h=>by obtain⟨_,_,_,q,_⟩:=h;exact aH.of<|q _ _ nl3 Fl) ?_ ?_⟩;{rintro i x σ H5 hx⟨v3,S,rfl,kp,U,qB⟩;rw[aT]at hx;cases eu:ks[i]? with|none=>rw[eu]at hx;cases hx|some u=>rw[eu]at hx;cases hx;have hi:=jE eu;(have iO:u∉ks.take i:=by have:=tM knd i hi;rw[show ks[i]=u from(cE.mp eu).2]at this;z_go);kd_p;refine⟨_,Z,(by show 1<=89;walk),λq0 tD=>?_⟩;have t0:=aj.new (o:=.lst [.str u]) tD;have CG:=t0 _ _ U;have nq:q0≠pr:=aG (zj U tD);exists _,Z,_,Z,pr,_,Z,eE.k (k:=Sum.inr u) CG (by rw[iH,bP];exact jC 80);rw[XO iO];(have tk:ks.take (i+1)=ks.take i++[u]:=by rw[aR,eu];rfl);refine⟨_,λk=>if k=u then q0 else S k,Z,λb o n e=>by rw[zi n];exact t0 _ _<|kp b o n e,by rw[zb,tk],λk B=>?_⟩;rw[tk]at B;x_go;rcases oz B with B|B;{have e:k≠u:=λz=>iO (z▸B);have h1:=qB k B;rw[ao e,zi (λz=>by rw[z,U]at h1;cases h1)];exact t0 _ _ h1};{rw[ak B,zi nq,zb,B]}};{rintro σ H5⟨v3,S,rfl,kp,U,qB⟩;rw[ay,bu]at U qB;(have lD:∀f,((dV ks f).length:Int)=ks.length:=λf=>by rw[iH]);exists _,Z,pr,_,Z,U,_,_,Z,Z,1,_,Z,⟨80,80,80,by have:=lD λk=>V.ref (S k);lia⟩;rw[show(((dV ks λk=>V.ref (S k)).length:Int)+1-1).toNat=ks.length by rw[iH];lia];refine BU (lo:=1) (n:=ks.length) (λn σ H'=>IvE H4 p pl pr ks ln n σ H') ⟨v3,none,S,λk=>[k],Z,kp,U,λk B=>⟨qB k B,λv=>?_⟩,λk _ j h1 h2=>80⟩ ?_ ?_;{left;{intro h;(have:v=k:=by simpa using h);subst this;exact⟨[],.nil,Z⟩};{intro h;rw[h.zero];simp}};{rintro n σ H6 hn⟨w3,w4,S,J,rfl,oM,CG,rB,Mq⟩;refine⟨_,Z,pr,_,ks,Z,.inl CG,XM _ _,80,λqs ms SG pm rs=>?_⟩;have t0:=aj.new (o:=.lst (ms.map 114)) SG;have mnd:ms.Nodup:=pm.nodup_iff.mpr knd;have O:=t0 _ _ CG;have nqs:qs≠pr:=aG (zj CG SG);refine⟨qs,Z,⟨_,aH.of zb⟩,mG (xs:=ms.map 114) (λi σ H'=>IvF H4 p pl pr qs n ks ms ln i σ H') ⟨w3,S,J,Z,λb o n e=>t0 _ _<|oM b o n e,zb,O,λk B=>⟨t0 _ _ (rB k B).1,by simpa using(rB k B).2⟩,Mq,81⟩ (λi σ H' _ h=>by obtain⟨_,_,_,_,_,q,_⟩:=h;exact aH.of q) ?_ ?_⟩;{rintro i x σ H7 hx⟨w3,S,J,rfl,wR,Fo,O,tW,HU,HV⟩;rw[aT]at hx;cases eu:ms[i]? with|none=>rw[eu]at hx;cases hx|some u=>rw[eu]at hx;cases hx;have hum:u∈ms:=bM eu;have kI:u∈ks:=pm.mem_iff.mp hum;have hi:=jE eu;(have iO:u∉ms.take i:=by have:=tM mnd i hi;rw[show ms[i]=u from(cE.mp eu).2]at this;z_go);obtain⟨hLu,SH⟩:=tW u kI;rw[ao iO]at SH;have Fp:=wR _ _ Mp Y;have tl7:bU H7 ls ((gk ts 87).map Ks):=SA.fC λb vs e=>wR b _ (λz=>by rw[z,wJ]at e;cases e) e;have Mr:=XJ hlen (L:=J u) (s:=u) (n:=n) (λv=>by rw[SE];exact SH v);rw[SE]at Mr;kd_p;refine⟨_,Z,pl,Z,⟨_,aH.of Fp⟩,λD1 SJ=>?_⟩;refine vn (xu (K:=K) (a:=pl) (xs:=ls.map 122)) (λi rq ys H'=>∃w0,rq=[w0,some (.ref pr),some (.str u)]/\ys=(((jR ts).take i).filter λq=>decide (q.1∈J u)).map (λq=>V.str q.2)/\aj H7 H'/\H' D1=some (.lst ys)) ⟨none,Z,81,aj.new SJ,zb⟩ (λi rq ys H' h=>?_) (by rw[ay];exact i8 80) ?_ ?_;{obtain⟨_,_,rfl,q,hd⟩:=h;exists aH.of<|q _ _ Fp,hd;rw[ay];exact bF (fQ _ _) (by rw[bP];lia)};{rintro i v rq ys H' hx⟨w0,rfl,rfl,q,hd⟩;obtain⟨r,⟨x1,x2,x3,x4⟩,rfl,rA,_,hr⟩:=vp (tl7.same q) hx;have lz:=jE hx;(have sD:(jR ts)[i]?=some (x1,x2):=by rw[SD,aT,rA];rfl);have g':=bL.k (k:=Sum.inr u) (q _ _ O);rw[qw kI]at g';kd_p;exists _,Z,r,_,_,_,Z,Z,aI.of hr,Z,_,Z,_,Z,pr,_,Z,g',S u,_,Z,.inl<|aH.of<|q _ _ hLu,Z;exists by rw[List.all_map];exact eV.mpr λ_ _=>rfl,_,Z;rw[ao bC,Lg];refine bH (λc=>?_) λc=>?_;{refine⟨_,Z,r,_,_,_,Z,Z,aI.of hr,Z,hd,qd (by exact lz) ⟨_,Z,?_,q.upd SJ,zb⟩⟩;rw[aR,sD,gx,aU];simp[aW c]};{refine⟨hd,qd (by exact lz) ⟨_,Z,?_,q,hd⟩⟩;have c:¬x1∈J u:=λz=>c (aO z);rw[aR,sD,gx,aU];simp[c]}};rintro rq ys H8⟨w0,rfl,rfl,t8,CB⟩;rw[ay,Fd,bu]at CB;(have eb:((jR ts).filter λq=>decide (q.1∈J u)).map (λq=>V.str q.2)=(((jR ts).filter λq=>decide (q.1∈J u)).map Prod.snd).map 114:=by rw[bK];rfl);rw[eb]at CB;(have mT:(((jR ts).filter λq=>decide (q.1∈J u)).map Prod.snd).length<=60:=by rw[ay];exact bF (fQ _ _) lkl);generalize((jR ts).filter λq=>decide (q.1∈J u)).map Prod.snd=fu at CB Mr mT;refine⟨D1,fu,Z,aH.of CB,80,λps ds uw vH W qW=>?_⟩;have t9:=aj.new (o:=k8 P w ps ds) uw;refine⟨ps,ds,Z,zb,vH,80,λpz zs SK pz1 rz=>?_⟩;have t10:=aj.new (o:=.lst (zs.map 114)) SK;have t:=t8.trans (t9.trans t10);have Fq:=t _ _ O;have npz:pz≠pr:=aG (zj (t9 _ _<|t8 _ _ O) SK);kd_p;exists _,Z,_,Z,pr,_,Z,eE.k (k:=Sum.inr u) Fq (by rw[iH];exact jC 80);rw[XN Fq kI];(have Ms:∀v,v∈zs↔Rc ln u (n+1) v:=λv=>by rw[pz1.mem_iff,W,Mr]);(have Ft:∀(o':HO)b o,b≠pr->H4 b=85->upd (upd (upd H8 ps<|k8 P w ps ds) pz<|.lst<|zs.map 114) pr o' b=85:=λo' b o n e=>by rw[zi n];exact t _ _<|wR b o n e);(have Fv:∀o',upd (upd (upd H8 ps<|k8 P w ps ds) pz<|.lst<|zs.map 114) pr o' pz=some (.lst<|zs.map 114):=λo'=>by rw[zi npz,zb]);have g2:=bL.k (k:=Sum.inr u) (zb (H:=upd (upd H8 ps<|k8 P w ps ds) pz (.lst<|zs.map 114)) (a:=pr) (o:=.dK (dV ks λk=>.ref (if k=u then pz else S k))));rw[qw kI,ak Z]at g2;kd_p;exists _,Z,_,Z,_,Z,pr,_,Z,g2,pz,_,Z,.inl<|aH.of<|Fv _,Z;exists by rw[List.all_map];exact eV.mpr λ_ _=>rfl,_,Z;rw[ao bC,Lg];refine bH (λc=>?_) λc=>?_;{have c:u∈zs:=aW c;exists _,Z;show Q (.int<|1+(n:Int)) _;rw[show 1+(n:Int)=((1+n:Nat):Int)by lia];exact k (1+n) _ (Sk<|Ft _)<|.inr ⟨80,⟨u,kI,by rw[show 1+n=n+1 by lia];exact(Ms u).mp c⟩,λs hs j h1 h2=>HU s hs j h1 80⟩};{have c:¬Rc ln u (n+1) u:=λz=>c (aO<|(Ms u).mpr z);(have tk:∀z,z∈ms.take (i+1)↔z∈ms.take i\/z=u:=λz=>by rw[aR,eu];simp);refine⟨_,λk=>if k=u then pz else S k,λk=>if k=u then zs else J k,Z,Ft _,?_,zb,λk B=>?_,HU,λk B=>?_⟩;{rw[zi nqs];exact t _ _ Fo};{by_cases e:k=u;{k_go;show upd _ pr _ (if k=k then pz else S k)=some (.lst<|(if k=k then zs else J k).map 114)/\∀v,v∈(if k=k then zs else J k)↔_;rw[ak Z,ak Z,ak ((tk k).mpr<|.inr Z),Fv];exact⟨Z,Ms⟩};{show upd _ pr _ (if k=u then pz else S k)=some (.lst<|(if k=u then zs else J k).map 114)/\∀v,v∈(if k=u then zs else J k)↔_;obtain⟨h1,h2⟩:=tW k B;rw[ao e,ao e,zi (λz=>by rw[z,O]at h1;cases h1)];exists t _ _ h1;have:(k∈ms.take (i+1))=(k∈ms.take i):=propext ⟨λz=>((tk k).mp z).elim id λy=>absurd y e,λz=>(tk k).mpr<|.inl z⟩;simp only[this];exact h2}};{rcases(tk k).mp B with h|rfl;{exact HV k h};{exact c}}}};{rintro σ H7⟨w3,S,J,rfl,wR,Fo,O,tW,HU,HV⟩;rw[ay,bu]at tW HV;refine⟨_,_,S,J,Z,wR,O,λk B=>⟨(tW k B).1,λv=>?_⟩,λk B j h1 h2=>?_⟩;{have:=(tW k B).2 v;rwa[ak (pm.mem_iff.mpr B)]at this};{by_cases c:j<=n;{exact HU k B j h1 c};{(have:j=n+1:=by lia);subst this;exact HV k<|pm.mem_iff.mpr B}}}};{rintro σ H6⟨w3,w4,S,J,rfl,oM,CG,rB,Mq⟩;exact k 0 _ (Sk oM)<|.inl ⟨Z,Mq⟩}}}
def SM(lo hi:Int)(us:88)(az:List ai)(ts:List dW)(af:List ai)(fs:List fY)(v:V):Prop:=(v=.cz/\dZ lo hi us az ts af fs)\/∃n:Nat,v=.int n/\(∃k∈keysOf ts (aJ us),∃c m,Up (bz ts 87) (i6 ts lo 92) k c/\i7 ts hi 92 k m/\m.1<c.1/\c.2.2.length=n)/\∀k∈keysOf ts (aJ us),∀c m,Up (bz ts 87) (i6 ts lo 92) k c->i7 ts hi 92 k m->c.2.2.length<n->c.1<=m.1
inductive sV(vs:99)(H:Hp)(Q:VK):Prop|mk p pm pu pt pf lo hi us az ts af fs(_:vs=[101])(_:gp K H p pm pu pt pf lo hi us az ts af fs)(_:130<=60)(_:mj (fE ts 87) 79)(_:∀v H',aj H H'->SM lo hi us az ts af fs v->Q v H')
def zxe:Sp:=λj H Q _=>sV (K:=K) j H Q
inductive IvA(H4:Hp)(p pb pl ph:ai)(lo hi:Int)(ts:List dW)(fs:List fY)(keys:88)(i:Nat)(σ:St)(H':Hp):Prop|mk v4(_:σ=[some 101,some (.ref pb),some (.ref pl),some (.ref ph),v4,none,none,none,none,none,none])(_:(∀b o,b≠pl->b≠ph->H4 b=85->H' b=85))(_:H' pl=some (.dK<|dV (keys.take i) λk=>.int (iE ts fs lo k)))(_:H' ph=some (.dK<|dV (keys.take i) λk=>.int (nZ ts fs hi k)))
inductive IvB(H2:Hp)(p pb pl ph:ai)(ts:List dW)(az:List ai)(F G:Str->IS->Prop)(keys:88)(m:Nat)(σ:St)(H':Hp):Prop|mk CH M v v4 v5 v6 v7 v8 v9 v10(_:σ=[some 101,some (.ref pb),some (.ref CH),some (.ref ph),v4,v5,v6,v7,v8,v9,v10])(_:(∀b o,b≠pl->H2 b=85->H' b=85))(_:(∃o,H' pl=85))(_:(CH=pl\/H2 CH=none))(_:H' CH=some (.dK<|dV M λk=>.int (v k).1))(_:mq (bz ts 87) F keys m M v)(_:∀k∈keys,∀c mm,Up (bz ts 87) F k c->G k mm->c.2.2.length<m->c.1<=mm.1)
inductive IvC(H6:Hp)(p pb CH ph pd:ai)(v4:Option V)(m:Nat)(ts:List dW)(az:List ai)(M keys:88)(v:Str->jM)(j:Nat)(σ:St)(H':Hp):Prop|mk v6 v7 v8 v9 M'(v':Str->jM)(_:σ=[some 101,some (.ref pb),some (.ref CH),some (.ref ph),v4,some (.int<|0+(m:Int)),some (.ref pd),v6,v7,v8,v9])(_:(∀b o,b≠pd->H6 b=85->H' b=85))(_:H' pd=some (.dK<|dV M' λk=>.int (v' k).1))(_:M'.Nodup)(_:(∀k∈M',k∈keys))(_:∀k,n8 (bz ts 87) M v k (bz ts ((vD 87).take j) k) (k∈M') (v' k))
theorem SN(T:20):fB P w K mg base "_law_fewest_row" [96] 4 (zxe (K:=K)):=by refine T.zhf.has aL (λvs H Q E h=>?_) λf fU A outer s H vs Q E hr h=>?_;{obtain⟨p,pm,pu,pt,pf,lo,hi,us,az,ts,af,fs,rfl,_⟩:=h;rfl};{obtain⟨p,pm,pu,pt,pf,lo,hi,us,az,ts,af,fs,rfl,hF,f60,nr,k⟩:=h;have hu:=j5 hr;exists _,(zc (sset (i:=1) aL.nd<|bS (BB T)<|za (pv 0) zd)<|zc (sset (i:=2) aL.nd oR)<|zc (sset (i:=3) aL.nd oR)<|zc (iA bB Z (jd K Z<|gC (G4 (P:=P) (w:=w) Z Z Z) 97 T.sorted lE<|za (nU (G3 (P:=P) (w:=w) (K:=K) Z Z Z Z) 97 T.set pB<|za (nU (DN Z) 97 T.list ig<|za (DJ K Z PySem.F.plainAttrs_dict PySem.F.slot_dict_values PySem.F.type_dict_values DM<|pv 1) zd) zd) zd) (eS (i:=4) aL.nd)<|zc (mQ hu (pv 2) (pv 4) (gC (zwm K Z Z) 97 T.max pA<|za (fm xm (gG<|za (aK 86 (aK 86 (pv 0) ze) ze) zd)<|rS (own:=["_law_find_here"]) (cap:=["_law_one",116]) (ix:=[4,1]) (mR:=zp (top 74)) Z ⟨Z,50,50,50,50⟩ Z (jd K Z<|aK 86 (pv 0) ze) (λ_ _ _ _=>oQ (i:=0) (show List.Nodup (["_law_find_here","_law_one",116]:88)by kt_k) Z<|Or.inl Z) (λ_ _ _ _=>AK<|zy kM (eZ hu (pv 2) (aK 86 (pv 0) ze) λ_ _=>Z) (pv 1)<|c6 _) λ_ _ _ _=>(aK 86 (pv 0) ze)) zd) Z)<|zf<|mQ hu (pv 3) (pv 4) (gC (zwn K Z Z) 97 T.min nC<|za (fm xm (gG<|za (aK 86 (aK 86 (pv 0) ze) ze) zd)<|rS (own:=["_law_find_here"]) (cap:=["_law_one",116]) (ix:=[4,1]) (mR:=zp (top 74)) Z ⟨Z,50,50,50,50⟩ Z (jd K Z<|aK 86 (pv 0) ze) (λ_ _ _ _=>oQ (i:=0) (show List.Nodup (["_law_find_here","_law_one",116]:88)by kt_k) Z<|Or.inl Z) (λ_ _ _ _=>AK<|zy kM (eZ hu (pv 2) (aK 86 (pv 0) ze) λ_ _=>Z) (pv 1)<|c6 _) λ_ _ _ _=>(aK 86 (pv 0) ze)) zd) Z)<|zc (iA bB Z (CY 97 T.range<|za (gC Ju 97 T.len cU<|za (pv 3) zd) zd) (eS (i:=5) aL.nd)<|zc (Ef<|dj (zy (Gy K Z) ly (rS (own:=["_law_one"]) (cap:=["_law_lows","_law_highs"]) (ix:=[2,3]) (mR:=zp (top 74)) Z ⟨Z,50,50,50,50⟩ Z (xx<|pv 2) (λ_ _ _ _=>oQ (i:=0) (show List.Nodup (["_law_one","_law_lows","_law_highs"]:88)by kt_k) Z<|Or.inl Z) (λ_ _ _ _=>xq) λ_ _ _ _=>(xg xO (eZ hu (pv 1) (pv 0) λ_ _=>Z) (eZ hu (pv 2) (pv 0) λ_ _=>Z)<|c6 _)) (by k_in)) (zf<|cH<|pv 5) d8)<|zc (sset (i:=6) aL.nd oR)<|zc (iA bB Z (jd K Z<|bS (L5 T)<|za (pv 0) zd) (qZ K Z Z<|jB (eS (i:=7) aL.nd)<|jB (eS (i:=8) aL.nd)<|jB (eS (i:=9) aL.nd)<|jB (eS (i:=10) aL.nd) qX)<|zf<|Ef<|dj (qF<|BZ hu (pv 8)<|pv 2) (zf<|mQ hu (pv 6) (pv 7) (gC (Nk Z) 97 T.max pA<|za (VA hu (pv 6) (pv 7) (fm qG (eZ hu (pv 2) (pv 8) λ_ _=>Z)<|pv 9) ⟨Z,Z,Z,Z⟩)<|za (fm qG (eZ hu (pv 2) (pv 8) λ_ _=>Z)<|pv 9) zd) Z) d8)<|zf<|sset (i:=2) aL.nd<|pv 6)<|zf<|cH Am);have iS:=hF.cB.ends;have knd:=vz (ts:=ts) hF.cB.nd;have lk:=hF.cB.k6;have lf:=hF.mT;have ul:=hF.cB.ul;have cl:=yw (az:=az) hF.cB.ends;refine⟨_,Z,p,pu,pt,_,_,us,az,ts,Z,hF.cB,λpb H0 s0 yP hb=>?_⟩;kd_p;refineλpl mX=>?_;have t1:=aj.new (o:=.dK []) mX;kd_p;refineλph xE=>?_;have t2:=aj.new (o:=.dK []) xE;have qz:=t2 _ _ (t1 _ _ hb);kd_p;refine⟨_,Z,.inr<|.inr<|.inl ⟨Z,.inl ⟨_,qz⟩⟩,pb,_,Z,Z,qz,λpv tU=>?_⟩;have u2:=aj.new (o:=vm pv pb) tU;refine⟨pv,pb,_,Z,zb,u2 _ _ qz,λl2 oX=>?_⟩;(have Fi:((dN us<|aq ts).map λkv=>kv.2)=(us.map<|aq ts).map 114:=by unfold dN;rw[bK,bK];rfl);rw[show(dN us<|aq ts).map (·.2)=(us.map<|aq ts).map 114 from Fi];have u3:=aj.new (o:=.lst ((us.map<|aq ts).map 114)) oX;refine⟨l2,us.map<|aq ts,Z,aH.of zb,by rw[ay];lia,λps ds uw vH yV qW=>?_⟩;have u4:=aj.new (o:=k8 P w ps ds) uw;rw[ay]at qW;refine⟨ps,ds,Z,zb,vH,80,λl3 m3 rW p3 r3=>?_⟩;have em:=K6 hF.cB.nd iS vH yV p3 r3;subst em;have u5:=u2.trans (u3.trans<|u4.trans<|aj.new (o:=.lst ((79).map 114)) rW);have q4:=s0.trans (t1.trans<|t2.trans u5);have S:=u5 _ _ (t2 _ _<|zb (H:=H0) (a:=pl) (o:=.dK []));have CI:=u5 _ _ (zb (H:=upd H0 pl (.dK [])) (a:=ph) (o:=.dK []));have CF:=u5 _ _ qz;have wN:=zb (H:=upd (upd (upd (upd (upd H0 pl<|.dK []) ph<|.dK []) pv<|vm pv pb) l2<|.lst<|(us.map<|aq ts).map 114) ps (k8 P w ps ds)) (a:=l3) (o:=.lst ((79).map 114));have Ab:pb≠pl:=zj hb mX;have nph:pb≠ph:=zj (t1 _ _ hb) xE;have Ag:H pl=none:=s0.free mX;have Fx:H ph=none:=s0.free (t1.free xE);(have yW:pl≠ph:=λz=>by rw[←z,zb]at xE;cases xE);generalize upd (upd (upd (upd (upd (upd H0 pl<|.dK []) ph<|.dK []) pv<|vm pv pb) l2<|.lst<|(us.map<|aq ts).map 114) ps<|k8 P w ps ds) l3 (.lst<|(79).map 114)=H4 at q4 S CI CF wN;clear u5 u2 u3 u4 t2 t1 oX uw tU qz vH yV qW p3 r3 rW;have fe:=λk=>QC (ts:=ts) (lo:=lo) lf k;have ce:=λk=>QD (ts:=ts) (hi:=hi) lf k;have uF:∀k m,i6 ts lo 92 k m->m.1=iE ts fs lo k:=λk m h=>h.low lf;have uG:∀k m,i7 ts hi 92 k m->m.1=nZ ts fs hi k:=λk m h=>h.high lf;rw[vC]at nr;have L6:=Qq (us:=us) (ts:=ts) (az:=az) iS;unfold SM dZ Qz at k;generalize eF:i6 ts lo 92=F at*;generalize eG:i7 ts hi 92=G at*;generalize keysOf ts (aJ us)=keys at*;have hbs:∀k l b,(l,b)∈bz ts 87 k->k∈keys/\l∈keys:=cl;(have put:∀(f:Str->Int)(i:Nat)(u:Str),keys[i]?=some u->putK (dV (keys.take i) λk=>.int (f k)) (Sum.inr u) (.int<|f u)=dV (keys.take<|i+1) λk=>.int (f k):=λf i u eu=>by have hi:=jE eu;(have iO:u∉keys.take i:=by have:=tM knd i hi;rw[show keys[i]=u from(cE.mp eu).2]at this;z_go);rw[ur iO,aR,eu];refine tN λz _=>?_;by_cases e:z=u;{rw[ak e,e]};{rw[ao e]});exists l3,Z,⟨_,aH.of wN⟩;refine mG (K:=K) (a:=l3) (xs:=keys.map 114) (λi σ H'=>IvA H4 p pb pl ph lo hi ts fs keys i σ H') ⟨none,Z,λb o _ _ e=>e,S,CI⟩ (λi σ H' _ h=>by obtain⟨_,_,q,_⟩:=h;exact aH.of<|q _ _ (jO wN S (by intro z;cases z)) (jO wN CI (by intro z;cases z)) wN) ?_ ?_;{rintro i x σ H5 U⟨v4,rfl,kp,sI,CJ⟩;rw[aT]at U;cases eu:keys[i]? with|none=>rw[eu]at U;cases U|some u=>rw[eu]at U;cases U;have Gr:=jE eu;have S5:aj H H5:=λb o e=>kp b o (zj e Ag) (zj e Fx) (q4 _ _ e);have Af:=kp _ _ Ab nph CF;have F5:=hF.same S5;kd_p;have Mt:=Af;refine⟨_,Z,p,_,_,_,Z,Z,F5.cB.p,Z,pm,_,_,_,Z,Z,F5.m,Z,by show 1<=89;walk,λe0 yU=>?_⟩;have w1:=aj.new (o:=.lst [.int lo]) yU;have F1:=F5.same w1;have b1:=w1 _ _ Mt;refine⟨_,Z,p,_,_,_,Z,Z,F1.cB.p,Z,pf,Z,⟨_,F1.f⟩,λD hD=>?_⟩;refine vn (xu (K:=K) (a:=pf) (xs:=af.map 122)) (λj J ys H'=>∃w0,J=[w0,some (.str u),some (.ref pb)]/\ys=(((fs.take j).filter λf=>decide (aq ts f.u=u)).map fY.lo).map V.int/\aj (upd H5 e0<|.lst [.int lo]) H'/\H' D=some (.lst ys)) ⟨none,Z,81,aj.new hD,zb⟩ (λi J ys H' h=>?_) (by rw[ay];exact i8 80) ?_ ?_;{obtain⟨_,_,rfl,q,hd⟩:=h;exists(F1.same q).f,hd;rw[ay,ay];exact bF (fQ _ _) (by rw[bP];lia)};{rintro j v J ys H' U⟨w0,rfl,rfl,q,hd⟩;have lz:=jE U;obtain⟨r,f,rfl,hf,_,qm⟩:=vp (F1.same q).ft U;have g:=bL.k (k:=Sum.inr f.u) (q _ _ b1);rw[oH (hF.fu f<|bM hf)]at g;kd_p;exists _,Z,_,Z,r,_,_,_,Z,Z,aI.of qm,Ec f,pb,_,Z,g,_,Z,Z,_,Z;refine bH (λc=>?_) λc=>?_;{have c:aq ts f.u=u:=V.str.inj (aW c);refine⟨_,Z,r,_,_,_,Z,Z,aI.of qm,G6 f,hd,qd (by exact lz) ⟨_,Z,?_,q.upd hD,zb⟩⟩;rw[aR,hf,gx,aU,aU];simp[c]};{have c:¬aq ts f.u=u:=λz=>c (aO<|bw 114 z);refine⟨hd,qd (by exact lz) ⟨_,Z,?_,q,hd⟩⟩;rw[aR,hf,gx,aU,aU];simp[c]}};rintro J ys Mu⟨_,rfl,rfl,x1,wK⟩;rw[ay,lf,bu]at wK;refine⟨e0,D,_,_,Z,Z,x1 _ _ zb,wK,?_,λc1 BC=>?_⟩;{rw[ay,ay];exact i8 (by have:=fQ (λf:fY=>decide<|aq ts f.u=u) fs;show 1+_<=1000;lia)};refine⟨c1,lo::(fs.filter λf=>decide (aq ts f.u=u)).map fY.lo,Z,aH.of zb,81,λm hm Mv=>?_⟩;rw[z3h hm Mv];have y1:=w1.trans (x1.trans<|aj.new (o:=.lst ([.int lo]++(((fs.filter λf=>decide (aq ts f.u=u)).map fY.lo).map V.int))) BC);exists _,Z,_,Z,pl,_,Z,eE.k (k:=Sum.inr u) (y1 _ _ sI) (by rw[iH,bP];exact jC 80);rw[put _ i u eu];(have oM:∀b o,b≠pl->H5 b=85->upd (upd Mu c1<|.lst<|[.int lo]++(((fs.filter λf=>decide (aq ts f.u=u)).map fY.lo).map V.int)) pl (.dK<|dV (keys.take<|i+1) λk=>.int (iE ts fs lo k)) b=85:=λb o n e=>by rw[zi n];exact y1 _ _ e);have yO:=zb (H:=upd Mu c1 (.lst<|[.int lo]++(((fs.filter λf=>decide (aq ts f.u=u)).map fY.lo).map V.int))) (a:=pl) (o:=.dK (dV (keys.take<|i+1) λk=>.int (iE ts fs lo k)));generalize upd (upd Mu c1<|.lst<|[.int lo]++(((fs.filter λf=>decide (aq ts f.u=u)).map fY.lo).map V.int)) pl (.dK<|dV (keys.take<|i+1) λk=>.int (iE ts fs lo k))=H6 at oM yO;clear y1 x1 w1 F1 b1 wK BC hD yU;have HW:=oM _ _ (aG yW) CJ;have hb6:=oM _ _ Ab Af;have F6:=hF.same (λb o e=>oM b o (zj e Ag)<|S5 _ _ e);kd_p;have Mw:=hb6;refine⟨_,Z,p,_,_,_,Z,Z,F6.cB.p,Z,pm,_,_,_,Z,Z,F6.m,Z,by show 1<=89;walk,λe3 Fg=>?_⟩;have w2:=aj.new (o:=.lst [.int hi]) Fg;have F2:=F6.same w2;have b2:=w2 _ _ Mw;refine⟨_,Z,p,_,_,_,Z,Z,F2.cB.p,Z,pf,Z,⟨_,F2.f⟩,λE0 hE=>?_⟩;refine vn (xu (K:=K) (a:=pf) (xs:=af.map 122)) (λj J ys H'=>∃w0,J=[w0,some (.str u),some (.ref pb)]/\ys=(((fs.take j).filter λf=>decide (aq ts f.u=u)).map fY.hi).map V.int/\aj (upd H6 e3<|.lst [.int hi]) H'/\H' E0=some (.lst ys)) ⟨none,Z,81,aj.new hE,zb⟩ (λi J ys H' h=>?_) (by rw[ay];exact i8 80) ?_ ?_;{obtain⟨_,_,rfl,q,hd⟩:=h;exists(F2.same q).f,hd;rw[ay,ay];exact bF (fQ _ _) (by rw[bP];lia)};{rintro j v J ys H' U⟨w0,rfl,rfl,q,hd⟩;have lz:=jE U;obtain⟨r,f,rfl,hf,_,qm⟩:=vp (F2.same q).ft U;have g:=bL.k (k:=Sum.inr f.u) (q _ _ b2);rw[oH (hF.fu f<|bM hf)]at g;kd_p;exists _,Z,_,Z,r,_,_,_,Z,Z,aI.of qm,Ec f,pb,_,Z,g,_,Z,Z,_,Z;refine bH (λc=>?_) λc=>?_;{have c:aq ts f.u=u:=V.str.inj (aW c);refine⟨_,Z,r,_,_,_,Z,Z,aI.of qm,G7 f,hd,qd (by exact lz) ⟨_,Z,?_,q.upd hE,zb⟩⟩;rw[aR,hf,gx,aU,aU];simp[c]};{have c:¬aq ts f.u=u:=λz=>c (aO<|bw 114 z);refine⟨hd,qd (by exact lz) ⟨_,Z,?_,q,hd⟩⟩;rw[aR,hf,gx,aU,aU];simp[c]}};rintro J ys H27⟨_,rfl,rfl,x2,hd2⟩;rw[ay,lf,bu]at hd2;refine⟨e3,E0,_,_,Z,Z,x2 _ _ zb,hd2,?_,λW L4=>?_⟩;{rw[ay,ay];exact i8 (by have:=fQ (λf:fY=>decide<|aq ts f.u=u) fs;show 1+_<=1000;lia)};refine⟨W,hi::(fs.filter λf=>decide (aq ts f.u=u)).map fY.hi,Z,aH.of zb,81,λm hm Mv=>?_⟩;rw[zy9 hm Mv];have y1:=w2.trans (x2.trans<|aj.new (o:=.lst ([.int hi]++(((fs.filter λf=>decide (aq ts f.u=u)).map fY.hi).map V.int))) L4);exists _,Z,_,Z,ph,_,Z,eE.k (k:=Sum.inr u) (y1 _ _ HW) (by rw[iH,bP];exact jC 80);rw[put _ i u eu];exact⟨_,Z,λb o n n' e=>by rw[zi n'];exact y1 _ _<|oM _ _ n<|kp _ _ n n' e,by rw[zi yW];exact y1 _ _ yO,zb⟩};rintro σ H2⟨v4,rfl,EK,oX,HX⟩;rw[ay,bu]at oX HX;have HS:aj H H2:=λb o e=>EK b o (zj e Ag) (zj e Fx) (q4 _ _ e);clear EK put S CI CF wN q4;obtain⟨w0,hw0⟩:∃w0:Str->Str,∀k,F k (iE ts fs lo k,w0 k):=⟨λk=>(Classical.choose<|fe k).2,λk=>by have h:=Classical.choose_spec (fe k);have e:(iE ts fs lo k,(Classical.choose<|fe k).2)=Classical.choose (fe k):=Prod.ext h.2.symm Z;rw[e];exact h.1⟩;have R0:mq (bz ts 87) F keys 0 keys (λk=>(iE ts fs lo k,w0 k,[])):=mq.zero knd (λk hk=>⟨Z,hw0 k⟩) (λk m m' h h'=>by rw[uF k m h,uF k m' h']);have hh:∀{H':Hp},(∀b o,b≠pl->H2 b=85->H' b=85)->aj H H':=λkp b o e=>kp b o (zj e Ag) (HS _ _ e);(have ldk:((dV keys λk=>V.int (nZ ts fs hi k)).length:Int)=132:=by rw[iH]);refine⟨_,Z,ph,_,Z,HX,((dV keys λk=>V.int (nZ ts fs hi k)).length:Int),Z,80,by rw[iH];lia,BU (lo:=0) (n:=(dV keys λk=>V.int (nZ ts fs hi k)).length) (λm σ H'=>IvB H2 p pb pl ph ts az F G keys m σ H') ⟨pl,keys,_,v4,none,none,none,none,none,none,Z,λb o _ e=>e,⟨_,oX⟩,.inl Z,oX,R0,λk hk c m _ _ z=>absurd z<|Nat.not_lt_zero _⟩ ?_ ?_⟩;{rintro m σ H3 hm⟨B,M,v,v4,v5,v6,v7,v8,v9,v10,rfl,Mx,⟨opl,Fy⟩,BR,rW,Rn,sm⟩;(have hm:m<132:=by rw[iH]at hm;exact hm);have nhx:ph≠B:=BR.elim (λz=>z▸aG yW) (λz=>zj HX z);kd_p;refine .fL B _ rW λo1=>.go ?_;(have Cv:∀b o,b≠pl->H2 b=85->upd H3 B (.fL o1<|.dK<|dV M λk=>.int (v k).1) b=85:=λb o n e=>by rw[zi (BR.elim (λz=>z▸n) λz=>zj e z)];exact Mx b o n e);(have wV:∃o,upd H3 B (.fL o1<|.dK<|dV M λk=>.int (v k).1) pl=85:=by by_cases z:pl=B;{rw[z];exact⟨_,zb⟩};{rw[zi z];exact⟨_,Fy⟩});have S:upd H3 B (.fL o1<|.dK<|dV M λk=>.int (v k).1) B=some (.fL o1<|.dK<|dV M λk=>.int (v k).1):=zb;generalize upd H3 B (.fL o1<|.dK<|dV M λk=>.int (v k).1)=H4 at Cv S wV;obtain⟨agh,wV⟩:=wV;have CI:=Cv _ _ (aG yW) HX;(have lM:M.length<=63:=by have:=vq (us:=keys) Rn.nd Rn.sub;lia);refine oU (M.any λk=>decide (nZ ts fs hi k<(v k).1)) (λQ' hQ=>?_) λH5 s5=>?_;{refine⟨_,Z,B,o1,_,Z,S,λE hE=>?_⟩;refine vn (K0 (a:=B) (ob:=o1) (kvs:=dV M λk=>.int (v k).1)) (λi J ys H'=>∃w0,J=[w0,some (.ref B),some (.ref ph)]/\ys=(M.take i).map (λk=>V.bl<|decide<|nZ ts fs hi k<(v k).1)/\aj H4 H'/\H' E=some (.lst ys)) ⟨none,Z,81,aj.new hE,zb⟩ (λi J ys H' h=>?_) (by rw[ay,iH];exact i8 80) ?_ ?_;{obtain⟨_,_,rfl,q,hd⟩:=h;exists q _ _ S,hd;rw[ay,bP];lia};{rintro i x J ys H' U⟨w0,rfl,rfl,q,hd⟩;have lz:=jE U;rw[GP,aT]at U;cases eu:M[i]? with|none=>rw[eu]at U;cases U|some u=>rw[eu]at U;cases U;have CK:u∈M:=bM eu;have g2:=bL.k (k:=Sum.inr u) (q _ _ CI);rw[qw (Rn.sub u CK)]at g2;kd_p;unfold qa;fin2;rw[ak Z];refine⟨_,Z,_,Z,B,_,Z,m8 (q _ _ S) CK,_,Z,_,Z,ph,_,Z,g2,_,_,Z,Z,hd,qd lz ⟨_,Z,?_,q.upd hE,zb⟩⟩;rw[aR,eu,aU];rfl};rintro J ys H5⟨w0,rfl,rfl,q5,SO⟩;rw[ay,iH,bu]at SO;exists E,_,Z,.inl<|aH.of SO,Z,eV.mpr λv hv=>by obtain⟨_,_,rfl⟩:=aD.mp hv;rfl,_,Z;(have ei:xh (.bl true) (M.map λk=>V.bl<|decide<|nZ ts fs hi k<(v k).1)=M.any λk=>decide (nZ ts fs hi k<(v k).1):=by unfold xh;rw[List.any_map];congr 1;funext k;rw[Function.comp_apply];cases decide (nZ ts fs hi k<(v k).1)<;>rfl);rw[ao bC,ei];exact hQ _ q5};have rC:∀b o,b≠pl->H2 b=85->H5 b=85:=λb o n e=>s5 _ _ (Cv b o n e);refine bH (λc=>?_) λc=>?_;{obtain⟨u,CK,rR⟩:=jt.mp c;have rR:=aW rR;obtain⟨mm,hg,he⟩:=ce u;refine⟨_,Z,k _ _ (hh rC)<|.inr ⟨m,by rw[Int.zero_add],⟨u,Rn.sub u CK,v u,mm,(Rn.is u CK).1,hg,80,(Rn.is u CK).2⟩,sm⟩⟩};{have c:∀u∈M,(v u).1<=nZ ts fs hi u:=λu hu=>Int.not_lt.mp λz=>c (jt.mpr ⟨u,hu,aO z⟩);have sI:=s5 _ _ S;(try unfold mO);x_go;refineλpd mU=>?_;have t6:=aj.new (o:=.dK []) mU;kd_p;refine⟨_,Z,p,pu,pt,_,_,us,az,ts,Z,(hF.same<|(hh rC).trans t6).cB,λpk ls H6 s6 Sh Fc tl=>?_⟩;(have Fd:ls.length=(gk ts 87).length:=by have:=tl.len;rw[ay]at this;z_go);have npk:pk≠pd:=aG (zj (zb (H:=H5) (a:=pd) (o:=.dK [])) Sh);exists pk,Z,⟨_,aH.of Fc⟩;refine mG (K:=K) (a:=pk) (xs:=ls.map 122) (λj σ H'=>IvC H6 p pb B ph pd v4 m ts az M keys v j σ H') ⟨_,_,_,_,[],λ_=>(0,"",[]),Z,λb o _ e=>e,s6 _ _ zb,iK,λk hk=>by simp at hk,λk=>n8.nil 81⟩ (λj σ H' _ h=>by obtain⟨_,_,_,_,_,_,_,q,_⟩:=h;exact aH.of<|q _ _ npk Fc) ?_ ?_;{rintro j x σ H7 U⟨v6,v7,v8,v9,M',v',rfl,q7,Y,BD,BE,O⟩;obtain⟨r,q,rfl,rA,wI,qm⟩:=vp tl U;have hr7:=q7 _ _ (jO qm (s6 _ _<|zb (H:=H5) (a:=pd) (o:=.dK [])) (by intro z;cases z)) qm;obtain⟨b,hb,rfl,hbr⟩:=ZF rA;obtain⟨kI,sD⟩:=cl _ _ _ hbr;have CL:=q7 _ _ (zj sI mU) (s6 _ _<|t6 _ _ sI);have rt:=λk=>ZE (ts:=ts) (k:=k) hb;exists r,_,Z,aI.of hr7,Z,_,_,Z,_,_,Z,_,_,Z,_,_,Z,Z;kd_p;refine .go<|yb (decide<|aq ts b.1.b∈M) (λQ' hQ=>?_) ?_;{by_cases W:aq ts b.1.b∈M;{exists _,Z,_,Z,B,_,Z,m8 CL W;rw[aO W]at hQ;exact⟨_,Z,hQ⟩};{exists _,Z,_,Z,B,none,Z,Qw CL W;rw[aN W]at hQ;exact⟨_,Z,hQ⟩}};refine bH (λW=>?_) λW=>?_;{have W:=aW W;(have lM':M'.length<=63:=by have:=vq (us:=keys) BD BE;lia);have go:∀(o:Option V),bL H7 pd (.str<|aq ts b.1.a) o->∀(y:Int),o.getD (.int<|(v<|aq ts b.1.b).1+dH b.1)=.int y->True:=λ_ _ _ _=>trivial;have gd:=bL.k (k:=Sum.inr (aq ts b.1.a)) Y;(have wW:∀(L:88)(w:Str->jM),(∀z,z≠aq ts b.1.a->w z=v' z)->∀(y:Int),y=(w<|aq ts b.1.a).1->(dV L λz=>if z=aq ts b.1.a then V.int y else V.int (v' z).1)=dV L λk=>V.int (w k).1:=λL w hw y hy=>tN λz _=>by by_cases e:z=aq ts b.1.a;{rw[ak e,hy,e]};{rw[ao e,hw z e]});by_cases c3:aq ts b.1.a∈M';{rw[qw c3]at gd;exists _,Z,pd,Z,.inl ⟨_,.inl Y⟩,_,Z,_,Z,_,Z,B,_,Z,m8 CL W,_,Z,_,_,Z,Z,_,gd,_,Z,_,Z,B,_,Z,m8 CL W,_,Z,_,_,Z,Z,_,_,Z;exists _,Z,_,Z,pd,_,Z,eE.k (k:=Sum.inr (aq ts b.1.a)) Y (by rw[iH];exact jC 80);rw[DU c3];by_cases c4:(v'<|aq ts b.1.a).1<(v<|aq ts b.1.b).1+dH b.1;{rw[ak c4,wW M' (λz=>if z=aq ts b.1.a then((v<|aq ts b.1.b).1+dH b.1,(v<|aq ts b.1.b).2.1,(v<|aq ts b.1.b).2.2++[b])else v' z) (λz n=>ao n) _ (by rw[ak Z])];refine⟨_,_,_,_,M',_,Z,λb o n e=>by rw[zi n];exact q7 _ _ n e,zb,BD,BE,λk=>?_⟩;rw[rt];x_go;by_cases e:aq ts b.1.a=k;{k_go;rw[ak Z,ak Z];exact(O _).take W c3 (λ_=>c4) Z};{rw[ao e,ao (aG e),e9];exact O k}};{rw[ao c4,wW M' v' (λz n=>Z) _ Z];refine⟨_,_,_,_,M',v',Z,λb o n e=>by rw[zi n];exact q7 _ _ n e,zb,BD,BE,λk=>?_⟩;rw[rt];by_cases e:aq ts b.1.a=k;{k_go;rw[ak Z];exact(O _).fC c3 80};{rw[ao e,e9];exact O k}}};{rw[AZ c3]at gd;exists _,Z,pd,Z,.inl ⟨_,.inl Y⟩,_,Z,_,Z,_,Z,B,_,Z,m8 CL W,_,Z,_,_,Z,Z,_,gd,_,Z,_,Z,B,_,Z,m8 CL W,_,Z,_,_,Z,Z,_,_,Z;exists _,Z,_,Z,pd,_,Z,eE.k (k:=Sum.inr (aq ts b.1.a)) Y (by rw[iH];exact jC 80);rw[ur c3,ite_self,wW (M'++[aq ts b.1.a]) (λz=>if z=aq ts b.1.a then((v<|aq ts b.1.b).1+dH b.1,(v<|aq ts b.1.b).2.1,(v<|aq ts b.1.b).2.2++[b])else v' z) (λz n=>ao n) _ (by rw[ak Z])];refine⟨_,_,_,_,M'++[aq ts b.1.a],_,Z,λb o n e=>by rw[zi n];exact q7 _ _ n e,zb,?_,λk hk=>?_,λk=>?_⟩;{rw[jq];refine⟨BD,81,λa ha b' rj e=>?_⟩;(have rj:b'=aq ts b.1.a:=by simpa using rj);exact c3<|rj▸e▸ha};{rcases oz hk with z|z;{exact BE k z};{rw[z];exact kI}};{rw[rt];x_go;by_cases e:aq ts b.1.a=k;{k_go;rw[ak Z,ak Z];exact(O _).take W 81 (λz=>absurd z c3) Z};{rw[ao e,ao (aG e),e9];refine(O k).congr ⟨λz=>ir _ z,λz=>?_⟩ Z;rcases oz z with z|z;{exact z};{exact absurd z.symm e}}}}};{have W:aq ts b.1.b∉M:=λz=>W (aO z);refine⟨_,_,_,_,M',v',Z,q7,Y,BD,BE,λk=>?_⟩;rw[rt];by_cases e:aq ts b.1.a=k;{rw[ak e];exact(O k).skip W};{rw[ao e,e9];exact O k}}};{rintro σ H7⟨v6,v7,v8,v9,M',v',rfl,q7,Y,BD,BE,O⟩;have q7:aj H5 H7:=λb o e=>q7 b o (zj e mU) (s6 _ _<|t6 _ _ e);rw[ay,Fd,ZG,bu]at O;refine⟨_,Z,pd,M',v',_,_,_,_,_,_,_,Z,λb o n e=>q7 _ _<|rC b o n e,⟨_,q7 _ _<|s5 _ _ wV⟩,.inr ?_,Y,Rn.next cl BD BE λk _=>ZD▸O k,λk hk cc mm u g lt=>?_⟩;{cases e:H2 pd with|none=>rfl|some o=>by_cases n:pd=pl;{rw[n,s5 _ _ wV]at mU;cases mU};{rw[rC pd o n e]at mU;cases mU}};{by_cases e:cc.2.2.length=m;{obtain⟨h1,h2⟩:=Rn.all k hk cc u e;have h3:=c k h1;rw[uG k mm g];lia};{exact sm k hk cc mm u g 80}}}}};{rintro σ H3⟨B,M,v,v4,v5,v6,v7,v8,v9,v10,rfl,Mx,⟨opl,Fy⟩,BR,rW,Rn,sm⟩;rw[iH]at sm;exact k _ _ (hh Mx)<|.inl ⟨Z,λk hk c mm u g=>sm k hk c mm u g<|u.short cl nr hk⟩}}
inductive wX(vs:99)(H:Hp)(Q:VK):Prop|mk p pm pu pt pf pb sp lo hi us az ts af fs nm yl yh(_:vs=[101,.ref pb,.ref sp,.str nm])(_:gp K H p pm pu pt pf lo hi us az ts af fs)(_:H pb=some (.dK<|dN us<|aq ts))(_:H sp=some (.tup [.str (aq ts nm),.int yl,.int yh]))(_:nm∈us)(_:(fs.map fY.n).Nodup)(_:(∀f∈fs,f.n≠""))(_:(∀vs∈ts.map bO,∀v∈vs,Wd v))(_:mj (fE ts 87) 79)(_:dZ lo hi us az ts af fs)(_:jT (bz ts 87) (i6 ts lo 92) (aq ts nm) yl)(_:jU (bz ts 87) (i7 ts hi 92) (aq ts nm) yh)(_:∀H',aj H H'->Q (.bl true) H')
def z4l:Sp:=λj H Q _=>wX (K:=K) j H Q
theorem zpn(T:20):fB P w K mg base "_law_held" [96,116,"_law_span","_law_name"] 10 (z4l (K:=K)):=by refine T.zp9.has b8 (λvs H Q E h=>?_) λf fU A outer s H vs Q E hr h=>?_;{obtain⟨p,pm,pu,pt,pf,pb,sp,lo,hi,us,az,ts,af,fs,nm,yl,yh,rfl,_⟩:=h;rfl};{obtain⟨p,pm,pu,pt,pf,pb,sp,lo,hi,us,az,ts,af,fs,nm,yl,yh,rfl,B,j,q,SQ,rD,xD,hw,nr,no,AI,SR,k⟩:=h;exists _,(zc (BO (bS (zw7 T)<|za (pv 0)<|za (pv 3) zd)<|qZ K Z Z<|jB (eS (i:=4) b8.nd)<|jB (eS (i:=5) b8.nd) qX)<|zc (sset (i:=6) b8.nd<|bS (HN T)<|za (pv 0)<|za (pv 1)<|za (aK 86 (pv 4) ze) zd)<|zc (sset (i:=7) b8.nd<|bS (HN T)<|za (pv 0)<|za (pv 1)<|za (aK 86 (pv 5) ze) zd)<|zc (dj (PW.pt<|p5 (qF<|y9<|pv 6)<|p5 (qF<|y9<|pv 7)<|uc<|p6<|pZ<|bS (Mc T)<|za (pv 0)<|za (pv 1)<|za (fm xm (aK 86 (pv 4) ze)<|gG zd) zd) (zf<|cH ly) d8)<|zc (dj (p6<|pZ<|bS (Mc T)<|za (pv 0)<|za (pv 1)<|za (fm xm (aK 86 (pv 5) ze)<|gG zd) zd) (zf<|cH ly) d8)<|zc (BO (bS (Mg T)<|za (pv 1)<|za (aK 86 (pv 4) ze)<|za (aK 86 (pv 2) ze) zd)<|qZ K Z Z<|jB (eS (i:=8) b8.nd)<|jB (eS (i:=9) b8.nd) qX)<|zc (BO (bS (Mg T)<|za (pv 1)<|za (aK 86 (pv 5) ze)<|za (aK 86 (pv 2) ze) zd)<|qZ K Z Z<|jB (eS (i:=10) b8.nd)<|jB (eS (i:=11) b8.nd) qX)<|zc (dj (PW.pt<|p5 (zy vg (pv 9) (aK 86 (pv 2) ze)<|c6 _)<|p5 (zy vg (pv 10) (aK 86 (pv 2) ze)<|c6 _)<|p5 (zy (DI K Z) (aK 86 (pv 6) ze) (gG<|za eO<|za (pv 8) zd) (by k_in))<|uc<|zy (DI K Z) (aK 86 (pv 7) ze) (gG<|za eO<|za (pv 11) zd) (by k_in)) (zf<|cH ly) d8)<|zf<|cH<|CP (xg kM (fm qG (aK 86 (pv 6) ze)<|bS (Mf T)<|za (aK 86 (pv 4) ze) zd) (aK 86 (pv 2) ze)<|c6 _)<|BL<|xg kM (fm BV (aK 86 (pv 7) ze)<|bS (Mf T)<|za (aK 86 (pv 5) ze) zd) (aK 86 (pv 2) ze)<|c6 _);have iS:=B.cB.ends;have lk:=B.cB.k6;have CM:=nr;rw[vC]at CM;have cl:=yw (az:=az) iS;have kI:=Ed (ts:=ts) iS SQ;refine⟨_,Z,_,Z,p,pm,pu,pt,pf,lo,hi,us,az,ts,af,fs,nm,Z,B,nr,no,SQ,λr la lb cu cd H1 J hrs up lu dw ld=>?_⟩;have ecu:yl=cu.1:=AI.uniq lu;have ecd:yh=cd.1:=SR.uniq ld;have lcu:=up.short cl CM kI;have lcd:=dw.short cl CM kI;obtain⟨ra,rb,qm,L,O,My,Mz,_,_,_⟩:=hrs;obtain⟨ss,m0,ET,HP,hc0,wu⟩:=up.walk;obtain⟨ee,m1,Ah,hm1,BC,wd⟩:=dw.walk;obtain⟨x0,Mi,yU,HQ⟩:=ET.end_ (hi:=hi) xD;obtain⟨x1,Mj,Br,HR⟩:=Ah.end_ (lo:=lo) xD;rw[HP]at yU;rw[hm1]at Br;clear up dw lu ld AI SR ET Ah;(have l9:cu.2.2.length<=900:=by lia);(have SS:cd.2.2.length<=900:=by lia);(have mt:∀{H':Hp},aj H H'->∀(s e:Str)(rs:List Tr),rZ ts 87 s e rs->∀b∈rs,H' b.2=some (.tup<|bO b.1)/\m7 us b.1:=λs _ _ rs wk b j=>by obtain⟨a1,a2,_⟩:=ZJ (B.same s).cB (wk.mem b j).1;exact⟨a1,a2⟩);exists r,_,Z,aI.of qm,Z,_,_,Z,_,_,Z,Z;kd_p;refine⟨_,Z,_,Z,_,Z,ra,_,_,_,Z,Z,aI.of L,Z,p,pm,pu,pt,pf,pb,lo,hi,us,az,ts,af,fs,_,x0,m0.1,Mi,Z,B.same J,J _ _ j,rD,yU,λr0 H2 s2 Mm=>?_⟩;have q2:=J.trans s2;kd_p;refine⟨_,Z,_,Z,_,Z,rb,_,_,_,Z,Z,aI.of<|s2 _ _ O,Z,p,pm,pu,pt,pf,pb,lo,hi,us,az,ts,af,fs,_,x1,Mj,m1.1,Z,B.same q2,q2 _ _ j,rD,Br,λr1 H3 s3 Ff=>?_⟩;have U:=s2.trans s3;have q3:=J.trans U;kd_p;refine oU 94 (λQ' hQ=>?_) λH4 s4=>bh ?_;{refine⟨_,Z,_,Z,bh ⟨_,Z,_,Z,bh ?_⟩⟩;refine⟨_,Z,_,Z,_,Z,ra,_,_,_,Z,Z,aI.of<|U _ _ L,Z,by show 0<=89;walk,λe he=>?_⟩;have t1:=aj.new (o:=.lst []) he;refine⟨la,e,_,_,Z,Z,t1 _ _<|U _ _ My,zb,by rw[ay];exact i8 (by show _+0<=1000;lia),λl hl=>?_⟩;rw[e9];have t2:=aj.new (o:=.lst (cu.2.2.map λ(p:Tr)=>V.ref p.2)) hl;have q4:=q3.trans (t1.trans t2);refine⟨p,pm,pu,pt,pf,pb,l,lo,hi,us,az,az,ts,af,fs,cu.2.2,ss,_,Z,B.same q4,q4 _ _ j,hw,zb,l9,(B.same q4).cB.tt,wu,λH5 s5=>⟨_,Z,?_⟩⟩;exact hQ _<|(t1.trans t2).trans s5};have W:=U.trans s4;have q4:=J.trans W;(try unfold mO);x_go;refine oU 94 (λQ' hQ=>?_) λH5 s5=>bh ?_;{refine⟨_,Z,_,Z,_,Z,rb,_,_,_,Z,Z,aI.of<|W _ _ O,Z,by show 0<=89;walk,λe he=>?_⟩;have t1:=aj.new (o:=.lst []) he;refine⟨lb,e,_,_,Z,Z,t1 _ _<|W _ _ Mz,zb,by rw[ay];exact i8 (by show _+0<=1000;lia),λl hl=>?_⟩;rw[e9];have t2:=aj.new (o:=.lst (cd.2.2.map λ(p:Tr)=>V.ref p.2)) hl;have S:=q4.trans (t1.trans t2);refine⟨p,pm,pu,pt,pf,pb,l,lo,hi,us,az,az,ts,af,fs,cd.2.2,_,ee,Z,B.same S,S _ _ j,hw,zb,SS,(B.same S).cB.tt,wd,λH5 s5=>⟨_,Z,?_⟩⟩;exact hQ _<|(t1.trans t2).trans s5};have Y:=W.trans s5;have S:=J.trans Y;(try unfold mO);x_go;refine⟨_,Z,_,Z,ra,_,_,_,Z,Z,aI.of<|Y _ _ L,Z,_,Z,sp,_,_,_,Z,Z,aI.of<|S _ _ q,Z,pb,la,us,ts,_,cu.2.2,aq ts nm,ss,_,Z,S _ _ j,Y _ _ My,λb j=>⟨(mt S _ _ _ wu b j).1,(mt S _ _ _ wu b j).2.a,(mt S _ _ _ wu b j).2.b⟩,wu,λr2 H6 s6 yo=>?_⟩;rw[show(if cu.2.2=[]then aq ts nm else ss)=ss by split;exact(wu.nil ‹_›).symm;rfl,ite_self]at yo;exists r2,_,Z,aI.of yo,Z,_,_,Z,_,_,Z,Z;have HY:=Y.trans s6;have q6:=J.trans HY;kd_p;refine⟨_,Z,_,Z,rb,_,_,_,Z,Z,aI.of<|HY _ _ O,Z,_,Z,sp,_,_,_,Z,Z,aI.of<|q6 _ _ q,Z,pb,lb,us,ts,_,cd.2.2,aq ts nm,_,ee,Z,q6 _ _ j,HY _ _ Mz,λb j=>⟨(mt q6 _ _ _ wd b j).1,(mt q6 _ _ _ wd b j).2.a,(mt q6 _ _ _ wd b j).2.b⟩,wd,λr3 H7 s7 SV=>?_⟩;rw[ite_self,show(if cd.2.2=[]then aq ts nm else ee)=ee by split;exact wd.nil ‹_›;rfl]at SV;exists r3,_,Z,aI.of SV,Z,_,_,Z,_,_,Z,Z;have SW:=HY.trans s7;have q7:=J.trans SW;have FA:=q7 _ _ q;have FD:=s7 _ _ (s6 _ _<|s5 _ _<|s4 _ _<|s3 _ _ Mm);have FE:=s7 _ _ (s6 _ _<|s5 _ _<|s4 _ _ Ff);kd_p;refine oU 94 (λQ' hQ=>?_) λH8 s8=>bh ?_;{exists _,Z,_,Z,sp,_,_,_,Z,Z,aI.of FA,Z,Z,_,Z;rw[aO Z];refine bh ?_;exists _,Z,_,Z,sp,_,_,_,Z,Z,aI.of FA,Z,Z,_,Z;rw[aO Z];refine bh ?_;refine⟨_,Z,r0,_,_,_,Z,Z,aI.of FD,Z,_,Z,by show 2<=89;walk,λe2 yc=>?_⟩;have t2:=aj.new (o:=.lst [.str "",.str ss]) yc;exists e2,_,Z,.inl<|aH.of zb,Z,Z,_,Z;rw[ak Z,Eg HQ];refine bh ?_;refine⟨_,Z,r1,_,_,_,Z,Z,aI.of<|t2 _ _ FE,Z,_,Z,by show 2<=89;walk,λe3 Fg=>?_⟩;have t3:=aj.new (o:=.lst [.str "",.str ee]) Fg;exists e3,_,Z,.inl<|aH.of zb,Z,Z,_,Z;rw[ak Z,Eg HR];exact hQ _<|t2.trans t3};have HZ:=SW.trans s8;have q8:=J.trans HZ;(try unfold mO);x_go;refine⟨_,Z,r0,_,_,_,Z,Z,aI.of<|s8 _ _ FD,Z,_,Z,ra,_,_,_,Z,Z,aI.of<|HZ _ _ L,Z,la,us,cu.2.2,Z,HZ _ _ My,mt q8 _ _ _ wu,l9,λH9 s9=>?_⟩;have MA:=HZ.trans s9;have q9:=J.trans MA;exists _,_,Z,Z,_,Z,sp,_,_,_,Z,Z,aI.of<|q9 _ _ q,Z,Z,_,Z;rw[ecu,hc0,aO Z];refine gi ?_;refine⟨_,Z,r1,_,_,_,Z,Z,aI.of<|s9 _ _<|s8 _ _ FE,Z,_,Z,rb,_,_,_,Z,Z,aI.of<|MA _ _ O,Z,lb,us,cd.2.2,Z,MA _ _ Mz,mt q9 _ _ _ wd,SS,λxr uh=>?_⟩;exists _,_,Z,Z,_,Z,sp,_,_,_,Z,Z,aI.of<|uh _ _<|q9 _ _ q,Z,Z;rw[ecd,BC,aO Z];exact k _<|q9.trans uh}
inductive sW(vs:99)(H:Hp)(Q:VK):Prop|mk p pm pu pt pf q lo hi c us az ts af fs f g(_:vs=[101,.ref q,.int c])(_:gp K H p pm pu pt pf lo hi us az ts af fs)(_:(fs.map fY.n).Nodup)(_:(∀f∈fs,f.n≠""))(_:(∀vs∈ts.map bO,∀v∈vs,Wd v))(_:mj (fE ts 87) 79)(_:LX H q 79 f g)(_:(∀k∈keysOf ts (aJ us),jT (bz ts 87) (i6 ts lo 92) k (f k)))(_:(∀k∈keysOf ts (aJ us),jU (bz ts 87) (i7 ts hi 92) k (g k)))(_:dZ lo hi us az ts af fs)(_:∀H',aj H H'->Q (.bl true) H')
def zxf:Sp:=λj H Q _=>sW (K:=K) j H Q
inductive IvQ(H2:Hp)(p q pb pl ph:ai)(c:Int)(us:88)(ts:List dW)(f g:Str->Int)(i:Nat)(σ:St)(H':Hp):Prop|mk v6 v7 v8(_:σ=[some 101,some (.ref q),some (.int c),some (.ref pb),some (.ref pl),some (.ref ph),v6,v7,v8,none,none,none])(_:aj H2 H')(_:H' pl=some (.dK<|dV ((79).take i) λk=>.int (f k)))(_:H' ph=some (.dK<|dV ((79).take i) λk=>.int (g k)))
inductive IvR(H7:Hp)(p q pb pl ph:ai)(c:Int)(v6 v7 v8:Option V)(n:Nat)(σ:St)(H':Hp):Prop|mk v9 v10 v11(_:σ=[some 101,some (.ref q),some (.int c),some (.ref pb),some (.ref pl),some (.ref ph),v6,v7,v8,v9,v10,v11])(_:aj H7 H')
theorem zgp (T:Tx K mg w C_Reading zn zk zx zq zm zr zo zv zw zh):fB P w K mg base "_law_spans_right" ["_law_telling","_law_found","_law_cell"] 11 (zxf (K:=K)):=by
 refine T.zgv.has aQ (fun vs H Q E h=>?_) (fun f fU A outer s H vs Q E hr h=>?_)
 ·obtain⟨p,pm,pu,pt,pf,q,lo,hi,c,us,az,ts,af,fs,f,g,rfl,_⟩:=h;rfl
 ·obtain⟨p,pm,pu,Ia,pf,q,lo,hi,c,us,az,ts,af,fs,f,g,rfl,S,rD,xD,hw,nr,⟨as,hq,pr⟩,hf,hg,no,k⟩:=h
  have hu:=j5 hr
  refine⟨_,(zc (sset (i:=3) aQ.nd (bS (BB T) (za (pv 0) zd)))
   (zc (Ef (dj (zy (AN K rfl (kF hr)) (rS (own:=["_law_span"]) (cap:=[]) (ix:=[]) (mR:=zp (top 77)) rfl ⟨rfl,by decide +kernel,by decide +kernel,by decide +kernel,by decide +kernel⟩ rfl (jd K rfl (pv 1)) (fun _ _ _ _=>oQ (i:=0) (show List.Nodup (["_law_span"]:List Str) by decide +kernel) rfl (Or.inl rfl)) (fun _ _ _ _=>xq) (fun _ _ _ _=>(aK (zg K rfl) (pv 0) ze))) (gC (G4 (P:=P) (w:=w) rfl rfl rfl) (by rfl) T.sorted lE (za (nU (G3 (P:=P) (w:=w) (K:=K) rfl rfl rfl rfl) (by rfl) T.set pB (za (nU (DN rfl) (by rfl) T.list ig (za (DJ K rfl PySem.F.plainAttrs_dict PySem.F.slot_dict_values PySem.F.type_dict_values DM (pv 3)) zd)) zd)) zd)) (c6 _)) (zf (cH ly)) d8))
   (zc (sset (i:=4) aQ.nd oR)
   (zc (sset (i:=5) aQ.nd oR)
   (zc (iA bB rfl (jd K rfl (pv 1)) (qZ K rfl rfl (jB (eS (i:=6) aQ.nd) (jB (eS (i:=7) aQ.nd) (jB (eS (i:=8) aQ.nd) qX)))) (zc (mQ hu (pv 4) (pv 6) (pv 7) rfl)
    (zf (mQ hu (pv 5) (pv 6) (pv 8) rfl))))
   (zc (Ef (dj (PW.pt (p5 (p6 (pZ (bS (Sg T) (za (pv 0) (za (pv 4) zd))))) (uc (p6 (pZ (bS (Sg T) (za (pv 0) (za (pv 5) zd)))))))) (zf (cH ly)) d8))
   (zc (iA bB rfl (CY (by rfl) T.range (za (gC (UC rfl) (by rfl) T.min nC (za ze (za (gC (qc K rfl) (by rfl) T.len cU (za (aK (zg K rfl) (pv 0) ze) zd)) zd))) zd)) (eS (i:=9) aQ.nd) (zc (sset (i:=10) aQ.nd (aK (jD K rfl) (aK (zg K rfl) (pv 0) ze) (fm xN (fm qG (bS (vF T) (za (pv 2) (za ze (za ze zd)))) (pv 9)) (gC (qc K rfl) (by rfl) T.len cU (za (aK (zg K rfl) (pv 0) ze) zd)))))
    (zc (sset (i:=11) aQ.nd (aK (jD K rfl) (rS (own:=["_law_one"]) (cap:=["_law_label","_law_name"]) (ix:=[3,10]) (mR:=zp (top 77)) rfl ⟨rfl,by decide +kernel,by decide +kernel,by decide +kernel,by decide +kernel⟩ rfl (jd K rfl (pv 1)) (fun _ _ _ _=>oQ (i:=0) (show List.Nodup (["_law_one","_law_label","_law_name"]:List Str) by decide +kernel) rfl (Or.inl rfl)) (fun _ _ _ _=>AK (zy kM (aK (zg K rfl) (pv 0) ze) (eZ hu (pv 1) (pv 2) (fun _ _=>rfl)) (c6 _))) (fun _ _ _ _=>(pv 0))) ze))
    (zf (Ef (dj (p6 (pZ (bS (zpn T) (za (pv 0) (za (pv 3) (za (pv 11) (za (pv 10) zd))))))) (zf (cH ly)) d8))))))
   (zf (cH ly))))))))),?_⟩
  have iS:=S.cB.ends
  have lf:=S.mT
  have lk:=S.cB.k6
  have ul:=S.cB.ul
  have knd:=vz (ts:=ts) S.cB.nd
  have la:as.length=(keysOf ts (aJ us)).length:=Paired.length pr
  have kb:=Zz iS S.fu lf hf hg no
  have CC:=fun (x:Str) (hx:x∈us)=>Ed (ts:=ts) iS hx
  refine⟨_,rfl,p,pu,Ia,_,_,us,az,ts,rfl,S.cB,fun pb H1 s1 yP hb=>?_⟩
  try dsimp only [zz]
  refine .go (oU false (fun Q' hQ=>?_) (fun H2 s2=>bh ?_))
  ·refine⟨_,rfl,q,rfl,⟨_,aH.of (s1 _ _ hq)⟩,fun D hD=>?_⟩
   refine vn (xu (K:=K) (a:=q) (xs:=as.map V.ref)) (fun i B ys H'=>∃(w0:Option V),B = [w0]/\ys=((keysOf ts (aJ us)).take i).map V.str/\aj H1 H'/\H' D=some (.lst ys))
    ⟨none,rfl,by simp,aj.new hD,zb⟩ (fun i B ys H' h=>?_) (by rw[ay];exact i8 (by lia)) ?_ ?_
   ·obtain⟨_,_,rfl,O,hd⟩:=h
    refine⟨aH.of (O _ _ (s1 _ _ hq)),hd,?_⟩
    rw[ay,bP]
    lia
   ·rintro i v B ys H' hx ⟨w0,rfl,rfl,O,hd⟩
    have lz:=jE hx
    obtain⟨a,u,rfl,J,_,ha⟩:=vX pr hx
    try dsimp only [zz]
    unfold qa
    dsimp only
    rw[ak rfl]
    refine⟨_,rfl,a,_,_,_,rfl,rfl,aI.of (O _ _ (s1 _ _ ha)),rfl,hd,qd lz ⟨_,rfl,?_,O.upd hD,zb⟩⟩
    rw[aR,J,aU]
    rfl
   rintro B ys H2 ⟨w0,rfl,rfl,q2,hd2⟩
   rw[ay,la,bu] at hd2
   have qz:=q2 _ _ hb
   refine⟨_,rfl,.inr (.inr (.inl ⟨rfl,.inl ⟨_,qz⟩⟩)),pb,_,rfl,rfl,qz,fun pv tU=>?_⟩
   have t2:=aj.new (o:=vm pv pb) tU
   refine⟨pv,pb,_,rfl,zb,t2 _ _ qz,fun l2 oX=>?_⟩
   have Fi:((dN us (aq ts)).map fun kv=>kv.2)=(us.map (aq ts)).map V.str:=by unfold dN;rw[bK,bK];rfl
   rw[show (dN us (aq ts)).map (·.2)=(us.map (aq ts)).map V.str from Fi]
   have t3:=aj.new (o:=.lst ((us.map (aq ts)).map V.str)) oX
   refine⟨l2,us.map (aq ts),rfl,aH.of zb,by rw[ay];lia,fun ps ds uw vH yV qW=>?_⟩
   have t4:=aj.new (o:=k8 P w ps ds) uw
   rw[ay] at qW
   refine⟨ps,ds,rfl,zb,vH,by lia,fun l3 m3 MB p3 r3=>?_⟩
   have em:=K6 S.cB.nd iS vH yV p3 r3
   subst em
   have SX:=t2.trans (t3.trans (t4.trans (aj.new (o:=.lst ((keysOf ts (aJ us)).map V.str)) MB)))
   refine⟨D,l3,_,rfl,rfl,dY.zG (aH.of (SX _ _ hd2)) (aH.of zb) XS,?_⟩
   exact⟨_,rfl,hQ _ (q2.trans SX)⟩
  have q2:=s1.trans s2
  have ie:∀(u:Str) (y:Str->Int),(fun z:Str=>if z=u then V.int (y u) else V.int (y z))=fun k=>V.int (y k):=fun u y=>by
   funext z
   by_cases e:z=u
   ·rw[ak e,e]
   ·rw[ao e]
  try unfold mO
  try dsimp only
  refine fun pl mX=>?_
  have t1:=aj.new (o:=.dK []) mX
  try dsimp only [zz]
  refine fun W xE=>?_
  have t2:=aj.new (o:=.dK []) xE
  have yW:pl≠W:=fun z=>by rw[←z,zb] at xE;cases xE
  have Fx:H2 W=none:=t1.free xE
  have SY:=t1.trans t2
  have q4:=q2.trans SY
  have hq4:=q4 _ _ hq
  have LM:=Paired.fS pr fun a k e=>q4 _ _ e
  try dsimp only [zz]
  refine⟨_,rfl,q,rfl,⟨_,aH.of hq4⟩,?_⟩
  refine mG (K:=K) (a:=q) (xs:=as.map V.ref) (fun i σ H'=>IvQ H2 p q pb pl W c us ts f g i σ H')
   ⟨none,none,none,rfl,SY,t2 _ _ zb,zb⟩ (fun i σ H' _ h=>by obtain⟨_,_,_,_,O,_⟩:=h;exact aH.of (O _ _ (q2 _ _ hq))) ?_ ?_
  ·rintro i x σ H5 hx ⟨v6,v7,v8,rfl,q5,sI,CJ⟩
   obtain⟨a,u,rfl,J,_,ha⟩:=vX pr hx
   have iO:u ∉ (keysOf ts (aJ us)).take i:=by
    have hi:=jE J
    have:=tM knd i hi
    rw[show (keysOf ts (aJ us))[i]=u from (cE.mp J).2] at this
    exact this
   have tk:(keysOf ts (aJ us)).take (i+1)=(keysOf ts (aJ us)).take i++[u]:=by rw[aR,J];rfl
   refine⟨a,_,rfl,aI.of (q5 _ _ (q2 _ _ ha)),rfl,_,_,rfl,_,_,rfl,_,_,rfl,rfl,?_⟩
   try dsimp only [zz]
   refine⟨_,rfl,_,rfl,_,rfl,pl,_,rfl,eE.k (k:=Sum.inr u) sI (by rw[iH,bP];exact jC (by lia)),?_⟩
   rw[ur iO]
   refine⟨_,rfl,_,rfl,_,rfl,W,_,rfl,eE.k (k:=Sum.inr u) (by rw[zi (aG yW)];exact CJ) (by rw[iH,bP];exact jC (by lia)),?_⟩
   rw[ur iO]
   refine⟨_,_,_,rfl,(q5.upd mX).upd Fx,?_,?_⟩
   ·rw[zi yW,zb,tk,ie]
   ·rw[zb,tk,ie]
  rintro σ H5 ⟨v6,v7,v8,rfl,q5,sI,CJ⟩
  rw[ay,la,bu] at sI CJ
  refine .fL pl _ sI fun o1=>.fL W _ (by rw[zi (aG yW)];exact CJ) fun o2=>.go ?_
  have q6:=(q5.upd mX (o:=.fL o1 (.dK (dV (keysOf ts (aJ us)) fun k=>.int (f k))))).upd Fx (o:=.fL o2 (.dK (dV (keysOf ts (aJ us)) fun k=>.int (g k))))
  have yO:upd (upd H5 pl (.fL o1 (.dK (dV (keysOf ts (aJ us)) fun k=>.int (f k))))) W (.fL o2 (.dK (dV (keysOf ts (aJ us)) fun k=>.int (g k)))) pl=some (.fL o1 (.dK (dV (keysOf ts (aJ us)) fun k=>.int (f k)))):=by rw[zi yW,zb]
  have HW:=zb (H:=upd H5 pl (.fL o1 (.dK (dV (keysOf ts (aJ us)) fun k=>.int (f k))))) (a:=W) (o:=.fL o2 (.dK (dV (keysOf ts (aJ us)) fun k=>.int (g k))))
  generalize upd (upd H5 pl (.fL o1 (.dK (dV (keysOf ts (aJ us)) fun k=>.int (f k))))) W (.fL o2 (.dK (dV (keysOf ts (aJ us)) fun k=>.int (g k))))=H6 at q6 yO HW
  have MC:=q2.trans q6
  refine oU false (fun Q' hQ=>?_) (fun H7 s7=>bh ?_)
  ·refine⟨_,rfl,_,rfl,p,pm,pu,Ia,pf,lo,hi,us,az,ts,af,fs,pl,o1,f,rfl,S.same MC,yO,fun H7 s7=>⟨_,rfl,?_⟩⟩
   rw[kb.1]
   refine bh ?_
   refine⟨_,rfl,_,rfl,p,pm,pu,Ia,pf,lo,hi,us,az,ts,af,fs,W,o2,g,rfl,S.same (MC.trans s7),s7 _ _ HW,fun H8 s8=>⟨_,rfl,?_⟩⟩
   rw[kb.2]
   exact hQ _ (s7.trans s8)
  have MD:=MC.trans s7
  have hb7:=s7 _ _ (q6 _ _ (s2 _ _ hb))
  have F7:=S.same MD
  try unfold mO
  try dsimp only
  refine⟨_,rfl,p,_,_,_,rfl,rfl,F7.cB.p,rfl,pu,_,rfl,.inl F7.cB.u,?_⟩
  obtain⟨N,eN,hN⟩:∃N:Nat,(if ((us.map V.str).length:Int)<3 then ((us.map V.str).length:Int) else 3)=N/\N<=us.length:=by
   rw[ay]
   by_cases z:(us.length:Int)<3
   ·exact⟨us.length,ak z,aB _⟩
   ·exact⟨3,ao z,by lia⟩
  refine⟨_,_,rfl,(N:Int),by rw[←eN],by lia,by lia,?_⟩
  refine BU (lo:=0) (n:=N) (fun n σ H'=>IvR H7 p q pb pl W c v6 v7 v8 n σ H')
   ⟨none,none,none,rfl,aj.refl _⟩ ?_ ?_
  ·rintro n σ H8 hn ⟨v9,v10,v11,rfl,q8⟩
   have F8:=F7.same q8
   have ulp:(0:Int)<us.length:=by lia
   have b14:=yg c 95 14 (by decide)
   have e0:=jv (pt c 95 14+(0+(n:Int))) (show ((us.map V.str).length:Int)≠0 by rw[ay];lia)
   have e1:=jo (pt c 95 14+(0+(n:Int))) (show (0:Int)<((us.map V.str).length:Int) by rw[ay];lia)
   obtain⟨m,em⟩:∃m:Nat,(pt c 95 14+(0+(n:Int)))%((us.map V.str).length:Int)=m:=⟨_,(Int.toNat_of_nonneg e0).symm⟩
   rw[em] at e1
   rw[ay] at e1
   obtain⟨nm,S0⟩:∃nm,us[m]? = some nm:=⟨us[m]'(by lia),cj (by lia)⟩
   have U:=bM S0
   have ME:iZ (us.map V.str) ((pt c 95 14+(0+(n:Int)))%((us.map V.str).length:Int))=some (.str nm):=by
    rw[em]
    exact vh (by rw[aT,S0];rfl)
   try dsimp only [zz]
   refine⟨_,rfl,p,_,_,_,rfl,rfl,F8.cB.p,rfl,_,rfl,c,95,14,rfl,by decide,_,rfl,_,_,rfl,rfl,?_⟩
   refine⟨_,rfl,p,_,_,_,rfl,rfl,F8.cB.p,rfl,pu,_,rfl,.inl F8.cB.u,_,_,rfl,rfl,by rw[ay];exact ulp,pu,_,_,_,rfl,rfl,F8.cB.u,ME,?_⟩
   have MF:=MD.trans q8
   have S1:=q8 _ _ hb7
   have HA:=MF _ _ hq
   try dsimp only [zz]
   refine⟨_,rfl,q,rfl,⟨_,aH.of HA⟩,fun D hD=>?_⟩
   refine vn (xu (K:=K) (a:=q) (xs:=as.map V.ref)) (fun i B ys H'=>∃(w0:Option V) (bs:List ai),B = [w0,some (.ref pb),some (.str nm)]/\ys=bs.map V.ref/\bs.length<=i/\(∀b∈bs,H b=some (.tup [.str (aq ts nm),.int (f (aq ts nm)),.int (g (aq ts nm))]))/\(aq ts nm∈(keysOf ts (aJ us)).take i->bs≠[])/\aj H8 H'/\H' D=some (.lst ys))
    ⟨none,[],rfl,rfl,aB _,by simp,by simp,aj.new hD,zb⟩ (fun i B ys H' h=>?_) (by rw[ay];exact i8 (by lia)) ?_ ?_
   ·obtain⟨_,bs,_,rfl,lb,_,_,O,hd⟩:=h
    refine⟨aH.of (O _ _ HA),hd,?_⟩
    rw[ay]
    exact lb
   ·rintro i v B ys H' hx ⟨w0,bs,rfl,rfl,lb,Y,L,O,hd⟩
    have lz:=jE hx
    obtain⟨a,u,rfl,J,_,ha⟩:=vX pr hx
    have g1:=bL.k (k:=Sum.inr nm) (O _ _ S1)
    rw[oH U] at g1
    try dsimp only [zz]
    refine⟨_,rfl,a,_,_,_,rfl,rfl,aI.of (O _ _ (MF _ _ ha)),rfl,_,rfl,_,rfl,pb,_,rfl,g1,rfl,_,rfl,?_⟩
    refine bH (fun z=>?_) (fun z=>?_)
    ·have z:u=aq ts nm:=V.str.inj (aW z)
     refine⟨_,rfl,hd,qd lz ⟨_,bs++[a],rfl,by rw[aU];rfl,by rw[bN];exact lT lb,fun b hm=>?_,fun _=>by simp,O.upd hD,zb⟩⟩
     rcases oz hm with y | y
     ·exact Y b y
     ·rw[y,←z];exact ha
    ·have z:¬u=aq ts nm:=fun y=>z (aO (bw V.str y))
     refine⟨hd,qd lz ⟨_,bs,rfl,rfl,j0 lb,Y,fun hm=>L ?_,O,hd⟩⟩
     rw[aR,J] at hm
     rcases oz hm with y | y
     ·exact y
     ·exact absurd y.symm z
   rintro B ys H9 ⟨w0,bs,rfl,rfl,lb,Y,L,q9,hd9⟩
   rw[ay,la,bu] at L
   have L:=L (CC nm U)
   obtain⟨a,bt,rfl⟩:∃a bt,bs=a::bt:=by
    cases bs with
    | nil=>exact absurd rfl L
    | cons a bt=>exact⟨a,bt,rfl⟩
   have ha:=Y a (by simp)
   have S2:=MF.trans q9
   refine⟨D,_,_,_,rfl,rfl,aH.of hd9,vh (j:=0) rfl,?_⟩
   try dsimp only [zz]
   refine .go (oU false (fun Q' hQ=>?_) (fun xr uh=>bh ⟨_,_,_,rfl,q8.trans (q9.trans uh)⟩))
   refine⟨_,rfl,_,rfl,_,rfl,_,rfl,p,pm,pu,Ia,pf,pb,a,lo,hi,us,az,ts,af,fs,nm,_,_,rfl,S.same S2,q9 _ _ S1,S2 _ _ ha,U,rD,xD,hw,nr,no,hf _ (CC nm U),hg _ (CC nm U),fun xr uh=>⟨_,rfl,?_⟩⟩
   exact hQ _ uh
  rintro σ H8 ⟨v9,v10,v11,rfl,q8⟩
  exact k _ (MD.trans q8)
def zz4:Sp:=λj H Q _=>∃c n,j=[.int c,.int n]/\0<n/\n<=1000/\∀m H',0<=m->m<10^40->aj H H'->Q (.int m) H'
theorem Ib(T:20):fB P w K mg base "_law_number" ["_law_cell","_law_near"] 2 zz4:=by refine T.zl9.has zjw (λW H Q E h=>?_) λf S A q s H W Q E hr h=>?_;{obtain⟨c,n,rfl,_⟩:=h;rfl};{obtain⟨c,n,rfl,L,n1,k⟩:=h;exists _,(zf<|cH<|aK (jD K Z) (gG<|za (bS (vF T)<|za (pv 0)<|za ze<|za (pv 1) zd)<|za (fm xN (pv 0)<|fm Nc ze ze) zd)<|bS (vF T)<|za (pv 0)<|za ze<|za ze zd);have Y:=jv c (show((10:Int)^(40:Int).toNat)≠0 by walk);have z1:=jo c (show(0:Int)<(10:Int)^(40:Int).toNat by walk);have O:=yg c 60 n L;have B:=yg c 62 2 82;refine⟨_,Z,_,Z,_,_,_,Z,L,_,Z,_,_,Z,Z,⟨82,82,82⟩,_,_,Z,Z,(82:(0:Int)<10^(40:Int).toNat),by show 2<=89;walk,λp J=>?_⟩;(exists _,Z,_,_,_,Z,82);obtain⟨v,U,j⟩:=J9 (u:=.int (pt c 60 n)) (v:=.int (c%10^(40:Int).toNat)) B.1 B.2;exists p,_,_,_,Z,Z,aH.of zb,U;rcases j with rfl|rfl;{exact k _ _ O.1 80<|aj.new J};{exact k _ _ Y z1<|aj.new J}}
def FF:99:=[.str "over",.str "cuts",.str "fills",.str "after",.str "after",.str "over",.str "same"]
theorem zxg(q:0<=i)(h1:i<7):∃j,iZ FF i=some (.str j)/\(j="after"\/j∈vo):=by(have h:i=0\/i=1\/i=2\/i=3\/i=4\/i=5\/i=6:=by lia);rcases h with rfl|rfl|rfl|rfl|rfl|rfl|rfl;{exact⟨_,Z,.inr 50⟩};{exact⟨_,Z,.inr 50⟩};{exact⟨_,Z,.inr 50⟩};{exact⟨_,Z,.inl Z⟩};{exact⟨_,Z,.inl Z⟩};{exact⟨_,Z,.inr 50⟩};{exact⟨_,Z,.inr 50⟩}
theorem zxh:(Str.ofString "same":Str)∈vo:=by kt_k
theorem zxi:(Str.ofString "over":Str)∈vo:=by kt_k
theorem MG{xs:88}(h:i<84):iZ (xs.map 114) (i:Int)=some (.str xs[i]):=vh (by simp[h])
theorem MH c k(h:us≠[]):∃a:Nat,pt c k ((us.map 114).length:Int)=(a:Int)/\a<109:=by have l1:=jY.mpr h;have j:=yg c k ((us.map 114).length:Int) (by rw[ay];lia);rw[ay]at j⊢;exact⟨(pt c k 109).toNat,80,80⟩
inductive uY(vs:99)(H:Hp)(Q:VK):Prop|mk pu us c ar(_:vs=[.ref pu,.int c,.bl ar])(_:aH K H pu (us.map 114))(_:us≠[])(_:∀p t H',m7 us t->H p=none->H' p=some (.tup<|bO t)->aj H H'->Q 101 H')
def zz5:Sp:=λj H Q _=>uY (K:=K) j H Q
theorem zs9(T:20):fB P w K mg base "_law_tie" ["_law_units","_law_cell","_law_around"] 3 (zz5 (K:=K)):=by refine T.ztg.has dG (λvs H Q E h=>?_) λf fU A outer s H vs Q E hr h=>?_;{obtain⟨pu,us,c,ar,rfl,_⟩:=h;rfl};{obtain⟨pu,us,c,ar,rfl,L,tR,k⟩:=h;exists _,(zc (sset (i:=3) dG.nd<|bS (vF T)<|za (pv 1)<|za ze<|za (gC (qc K Z) 97 T.len cU<|za (pv 0) zd) zd)<|zc (sset (i:=4) dG.nd<|bS (vF T)<|za (pv 1)<|za ze<|za (gC (qc K Z) 97 T.len cU<|za (pv 0) zd) zd)<|zc (dj (PW.pt<|tu (p6<|pZ<|pv 2)<|vd<|zy w9 (pv 3) (pv 4)<|c6 _) (zf<|Uh (i:=3) (j:=4) Z dG.nd Z Z 82 Z Z (za (pv 4)<|za (pv 3) zd) Z) d8)<|zc (sset (i:=5) dG.nd<|aK (jD K Z) (gG<|za eO<|za eO<|za eO<|za eO<|za eO<|za eO<|za eO zd)<|bS (vF T)<|za (pv 1)<|za ze<|za ze zd)<|zc (dj (PW.pt<|tu (zy kM (pv 3) (pv 4)<|c6 _)<|vd<|p6<|pZ<|pv 2) (zf<|sset (i:=5) dG.nd eO) d8)<|zc (dj (PW.pt<|tu (zy kM (pv 5) eO<|c6 _)<|tu (p6<|pZ<|pv 2)<|vd<|zy xO (pv 3) (fm qG (pv 4) ze)<|c6 _) (zf<|sset (i:=5) dG.nd eO) d8)<|zc (dj (zy kM (pv 5) eO<|c6 _) (zf<|cH<|jI<|za (pv 5)<|za (aK (jD K Z) (pv 0)<|pv 3)<|za (aK (jD K Z) (pv 0)<|pv 4)<|za (bS (Ib T)<|za (pv 1)<|za ze zd) zd) d8)<|zf<|cH<|jI<|za (pv 5)<|za (aK (jD K Z) (pv 0)<|pv 3)<|za (aK (jD K Z) (pv 0)<|pv 4) zd);(have hm:(0:Int)<((us.map 114).length:Int):=by rw[ay];have:=jY.mpr tR;lia);obtain⟨a0,ea,la⟩:=MH c 30 tR;obtain⟨b0,eb,lb⟩:=MH c 31 tR;exists _,Z,_,Z,pu,_,Z,.inl L,_,_,_,Z,hm;rw[ea];kd_p;exists _,Z,_,Z,pu,_,Z,.inl L,_,_,_,Z,hm;rw[eb];kd_p;refine KY (λq=>∃a b:Nat,q=[some (.ref pu),some (.int c),some (.bl ar),some (.int a),some (.int b),none]/\a<109/\b<109) (!ar&&decide ((a0:Int)<b0)) (λQ' J=>?_) (λe=>⟨_,⟨b0,a0,Z,lb,la⟩,λh=>⟨_,Z,_,Z,_,_,Z,h⟩⟩) (λe=>⟨_,⟨a0,b0,Z,la,lb⟩,λh=>h⟩) ?_;{exists _,Z,ar,Z;cases ar with|true=>exact bh J|false=>exact gi ⟨_,Z,_,Z,_,_,Z,Z,_,Z,J⟩};clear la lb ea eb a0 b0;rintro q⟨a,b,rfl,Cw,S3⟩;have xa:=MG (xs:=us) (i:=a) Cw;have xb:=MG (xs:=us) (i:=b) S3;have ma:us[a]∈us:=ji Cw;have mb:us[b]∈us:=ji S3;generalize us[a]=x at xa ma;generalize us[b]=y at xb mb;(try unfold mO);x_go;refine⟨(by show 7<=89;walk),λp1 rY=>?_⟩;(exists _,Z,_,_,_,Z,82);obtain⟨O,ek,Y⟩:=zxg (yg c 33 7 82).1 (yg c 33 7 82).2;have U:aj H (upd H p1<|.lst FF):=aj.new rY;exists p1,FF,_,_,Z,Z,aH.of zb,ek;kd_p;show An _ _ _ _ (upd H p1<|.lst FF);generalize upd H p1 (.lst FF)=H1 at U;refine KY (λq=>∃B:Str,q=[some (.ref pu),some (.int c),some (.bl ar),some (.int a),some (.int b),some (.str B)]/\(B="after"\/B∈vo)) (decide ((a:Int)=b)&&!ar) (λQ' J=>?_) (λe=>⟨_,⟨"same",Z,.inr zxh⟩,λh=>h⟩) (λe=>⟨_,⟨O,Z,Y⟩,λh=>h⟩) ?_;{exists _,Z,_,Z,Z,_,Z;have e:decide (V.int (a:Int)=V.int (b:Int))=decide ((a:Int)=b):=iX.mpr ⟨V.int.inj,bw V.int⟩;rw[e];refine bH (λz=>?_) λz=>?_;{rw[z,lY]at J;exact⟨_,Z,ar,Z,J⟩};{rw[pN.mpr z,fR]at J;exact J}};clear Y ek O;rintro q⟨O,rfl,Y⟩;(try unfold mO);x_go;refine KY (λq=>∃B:Str,q=[some (.ref pu),some (.int c),some (.bl ar),some (.int a),some (.int b),some (.str B)]/\(B="after"\/B∈vo)) (decide (O="same")&&(!ar&&decide ((b:Int)+1<a))) (λQ' J=>?_) (λe=>⟨_,⟨"over",Z,.inr zxi⟩,λh=>h⟩) (λe=>⟨_,⟨O,Z,Y⟩,λh=>h⟩) ?_;{exists _,Z,Z,_,Z;have e:decide (V.str O=V.str "same")=decide (O="same"):=iX.mpr ⟨V.str.inj,bw 114⟩;rw[e];refine bH (λz=>?_) λz=>?_;{rw[z,lY]at J;exists _,Z,ar,Z;cases ar with|true=>exact bh J|false=>exact gi ⟨_,Z,_,Z,_,_,Z,Z,_,_,Z,Z,_,Z,J⟩};{rw[pN.mpr z,fR]at J;exact J}};clear Y O;rintro q⟨O,rfl,Y⟩;(try unfold mO);x_go;exists _,Z,Z,_,Z;refine bH (λW=>?_) λW=>?_;{have W:O="after":=V.str.inj (aW W);subst W;refine⟨_,Z,_,Z,_,Z,pu,_,_,_,Z,Z,U.seq L,xa,_,Z,_,Z,pu,_,_,_,Z,Z,U.seq L,xb,_,Z,c,10,Z,82,82,λg H2 g0 g1 s2=>?_⟩;refine⟨(by show 4<=89;walk),λp3 S=>?_⟩;exact k p3 ⟨"after",x,y,some g⟩ _ ⟨.after ma mb g0 (by unfold mY;lia),ma,mb⟩ (U.free<|s2.free S) zb<|U.trans<|s2.trans<|aj.new S};{have W:¬O="after":=λz=>W (aO<|bw 114 z);(try unfold mO);x_go;refine⟨_,Z,_,Z,_,Z,pu,_,_,_,Z,Z,U.seq L,xa,_,Z,_,Z,pu,_,_,_,Z,Z,U.seq L,xb,(by show 3<=89;walk),λp3 S=>?_⟩;exact k p3 ⟨O,x,y,none⟩ _ ⟨.plain (Y.resolve_left W) ma mb,ma,mb⟩ (U.free S) zb<|U.trans<|aj.new S}}
inductive sX(vs:99)(H:Hp)(Q:VK):Prop|mk pu pm us lo hi(n:Nat)c(_:vs=[.ref pu,.ref pm,.int n,.int c])(_:aH K H pu (us.map 114))(_:aI K H pm [.int lo,hi])(_:us≠[])(_:lo.natAbs<10^40)(_:n<=100)(_:∀p f H',f.n=Str.ofString "f"++Str.ofString (toString (n:Int))->f.u∈us->f.lo<=f.hi->mY f.lo->mY f.hi->H p=none->H' p=some (.tup<|eY f)->aj H H'->Q 101 H')
def zxj:Sp:=λj H Q _=>sX (K:=K) j H Q
theorem zpq(T:20):fB P w K mg base "_law_find" ["_law_units","_law_frame","_law_many","_law_cell"] 3 (zxj (K:=K)):=by refine T.zp0.has iV (λvs H Q E h=>?_) λf fU A O s H vs Q E hr h=>?_;{obtain⟨pu,pm,us,lo,hi,n,c,rfl,_⟩:=h;rfl};{obtain⟨pu,pm,us,lo,hi,n,c,rfl,j,hm,B,l0,n0,k⟩:=h;exists _,(zc (sset (i:=4) iV.nd<|fm BV (fm qG (aK 86 (pv 1) ze)<|bS (Ib T)<|za (pv 3)<|za ze zd) ze)<|zc (sset (i:=5) iV.nd<|fm qG (pv 4)<|aK (jD K Z) (gG<|za (bS (vF T)<|za (pv 3)<|za ze<|za ze zd)<|za (bS (Ib T)<|za (fm qG (pv 3) ze)<|za ze zd) zd)<|bS (vF T)<|za (pv 3)<|za ze<|za ze zd)<|zf<|cH<|jI<|za (fm xP eO<|nU Gf 97 T.str j9<|za (pv 2) zd)<|za (aK (jD K Z) (pv 0)<|bS (vF T)<|za (pv 3)<|za ze<|za (gC (qc K Z) 97 T.len cU<|za (pv 0) zd) zd)<|za (pv 4)<|za (pv 5) zd);refine⟨_,Z,pm,_,_,_,Z,Z,hm,Z,_,Z,c,30,Z,82,82,λx H1 x0 x1 s1=>?_⟩;exists _,_,Z,Z,_,_,Z,Z;kd_p;(exists _,Z,_,Z,_,_,_,Z,82);have b9:=yg c 43 9 82;have U:=yg c 44 2 82;refine⟨_,Z,_,_,Z,Z,c+1,60,Z,82,82,λy H2 y0 y1 s2=>?_⟩;refine⟨by show 2<=89;walk,λp1 J=>?_⟩;have s3:=aj.new (o:=.lst [.int (pt c 43 9),.int y]) J;(exists _,Z,_,_,_,Z,82);obtain⟨v,hv,L⟩:=J9 (u:=.int (pt c 43 9)) (v:=.int y) U.1 U.2;(obtain⟨g,rfl,g0,g1⟩:∃g:Int,v=.int g/\0<=g/\g<10^40:=by rcases L with rfl|rfl;{exact⟨_,Z,b9.1,80⟩};{exact⟨_,Z,y0,y1⟩});exists p1,_,_,_,Z,Z,aH.of zb,hv,_,_,Z,Z;have S:=s1.trans (s2.trans s3);obtain⟨a0,ea,Y⟩:=MH c 40 B;have xa:=MG (xs:=us) (i:=a0) Y;rw[←ea]at xa;(have q:(0:Int)<((us.map 114).length:Int):=by rw[ay];lia);kd_p;exists _,Z,_,Z,DF (by show(n:Int).natAbs<10^60;lia),_,_,Z,Z,?_;{have h1:=GK (v:=.int (n:Int)) (.inr ⟨_,Z,by show(n:Int).natAbs<10^60;lia⟩);rw[qt]at h1;have h1:(Str.ofString<|toString (n:Int)).length<=100:=h1;(have h2:(Str.ofString "f").length=1:=by kt_k);exact i8 80};exists _,Z,_,Z,_,Z,pu,_,Z,.inl<|S.seq j,_,_,_,Z,q,pu,_,_,_,Z,Z,S.seq j,xa;refine⟨_,Z,_,Z,by show 4<=89;walk,λp W=>?_⟩;exact k p ⟨_,_,_,_⟩ _ Z (ji Y) (by show lo+x-3<=lo+x-3+g;lia) (by show(lo+x-3).natAbs<10^60;lia) (by show(lo+x-3+g).natAbs<10^60;lia) (s1.free<|s2.free<|s3.free W) zb<|S.trans<|aj.new W}
structure tX (us:List Str) (ts:List dW) (fs:List fY) (m:Nat):Prop where
 nd:us.Nodup
 nm:∀x∈us,jJ x=true
 ul:us.length<=14
 tok:∀t∈ts,m7 us t
 FG:ts.Nodup
 tl:ts.length<=m
 uZ:∀f∈fs,A0 us f
 rD:(fs.map fY.n).Nodup
 fl:fs.length<=m
structure oN (H:Hp) (p pm pu pt pf:ai) (at' af:List ai) (lo hi:Int) (us:List Str) (ts:List dW) (fs:List fY):Prop where
 p:H p=some (.tup [.ref pm,.ref pu,.ref pt,.ref pf])
 m:H pm=some (.tup [.int lo,.int hi])
 u:H pu=some (.lst (us.map V.str))
 t:H pt=some (.lst (at'.map V.ref))
 tt:bU H at' (ts.map bO)
 f:H pf=some (.lst (af.map V.ref))
 ft:bU H af (fs.map eY)
theorem oN.same{p pm pu pt pf:ai}(h:oN H p pm pu pt pf at' af lo hi us ts fs)(s:aj H H'):oN H' p pm pu pt pf at' af lo hi us ts fs:=⟨s _ _ h.p,s _ _ h.m,s _ _ h.u,s _ _ h.t,h.tt.same s,s _ _ h.f,h.ft.same s⟩
def u9(f:Int×Int)(us:88)(ts:List dW)(fs:List fY):RS:=⟨some f,us,ts.map bO,fs.map eY⟩
def MI(l:Str)(s s':RS):Prop:=l.length<=800/\∀x j m,cW x s m->j∈sd->cW (x++j++l) s' (m+2)
theorem FH(l:99):l.filter (λ_=>true)=l:=pF.mpr λ_ _=>rfl
theorem S4(P:St->Hp->Prop)(h1:∀q,(∀j H',P j H'->q.nx j H')->a q σ H)(h2:∀j H',P j H'->b D j H'):An a b D σ H:=h1 _ h2
def zxk:Sp:=λq H Q _=>∃(a:ai)(j:List Int),q=[98]/\aH K H a (j.map V.int)/\j.length<=63/\∀r p pm pu pt pf x lo hi us ts fs at' af H',aj H H'->H' r=some (.tup [.str x,101])->qK K H' p pm pu pt pf lo hi us ts fs at' af->tX us ts fs 58->cW x ⟨some (lo,hi),us,ts.map bO,fs.map eY⟩ 117->Q (.ref r) H'
inductive IvT(H:Hp)(a pc p pm pu EJ pf:ai)(c:Nat)(lo y:Int)(ar:Bool)(cs:List Int)(i:Nat)(σ:St)(H':Hp):Prop|mk v7 v8 v9 v10 x n ts fs at' af(_:σ=[some 98,some (.str ⟨#[c]⟩),some (.int lo),some (.ref pm),some (.bl ar),some 101,some (.str x),v7,v8,v9,v10])(_:aj H H')(_:H' pc=some (.lst<|cs.map V.int))(_:oN H' p pm pu EJ pf at' af lo (lo+y) (cX c n) ts fs)(_:tX (cX c n) ts fs i)(_:fs.map fY.n=cX 102 130)(_:cW x (u9 (lo,lo+y) (cX c n) ts fs) (2*i+1))
inductive IvL(H:Hp)(a pc p pm pu EJ pf:ai)(c:Nat)(lo y:Int)(ar:Bool)(cs:List Int)(x:Str)(z:Int)(n:Nat)(ts:List dW)(fs:List fY)(i:Nat)(rq:St)(H':Hp):Prop|mk v10 l n' Bj xF at2 MJ(_:rq=[some 98,some (.str ⟨#[c]⟩),some (.int lo),some (.ref pm),some (.bl ar),some 101,some (.str x),some (.int z),some (.int<|pt z 0 8),some (.str l),v10])(_:aj H H')(_:H' pc=some (.lst<|cs.map V.int))(_:oN H' p pm pu EJ pf at2 MJ lo (lo+y) (cX c n') Bj xF)(_:tX (cX c n') Bj xF (i+1))(_:xF.map fY.n=cX 102 xF.length)(_:MI l (u9 (lo,lo+y) (cX c n) ts fs) (u9 (lo,lo+y) (cX c n') Bj xF))
theorem zpr(T:20):fB P w K mg base "_law_text" ["_law_script"] 4 (zxk (K:=K)):=by refine T.zp6.has bg (λvs H Q E h=>?_) λf fU A outer s H vs Q E hr h=>?_;{obtain⟨a,U,rfl,_⟩:=h;rfl};{obtain⟨a,U,rfl,ha,hl,k⟩:=h;exists _,(zc (sset (i:=1) bg.nd<|aK U8 eO<|fm xN (bS (Ct T)<|za (pv 0)<|za ze zd) ze)<|zc (sset (i:=2) bg.nd<|fm Ge (fm xN (bS (Ct T)<|za (pv 0)<|za ze zd)<|fm Nc ze ze)<|aK (jD K Z) (gG<|za ze<|za (Au Ax ze) zd)<|fm xN (bS (Ct T)<|za (pv 0)<|za ze zd) ze)<|zc (sset (i:=3) bg.nd<|jI<|za (pv 2)<|za (fm qG (pv 2)<|bS (Ib T)<|za (bS (Ct T)<|za (pv 0)<|za ze zd)<|za ze zd) zd)<|zc (sset (i:=4) bg.nd<|xg kM (bS (vF T)<|za (bS (Ct T)<|za (pv 0)<|za ze zd)<|za ze<|za ze zd) ze<|c6 _)<|zc (sset (i:=5) bg.nd<|jI<|za (pv 3)<|za (gG zd)<|za (gG zd)<|za (gG zd) zd)<|zc (sset (i:=6) bg.nd<|fm xP (fm xP (fm xP eO<|nU Gf 97 T.str j9<|za (aK 86 (pv 3) ze) zd) eO)<|nU Gf 97 T.str j9<|za (aK 86 (pv 3) ze) zd)<|zc (iA bB Z (jd K Z<|zD (Ot K Z) (pv 0) (xT ze)<|xT ze) (eS (i:=7) bg.nd)<|zc (sset (i:=8) bg.nd<|bS (vF T)<|za (pv 7)<|za ze<|za ze zd)<|zc (sset (i:=9) bg.nd eO)<|zc (dj (PW.pt<|p5 (zy (AM K Z<|kF hr) (aK 86 (pv 5) ze) (gG zd)<|c6 _)<|uc<|PW.pt<|tu (zy w9 (pv 8) ze<|c6 _)<|vd<|zy w9 (gC (qc K Z) 97 T.len cU<|za (aK 86 (pv 5) ze) zd) ze<|c6 _) (zc (mW<|qY K Z PySem.F.plainAttrs_list 135 136 xj (aK 86 (pv 5) ze)<|za (fm xP (pv 1)<|nU Gf 97 T.str j9<|za (gC (qc K Z) 97 T.len cU<|za (aK 86 (pv 5) ze) zd) zd) zd)<|zf<|sset (i:=9) bg.nd<|fm xP eO<|aK (jD K Z) (aK 86 (pv 5) ze)<|Au Ax ze)<|zf<|dj (zy w9 (pv 8) ze<|c6 _) (zc (sset (i:=10) bg.nd<|bS (zs9 T)<|za (aK 86 (pv 5) ze)<|za (pv 7)<|za (pv 4) zd)<|zf<|dj (zy (JK K Z<|AO hr) (pv 10) (aK 86 (pv 5) ze) (by k_in)) (zc (mW<|qY K Z PySem.F.plainAttrs_list 135 136 xj (aK 86 (pv 5) ze)<|za (pv 10) zd)<|zf<|sset (i:=9) bg.nd<|qY K Z PySem.F.plainAttrs_str PySem.F.slot_str_join PySem.F.type_str_join (Ox K Z) eO<|za (rS (own:=["_law_part_here"]) (cap:=[]) (ix:=[]) (mR:=zp (top 63)) Z ⟨Z,50,50,50,50⟩ Z (Oz K Z<|pv 10) (λ_ _ _ _=>oQ (i:=0) (show List.Nodup (["_law_part_here"]:88)by kt_k) Z<|Or.inl Z) (λ_ _ _ _=>xq) λ_ _ _ _=>(nU Oq 97 T.str j9<|za (pv 0) zd)) zd) d8)<|zc (mW<|qY K Z PySem.F.plainAttrs_list 135 136 xj (aK 86 (pv 5) ze)<|za (bS (zpq T)<|za (aK 86 (pv 5) ze)<|za (pv 3)<|za (gC (qc K Z) 97 T.len cU<|za (aK 86 (pv 5) ze) zd)<|za (pv 7) zd) zd)<|zf<|sset (i:=9) bg.nd<|fm xP eO<|qY K Z PySem.F.plainAttrs_str PySem.F.slot_str_join PySem.F.type_str_join (Ox K Z) eO<|za (rS (own:=["_law_part_here"]) (cap:=[]) (ix:=[]) (mR:=zp (top 63)) Z ⟨Z,50,50,50,50⟩ Z (Oz K Z<|aK (jD K Z) (aK 86 (pv 5) ze)<|Au Ax ze) (λ_ _ _ _=>oQ (i:=0) (show List.Nodup (["_law_part_here"]:88)by kt_k) Z<|Or.inl Z) (λ_ _ _ _=>xq) λ_ _ _ _=>(nU Oq 97 T.str j9<|za (pv 0) zd)) zd)<|zf<|sset (i:=6) bg.nd<|fm xP (fm xP (pv 6)<|aK (jD K Z) (gG<|za eO<|za eO<|za eO zd)<|gC (Nk Z) 97 T.max pA<|za ze<|za (fm BV (bS (vF T)<|za (pv 7)<|za ze<|za ze zd) ze) zd)<|pv 9)<|zf<|cH<|jI<|za (pv 6)<|za (pv 5) zd);have e0:=jv (qf U 0) (show(26:Int)≠0 by walk);have e1:=jo (qf U 0) (show(0:Int)<26 by walk);(obtain⟨c,hc,S6⟩:∃c,iZ (Str.ofString "abcdefghijklmnopqrstuvwxyz").cps.toList (qf U 0%26)=some c/\c∈co zV:=by generalize qf U 0%26=z at e0 e1;obtain⟨m,rfl⟩:∃m:Nat,z=m:=⟨z.toNat,80⟩;(have hm:m<(co zV).length:=by rw[show(co zV).length=26 by kt_k];lia);exact⟨(co zV)[m],vh<|cj hm,ji hm⟩);exists _,Z,a,U,_,Z,ha,82,_,_,Z,Z,(82:(0:Int)<26),_,_,_,Z,Z,50,hc;clear e0 e1;kd_p;have e0:=jv (qf U 1) (show((10:Int)^(40:Int).toNat)≠0 by walk);have e1:=jo (qf U 1) (show(0:Int)<(10:Int)^(40:Int).toNat by walk);have f0:=jv (qf U 2) (show(2:Int)≠0 by walk);have f1:=jo (qf U 2) (show(0:Int)<2 by walk);exists _,Z,a,U,_,Z,ha,82,_,_,Z,Z,⟨82,82,82⟩,_,_,Z,Z,(82:(0:Int)<10^(40:Int).toNat);refine⟨1,Z,by show 2<=89;walk,λp1 rY=>?_⟩;have s1:=aj.new (o:=.lst [.int 1,.int (-1)]) rY;obtain⟨v,hv,S7⟩:=J9 (u:=.int 1) (v:=.int (-1)) f0 f1;(obtain⟨sg,rfl,S8⟩:∃sg:Int,v=.int sg/\(sg=1\/sg=-1):=by rcases S7 with rfl|rfl;{exact⟨_,Z,.inl Z⟩};{exact⟨_,Z,.inr Z⟩});exists _,Z,a,U,_,Z,s1.seq ha,82,_,_,Z,Z,(82:(0:Int)<2),p1,_,_,_,Z,Z,aH.of zb,hv,_,_,Z,Z,.inr (by rcases S8 with rfl|rfl<;>exact⟨82,82⟩);(obtain⟨lo,S9,AI⟩:∃lo:Int,qf U 1%10^(40:Int).toNat*sg=lo/\lo.natAbs<10^40:=by have e1':qf U 1%10^(40:Int).toNat<10^40:=e1;generalize qf U 1%10^(40:Int).toNat=z at e0 e1';exact⟨z*sg,Z,by rcases S8 with rfl|rfl<;>lia⟩);fin2;rw[S9];generalize upd H p1 (.lst [.int 1,.int (-1)])=H1 at s1;clear e0 e1 f0 f1 hv S7 S9;kd_p;refine⟨_,Z,_,Z,_,Z,a,U,_,Z,s1.seq ha,82,_,90,Z,82,82,λy H2 y0 y1 s2=>?_⟩;refine⟨_,_,Z,Z,by show 2<=89;walk,λpm zZ=>?_⟩;have q2:=s1.trans s2;have s3:=aj.new (o:=.tup [.int lo,.int (lo+y)]) zZ;have q3:=q2.trans s3;kd_p;exists _,Z,a,U,_,Z,q3.seq ha,82,_,_,_,Z,82,Z;generalize decide (V.int (pt (qf U 4) 0 4)=V.int 1)=ar;kd_p;refine⟨_,Z,by show 0<=89;walk,λpu MK=>?_⟩;have s4:=aj.new (o:=.lst []) MK;refine⟨by show 0<=89;walk,λJ Ic=>?_⟩;have s5:=aj.new (o:=.lst []) Ic;refine⟨by show 0<=89;walk,λpf yH=>?_⟩;have s6:=aj.new (o:=.lst []) yH;refine⟨by show 4<=89;walk,λp hp=>?_⟩;have s7:=aj.new (o:=.tup [.ref pm,.ref pu,.ref J,.ref pf]) hp;have ML:=s4.trans (s5.trans<|s6.trans s7);have q7:=q3.trans ML;have FI:=ML _ _ (zb (H:=H2) (a:=pm) (o:=.tup [.int lo,.int (lo+y)]));have Ie:=s7 _ _ (s6 _ _<|s5 _ _<|zb (H:=upd H2 pm (.tup [.int lo,.int (lo+y)])) (a:=pu) (o:=.lst []));have Ig:=s7 _ _ (s6 _ _<|zb (H:=upd (upd H2 pm<|.tup [.int lo,.int (lo+y)]) pu (.lst [])) (a:=J) (o:=.lst []));have Ih:=s7 _ _ (zb (H:=upd (upd (upd H2 pm<|.tup [.int lo,.int (lo+y)]) pu<|.lst []) J (.lst [])) (a:=pf) (o:=.lst []));have MM:=zb (H:=upd (upd (upd (upd H2 pm<|.tup [.int lo,.int (lo+y)]) pu<|.lst []) J<|.lst []) pf (.lst [])) (a:=p) (o:=.tup [.ref pm,.ref pu,.ref J,.ref pf]);have fu:H pu=none:=q3.free MK;have ft:H J=none:=q3.free (s4.free Ic);have ff:H pf=none:=q3.free (s4.free<|s5.free yH);have Tc:pu≠J:=zj zb Ic;have Td:pu≠pf:=zj (s5 _ _ zb) yH;have Tf:J≠pf:=zj zb yH;generalize upd (upd (upd (upd (upd H2 pm<|.tup [.int lo,.int (lo+y)]) pu<|.lst []) J<|.lst []) pf<|.lst []) p (.tup [.ref pm,.ref pu,.ref J,.ref pf])=H7 at q7 FI Ie Ig Ih MM;clear ML s4 s5 s6 s7 s3 q3 MK Ic yH hp zZ s2 q2 s1;(have MN:mY lo:=by unfold mY;lia);(have MO:mY (lo+y):=by unfold mY;lia);(have ln:∀z:Int,mY z->(Str.ofString<|toString z).length<=100:=λz hz=>by have h1:=GK (v:=.int z) (.inr ⟨_,Z,hz⟩);rw[qt]at h1;exact h1);have ln1:=ln _ MN;have ln2:=ln _ MO;(have ld:(Str.ofString "dig ").length=4:=by kt_k);(have lb:(Str.ofString " ").length=1:=by kt_k);kd_p;exists _,Z,pm,_,_,_,Z,Z,aI.of FI,Z,_,Z,DF MN,_,_,Z,Z,i8 80,_,_,Z,Z,i8 (by rw[Cp];lia),_,Z,pm,_,_,_,Z,Z,aI.of FI,Z,_,Z,DF MO,_,_,Z,Z,i8 (by rw[Cp,Cp];lia);rw[zy8];have tx0:=cW.first (lo:=lo) (hi:=lo+y) 80 MN MO;kd_p;refine⟨_,Z,_,Z,_,Z,a,_,Z,q7.seq ha,λpc FJ=>?_⟩;have s8:=aj.new (o:=.lst (gX (U.map V.int) (some 5)<|some 63)) FJ;(obtain⟨cs,ec,lc⟩:∃cs:List Int,gX (U.map V.int) (some 5) (some 63)=cs.map V.int/\cs.length<=58:=by obtain⟨cs,ec,_⟩:=Xj U (some 5) (some 63);exists cs,ec;have h1:=bw List.length ec;rw[ay]at h1;rw[←h1];unfold gX;rw[bP,pO,ay,show HT.cN U.length 0 (some 5)=min 5 U.length from HT.tF U.length 0 5,show HT.cN U.length U.length (some 63)=min 63 U.length from HT.tF U.length U.length 63];lia);rw[ec]at s8⊢;have MP:=zb (H:=H7) (a:=pc) (o:=.lst (cs.map V.int));have ncu:pc≠pu:=aG (zj Ie FJ);have nct:pc≠J:=aG (zj Ig FJ);have ncf:pc≠pf:=aG (zj Ih FJ);have F8:oN (upd H7 pc<|.lst<|cs.map V.int) p pm pu J pf [] [] lo (lo+y) (cX c 0) [] []:=oN.same ⟨MM,FI,Ie,Ig,.nil,Ih,.nil⟩ s8;have q8:=q7.trans s8;generalize upd H7 pc (.lst<|cs.map V.int)=H8 at F8 q8 MP;clear MM FI Ie Ig Ih s8 q7 ln1 ln2 ld lb FJ;exists pc,Z,⟨_,aH.of MP⟩;refine mG (K:=K) (a:=pc) (xs:=cs.map V.int) (λi σ H'=>IvT H a pc p pm pu J pf c lo y ar cs i σ H') ⟨none,none,none,none,_,0,[],[],[],[],Z,q8,MP,F8,⟨iK,(λ_ h=>nomatch h),by rw[wh];walk,(λ_ h=>nomatch h),iK,aB _,(λ_ h=>nomatch h),iK,aB _⟩,Z,tx0⟩ (λi σ H' _ h=>by obtain⟨_,_,_,_,_,_,_,_,_,_,_,_,q,_⟩:=h;exact aH.of q) ?_ ?_;{rintro i x0 σ H9 hx⟨v7,v8,v9,v10,x,n,ts,fs,at',af,rfl,q9,Tg,F9,L,FL,tx⟩;rw[aT]at hx;cases eu:cs[i]? with|none=>rw[eu]at hx;cases hx|some z=>rw[eu]at hx;cases hx;have hi:=jE eu;kd_p;(exists _,Z,_,_,_,Z,82);kd_p;refine S4 (λrq H'=>rq=[some 98,some (.str ⟨#[c]⟩),some (.int lo),some (.ref pm),some (.bl ar),some 101,some (.str x),some (.int z),some (.int<|pt z 0 8),some (.str "; none"),v10]/\H'=H9) (λD' h=>h _ _ ⟨Z,Z⟩) ?_;rintro _ _⟨rfl,rfl⟩;refine S4 (λrq H'=>IvL H a pc p pm pu J pf c lo y ar cs x z n ts fs i rq H') (λD' Ii=>?_) ?_;{refine oU (decide (n=0)||(decide (pt z 0 8<2)&&decide (n<14))) (λQ' hQ=>?_) λxr uh=>?_;{refine⟨_,Z,p,_,_,_,Z,Z,aI.of F9.p,Z,by show 0<=89;walk,λe he=>?_⟩;have t1:=aj.new (o:=.lst []) he;exists pu,e,_,Z,Z,dY.nV (aH.of<|t1 _ _ F9.u)<|aH.of zb,_,Z;rw[show decide ((cX c n).map 114=[])=decide (n=0)from iX.mpr ⟨λw=>by have:=bw List.length w;rw[ay,wh]at this;z_go,λw=>by rw[w];rfl⟩];refine bH (λw=>?_) λw=>?_;{rw[w,Bool.true_or]at hQ;exact hQ _ t1};{rw[pN.mpr w,Bool.false_or]at hQ;refine⟨_,Z,_,_,Z,Z,_,Z,bH (λw2=>?_) λw2=>?_⟩;{rw[w2,lY]at hQ;exists _,Z,p,_,_,_,Z,Z,aI.of<|t1 _ _ F9.p,Z,pu,_,Z,.inl<|aH.of<|t1 _ _ F9.u,_,_,Z,Z,_,Z;rw[ay,wh,show decide ((n:Int)<14)=decide (n<14)from iX.mpr 80];exact hQ _ t1};{rw[pN.mpr w2,fR]at hQ;exact hQ _ t1}}};have MQ:=q9.trans uh;have BF:=uh _ _ Tg;have B:=F9.same uh;(have xG:∀w∈cX c n,w∈cX c (n+1):=λw h=>by rw[Cq];exact ir _ h);clear uh Tg F9 q9;refine bH (λw=>?_) λw=>?_;{(have hn:n<14:=by rcases(Bool.or_eq_true _ _).mp w with w|w;{have:=aW w;lia};{exact aW ((c9 _ _).mp w).2});have MR:=Lm S6 (n:=n) 80;have len:=Ce MR;exists _,Z,p,_,_,_,Z,Z,aI.of B.p,Z,.inl ⟨Z,_,aH.of B.u⟩,_,Z,_,Z,p,_,_,_,Z,Z,aI.of B.p,Z,pu,_,Z,.inl<|aH.of B.u,_,Z,DF (by show(((cX c n).map 114).length:Int).natAbs<10^60;rw[ay,wh];lia),_,_,Z,Z,?_;{rw[ay,wh,←Cp];exact i8<|bF len 82};rw[ay,wh];(exists pu,_,_,Z,Z,B.u,by rw[ay,wh];exact jC 80);(have en:(cX c n).map 114++[V.str ((⟨#[c]⟩:Str)++Str.ofString (toString (n:Int)))]=(cX c<|n+1).map 114:=by rw[Cq,aU];rfl);rw[en];(have npu:p≠pu:=λe=>by have h1:=B.p;rw[e,B.u]at h1;cases h1);(have nmu:pm≠pu:=λe=>by have h1:=B.m;rw[e,B.u]at h1;cases h1);have j:oN (upd xr pu<|.lst<|(cX c<|n+1).map 114) p pm pu J pf at' af lo (lo+y) (cX c<|n+1) ts fs:=⟨by rw[zi npu];exact B.p,by rw[zi nmu];exact B.m,zb,by rw[zi (aG Tc)];exact B.t,Paired.fS B.tt λa z e=>qv B.u _ _ e,by rw[zi (aG Td)];exact B.f,Paired.fS B.ft λa z e=>qv B.u _ _ e⟩;(have S:upd xr pu (.lst<|(cX c<|n+1).map 114) pc=some (.lst<|cs.map V.int):=by rw[zi ncu];exact BF);have Y:aj H (upd xr pu<|.lst<|(cX c<|n+1).map 114):=MQ.upd fu;generalize upd xr pu (.lst<|(cX c<|n+1).map 114)=W at j S Y;(have lu5:(Str.ofString "unit ").length=5:=by kt_k);exists _,Z,p,_,_,_,Z,Z,aI.of j.p,Z,_,Z,pu,_,_,_,Z,Z,aH.of j.u,Lc (v:=.str (vE c n)) (by rw[Cq,aU,bN,ay,wh];simp[wh]),_,_,Z,Z,i8 80;rw[Xi];have ro:cV [.str "unit",.str (vE c n)]:=.unit MR;refine Ii _ _ ⟨_,_,n+1,ts,fs,at',af,Z,Y,S,j,⟨Lp c _,Z9 S6 80,by rw[wh];lia,λt ht=>(L.tok t ht).mono xG,L.FG,j0 L.tl,λf hf=>(L.uZ f hf).mono xG,L.rD,j0 L.fl⟩,FL,(Be ro).2,λx sep m t hs=>?_⟩;unfold u9;rw[Cq];exact t.row hs ro<|.unit MR<|Lo c n};{have hn:n≠0:=λe=>w (by rw[aO e,Bool.true_or]);have Th:cX c n≠[]:=λe=>hn (by have:=bw List.length e;rw[wh]at this;z_go);(have hw:∀vs∈ts.map bO,∀v∈vs,Wd v:=λvs hv=>by obtain⟨u,hu,rfl⟩:=aD.mp hv;exact((L.tok u hu).ok.words L.nm).1);have lat:=B.tt.len;have Ti:=B.ft.len;have l1:=L.tl;have l2:=L.fl;rw[ay]at lat Ti;refine yb (decide<|pt z 0 8<6) (λQ' hQ=>⟨_,Z,_,_,Z,Z,_,Z,hQ⟩) ?_;refine bH (λ_=>?_) λ_=>?_;{refine⟨_,Z,p,_,_,_,Z,Z,aI.of B.p,Z,_,Z,_,Z,pu,cX c n,z,ar,Z,aH.of B.u,Th,λb t W tok fb hb zF=>?_⟩;have j:=B.same zF;have Y:=MQ.trans zF;have S:=zF _ _ BF;have BG:=(tok.ok.words L.nm).1;have ro:=tok.ok.row L.nm;kd_p;refine yb (!decide (bO t∈ts.map bO)) (λQ' hQ=>?_) ?_;{exists _,Z,_,Z,p,_,_,_,Z,Z,aI.of j.p,Z,J,_,_,Z,.inl<|aH.of j.t,j.tt.J5 (n:=7) hw hb BG,_,Z;rw[ak Z,j.tt.AX];exact hQ};refine bH (λw2=>?_) λw2=>?_;{(have Tj:bO t∉ts.map bO:=by simpa using w2);(exists _,Z,p,_,_,_,Z,Z,aI.of j.p,Z,.inl ⟨Z,_,aH.of j.t⟩,_,Z,J,_,_,Z,Z,j.t,by rw[ay];exact jC 80);(have en:at'.map 122++[V.ref b]=(at'++[b]).map 122:=by rw[aU];rfl);rw[en];(have npt:p≠J:=λe=>by have h1:=j.p;rw[e,j.t]at h1;cases h1);(have nmt:pm≠J:=λe=>by have h1:=j.m;rw[e,j.t]at h1;cases h1);have O:=qv (ys:=(at'++[b]).map 122) j.t _ _ hb;have BH:oN (upd W J<|.lst<|(at'++[b]).map 122) p pm pu J pf (at'++[b]) af lo (lo+y) (cX c n) (ts++[t]) fs:=⟨by rw[zi npt];exact j.p,by rw[zi nmt];exact j.m,by rw[zi Tc];exact j.u,zb,by rw[show(ts++[t]).map bO=ts.map bO++[bO t]by rw[aU];rfl];exact Paired.snoc (Paired.fS j.tt λa z e=>qv j.t _ _ e) O,by rw[zi (aG Tf)];exact j.f,Paired.fS j.ft λa z e=>qv j.t _ _ e⟩;(have wY:upd W J (.lst<|(at'++[b]).map 122) pc=some (.lst<|cs.map V.int):=by rw[zi nct];exact S);have FN:aj H (upd W J<|.lst<|(at'++[b]).map 122):=Y.upd ft;generalize upd W J (.lst<|(at'++[b]).map 122)=H12 at BH wY FN O;refine⟨Z,_,Z,b,Z,⟨_,aI.of O⟩,λD hD=>?_⟩;refine Gu (Og (xs:=bO t)) (λ_=>true) (λv=>.str<|fG v) (λys=>(aj.new hD).tup<|aI.of O) (i8 (by have:=(Hh ro).2;lia)) (λv hv ys Q' q=>q) (λv hv _ ys Q' q=>?_) ?_;{exact⟨_,Z,v,Z,BG v hv,q⟩};rw[FH];have BI:=aj.new (o:=.lst ((bO t).map λv=>V.str (fG v))) hD;exists _,D,(bO t).map fG,Z,Z,aH.of (by rw[zb,bK];rfl),Pc BG (Hh ro).2;rw[Pb];refine Ii _ _ ⟨_,_,n,ts++[t],fs,at'++[b],af,Z,FN.trans BI,BI _ _ wY,BH.same BI,⟨L.nd,L.nm,L.ul,λu hu=>?_,?_,by rw[bN];exact lT l1,L.uZ,L.rD,j0 l2⟩,FL,(Be ro).2,λx sep m tt hs=>?_⟩;{rcases bJ.mp hu with h|h;{exact L.tok u h};{rw[cL]at h;rw[h];exact tok}};{refine jq.mpr ⟨L.FG,81,λa ha b hb e=>?_⟩;rw[cL]at hb;exact Tj<|aD.mpr ⟨a,ha,by rw[e,hb]⟩};{unfold u9;rw[aU];exact tt.row hs ro<|.El tok.ok Tj}};{refine Ii _ _ ⟨_,_,n,ts,fs,at',af,Z,Y,S,j,⟨L.nd,L.nm,L.ul,L.tok,L.FG,j0 l1,L.uZ,L.rD,j0 l2⟩,FL,50,λx sep m tt hs=>tt.none hs⟩}};{refine⟨_,Z,p,_,_,_,Z,Z,aI.of B.p,Z,.inl ⟨Z,_,aH.of B.f⟩,_,Z,p,_,_,_,Z,Z,aI.of B.p,Z,_,Z,_,Z,p,_,_,_,Z,Z,aI.of B.p,Z,pf,_,Z,.inl<|aH.of B.f,_,Z,pu,pm,cX c n,lo,.int<|lo+y,130,z,by rw[ay,Ti];rfl,aH.of B.u,aI.of B.m,Th,AI,80,λb f W fn MS MT MU MV fb hb zF=>?_⟩;have j:=B.same zF;have Y:=MQ.trans zF;have S:=zF _ _ BF;rw[Z8]at fn;have uZ:A0 (cX c n) f:=⟨by rw[fn];exact Lm Z7 80,MS,MT,MU,MV⟩;have BG:=uZ.words L.nm;have ro:cV (.str "find"::eY f):=.find uZ.n (L.nm _ MS) MT MU MV;(have Tn:(fs++[f]).map fY.n=cX 102 (fs++[f]).length:=by rw[aU,FL,bN];show _=cX 102 (130+1);rw[Cq,←fn];rfl);(exists pf,_,_,Z,Z,j.f,by rw[ay];exact jC 80);(have en:af.map 122++[V.ref b]=(af++[b]).map 122:=by rw[aU];rfl);rw[en];(have npf:p≠pf:=λe=>by have h1:=j.p;rw[e,j.f]at h1;cases h1);(have nmf:pm≠pf:=λe=>by have h1:=j.m;rw[e,j.f]at h1;cases h1);have O:=qv (ys:=(af++[b]).map 122) j.f _ _ hb;have BH:oN (upd W pf<|.lst<|(af++[b]).map 122) p pm pu J pf at' (af++[b]) lo (lo+y) (cX c n) ts (fs++[f]):=⟨by rw[zi npf];exact j.p,by rw[zi nmf];exact j.m,by rw[zi Td];exact j.u,by rw[zi Tf];exact j.t,Paired.fS j.tt λa z e=>qv j.f _ _ e,zb,by rw[show(fs++[f]).map eY=fs.map eY++[eY f]by rw[aU];rfl];exact Paired.snoc (Paired.fS j.ft λa z e=>qv j.f _ _ e) O⟩;(have wY:upd W pf (.lst<|(af++[b]).map 122) pc=some (.lst<|cs.map V.int):=by rw[zi ncf];exact S);have FN:aj H (upd W pf<|.lst<|(af++[b]).map 122):=Y.upd ff;generalize upd W pf (.lst<|(af++[b]).map 122)=H12 at BH wY FN O;refine⟨Z,_,Z,p,_,_,_,Z,Z,aI.of BH.p,Z,_,Z,pf,_,_,_,Z,Z,aH.of BH.f,Lc (v:=.ref b) 81,b,Z,⟨_,aI.of O⟩,λD hD=>?_⟩;refine Gu (Og (xs:=eY f)) (λ_=>true) (λv=>.str<|fG v) (λys=>(aj.new hD).tup<|aI.of O) (i8 (by show 4<=1000;walk)) (λv hv ys Q' q=>q) (λv hv _ ys Q' q=>?_) ?_;{exact⟨_,Z,v,Z,BG v hv,q⟩};rw[FH];have BI:=aj.new (o:=.lst ((eY f).map λv=>V.str (fG v))) hD;have lfl:=O9 BG (show(eY f).length<=6 by show 4<=6;walk);rw[←Pa]at lfl;exists _,D,(eY f).map fG,Z,Z,aH.of (by rw[zb,bK];rfl),Pc BG (by show 4<=6;walk);rw[Pb];exists _,_,Z,Z,i8 (by rw[show(Str.ofString "find ").length=5 by kt_k];lia);rw[show(Str.ofString "find ":Str)++ou (eY f)=ou (.str "find"::eY f)from zv9 _ _];refine Ii _ _ ⟨_,_,n,ts,fs++[f],at',af++[b],Z,FN.trans BI,BI _ _ wY,BH.same BI,⟨L.nd,L.nm,L.ul,L.tok,L.FG,j0 l1,λg hg=>?_,by rw[Tn];exact Lp _ _,by rw[bN];exact lT l2⟩,Tn,(Be ro).2,λx sep m tt hs=>?_⟩;{rcases bJ.mp hg with h|h;{exact L.uZ g h};{rw[cL]at h;rw[h];exact uZ}};{unfold u9;rw[show(fs++[f]).map eY=fs.map eY++[eY f]by rw[aU];rfl];refine tt.row hs ro<|.find<|.mk uZ.n MS MT MU MV λg hg e=>?_;obtain⟨g0,hg0,rfl⟩:=aD.mp hg;have e:g0.n=f.n:=V.str.inj (dR e);refine Lo 102 130 ?_;rw[←FL,←fn,←e];exact aD.mpr ⟨g0,hg0,Z⟩}}}};{rintro _ W⟨v10,l,n',Bj,xF,at2,MJ,rfl,Y,S,j,D11,MW,lnl,lnt⟩;have b18:=yg z 9 18 82;have lx:=(tx.fit 80).1;refine⟨_,Z,by show 3<=89;walk,λps uw=>?_⟩;have t1:=aj.new (o:=.lst [.str "\n",.str "\n  ",.str "\n;\n"]) uw;(obtain⟨sep,FO,ME⟩:∃sep∈sd,iZ [V.str "\n",.str "\n  ",.str "\n;\n"] (if pt z 9 18-15>0 then pt z 9 18-15 else 0)=some (.str sep):=by(have h3:(if pt z 9 18-15>0 then pt z 9 18-15 else 0)=0\/(if pt z 9 18-15>0 then pt z 9 18-15 else 0)=1\/(if pt z 9 18-15>0 then pt z 9 18-15 else 0)=2:=by split<;>lia);rcases h3 with h3|h3|h3<;>rw[h3];{exact⟨_,c8 ..,Z⟩};{exact⟨_,aZ _<|c8 ..,Z⟩};{exact⟨_,aZ _<|aZ _<|c8 ..,Z⟩});have ls3:=(show∀s∈sd,s.length<=3 by kt_k) sep FO;have sb:∀m,m<=1001000->m<=89:=λm h=>bF h 82;exists _,Z,_,_,_,Z,82,_,_,Z,Z,_,_,Z,ps,_,_,_,Z,Z,aH.of zb,ME,_,_,Z,Z,sb _ 80,_,Z,_,_,Z,Z,sb _ (by rw[Cp];lia);exact⟨_,_,_,_,_,n',Bj,xF,at2,MJ,Z,Y.trans t1,t1 _ _ S,j.same t1,D11,MW,lnt x sep _ tx FO⟩}};{rintro σ H9⟨v7,v8,v9,v10,x,n,ts,fs,at',af,rfl,q9,_,F9,L,_,tx⟩;rw[ay]at L tx;refine⟨_,Z,_,Z,by show 2<=89;walk,λr hr=>?_⟩;have t1:=aj.new (o:=.tup [.str x,101]) hr;have B:=F9.same t1;obtain⟨ls,z1,z2,z3,z4⟩:=tx;exact k r p pm pu J pf x lo (lo+y) (cX c n) ts fs at' af _ (q9.trans t1) zb ⟨aI.of B.p,aI.of B.m,aH.of B.u,aH.of B.t,B.tt,aH.of B.f,B.ft⟩ ⟨L.nd,L.nm,L.ul,L.tok,L.FG,bF L.tl lc,L.uZ,L.rD,bF L.fl lc⟩ ⟨ls,z1,z2,80,z4⟩}}
theorem dY.Ai(q:aH K H a xs)(B:aH K H b ys)(j:84=121)(h:∀(i:Nat)x y,xs[i]?=some x->ys[i]?=some y->dY K H n x y true):dY K H (n+1) 98 (.ref b) true:=by have:=dY.lst (n:=n) (λ_=>true) q B j h;rw[eV.mpr λ_ _=>rfl]at this;z_go
theorem To{H:Hp}{n:Nat}{as bs:List ai}{j:List 99}(ta:bU H as j)(tb:bU H bs j)(hw:∀vs∈j,∀v∈vs,Wd v):∀(i:Nat)x y,(as.map 122)[i]?=some x->(bs.map 122)[i]?=some y->dY K H (n+1) x y true:=by intro i x y ex q;rw[aT]at ex q;cases B:as[i]? with|none=>rw[B]at ex;cases ex|some a=>cases J:bs[i]? with|none=>rw[J]at q;cases q|some b=>rw[B]at ex;rw[J]at q;cases ex;cases q;obtain⟨ws,O,h1⟩:=ta.at B;obtain⟨W,S,h2⟩:=tb.at J;rw[O]at S;cases S;have L:∀v∈ws,p8 v=true:=λv U=>(hw ws (bM O) v U).flat;have:=dY.tG (n:=n) (aI.of (K:=K) h1) (aI.of h2) L L;rwa[JJ L]at this
theorem z7q{p pm pu pt pf U L S O J:ai}(A:qK K H p pm pu pt pf lo hi us ts fs at' af)(B:qK K H U L S O J lo hi us ts fs bt bf)(Y:∀vs∈ts.map bO,∀v∈vs,Wd v)(W:∀vs∈fs.map eY,∀v∈vs,Wd v):dY K H 8 101 (.ref U) true:=by refine dY.DH (n:=7) A.p B.p Z λi x y ex j=>?_;match i,ex,j with|0,ex,j=>cases ex;cases j;(have q:∀v∈([V.int lo,V.int hi]:99),p8 v=true:=by simp[p8]);have:=dY.tG (n:=6) A.at'.m B.at'.m q q;rwa[JJ q]at this|1,ex,j=>cases ex;cases j;refine dY.zG (n:=6) A.at'.u B.at'.u λx hx=>?_;obtain⟨z,_,rfl⟩:=aD.mp hx;have:=dY.flat (K:=K) (H:=H) (n:=6) (x:=.str z) (y:=.str z) Z Z;rwa[JH Z]at this|2,ex,j=>cases ex;cases j;exact dY.Ai (n:=6) A.at'.t B.at'.t (by rw[ay,ay,A.at'.tt.len,B.at'.tt.len])<|To A.at'.tt B.at'.tt Y|3,ex,j=>cases ex;cases j;exact dY.Ai (n:=6) A.at'.f B.at'.f (by rw[ay,ay,A.at'.ft.len,B.at'.ft.len])<|To A.at'.ft B.at'.ft W|i+4,ex,j=>cases ex
theorem zz6(h:jJ x=true):x≠"":=λz=>by rw[z]at h;revert h;walk
def FP:Nat:=13
def wZ:Sp:=λq H Q _=>∃(a:ai)(j:List Int),q=[98]/\aH K H a (j.map V.int)/\j.length<=63/\∀H',Q (.bl true) H'
theorem Tq{p pm pu pt pf:ai}(h:qK K H p pm pu pt pf lo hi us ts fs at' af)(d:tX us ts fs 58):gp K H p pm pu pt pf lo hi us at' ts af fs:=⟨⟨h.p,h.at'.u,h.at'.t,h.at'.tt,d.nd,by have:=d.ul;lia,by have:=d.tl;lia,d.tok⟩,h.at'.m,h.at'.f,h.at'.ft,λf j=>(d.uZ f j).u,by have:=d.fl;lia⟩
theorem FQ(T:20):fB P w K mg base "law" ["_law_script"] FP (wZ (K:=K)):=by refine T.z9c.has mC (λvs H Q E h=>?_) λf fU A outer s H vs Q E hr h=>?_;{obtain⟨a,ns,rfl,_⟩:=h;rfl};{obtain⟨a,ns,rfl,ha,hl,k⟩:=h;exists _,(zc (BO (bS (zpr T)<|za (pv 0) zd)<|qZ K Z Z<|jB (eS (i:=1) mC.nd)<|jB (eS (i:=2) mC.nd) qX)<|zc (sset (i:=3) mC.nd<|bS (zjx T)<|za (pv 1) zd)<|zc (dj (zy (AN K Z<|kF hr) (pv 3) (pv 2)<|c6 _) (zf<|cH ly) d8)<|zc (BO (bS (zn6 T)<|za (pv 3) zd)<|qZ K Z Z<|jB (eS (i:=4) mC.nd)<|jB (eS (i:=3) mC.nd) qX)<|zc (dj (zy kM (pv 4) eO<|c6 _) (zf<|cH<|CP (bS (zgo T)<|za (pv 2)<|za (pv 3) zd)<|BL<|xg kM (gC (qc K Z) 97 T.len cU<|za (pv 3) zd) (bS (Sy T)<|za (pv 2) zd)<|c6 _) d8)<|zc (dj (zy xO (bS (Sy T)<|za (pv 2) zd) ze<|c6 _) (zf<|cH ly) d8)<|zc (dj (zy kM (pv 4) eO<|c6 _) (zf<|cH<|CP (bS (zh4 T)<|za (pv 2)<|za (pv 3) zd)<|BL<|xg kM (gC (qc K Z) 97 T.len cU<|za (aK 86 (pv 3) ze) zd) (bS (SN T)<|za (pv 2) zd)<|c6 _) d8)<|zf<|cH<|CP (IB<|y9<|bS (SN T)<|za (pv 2) zd)<|BL<|bS (zgp T)<|za (pv 2)<|za (pv 3)<|za (bS (Ct T)<|za (pv 0)<|za ze zd) zd);refine⟨_,Z,a,ns,Z,ha,hl,λr p pm pu pt pf x lo hi us ts fs at' af H1 s1 Ff T1 j tx=>?_⟩;exists r,_,Z,aI.of Ff,Z,_,_,Z,_,_,Z,Z;obtain⟨f1,f2,f3,f4⟩:=tx.fit 82;kd_p;refine⟨_,Z,_,⟨some (lo,hi),us,ts.map bO,fs.map eY⟩,lo,hi,Z,f1,f2,f3,f4,Z,λtl gm gu gt gf bt bf H2 _ _ _ _ e1 e2 e3 e4 e5 e6 e7 _ _ _ s2=>?_⟩;have T2:qK K H2 tl gm gu gt gf lo hi us ts fs bt bf:=⟨aI.of e1,aI.of e2,aH.of e3,aH.of e4,e5,aH.of e6,e7⟩;have Tt:=T1.same s2;have F1:=Tq Tt j;have F2:=Tq T2 j;have B:at'.length=129:=F1.cB.len;have J:bt.length=129:=F2.cB.len;have O:af.length=130:=F1.mT;have S:bf.length=130:=F2.mT;have xD:∀f∈fs,f.n≠"":=λf hf=>zz6 (j.uZ f hf).n;(have tw:∀vs∈ts.map bO,∀v∈vs,Wd v:=λvs hv=>by obtain⟨t,ht,rfl⟩:=aD.mp hv;exact((j.tok t ht).ok.words j.nm).1);(have fw:∀vs∈fs.map eY,∀v∈vs,Wd v:=λvs hv=>by obtain⟨f,hf,rfl⟩:=aD.mp hv;exact(j.uZ f hf).words j.nm);have t58:=j.tl;have f58:=j.fl;kd_p;refine oU 94 (λQ' hQ=>?_) λH3 s3=>bh ?_;{exists _,Z,_,Z,tl,p,_,Z,Z,z7q T2 Tt tw fw;exact⟨_,Z,hQ _<|aj.refl _⟩};have F13:=F1.same s3;have Tu:=F2.same s3;(try unfold mO);x_go;refine⟨_,Z,tl,gm,gu,gt,gf,lo,hi,us,bt,ts,bf,fs,Z,Tu,λr4 q wd H4 s4 qm hw=>?_⟩;exists r4,_,Z,aI.of qm,Z,_,_,Z,_,_,Z,Z;have L:=F13.same s4;have Tv:=Tu.same s4;kd_p;exists _,Z,Z,_,Z;(have zero:mj (fE ts<|ts.zip bt) 79->∀m,mh (fE ts<|ts.zip at') 79 m->m=0:=λnr m b=>by rcases b with⟨e,_⟩|⟨h1,⟨s,hs,r⟩,_⟩;{exact e};{exact absurd r<|nr.over J B s hs m h1});rcases hw with⟨ew,nr,_,f,g,hS,hf,hg,no⟩|⟨ew,nr,c,w,Ma,ri⟩|⟨ew,rs,hq,tR,EM,R⟩;{subst ew;refine bH (λz=>absurd (V.str.inj<|aW z) 82) λ_=>?_;(try unfold mO);x_go;refine⟨_,Z,p,pu,pt,_,_,us,at',ts,Z,L.cB,80,λm H5 Y bk=>?_⟩;have em:=zero nr m bk;subst em;have W:=L.same Y;exists _,_,Z,Z,_,Z;refine bH (λz=>absurd (aW z) 82) λ_=>?_;(try unfold mO);x_go;exists _,Z,Z,_,Z;refine bH (λz=>absurd (V.str.inj<|aW z) 82) λ_=>?_;(try unfold mO);x_go;have Tw:=no.over J B S O;have CM:=nr.over J B;refine⟨_,Z,p,pm,pu,pt,pf,lo,hi,us,at',ts,af,fs,Z,W,80,CM,λv H6 s6 fe=>?_⟩;(have ev:v=.cz:=by rcases fe with⟨e,_⟩|⟨n,_,⟨k0,Bx,c,m,u,ce,lt,_⟩,_⟩;{exact e};{have:=Tw k0 Bx c m u ce;lia});subst ev;obtain⟨as,hq,pr⟩:=hS;have U:=Y.trans s6;exists _,Z;exact⟨_,Z,_,Z,_,Z,a,ns,_,Z,aj.seq (s1.trans<|s2.trans<|s3.trans<|s4.trans U) ha,82,p,pm,pu,pt,pf,q,lo,hi,_,us,at',ts,af,fs,f,g,Z,W.same s6,j.rD,xD,tw,CM,⟨as,U _ _ hq,Paired.fS pr λa k e=>U _ _ e⟩,λk hk=>by rw[i6.over O S];exact(hf k hk).over J B,λk hk=>by rw[i7.over O S];exact(hg k hk).over J B,Tw,λH7 _=>k _⟩};{subst ew;refine bH (λz=>absurd (V.str.inj<|aW z) 82) λ_=>?_;(try unfold mO);x_go;refine⟨_,Z,p,pu,pt,_,_,us,at',ts,Z,L.cB,80,λm H5 Y bk=>?_⟩;have em:=zero nr m bk;subst em;have W:=L.same Y;have F25:=Tv.same Y;exists _,_,Z,Z,_,Z;refine bH (λz=>absurd (aW z) 82) λ_=>?_;(try unfold mO);x_go;exists _,Z,Z,_,Z;refine bH (λ_=>?_) λz=>absurd (aO Z) z;obtain⟨l,h1,h2⟩:=Ma;refine⟨_,Z,_,Z,p,pm,pu,pt,pf,q,lo,hi,us,at',bt,ts,af,bf,fs,c,w,Z,W,nr,j.rD,xD,tw,⟨l,Y _ _ h1,Y _ _ h2⟩,F25.cB.tt,ri,λH6 s6=>?_⟩;have U:=Y.trans s6;refine⟨_,Z,gi ?_⟩;refine⟨_,Z,q,_,_,_,Z,Z,aI.of<|U _ _ h1,Z,l,_,Z,.inl<|aH.of<|U _ _ h2,_,Z,p,pm,pu,pt,pf,lo,hi,us,at',ts,af,fs,Z,W.same s6,80,nr.over J B,λv H7 s7 fe=>?_⟩;obtain⟨kk,m,CD,up,Ah,_,rR,MX⟩:=ri;(have ev:V.int ((c.2.2.map λ(p:Tr)=>V.ref p.2).length:Int)=v:=by rw[ay];obtain⟨c',u',e1,e2⟩:=up.over J B;rw[i6.over S O]at u';rw[i7.over S O]at Ah;rcases fe with⟨_,n0⟩|⟨n,e,⟨k0,Bx,c0,m0,u0,g0,lt0,len0⟩,MY⟩;{have:=n0 kk CD c' m u' Ah;lia};{obtain⟨c1,u1,e3,e4⟩:=u0.over B J;rw[i6.over O S]at u1;rw[i7.over O S]at g0;(have a1:¬n<c.2.2.length:=λz=>by have:=MX k0 Bx c1 m0 u1 g0 80;lia);(have a2:¬c.2.2.length<n:=λz=>by have:=MY kk CD c' m u' Ah 80;lia);rw[e,show n=c.2.2.length by lia]});subst ev;exists Z;rw[aO Z];exact k _};{subst ew;refine bH (λ_=>?_) λz=>absurd (aO Z) z;obtain⟨ws,RT⟩:=R.A3;refine⟨_,Z,_,Z,p,pu,pt,q,_,_,us,at',bt,rs,ts,ws,Z,L.cB,tw,hq,tR,80,Tv.cB.tt,RT,λH5 Y=>?_⟩;refine⟨_,Z,gi ?_⟩;refine⟨_,Z,q,_,Z,.inl<|aH.of<|Y _ _ hq,_,Z,p,pu,pt,_,_,us,at',ts,Z,(L.same Y).cB,80,λm H6 s6 bk=>⟨Z,?_⟩⟩;have e:=XI (Kr L.cB.ends) R (bk.over B J);rw[aO (show V.int ((rs.map 122).length:Int)=V.int (m:Int)by rw[ay,e])];exact k _}}
end
end LK85
open PySem PySem.W PyProof.Rows
set_option maxRecDepth 100000 in
set_option maxHeartbeats 0 in
theorem PySem.Challenge.cw_digmatrix_k85_whole_text_to_witness_holds : PySem.Challenge.rw_digmatrix_k85_whole_text_to_witness.Holds := by
 w_on;o_law;k_head;(case hw=>w_witness2)
 k_fill
 refine L2.vS (l:=PySem.Challenge.rw_digmatrix_k85_whole_text_to_witness) (k:=LK85.FP) (x:="_law_script") (sp:=fun K=>LK85.wZ (K:=K)) rfl rfl ⟨rfl,by decide,by decide⟩ (fun w h Y=>PySem.W.kIn_of Y) (fun K H a ns hl hS=>⟨a,ns,rfl,hS,hl,fun _=>rfl⟩) ?F
 case F=>
  intro w mg h KX G
  have T:∃C_Reading,∃zn,∃zk,∃zx,∃zq,∃zm,∃zr,∃zo,∃zv,∃zw,∃zh,LK85.Tx (L2.N5 KX) mg w C_Reading zn zk zx zq zm zr zo zv zw zh:=by
   dsimp only [L2.N5]
   refine' LK85.Tx.ex ⟨?z0,?z1,?z2,?z3,?z4,?z5,?z6,?z7,?z8,?z9,?z10,?z11,?z12,?z13,?z14,?z15,?z16,?z17,?z18,?z19,?z20,?z21,?z22,?z23,?z24,?z25,?z26,?z27,?z28,?z29,?z30,?z31,?z32,?z33,?z34,?z35,?z36,?z37,?z38,?z39,?z40,?z41,?z42,?z43,?z44,?z45,?z46,?z47,?z48,?z49,?z50,?z51,?z52,?z53,?z54,?z55,?z56,?z57,?z58,?z59,?z60,?z61,?z62,?z63,?z64,?z65,?z66,?z67,?z68,?z69,?z70,?z71,?z72,?z73,?z74,?z75,?z76,?z77,?z78,?z79,?z80,?z81,?z82,?z83,?z84,?z85,?z86,?z87,?z88,?z89,?z90,?z91,?z92,?z93,?z94,?z95,?z96,?z97,?z98,?z99,?z100,?z101,?z102,?z103,?z104,?z105,?z106,?z107,?z108,?z109,?z110,?z111,?z112,?z113,?z114,?z115,?z116⟩
   case z0=>refine' L2.dD KX G ?_<;>try k_is
   case z1=>refine' ⟨?_,?_,?_,?_⟩<;>try k_is
   case z2=>k_is
   case z3=>k_is
   case z4=>(unfold L2.cA;k_is)
   case z5=>(unfold L2.cA;k_is)
   case z6=>(unfold L2.cA;k_is)
   case z7=>(unfold L2.cA;k_is)
   case z8=>refine' L2.gY (fun _ _ _ _ _ _=>L2.eX fun _=>rfl) ?_ ?_ ?_ ?_ ?_<;>try k_is
   case z9=>refine' L2.gY (fun _ _ _ _ _ _=>L2.jQ fun _ _ _=>rfl) ?_ ?_ ?_ ?_ ?_<;>try k_is
   case z10=>refine' L2.gY (fun _ _ _ _ _ _=>L2.jQ fun _ _ _=>rfl) ?_ ?_ ?_ ?_ ?_<;>try k_is
   case z11=>refine' L2.gY (fun _ _ _ _ _ _=>L2.jQ fun _ _ _=>rfl) ?_ ?_ ?_ ?_ ?_<;>try k_is
   case z12=>refine' L2.gY (fun _ _ _ _ _ _=>L2.jQ fun _ _ _=>rfl) ?_ ?_ ?_ ?_ ?_<;>try k_is
   case z13=>refine' L2.gY (fun _ _ _ _ _ _=>L2.jQ fun _ _ _=>rfl) ?_ ?_ ?_ ?_ ?_<;>try k_is
   case z14=>refine' L2.gY (fun _ _ _ _ _ _=>L2.jQ fun _ _ _=>rfl) ?_ ?_ ?_ ?_ ?_<;>try k_is
   case z15=>refine' L2.gY (fun _ _ _ _ _ _=>L2.eX fun _=>rfl) ?_ ?_ ?_ ?_ ?_<;>try k_is
   case z16=>refine' L2.dD KX G ?_<;>try k_is
   case z17=>refine' ⟨?_,?_,?_⟩<;>try k_is
   case z18=>refine' L2.dD KX G ?_<;>try k_is
   case z19=>refine' L2.dD KX G ?_<;>try k_is
   case z20=>refine' L2.dD KX G ?_<;>try k_is
   case z21=>refine' L2.dD KX G ?_<;>try k_is
   case z22=>refine' L2.dD KX G ?_<;>try k_is
   case z23=>refine' L2.dD KX G ?_<;>try k_is
   case z24=>refine' L2.dD KX G ?_<;>try k_is
   case z25=>refine' L2.dD KX G ?_<;>try k_is
   case z26=>refine' ⟨?_,?_,?_⟩<;>try k_is
   case z27=>refine' L2.tT ?x27 ?y27 ?u27 ?v27;(case x27=>k_is);(case y27=>rfl);(case u27=>k_is);(case v27=>k_is)
   case z28=>refine' L2.wm ?x28 ?y28;(case x28=>k_is);(case y28=>rfl)
   case z29=>refine' ⟨?_,?_,?_,?_⟩<;>try k_is
   case z30=>refine' L2.gY (fun _ _ _ _ _ _=>L2.iP fun _ _=>rfl) ?_ ?_ ?_ ?_ ?_<;>try k_is
   case z31=>(unfold L2.cA;k_is)
   case z32=>refine' L2.dD KX G ?_<;>try k_is
   case z33=>refine' ⟨?_,?_,?_⟩<;>try k_is
   case z34=>refine' L2.tT ?x34 ?y34 ?u34 ?v34;(case x34=>k_is);(case y34=>rfl);(case u34=>k_is);(case v34=>k_is)
   case z35=>refine' L2.wm ?x35 ?y35;(case x35=>k_is);(case y35=>rfl)
   case z36=>refine' ⟨?_,?_,?_,?_⟩<;>try k_is
   case z37=>refine' L2.gY (fun _ _ _ _ _ _=>L2.iP fun _ _=>rfl) ?_ ?_ ?_ ?_ ?_<;>try k_is
   case z38=>(unfold L2.cA;k_is)
   case z39=>k_is
   case z40=>k_is
   case z41=>k_is
   case z42=>refine' L2.aY KX G (fun _ _ _ _ _ _=>L2.eX fun _=>rfl) ?_ ?_ ?_ ?_<;>try k_is
   case z43=>refine' L2.aY KX G (fun _ _ _ _ _ _=>L2.eX fun _=>rfl) ?_ ?_ ?_ ?_<;>try k_is
   case z44=>refine' L2.aY KX G (fun _ _ _ _ _ _=>L2.iP fun _ _=>rfl) ?_ ?_ ?_ ?_<;>try k_is
   case z45=>refine' L2.aY KX G (fun _ _ _ _ _ _=>L2.eX fun _=>rfl) ?_ ?_ ?_ ?_<;>try k_is
   case z46=>refine' L2.aY KX G (fun _ _ _ _ _ _=>L2.eX fun _=>rfl) ?_ ?_ ?_ ?_<;>try k_is
   case z47=>refine' L2.aY KX G (fun _ _ _ _ _ _=>L2.iP fun _ _=>rfl) ?_ ?_ ?_ ?_<;>try k_is
   case z48=>refine' L2.aY KX G (fun _ _ _ _ _ _=>L2.jQ fun _ _ _=>rfl) ?_ ?_ ?_ ?_<;>try k_is
   case z49=>refine' L2.aY KX G (fun _ _ _ _ _ _=>L2.jQ fun _ _ _=>rfl) ?_ ?_ ?_ ?_<;>try k_is
   case z50=>refine' L2.aY KX G (fun _ _ _ _ _ _=>L2.eX fun _=>rfl) ?_ ?_ ?_ ?_<;>try k_is
   case z51=>refine' L2.aY KX G (fun _ _ _ _ _ _=>L2.iP fun _ _=>rfl) ?_ ?_ ?_ ?_<;>try k_is
   case z52=>refine' L2.aY KX G (fun _ _ _ _ _ _=>L2.jQ fun _ _ _=>rfl) ?_ ?_ ?_ ?_<;>try k_is
   case z53=>refine' L2.aY KX G (fun _ _ _ _ _ _=>L2.iP fun _ _=>rfl) ?_ ?_ ?_ ?_<;>try k_is
   case z54=>refine' L2.aY KX G (fun _ _ _ _ _ _=>L2.eX fun _=>rfl) ?_ ?_ ?_ ?_<;>try k_is
   case z55=>refine' L2.aY KX G (fun _ _ _ _ _ _=>L2.eX fun _=>rfl) ?_ ?_ ?_ ?_<;>try k_is
   case z56=>refine' L2.aY KX G (fun _ _ _ _ _ _=>L2.iP fun _ _=>rfl) ?_ ?_ ?_ ?_<;>try k_is
   case z57=>refine' L2.aY KX G (fun _ _ _ _ _ _=>L2.eX fun _=>rfl) ?_ ?_ ?_ ?_<;>try k_is
   case z58=>refine' L2.aY KX G (fun _ _ _ _ _ _=>L2.eX fun _=>rfl) ?_ ?_ ?_ ?_<;>try k_is
   case z59=>refine' L2.aY KX G (fun _ _ _ _ _ _=>L2.iP fun _ _=>rfl) ?_ ?_ ?_ ?_<;>try k_is
   case z60=>refine' L2.aY KX G (fun _ _ _ _ _ _=>L2.iP fun _ _=>rfl) ?_ ?_ ?_ ?_<;>try k_is
   case z61=>refine' L2.aY KX G (fun _ _ _ _ _ _=>L2.eX fun _=>rfl) ?_ ?_ ?_ ?_<;>try k_is
   case z62=>refine' L2.aY KX G (fun _ _ _ _ _ _=>L2.eX fun _=>rfl) ?_ ?_ ?_ ?_<;>try k_is
   case z63=>refine' L2.aY KX G (fun _ _ _ _ _ _=>L2.eX fun _=>rfl) ?_ ?_ ?_ ?_<;>try k_is
   case z64=>refine' L2.aY KX G (fun _ _ _ _ _ _=>L2.eX fun _=>rfl) ?_ ?_ ?_ ?_<;>try k_is
   case z65=>refine' L2.aY KX G (fun _ _ _ _ _ _=>L2.eX fun _=>rfl) ?_ ?_ ?_ ?_<;>try k_is
   case z66=>refine' L2.aY KX G (fun _ _ _ _ _ _=>L2.iP fun _ _=>rfl) ?_ ?_ ?_ ?_<;>try k_is
   case z67=>refine' L2.aY KX G (fun _ _ _ _ _ _=>L2.iP fun _ _=>rfl) ?_ ?_ ?_ ?_<;>try k_is
   case z68=>refine' L2.aY KX G (fun _ _ _ _ _ _=>L2.eX fun _=>rfl) ?_ ?_ ?_ ?_<;>try k_is
   case z69=>refine' L2.aY KX G (fun _ _ _ _ _ _=>L2.eX fun _=>rfl) ?_ ?_ ?_ ?_<;>try k_is
   case z70=>refine' L2.aY KX G (fun _ _ _ _ _ _=>L2.eX fun _=>rfl) ?_ ?_ ?_ ?_<;>try k_is
   case z71=>refine' L2.aY KX G (fun _ _ _ _ _ _=>L2.eX fun _=>rfl) ?_ ?_ ?_ ?_<;>try k_is
   case z72=>refine' L2.aY KX G (fun _ _ _ _ _ _=>L2.iP fun _ _=>rfl) ?_ ?_ ?_ ?_<;>try k_is
   case z73=>refine' L2.aY KX G (fun _ _ _ _ _ _=>L2.iP fun _ _=>rfl) ?_ ?_ ?_ ?_<;>try k_is
   case z74=>refine' L2.aY KX G (fun _ _ _ _ _ _=>L2.eX fun _=>rfl) ?_ ?_ ?_ ?_<;>try k_is
   case z75=>refine' L2.aY KX G (fun _ _ _ _ _ _=>L2.iP fun _ _=>rfl) ?_ ?_ ?_ ?_<;>try k_is
   case z76=>refine' L2.aY KX G (fun _ _ _ _ _ _=>L2.jQ fun _ _ _=>rfl) ?_ ?_ ?_ ?_<;>try k_is
   case z77=>refine' L2.aY KX G (fun _ _ _ _ _ _=>L2.iP fun _ _=>rfl) ?_ ?_ ?_ ?_<;>try k_is
   case z78=>refine' L2.aY KX G (fun _ _ _ _ _ _=>L2.jQ fun _ _ _=>rfl) ?_ ?_ ?_ ?_<;>try k_is
   case z79=>refine' L2.aY KX G (fun _ _ _ _ _ _=>L2.DA fun _ _ _ _=>rfl) ?_ ?_ ?_ ?_<;>try k_is
   case z80=>refine' L2.aY KX G (fun _ _ _ _ _ _=>L2.eX fun _=>rfl) ?_ ?_ ?_ ?_<;>try k_is
   case z81=>refine' L2.aY KX G (fun _ _ _ _ _ _=>L2.eX fun _=>rfl) ?_ ?_ ?_ ?_<;>try k_is
   case z82=>refine' L2.aY KX G (fun _ _ _ _ _ _=>L2.eX fun _=>rfl) ?_ ?_ ?_ ?_<;>try k_is
   case z83=>refine' L2.aY KX G (fun _ _ _ _ _ _=>L2.iP fun _ _=>rfl) ?_ ?_ ?_ ?_<;>try k_is
   case z84=>refine' L2.aY KX G (fun _ _ _ _ _ _=>L2.jQ fun _ _ _=>rfl) ?_ ?_ ?_ ?_<;>try k_is
   case z85=>refine' L2.aY KX G (fun _ _ _ _ _ _=>L2.jQ fun _ _ _=>rfl) ?_ ?_ ?_ ?_<;>try k_is
   case z86=>refine' L2.aY KX G (fun _ _ _ _ _ _=>L2.eX fun _=>rfl) ?_ ?_ ?_ ?_<;>try k_is
   case z87=>refine' L2.aY KX G (fun _ _ _ _ _ _=>L2.jQ fun _ _ _=>rfl) ?_ ?_ ?_ ?_<;>try k_is
   case z88=>refine' L2.aY KX G (fun _ _ _ _ _ _=>L2.iP fun _ _=>rfl) ?_ ?_ ?_ ?_<;>try k_is
   case z89=>refine' L2.aY KX G (fun _ _ _ _ _ _=>L2.iP fun _ _=>rfl) ?_ ?_ ?_ ?_<;>try k_is
   case z90=>refine' L2.aY KX G (fun _ _ _ _ _ _=>L2.eX fun _=>rfl) ?_ ?_ ?_ ?_<;>try k_is
   case z91=>refine' L2.aY KX G (fun _ _ _ _ _ _=>L2.eX fun _=>rfl) ?_ ?_ ?_ ?_<;>try k_is
   case z92=>refine' L2.aY KX G (fun _ _ _ _ _ _=>L2.eX fun _=>rfl) ?_ ?_ ?_ ?_<;>try k_is
   case z93=>refine' L2.aY KX G (fun _ _ _ _ _ _=>L2.DA fun _ _ _ _=>rfl) ?_ ?_ ?_ ?_<;>try k_is
   case z94=>refine' L2.aY KX G (fun _ _ _ _ _ _=>L2.jQ fun _ _ _=>rfl) ?_ ?_ ?_ ?_<;>try k_is
   case z95=>refine' L2.aY KX G (fun _ _ _ _ _ _=>L2.eX fun _=>rfl) ?_ ?_ ?_ ?_<;>try k_is
   case z96=>refine' L2.qb KX G ?x96 ?y96;(case x96=>k_is);(case y96=>exact⟨_,rfl⟩)
   case z97=>refine' L2.qb KX G ?x97 ?y97;(case x97=>k_is);(case y97=>exact⟨_,rfl⟩)
   case z98=>refine' L2.qb KX G ?x98 ?y98;(case x98=>k_is);(case y98=>exact⟨_,rfl⟩)
   case z99=>refine' L2.qb KX G ?x99 ?y99;(case x99=>k_is);(case y99=>exact⟨_,rfl⟩)
   case z100=>
    refine' L2.AU KX G ?x100 ?y100 ?u100 ?v100 ?w100
    (case x100=>k_is)
    (case y100=>k_is)
    (case u100=>(refine' (.cons ?e100_0 ?f100_0 ?g100_0 (.cons ?e100_1 ?f100_1 ?g100_1 (.cons ?e100_2 ?f100_2 ?g100_2 (.cons ?e100_3 ?f100_3 ?g100_3 (.cons ?e100_4 ?f100_4 ?g100_4 (.cons ?e100_5 ?f100_5 ?g100_5 (.cons ?e100_6 ?f100_6 ?g100_6 (.cons ?e100_7 ?f100_7 ?g100_7 .nil))))))));(case e100_0=>k_is);(case f100_0=>decide);(case g100_0=>exact (.cons ⟨_,rfl⟩ (.cons ⟨_,rfl⟩ .nil)));(case e100_1=>k_is);(case f100_1=>decide);(case g100_1=>exact (.cons ⟨_,rfl⟩ .nil));(case e100_2=>k_is);(case f100_2=>decide);(case g100_2=>exact (.cons ⟨_,rfl⟩ (.cons ⟨_,rfl⟩ .nil)));(case e100_3=>k_is);(case f100_3=>decide);(case g100_3=>exact (.cons ⟨_,rfl⟩ (.cons ⟨_,rfl⟩ .nil)));(case e100_4=>k_is);(case f100_4=>decide);(case g100_4=>exact (.cons ⟨_,rfl⟩ (.cons ⟨_,rfl⟩ .nil)));(case e100_5=>k_is);(case f100_5=>decide);(case g100_5=>exact (.cons ⟨_,rfl⟩ (.cons ⟨_,rfl⟩ (.cons ⟨_,rfl⟩ .nil))));(case e100_6=>k_is);(case f100_6=>decide);(case g100_6=>exact (.cons ⟨_,rfl⟩ (.cons ⟨_,rfl⟩ .nil)));(case e100_7=>k_is);(case f100_7=>decide);(case g100_7=>exact (.cons ⟨_,rfl⟩ (.cons ⟨_,rfl⟩ (.cons ⟨_,rfl⟩ (.cons ⟨_,rfl⟩ .nil)))))))
    (case v100=>decide)
    (case w100=>decide +kernel)
   case z101=>refine' L2.dX KX G ?_;k_is
   case z102=>refine' L2.dX KX G ?_;k_is
   case z103=>refine' L2.dX KX G ?_;k_is
   case z104=>refine' L2.dX KX G ?_;k_is
   case z105=>refine' L2.dX KX G ?_;k_is
   case z106=>refine' L2.dX KX G ?_;k_is
   case z107=>refine' L2.dX KX G ?_;k_is
   case z108=>refine' L2.dX KX G ?_;k_is
   case z109=>refine' L2.dX KX G ?_;k_is
   case z110=>refine' L2.dX KX G ?_;k_is
   case z111=>refine' L2.dX KX G ?_;k_is
   case z112=>refine' L2.dX KX G ?_;k_is
   case z113=>refine' L2.dX KX G ?_;k_is
   case z114=>refine' L2.dX KX G ?_;k_is
   case z115=>refine' L2.dX KX G ?_;k_is
   case z116=>refine' L2.dX KX G ?_;k_is
  obtain⟨_,_,_,_,_,_,_,_,_,_,_,T⟩:=T
  exact fun base _ _=>LK85.FQ T
#print axioms PySem.Challenge.cw_digmatrix_k85_whole_text_to_witness_holds
