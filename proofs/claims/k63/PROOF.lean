import PyProof.Rows.All
import Wide.All
import OpenK.AllK
import Wide.FinOn
import Lean
import PyProof.EqAt
import PyProof.EqKinds
import PyProof.TupleCall
import PyProof.ZipIter
import PyProof.DictWalks
import PyProof.StrOps2
import KE.IntTextLaws
import PyProof.StrBlockI
import PyProof.StrLawsIn
import PyProof.AutoSeq1
import PyProof.WalkInts
import PyProof.Rows.SetFrom
import PyProof.SetKind
import PyProof.CollectWalk
import PyProof.MinMaxWalk
import PyProof.TupleKey
import PyProof.FString5
import KE.KDictOf
import PyProof.AttrMissHeap
import KE.KSortTup
import PyProof.MeetsSeq3
import PyProof.DictUpdate
import PyProof.StrLawsChain
import PyProof.StrLawsTight
import PyProof.Rows.StrItems
import PyProof.ExcInit
import PyProof.ExcClass3
import PyProof.ExcBaseAll.ValueError
import PyProof.FString
import PyProof.Rows.FStr
import PyProof.RaisesMany
import PyProof.RulesAs
import PyProof.NsDelKeeps
import PyProof.ExcAttrAll.ValueError
import PyProof.Rows.SumAny
import PySem.Challenge.RW_digmatrix_k63_whole_as_if_told_anew
abbrev aF:=PySem.W.Frag
abbrev ah:=PySem.Addr
abbrev au:=PySem.Shared
abbrev ai:=PySem.Value
abbrev aU:=PySem.Program
abbrev az:=PySem.Value->PySem.Shared->Prop
abbrev aD:=List (PySem.Addr×PySem.Obj)
abbrev aq:=@List.length_map
abbrev aj:=@PySem.wpAny_bind
abbrev aV:=@List.getElem?_eq_getElem
abbrev aY:=@PySem.Heap.get?_push_of_some
abbrev aN:=@List.getElem?_map
abbrev bI:=@List.getElem?_eq_some_iff
abbrev ay:=@PySem.wpAny_pure
abbrev bC:=@List.mem_of_getElem?
abbrev ao:=@if_neg
abbrev av:=@if_pos
abbrev aL:=@List.map_append
abbrev aS:=@List.take_add_one
abbrev aG:=@Nat.le_refl
abbrev aJ:=@PySem.Heap.lt_size
abbrev aK:=@List.mem_map
abbrev bE:=@List.mem_cons_of_mem
abbrev aP:=@decide_eq_true
abbrev aO:=@List.mem_cons
abbrev bF:=@PySem.Heap.get?_push_size
abbrev br:=@List.size_toArray
abbrev bh:=@List.take_length
abbrev bw:=@List.length_take
abbrev bJ:=@Bool.false_ne_true
abbrev bq:=@decide_eq_false
abbrev bG:=@of_decide_eq_true
abbrev cW:=@List.getD_eq_getElem?_getD
abbrev cF:=@PySem.Heap.get?_update_other
abbrev bz:=@List.mem_append
abbrev aE:=@Ne.symm
abbrev aX:=@Nat.ne_of_lt
abbrev cX:=@PySem.Heap.get?_update_self
abbrev cG:=@List.length_append
abbrev bV:=@PySem.PassesOwn.never
abbrev bW:=@Option.some.inj
abbrev bH:=@Nat.le_trans
abbrev cy:=@List.mem_filter
abbrev dF:=@List.mem_append_left
abbrev fG:=@Decidable.byContradiction
abbrev dZ:=@List.mem_append_right
abbrev gJ:=@Array.getElem?_eq_some_iff
abbrev cE:=@List.map_cons
abbrev dS:=@Nat.lt_of_lt_of_le
abbrev e7:=@List.length_filter_le
abbrev gK:=@Array.getElem?_eq_getElem
abbrev cz:=@List.map_map
abbrev e8:=@List.mem_cons_self
abbrev eK:=@PySem.wpAny_newObj_type
abbrev fH:=@List.map_congr_left
abbrev fJ:=@List.length_pos_iff
abbrev f9:=@beq_eq_false_iff_ne
abbrev cA:=@PySem.wpAny_mono
abbrev jx:=@List.pairwise_iff_getElem
abbrev dG:=@PySem.wpAny_holding
abbrev d7:=@List.mem_range
abbrev fK:=@List.length_cons
abbrev dW:=@Nat.lt_irrefl
abbrev gM:=@decide_eq_true_iff
abbrev j6:=@List.getElem?_zip_eq_some
abbrev bQ:=@congrArg
abbrev iQ:=@PySem.Around.under_plainId
abbrev gb:=@Bool.and_eq_true
abbrev gc:=@List.not_mem_nil
abbrev gg:=@PySem.F.plain_max_loop
abbrev fL:=@List.append_nil
abbrev fM:=@List.nodup_cons
abbrev fO:=@List.length_zip
abbrev iD:=@List.pairwise_cons
abbrev jy:=@List.mem_iff_getElem?
abbrev iR:=@Array.length_toList
abbrev gh:=@PySem.wpAny_updateSeq
abbrev dH:=@Nat.zero_le
abbrev fP:=@PySem.Heap.size_push
abbrev j7:=@PyProof.Rows.boot_list
abbrev iS:=@Bool.false_eq_true
abbrev iT:=@List.mem_singleton
abbrev j8:=@PySem.Obj.isFreed_of_fields
abbrev mQ:=@List.getElem?_append_right
abbrev iE:=@List.all_eq_true
abbrev fQ:=@PySem.plainId_quiet
abbrev iU:=@List.nodup_append
abbrev mR:=@List.getElem?_append_left
abbrev jz:=@PySem.Obj.data_mapFields
abbrev gO:=@List.lt_irrefl
abbrev iF:=@PySem.codeAny_builtin
abbrev gP:=@PySem.wpAny_tryCatch
abbrev lV:=@PySem.Heap.get?_none_of_le
abbrev iG:=@PySem.wpAny_seqItems
abbrev mS:=@PySem.wpAny_pyNext_list_item
abbrev jA:=@PySem.wpAny_call_entry
abbrev jB:=@List.getElem_mem
abbrev jC:=@List.any_eq_true
abbrev j9:=@PySem.wpAny_truthy_bool
abbrev jD:=@List.of_mem_zip
abbrev qd:=@PySem.F.slot_dict_keyiterator_next
abbrev lW:=@List.filter_append
abbrev lX:=@of_decide_eq_false
abbrev mT:=@List.mem_iff_getElem
abbrev gj:=@PySem.wpAny_letGo
abbrev mU:=@PySem.codeAny_call_builtin
abbrev oJ:=@PySem.Calls.callWith_builtin
abbrev iV:=@Nat.lt_succ_of_lt
abbrev iW:=@List.length_range
abbrev iX:=@PySem.wpAny_loadPart_at
abbrev cH:=@PySem.boot_len
abbrev jL:=@List.filter_sublist
abbrev d8:=@PySem.sizeLine_eq
abbrev kT:=@Array.getElem?_toList
abbrev jM:=@Nat.lt_of_le_of_lt
abbrev iY:=@Nat.lt_succ_self
abbrev iZ:=@decide_eq_decide
abbrev mV:=@PyProof.Rows.boot_sorted
abbrev eU:=@PySem.wpAny_field
abbrev kU:=@PySem.Calls.evalArgs_plain
abbrev eV:=@Nat.le_succ
abbrev o4:=@PySem.wpAny_typeNameOfWhole_keyiter
abbrev mW:=@PySem.wpAny_callSpecial?_slot
abbrev mX:=@List.length_eq_zero_iff
abbrev jN:=@Nat.lt_trichotomy
abbrev mY:=@List.filter_cons_of_pos
abbrev mZ:=@List.filter_cons_of_neg
abbrev kX:=@List.filterMap_cons
abbrev m8:=@Array.getElem?_eq_none
abbrev m9:=@List.take_of_length_le
abbrev o5:=@Array.getD_eq_getD_getElem?
abbrev g9:=@List.any_cons
abbrev jO:=@PySem.F.plain_min_loop
abbrev kY:=@PySem.wpAny_Call_Name_kw
abbrev c8:=@if_false
abbrev i0:=@PySem.wpAny_setField
abbrev kZ:=@Int.emod_lt_of_pos
abbrev ng:=@PySem.wpAny_pyNext_list_end
abbrev o6:=@Classical.byContradiction
abbrev jP:=@PySem.wpAny_passesOwn
abbrev jQ:=@Bool.eq_iff_iff
abbrev gq:=@Sum.inr.inj
abbrev lA:=@PySem.wpAny_pyIter_list
abbrev ia:=@PySem.codeAny_mono
abbrev lB:=@PySem.wpAny_dictEntries
abbrev lC:=@List.append_assoc
abbrev nh:=@List.mem_of_mem_take
abbrev i6:=@PySem.wpAny_standAt
abbrev o7:=@List.length_erase_of_mem
abbrev qP:=@PyProof.Rows.slot_tuple_getitem
abbrev o8:=@PySem.wpAny_getItem_str_slice
abbrev lD:=@PySem.wpAny_isInstance
abbrev jR:=@PySem.isSubtype_type
abbrev lE:=@PySem.F.entry_max_loop
abbrev ic:=@Int.le_refl
abbrev i7:=@Nat.le_of_lt
abbrev gv:=@PySem.wpAny_rule
abbrev gw:=@PySem.wpAny_call
abbrev ni:=@PySem.tupleKind_room_in1
abbrev gx:=@beq_iff_eq
abbrev lF:=@List.find?_cons
abbrev lG:=@List.forIn_cons
abbrev lH:=@Int.emod_nonneg
abbrev o9:=@List.getElem?_eq_none
abbrev qQ:=@PyProof.Rows.callWith_type1
abbrev pA:=@PySem.F.slot_list_reversed
abbrev nj:=@PySem.wpAny_eqBool_str
abbrev jS:=@Nat.ne_of_gt
abbrev nv:=@Nat.le_of_not_lt
abbrev ny:=@Nat.not_lt_of_le
abbrev pB:=@Int.toNat_of_nonneg
abbrev pC:=@PySem.wpAny_isSubtype_exc
abbrev qR:=@Option.isSome_iff_exists
abbrev nA:=@PySem.wpAny_execs_nil
abbrev nB:=@PySem.W.KasT.kasWp_bind
abbrev pD:=@PySem.wpAny_tupleItemsOf
abbrev qS:=@List.getElem?_set_self
abbrev lI:=@PySem.wpAny_typeOf
abbrev pF:=@Int.toNat_natCast
abbrev qT:=@List.length_pos_of_mem
abbrev qU:=@List.filter_eq_nil_iff
abbrev qV:=@List.take_append_drop
abbrev qW:=@PySem.builtinLookup_eq_fast
abbrev qX:=@PyProof.Rows.boot_min
abbrev pG:=@List.length_drop
abbrev pH:=@Option.getD_some
abbrev nC:=@List.lt_trans
abbrev lJ:=@PySem.wpAny_of_eq
abbrev ie:=@or_false
abbrev pI:=@PySem.post_val_or_str
abbrev pJ:=@PySem.wpAny_dictEpoch
abbrev uW:=@List.nodup_iff_pairwise_ne
abbrev uX:=@List.mem_take_iff_getElem
abbrev nD:=@List.not_lt
abbrev pK:=@PySem.wpAny_attempt
abbrev pL:=@List.map_take
abbrev qY:=@beq_self_eq_true
abbrev pM:=@List.map_nil
abbrev uY:=@List.getElem?_set_ne
abbrev qZ:=@Int.zero_add
abbrev zZ:=@List.foldl_append
abbrev Iq:=@Int.le_trans
abbrev Ir:=@PyProof.Rows.boot_isinstance
set_option Elab.async false
set_option linter.all false
set_option maxRecDepth 100000
set_option maxHeartbeats 16000000
def PySem.W.Fast.tw6693154113193107350:Unit:=()
def PySem.W.Fast.tw16636416443430908492:Unit:=()
def PySem.W.Fast.tw11816131149415756393:Unit:=()
def PySem.W.Fast.tw16377167550274241765:Unit:=()
def PySem.W.Fast.tw16461966831588984204:Unit:=()
def PySem.W.Fast.tw11485564970174875681:Unit:=()
def PySem.W.Fast.tw16919134197787784069:Unit:=()
def PySem.W.Fast.tw13226783157095147497:Unit:=()
def PySem.W.Fast.tw1783853305517772195:Unit:=()
def PySem.W.Fast.tw12884392756030821238:Unit:=()
def PySem.W.Fast.tw11453320487892965219:Unit:=()
def PySem.W.Fast.tw2989999222333380132:Unit:=()
def PySem.W.Fast.tw1717791002674126635:Unit:=()
def PySem.W.Fast.tw5137658328732550365:Unit:=()
def PySem.W.Fast.tw7270940407699758586:Unit:=()
def PySem.W.Fast.tw7330240870501729012:Unit:=()
def PySem.W.Fast.tw16242696421478262514:Unit:=()
def PySem.W.Fast.tw16121425688224148945:Unit:=()
def PySem.W.Fast.tw4872021479177522455:Unit:=()
def PySem.W.Fast.tw17212372354700528187:Unit:=()
def PySem.W.Fast.tw2729264159892197129:Unit:=()
namespace L2
open PySem PySem.Spec PyProof.Rows
abbrev Key:=Sum Int Str
def Aa:Key->ai->Bool
  | .inl k,v=>Value.isInt k v
  | .inr x,v=>Value.isStrOf x v
def Iu(w:World):Key->Int
  | .inl k=>hashInt k
  | .inr x=>hashStr w x
theorem wN:∀{k:Key}{v:ai},Aa k v=true->(∃i t,k=Sum.inl i/\v=Value.int i t)\/(∃x t,k=Sum.inr x/\v=Value.str x t)
  | .inl i,v,h=>by
    obtain⟨t,e⟩:=Value.isInt_shape (k:=i) (v:=v) h;exact .inl ⟨i,t,rfl,e⟩
  | .inr x,v,h=>by
    obtain⟨t,e⟩:=Value.isStrOf_shape (x:=x) (v:=v) h;exact .inr ⟨x,t,rfl,e⟩
theorem Sg(i:Int)(t:Tok):Aa (.inl i) (.int i t)=true:=by simp[Aa,Value.isInt]
theorem Sh(x:Str)(t:Tok):Aa (.inr x) (.str x t)=true:=by simp[Aa,Value.isStrOf]
theorem Si(a b:Int):decide ((Sum.inl a:Key)=Sum.inl b)=(a == b):=by
  by_cases e:a=b
  · subst e;simp
  · have h:¬(Sum.inl a:Key)=Sum.inl b:=fun q=>e (Sum.inl.inj q)
    rw[bq h];exact(f9.mpr e).symm
theorem Sj(a b:Str):decide ((Sum.inr a:Key)=Sum.inr b)=decide (a=b):=by
  by_cases e:a=b
  · subst e;simp
  · have h:¬(Sum.inr a:Key)=Sum.inr b:=fun q=>e (gq q)
    rw[bq h,bq e]
theorem Sk(a:Int)(b:Str):decide ((Sum.inl a:Key)=Sum.inr b)=false:=bq (fun q=>nomatch q)
theorem Sl(a:Str)(b:Int):decide ((Sum.inr a:Key)=Sum.inl b)=false:=bq (fun q=>nomatch q)
def nW(prog:aU)(w:World):PySem.KeyKind prog w Key where
  is:=Aa
  hash:=Iu w
  inj:=fun v a b ha hb=>by
    rcases wN ha with ⟨i,t,rfl,rfl⟩ | ⟨x,t,rfl,rfl⟩
    · rcases wN hb with ⟨j,u,rfl,e⟩ | ⟨y,u,rfl,e⟩
      · injection e with e1 _;rw[e1]
      · exact nomatch e
    · rcases wN hb with ⟨j,u,rfl,e⟩ | ⟨y,u,rfl,e⟩
      · exact nomatch e
      · injection e with e1 _;rw[e1]
  byValue:=fun k v h=>by
    rcases wN h with ⟨i,t,rfl,rfl⟩ | ⟨x,t,rfl,rfl⟩<;>rfl
  pyHash:=fun hv h=>by
    rcases wN hv with ⟨i,t,rfl,rfl⟩ | ⟨x,t,rfl,rfl⟩
    · exact wpAny_pyHash_int h
    · exact wpAny_pyHash_str h
  eqBool:=fun hu hv h=>by
    rcases wN hu with ⟨i,t,rfl,rfl⟩ | ⟨x,t,rfl,rfl⟩
    · rcases wN hv with ⟨j,u,rfl,rfl⟩ | ⟨y,u,rfl,rfl⟩
      · rw[Si] at h;exact wpAny_eqBool_int h
      · rw[Sk] at h;exact SeqAt.EqAt.int_str i t y u _ _ _ _ h
    · rcases wN hv with ⟨j,u,rfl,rfl⟩ | ⟨y,u,rfl,rfl⟩
      · rw[Sl] at h;exact SeqAt.EqAt.str_int x t j u _ _ _ _ h
      · rw[Sj] at h;exact nj h
  «strs»:=fun k x t v h=>by
    rcases wN h with ⟨i,u,rfl,e⟩ | ⟨y,u,rfl,e⟩
    · exact nomatch e
    · injection e with e1 _
      subst e1;cases v<;>rfl
theorem Sm(prog:aU)(w:World)(i:Int)(t:Tok):(nW prog w).is (.inl i) (.int i t)=true:=Sg i t
theorem Sn(prog:aU)(w:World)(x:Str)(t:Tok):(nW prog w).is (.inr x) (.str x t)=true:=Sh x t
inductive V where
  | cu | bl (b:Bool) | int (i:Int) | str (x:Str) | sW (b:Array UInt8) | CQ (b:UInt64) | ref (a:ah) | ty (n:String)
  deriving DecidableEq
def RelV:V->ai->Prop
  | .cu,u=>u=Value.none
  | .bl b,u=>u=Value.bool b
  | .int i,u=>∃t,u=Value.int i t
  | .str x,u=>∃t,u=Value.str x t
  | .sW b,u=>∃t,u=Value.bytes b t
  | .CQ b,u=>∃t,u=Value.float b t
  | .ref a,u=>u=Value.ref a
  | .ty n,u=>u=Value.type n
abbrev Vals:List V->List ai->Prop:=Paired RelV
theorem Vals.length{xs:List V}{us:List ai}(r:Vals xs us):xs.length=us.length:=Paired.length r
theorem Vals.get:∀{xs:List V}{us:List ai}{i:Nat}{x:V},Vals xs us->xs[i]? = some x->∃u,us[i]? = some u/\RelV x u
  | _,_,_,_,.nil,e=>by simp at e
  | _,_,0,_,.cons r _,e=>by simp at e;subst e;exact⟨_,rfl,r⟩
  | _,_,i+1,x,.cons _ t,e=>by
    obtain⟨u,h1,h2⟩:=Vals.get (i:=i) (x:=x) t (by simpa using e);exact⟨u,by simpa using h1,h2⟩
theorem Vals.set{x:V}{u:ai}(r:RelV x u):∀{xs:List V}{us:List ai}(i:Nat),Vals xs us->Vals (xs.set i x) (us.set i u)
  | _,_,_,.nil=>.nil
  | _,_,0,.cons _ t=>.cons r t
  | _,_,i+1,.cons q t=>.cons q (Vals.set r i t)
theorem Vals.append:∀{xs ys:List V}{us ws:List ai},Vals xs us->Vals ys ws->Vals (xs++ys) (us++ws)
  | _,_,_,_,.nil,s=>s
  | _,_,_,_,.cons r t,s=>.cons r (Vals.append t s)
theorem Vals.take:∀{xs:List V}{us:List ai}(n:Nat),Vals xs us->Vals (xs.take n) (us.take n)
  | _,_,0,_=>.nil
  | _,_,_+1,.nil=>.nil
  | _,_,n+1,.cons r t=>.cons r (Vals.take n t)
theorem Vals.drop:∀{xs:List V}{us:List ai}(n:Nat),Vals xs us->Vals (xs.drop n) (us.drop n)
  | _,_,0,r=>r
  | _,_,_+1,.nil=>.nil
  | _,_,n+1,.cons _ t=>Vals.drop n t
def gQ:Option V->Option ai->Prop
  | some v,some u=>RelV v u
  | none,none=>True
  | _,_=>False
def KV{κ:Type}:List (κ×V)->List (κ×ai)->Prop:=Paired fun(p:κ×V)(q:κ×ai)=>p.1=q.1/\RelV p.2 q.2
def kV:Key->V
  | .inl i=>.int i
  | .inr x=>.str x
inductive HO where
    | lst (xs:List V)
    | tup (xs:List V)
    | dK (kvs:List (Key×V)) | dT (kvs:List (List Key×V))
    | set (S:Int->Bool) (n:Nat)
    | ins (C dx:ah) (fs:List (Str×V))
    | own (x:ah)
    | xd (fs:List (Str×V))
    | met (f x:ah)
    | Iv (lo hi:Int)
    | dw (o:Obj) (u:HO)
    | yR (ps:Array ai)
    | ext (φ:Heap->Prop)
abbrev Hp:=ah->Option HO
def upd(H:Hp)(a:ah)(o:HO):Hp:=fun b=>if b=a then some o else H b
theorem zb{H:Hp}{a:ah}{o:HO}:upd H a o a=some o:=by unfold upd;rw[av rfl]
theorem ze{H:Hp}{a b:ah}{o:HO}(h:b≠a):upd H a o b=H b:=by unfold upd;rw[ao h]
theorem So{H:Hp}{a:ah}{o u:HO}:upd (upd H a o) a u=upd H a u:=by
  funext b;unfold upd;split<;>rfl
theorem jE{H:Hp}{a b:ah}{o u:HO}(h:H a=some o)(h':H b=some u)(d:o≠u):a≠b:=by
  intro e;subst e;rw[h] at h';exact d (bW h')
theorem zj{H:Hp}{a b:ah}{o:HO}(h:H a=some o)(h':H b=none):a≠b:=by
  intro e;subst e;rw[h] at h';cases h'
section
variable(P:aU)(w:World)
def cI(H:Hp)(h:Heap)(a:ah):HO->Prop
  | .lst xs=>xs.length<=sizeLine/\∃(its:List ai)(n:Nat),Vals xs its/\h.get? a=some { cls:=.type "list",data:=.seq its.toArray n }
  | .tup xs=>xs.length<=sizeLine/\∃its:List ai,Vals xs its/\IsTup h a its.toArray
  | .dK kvs=>kvs.length<=sizeLine/\(a == sysModules)=false/\∃vs,KV kvs vs/\h.DictOf (nW P w) a vs
  | .dT kvs=>kvs.length<=sizeLine/\(a == sysModules)=false/\∃xs:List (List Key×ah×ai),
      Paired (fun(p:List Key×V)(q:List Key×ah×ai)=>p.1=q.1/\H q.2.1=some (.tup (p.1.map kV))/\RelV p.2 q.2.2) kvs xs/\
      ∃o es ep,h.get? a=some o/\o.ExactDict/\o.data = .dict es ep/\es.toList=xs.map (entryOfKey (tupleKind (nW P w)))/\(xs.map (·.1)).Nodup
  | .set S n=>h.SetOf (intKind P w) a S n
  | .ins C dx fs=>H dx=some (.own a)/\fs.length<=1000/\dx≠a/\h.get? a=some (PySem.W.instObj C dx)/\
      ∃mA,h.Ns1 dx mA/\(∀f,gQ (fs.lookup f) (mA f))/\PySem.Within mA (fs.map (·.1))
  | .own _=>∃o,h.get? a=some o
  | .xd fs=>∃mA,h.Ns1 a mA/\∀f,gQ (fs.lookup f) (mA f)
  | .Iv lo hi=>∃t u v,h.get? a=some { cls:=.type "range",data:=.fields #[.int lo t,.int hi u,.int 1 v] }
  | .dw o u=>h.get? a=some o/\cI H h a u
  | .yR ps=>h.get? a=some { cls:=.none,data:=.fields ps }
  | .met f x=>h.get? a=some (PySem.W.methodObj (.ref f) (.ref x))
  | .ext φ=>φ h/\(∃o,h.get? a=some o)/\∀h1 h2:Heap,φ h1->(∀o,h1.get? a=some o->h2.get? a=some o)->φ h2
def jF(H:Hp)(h:Heap):Prop:=∀a o,H a=some o->cI P w H h a o
end
section
variable{P:aU}{w:World}{H H':Hp}{h h':Heap}{a:ah}{o:HO}
theorem cI.lt(x:cI P w H h a o):a<h.objs.size:=by
  cases o with
  | lst xs=>obtain⟨_,_,_,_,e⟩:=x;exact aJ e
  | tup xs=>obtain⟨_,_,_,p⟩:=x;exact p.lt
  | dK kvs=>obtain⟨_,_,_,_,o,_,_,e,_⟩:=x;exact aJ e
  | dT kvs=>obtain⟨_,_,_,_,o,_,_,e,_⟩:=x;exact aJ e
  | set S n=>obtain⟨o,_,_,_,e,_⟩:=x;exact aJ e
  | ins C dx fs=>obtain⟨_,_,_,e,_⟩:=x;exact aJ e
  | own y=>obtain⟨_,e⟩:=x;exact aJ e
  | xd fs=>obtain⟨_,⟨_,_,_,e,_⟩,_⟩:=x;exact aJ e
  | Iv lo hi=>obtain⟨_,_,_,e⟩:=x;exact aJ e
  | dw ob u=>obtain⟨e,_⟩:=x;exact aJ e
  | yR ps=>exact aJ (show h.get? a=some _ from x)
  | met f y=>exact aJ (show h.get? a=some _ from x)
  | ext φ=>obtain⟨_,⟨_,e⟩,_⟩:=x;exact aJ e
theorem Paired.gy{α β:Type}{F G:α->β->Prop}:∀{l₁:List α}{l₂:List β},Paired F l₁ l₂->(∀a b,F a b->G a b)->Paired G l₁ l₂
  | _,_,.nil,_=>.nil
  | _,_,.cons r t,f=>.cons (f _ _ r) (Paired.gy t f)
theorem cI.cP(x:cI P w H h a o)(k:∀b u,(b=a\/H b=some (.own a))->h.get? b=some u->h'.get? b=some u)
    (ho:∀b,H b=some (.own a)->H' b=some (.own a)) (ht:∀b xs,H b=some (.tup xs)->H' b=some (.tup xs)):cI P w H' h' a o:=by
  induction o with
  | lst xs=>obtain⟨z,its,n,r,e⟩:=x;exact⟨z,its,n,r,k _ _ (.inl rfl) e⟩
  | tup xs=>obtain⟨z,its,r,ob,e,c⟩:=x;exact⟨z,its,r,ob,k _ _ (.inl rfl) e,c⟩
  | dK kvs=>obtain⟨z,y,vs,r,ob,es,ep,e,c⟩:=x;exact⟨z,y,vs,r,ob,es,ep,k _ _ (.inl rfl) e,c⟩
  | dT kvs=>
    obtain⟨z,y,xs,r,ob,es,ep,e,c⟩:=x;exact⟨z,y,xs,Paired.gy r fun p q z=>⟨z.1,ht _ _ z.2.1,z.2.2⟩,ob,es,ep,k _ _ (.inl rfl) e,c⟩
  | set S n=>obtain⟨ob,es,ep,t,e,c⟩:=x;exact⟨ob,es,ep,t,k _ _ (.inl rfl) e,c⟩
  | ins C dx fs=>
    obtain⟨d,z,ne,e,mA,⟨od,es,ep,e2,c⟩,r⟩:=x;exact⟨ho _ d,z,ne,k _ _ (.inl rfl) e,mA,⟨od,es,ep,k _ _ (.inr d) e2,c⟩,r⟩
  | own y=>obtain⟨ob,e⟩:=x;exact⟨ob,k _ _ (.inl rfl) e⟩
  | xd fs=>obtain⟨mA,⟨od,es,ep,e,c⟩,r⟩:=x;exact⟨mA,⟨od,es,ep,k _ _ (.inl rfl) e,c⟩,r⟩
  | Iv lo hi=>obtain⟨t,u,v,e⟩:=x;exact⟨t,u,v,k _ _ (.inl rfl) e⟩
  | dw ob u ih=>obtain⟨e,q⟩:=x;exact⟨k _ _ (.inl rfl) e,ih q⟩
  | yR ps=>
    have e:h.get? a=some { cls:=.none,data:=.fields ps }:=x;show h'.get? a=some { cls:=.none,data:=.fields ps };exact k a _ (.inl rfl) e
  | met f y=>
    have e:h.get? a=some (PySem.W.methodObj (.ref f) (.ref y)):=x;show h'.get? a=some (PySem.W.methodObj (.ref f) (.ref y));exact k a _ (.inl rfl) e
  | ext φ=>obtain⟨p,⟨o,e⟩,st⟩:=x;exact⟨st _ _ p fun o q=>k _ _ (.inl rfl) q,⟨o,k _ _ (.inl rfl) e⟩,st⟩
theorem jF.lt(x:jF P w H h)(e:H a=some o):a<h.objs.size:=(x a o e).lt
theorem jF.fresh(x:jF P w H h)(e:h.objs.size<=a):H a=none:=by
  cases q:H a with
  | none=>rfl
  | some u=>exact absurd (dS (x.lt q) e) (dW _)
theorem jF.kept(x:jF P w H h)(k:∀b u,h.get? b=some u->h'.get? b=some u):jF P w H h':=fun a o e=>
  (x a o e).cP (fun b u _ q=>k b u q) (fun _ q=>q) fun _ _ q=>q
theorem jF.laid(x:jF P w H h)(k:∀b u,h.get? b=some u->h'.get? b=some u)(hp:h.objs.size<=a)(new:cI P w (upd H a o) h' a o):jF P w (upd H a o) h':=fun b u e=>by
  have hn:=x.fresh hp
  by_cases hb:b=a
  · subst hb;rw[zb] at e;cases e;exact new
  · rw[ze hb] at e;exact(x b u e).cP (fun c v _ q=>k c v q) (fun c q=>by rw[ze (zj q hn)];exact q) fun c xs q=>by rw[ze (zj q hn)];exact q
end
def Rd(H:Hp)(a:ah)(u:HO):Prop:=H a=some u\/∃o,H a=some (.dw o u)
theorem Rd.ok{P:aU}{w:World}{H:Hp}{h:Heap}{a:ah}{u:HO}(r:Rd H a u)(x:jF P w H h):cI P w H h a u:=by
  rcases r with r | ⟨o,r⟩
  · exact x a u r
  · obtain⟨_,q⟩:=x a _ r;exact q
def CS:Option HO->Prop
  | some (.lst _)=>True
  | some (.dK _)=>True
  | some (.dT _)=>True
  | some (.set _ _)=>True
  | some (.ins _ _ _)=>True
  | some (.ext _)=>True
  | _=>False
section
variable{P:aU}{w:World}{H:Hp}{h h':Heap}{x e:ah}{o':HO}
theorem jF.write(ok:jF P w H h)(mu:CS (H x))(he:e=x\/H e=some (.own x))(k:∀b u,b≠e->h.get? b=some u->h'.get? b=some u)(BI:∃u,h'.get? e=some u)
    (new:cI P w (upd H x o') h' x o'):jF P w (upd H x o') h':=fun b u q=>by
  have CT:∀c y,H c=some (.own y)->c≠x:=fun c y r z=>by subst z;rw[r] at mu;exact mu
  have xB:∀c xs,H c=some (.tup xs)->c≠x:=fun c xs r z=>by subst z;rw[r] at mu;exact mu
  by_cases hb:b=x
  · subst hb;rw[zb] at q;cases q;exact new
  · rw[ze hb] at q
    by_cases Ab:b=e
    · have q':H b=some (.own x):=by
        rcases he with z | z
        · exact absurd (Ab.trans z) hb
        · rw[Ab];exact z
      rw[q] at q';cases q';obtain⟨v,hv⟩:=BI;exact⟨v,by rw[Ab];exact hv⟩
    · refine(ok b u q).cP (fun c v hc r=>k c v ?_ r) (fun c r=>by rw[ze (CT c b r)];exact r) fun c xs r=>by rw[ze (xB c xs r)];exact r
      rcases hc with rfl | hc
      · exact Ab
      · rintro rfl;rcases he with z | z
        · exact CT c b hc z
        · rw[hc] at z;cases z;exact hb rfl
end
structure Un(fs ex:List ah)(H H':Hp)(h h':Heap):Prop where
  keep:∀b o,h.get? b=some o->H b=none->b ∉ fs->b ∉ ex->h'.get? b=some o
  slot:∀b o,h.get? b=some o->H b=none->b∈fs->b ∉ ex->∃sl,h'.get? b=some { o with slots:=sl }
  free:∀b o,h.get? b=some o->H b=none->b ∉ ex->H' b=none
  there:∀b o,h.get? b=some o->b ∉ ex->∃o',h'.get? b=some o'
  l7:∀b xs,H b=some (.tup xs)->H' b=some (.tup xs)
  kg:∀b o u,H b=some (.dw o u)->H' b=some (.dw o u)
  l8:∀b ps,H b=some (.yR ps)->∃more,H' b=some (.yR (ps++more))
section
variable{fs i8 ex Iw:List ah}{H H1 H2:Hp}{h h1 h2 h':Heap}{a x e:ah}{o:HO}
theorem Un.any(u:Un fs ex H H1 h h1){b:ah}{ob:Obj}(q:h.get? b=some ob)(n:H b=none)(hx:b ∉ ex):∃sl,h1.get? b=some { ob with slots:=sl }:=by
  by_cases hb:b∈fs
  · exact u.slot b ob q n hb hx
  · exact⟨ob.slots,u.keep b ob q n hb hx⟩
theorem Un.kept(k:∀b u,h.get? b=some u->h'.get? b=some u):Un fs ex H H h h':=
  ⟨fun b ob q _ _ _=>k b ob q,fun b ob q _ _ _=>⟨ob.slots,k b ob q⟩,fun _ _ _ n _=>n,fun b ob q _=>⟨ob,k b ob q⟩,fun _ _ q=>q,fun _ _ _ q=>q,fun _ ps q=>⟨#[],by rw[q];simp⟩⟩
theorem Un.refl:Un fs ex H H h h:=Un.kept fun _ _ q=>q
theorem Un.laid(k:∀b u,h.get? b=some u->h'.get? b=some u)(hp:h.objs.size<=a)(hn:H a=none):Un fs ex H (upd H a o) h h' where
  keep:=fun b u q _ _ _=>k b u q
  slot:=fun b u q _ _ _=>⟨u.slots,k b u q⟩
  free:=fun b u q n _=>by rw[ze (aX (dS (aJ q) hp))];exact n
  there:=fun b u q _=>⟨u,k b u q⟩
  l7:=fun b xs q=>by rw[ze (zj q hn)];exact q
  kg:=fun b u xs q=>by rw[ze (zj q hn)];exact q
  l8:=fun b ps q=>⟨#[],by rw[ze (zj q hn),q];simp⟩
theorem Un.write(mu:CS (H x))(he:e=x\/H e=some (.own x))(k:∀b u,b≠e->h.get? b=some u->h'.get? b=some u)(BI:∃u,h'.get? e=some u):Un fs ex H (upd H x o) h h':=by
  have hx:∀b,H b=none->b≠x:=fun b n z=>by subst z;rw[n] at mu;exact mu
  have hb:∀b,H b=none->b≠e:=fun b n z=>by
    subst z;rcases he with r | r
    · exact hx b n r
    · rw[n] at r;cases r
  have hm:∀b u,H b=some u->¬CS (some u)->b≠x:=fun b u q nm z=>by subst z;rw[q] at mu;exact nm mu
  refine⟨fun b u q n _ _=>k b u (hb b n) q,fun b u q n _ _=>⟨u.slots,k b u (hb b n) q⟩,fun b u q n _=>by rw[ze (hx b n)];exact n,fun b u q _=>?_,
    fun b xs q=>by rw[ze (hm b _ q fun z=>z)];exact q,fun b u xs q=>by rw[ze (hm b _ q fun z=>z)];exact q,fun b ps q=>⟨#[],by rw[ze (hm b _ q fun z=>z),q];simp⟩⟩
  by_cases Ab:b=e
  · subst Ab;exact BI
  · exact⟨u,k b u Ab q⟩
end
def F9(h:Heap)(H:Hp):List ah:=(List.range h.objs.size).filter fun a=>(H a).isSome
def pN(h:Heap)(H:Hp):Heap:=PySem.W.hideAll h (F9 h H)
theorem Sq(h:Heap)(H:Hp):(pN h H).objs.size=h.objs.size:=PySem.W.hideAll_size _ _
theorem Ss{h:Heap}{H:Hp}{b:ah}{o:Obj}(e:h.get? b=some o)(n:H b=none):(pN h H).get? b=some o:=
  PySem.W.hideAll_get _ e fun hm=>by
    have q:(H b).isSome=true:=(cy.mp hm).2;rw[n] at q;simp at q
theorem Su{h:Heap}{H:Hp}{b:ah}{o:Obj}(e:(pN h H).get? b=some o):h.get? b=some o/\H b=none:=by
  have e':h.get? b=some o:=PySem.W.of_hideAll (F9 h H) e;refine⟨e',?_⟩;cases q:H b with
  | none=>rfl
  | some x=>
    have hm:b∈F9 h H:=cy.mpr ⟨d7.mpr (aJ e'),by simp[q]⟩;have z:(pN h H).get? b=none:=PySem.W.hideAll_none (F9 h H) hm;rw[z] at e;cases e
def Sv(g h:Heap)(L:ah):aD:=(List.range h.objs.size).filterMap fun a=>if a=L\/(g.get? a).isSome=true then none else(h.get? a).map fun o=>(a,o)
def rest(g h:Heap)(L d:ah):aD:=(Sv g h L).filter fun p=>decide (p.1≠d)
structure Mod(K:aF)(mg:Str->Option ai)(base:Heap):Prop where
  BJ:K.In base
  glob:base.Ns mainGlobals mg
  blt:∃mb,base.Ns builtinsNs mb/\∀x:Str,x≠"__name__"->mb x=bootBuiltins x
  nolimit:base.NoLimit
structure Cx where
  prog:aU
  w:World
  K:aF
  mg:Str->Option ai
  base:Heap
  A:Around
  N:List Str
  cY:au
  nE:Hp
  env:Env
  outer:List Env
  stack:List Env
  ex:List ah
  fn:Str->Bool
  calm:Bool
  pn:aD
  xe:az
def jh(l:List Env):List ah:=l.filterMap (·.frame)
abbrev Cx.fs(X:Cx):List ah:=jh X.outer
def Iz(sc:Scope)(x:Str):Prop:=sc.names.lookup x=some .local\/sc.names.lookup x=some .cell\/sc.names.lookup x=some .free
def Loc(sc:Scope)(x:Str):Prop:=sc.names.lookup x=some .local\/sc.names.lookup x=some .cell
def Look(env:Env)(h:Heap)(m:Str->Option ai)(x:Str)(u:ai):Prop:=
  (env.kindOf x=some .local/\m x=some u)\/((env.kindOf x=some .cell\/env.kindOf x=some .free)/\∃c,env.cells.lookup x=some c/\h.IsCell c (some u))
structure Cx.Ok(X:Cx):Prop where
  mod:Mod X.K X.mg X.base
  kind:X.env.scope.kind = .function
  glob:X.env.globals=mainGlobals
  blt:X.env.builtins=builtinsNs
  above:X.cY.heap.objs.size<=X.env.locals
  inj:∀x y c,X.env.cells.lookup x=some c->X.env.cells.lookup y=some c->x=y
  has:∀x,(X.env.kindOf x=some .cell\/X.env.kindOf x=some .free)->∃c,X.env.cells.lookup x=some c
  Ac:∀x c,X.fn x=true->X.env.cells.lookup x=some c->X.cY.heap.objs.size<=c
  hd:X.calm=true->X.A.handled=none
  frames:X.A.frames=some X.stack
  BK:X.stack=X.outer\/(X.stack=X.env::X.outer/\X.env.frame=some X.env.locals)
  Ad:∀b∈X.ex,b≠X.env.locals/\∀x c,X.env.cells.lookup x=some c->c≠b
  bs:∀b o,X.base.get? b=some o->X.cY.heap.get? b=some o/\X.nE b=none
  sX:X.base.objs.size<=X.cY.heap.objs.size
  qe:∀b o,X.base.get? b=some o->b ∉ X.ex
  sY:∀b∈X.ex,b ∉ X.fs
  kh:X.cY.heap.FunFrames X.base X.outer
  xC:∀b∈X.fs,X.nE b=none
structure Inv(X:Cx)(pins:aD)(σ:List (Option V))(H:Hp)(s:au):Prop where
  ok:X.Ok
  os:s.os=X.cY.os
  bare:AllBare s.gens
  base:Un X.fs X.ex X.nE H X.cY.heap s.heap
  loc:∃m,s.heap.Ns X.env.locals m/\∀(i:Nat)(x:Str)(v:V),X.N[i]? = some x->σ[i]? = some (some v)->Iz X.env.scope x->∃u,RelV v u/\Look X.env s.heap m x u
  cell:∀x c,X.env.cells.lookup x=some c->∃v,s.heap.IsCell c v
  free:H X.env.locals=none
  e9:∀x c,X.env.cells.lookup x=some c->H c=none
  pin:∀p∈X.pn++pins,s.heap.get? p.1=some p.2/\H p.1=none/\p.1≠X.env.locals/\p.1 ∉ X.fs/\∀v,p.2.data≠.cell v
  aZ:jF X.prog X.w H s.heap
  len:σ.length=X.N.length
section
variable{X:Cx}{pins:aD}{σ:List (Option V)}{H H':Hp}{s:au}{h':Heap}
theorem Cx.Ok.IA(ok:X.Ok){b:ah}{o:Obj}(e:X.base.get? b=some o):b ∉ X.fs:=fun hb=>by
  have:=(ok.kh.mem hb).1;rw[e] at this;cases this
theorem Inv.bs(I:Inv X pins σ H s):∀b o,X.base.get? b=some o->s.heap.get? b=some o/\H b=none:=fun b o e=>
  ⟨I.base.keep b o (I.ok.bs b o e).1 (I.ok.bs b o e).2 (I.ok.IA e) (I.ok.qe b o e),I.base.free b o (I.ok.bs b o e).1 (I.ok.bs b o e).2 (I.ok.qe b o e)⟩
theorem Inv.bk(I:Inv X pins σ H s):∀b o,X.base.get? b=some o->s.heap.get? b=some o:=fun b o e=>(I.bs b o e).1
theorem Inv.mod(I:Inv X pins σ H s):Mod X.K X.mg X.base:=I.ok.mod
theorem Inv.lY(I:Inv X pins σ H s):X.K.In s.heap:=I.ok.mod.BJ.keeps I.bk
theorem Inv.lt(I:Inv X pins σ H s):X.env.locals<s.heap.objs.size:=let ⟨_,hn,_⟩:=I.loc;hn.lt
theorem Inv.sz(I:Inv X pins σ H s):X.cY.heap.objs.size<=s.heap.objs.size:=bH I.ok.above (i7 I.lt)
theorem Inv.IB(I:Inv X pins σ H s){a:ah}(h:s.heap.objs.size<=a):a ∉ X.fs:=fun hb=>by
  obtain⟨_,o,ho,_⟩:=I.ok.kh.mem hb;exact absurd (dS (aJ ho) (bH I.sz h)) (dW _)
theorem Inv.Ae(I:Inv X pins σ H s):∀x c,X.env.cells.lookup x=some c->c≠X.env.locals:=fun x c e z=>by
  obtain⟨v,o,ho,hd⟩:=I.cell x c e;obtain⟨m,⟨o',es,ep,Af,pY,_⟩,_⟩:=I.loc;rw[z,Af] at ho;cases ho;rw[pY] at hd;cases hd
theorem Inv.kh(I:Inv X pins σ H s):s.heap.FunFrames X.base X.outer:=by
  have all:∀(l:List Env),(∀b∈jh l,b∈X.fs)->X.cY.heap.FunFrames X.base l->s.heap.FunFrames X.base l:=by
    intro l
    induction l with
    | nil=>intro _ _;trivial
    | cons env r ih=>
      intro hs hl;obtain⟨hk,⟨L,o,hf,hn,ho,hd⟩,hr⟩:=hl;have hL:L∈X.fs:=hs L (by unfold jh;rw[kX,hf];exact e8);obtain⟨sl,e⟩:=I.base.slot L o ho (I.ok.xC L hL) hL fun z=>I.ok.sY L z hL
      exact⟨hk,⟨L,_,hf,hn,e,hd⟩,ih (fun b hb=>hs b (by unfold jh;rw[kX,hf];exact bE _ hb)) hr⟩
  exact all X.outer (fun _ hb=>hb) I.ok.kh
theorem Inv.stack(I:Inv X pins σ H s):s.heap.FunFrames X.base X.stack:=by
  rcases I.ok.BK with e | ⟨e,hf⟩
  · rw[e];exact I.kh
  · rw[e];obtain⟨m,hn,_⟩:=I.loc;refine .cons (by rw[I.ok.kind];decide) hf hn ?_ I.kh;exact lV (bH I.ok.sX I.ok.above)
theorem Inv.lK(I:Inv X pins σ H s):∀b∈jh X.stack,b∈X.env.locals::X.fs:=fun b hb=>by
  rcases I.ok.BK with e | ⟨e,hf⟩
  · rw[e] at hb;exact bE _ hb
  · rw[e] at hb;unfold jh at hb;rw[kX,hf] at hb;exact hb
theorem Inv.ki(I:Inv X pins σ H s):∀b∈jh X.stack,H b=none:=fun b hb=>by
  rcases aO.mp (I.lK b hb) with e | hb
  · rw[e];exact I.free
  · obtain⟨_,o,ho,_⟩:=I.ok.kh.mem hb;exact I.base.free b o ho (I.ok.xC b hb) fun z=>I.ok.sY b z hb
theorem Inv.step{g':Array GenState}{t':Nat}{d':Drawn}{ch:List ah}(I:Inv X pins σ H s)
    (wO:∀b∈ch,(b∈X.ex\/X.cY.heap.objs.size<=b)/\b≠X.env.locals/\(∀x c,X.env.cells.lookup x=some c->c≠b)/\∀p∈X.pn++pins,p.1≠b)
    (keep:∀b o,b≠X.env.locals->b ∉ X.fs->b ∉ ch->s.heap.get? b=some o->H b=none->h'.get? b=some o)
    (slot:∀b o,b≠X.env.locals->b∈X.fs->b ∉ ch->s.heap.get? b=some o->H b=none->∃sl,h'.get? b=some { o with slots:=sl }) (free:∀b o,b ∉ ch->s.heap.get? b=some o->H b=none->H' b=none)
    (there:∀b o,b ∉ ch->s.heap.get? b=some o->∃o',h'.get? b=some o')
    (l7:∀b xs,H b=some (.tup xs)->H' b=some (.tup xs)) (kg:∀b o u,H b=some (.dw o u)->H' b=some (.dw o u)) (l8:∀b ps,H b=some (.yR ps)->∃more,H' b=some (.yR (ps++more)))
    (ns:∀m,s.heap.Ns X.env.locals m->h'.Ns X.env.locals m) (aZ:jF X.prog X.w H' h') (hg:AllBare g') :
    Inv X pins σ H' { s with heap:=h',gens:=g',drawn:=d',toks:=t' }:=by
  have ME:∀b o,X.cY.heap.get? b=some o->b≠X.env.locals:=fun b o e=>aX (dS (aJ e) I.ok.above)
  have Ga:∀b o,X.cY.heap.get? b=some o->b ∉ X.ex->b ∉ ch:=fun b o e hx hb=>by
    rcases (wO b hb).1 with z | z
    · exact hx z
    · exact absurd (dS (aJ e) z) (dW _)
  have cellK:∀x c,X.env.cells.lookup x=some c->∀v,s.heap.IsCell c v->h'.IsCell c v:=fun x c e v ⟨o,ho,hd⟩=>by
    have CU:c ∉ ch:=fun z=>(wO c z).2.2.1 x c e rfl
    by_cases hc:c∈X.fs
    · obtain⟨sl,q⟩:=slot c o (I.Ae x c e) hc CU ho (I.e9 x c e);exact⟨_,q,hd⟩
    · exact⟨o,keep c o (I.Ae x c e) hc CU ho (I.e9 x c e),hd⟩
  refine⟨I.ok,I.os,hg,⟨fun b o e n hb hx=>?_,fun b o e n hb hx=>?_,fun b o e n hx=>?_,fun b o e hx=>?_,fun b xs e=>l7 b xs (I.base.l7 b xs e),fun b o xs e=>kg b o xs (I.base.kg b o xs e),fun b ps e=>?_⟩,?_,fun x c e=>?_,?_,fun x c e=>?_,fun p hp=>?_,aZ,I.len⟩
  · exact keep b o (ME b o e) hb (Ga b o e hx) (I.base.keep b o e n hb hx) (I.base.free b o e n hx)
  · obtain⟨sl,e1⟩:=I.base.slot b o e n hb hx;obtain⟨IC,e2⟩:=slot b _ (ME b o e) hb (Ga b o e hx) e1 (I.base.free b o e n hx);exact⟨IC,e2⟩
  · obtain⟨o',e1⟩:=I.base.there b o e hx;exact free b o' (Ga b o e hx) e1 (I.base.free b o e n hx)
  · obtain⟨o',e1⟩:=I.base.there b o e hx;exact there b o' (Ga b o e hx) e1
  · obtain⟨m1,e1⟩:=I.base.l8 b ps e;obtain⟨m2,e2⟩:=l8 b _ e1;exact⟨m1++m2,by rw[e2,Array.append_assoc]⟩
  · obtain⟨m,hn,hl⟩:=I.loc;refine⟨m,ns m hn,fun i x v e1 e2 e3=>?_⟩;obtain⟨u,r,l⟩:=hl i x v e1 e2 e3;refine⟨u,r,?_⟩;rcases l with l | ⟨k,c,e,z⟩
    · exact .inl l
    · exact .inr ⟨k,c,e,cellK x c e _ z⟩
  · obtain⟨v,z⟩:=I.cell x c e;exact⟨v,cellK x c e v z⟩
  · obtain⟨m,⟨o,_,_,ho,_⟩,_⟩:=I.loc;exact free _ o (fun z=>(wO _ z).2.1 rfl) ho I.free
  · obtain⟨v,o,ho,hd⟩:=I.cell x c e;exact free c o (fun z=>(wO c z).2.2.1 x c e rfl) ho (I.e9 x c e)
  · obtain⟨e,n,ne,nf,d⟩:=I.pin p hp;have CU:p.1 ∉ ch:=fun z=>(wO p.1 z).2.2.2 p hp rfl
    exact⟨keep p.1 p.2 ne nf CU e n,free p.1 p.2 CU e n,ne,nf,d⟩
theorem Inv.un{t':Nat}(I:Inv X pins σ H s)(u:Un X.fs [] H H' s.heap h')(aZ:jF X.prog X.w H' h'):Inv X pins σ H' { s with heap:=h',toks:=t' }:=by
  obtain⟨m,⟨o,es,ep,ho,r⟩,_⟩:=id I.loc;obtain⟨sl,hL⟩:=u.any ho I.free (by simp);exact I.step (g':=s.gens) (d':=s.drawn) (ch:=[]) (fun _ z=>nomatch z) (fun b o _ hb _ e n=>u.keep b o e n hb (by simp)) (fun b o _ hb _ e n=>u.slot b o e n hb (by simp)) (fun b o _ e n=>u.free b o e n (by simp)) (fun b o _ e=>u.there b o e (by simp)) u.l7 u.kg u.l8 (fun m' hm=>by
    obtain⟨o',uM,sZ,Af,r'⟩:=hm;rw[ho] at Af;cases Af;exact⟨_,uM,sZ,hL,r'⟩) aZ I.bare
theorem Inv.call{g':Array GenState}{t':Nat}{d':Drawn}{ch:List ah}(I:Inv X pins σ H s)(u:Un (jh X.stack) ch H H' s.heap h')(aZ:jF X.prog X.w H' h')(hg:AllBare g')
    (wO:∀b∈ch,(b∈X.ex\/X.cY.heap.objs.size<=b)/\b≠X.env.locals/\(∀x c,X.env.cells.lookup x=some c->c≠b)/\∀p∈X.pn++pins,p.1≠b) :
    Inv X pins σ H' { s with heap:=h',gens:=g',drawn:=d',toks:=t' }:=by
  obtain⟨m,⟨o,es,ep,ho,r⟩,_⟩:=id I.loc;obtain⟨sl,hL⟩:=u.any ho I.free fun z=>(wO _ z).2.1 rfl
  exact I.step (ch:=ch) wO (fun b o hL hb hc e n=>u.keep b o e n (fun z=>(aO.mp (I.lK b z)).elim hL hb) hc) (fun b o _ _ hc e n=>u.any e n hc) (fun b o hc e n=>u.free b o e n hc) (fun b o hc e=>u.there b o e hc) u.l7 u.kg u.l8 (fun m' hm=>by
    obtain⟨o',uM,sZ,Af,r'⟩:=hm;rw[ho] at Af;cases Af;exact⟨_,uM,sZ,hL,r'⟩) aZ hg
theorem Inv.turned{t':Nat}{it:ah}(I:Inv X pins σ H s)(k:∀b o,b≠it->s.heap.get? b=some o->h'.get? b=some o)(hn:H it=none)(hL:it≠X.env.locals)
    (h1:it∈X.ex\/X.cY.heap.objs.size<=it) (h2:∀x c,X.env.cells.lookup x=some c->c≠it) (h3:∀p∈X.pn++pins,p.1≠it):Inv X pins σ H { s with heap:=h',toks:=t' }:=by
  have CV:∀b u,H b=some u->b≠it:=fun b u e z=>by rw[z,hn] at e;cases e
  refine I.step (g':=s.gens) (d':=s.drawn) (ch:=[it]) (fun b hb=>?_) (fun b o _ _ hc e _=>k b o (fun z=>hc (by simp[z])) e) (fun b o _ _ hc e _=>⟨o.slots,k b o (fun z=>hc (by simp[z])) e⟩) (fun _ _ _ _ n=>n)
    (fun b o hc e=>⟨o,k b o (fun z=>hc (by simp[z])) e⟩) (fun _ _ e=>e) (fun _ _ _ e=>e) (fun b ps e=>⟨#[],by rw[e];simp⟩) (fun m hm=>?_) (fun b u e=>?_) I.bare
  · have e:b=it:=by simpa using hb
    subst e;exact⟨h1,hL,h2,h3⟩
  · obtain⟨o,es,ep,ho,r⟩:=hm;exact⟨o,es,ep,k _ o (aE hL) ho,r⟩
  · refine(I.aZ b u e).cP (fun c v hc q=>k c v ?_ q) (fun _ q=>q) fun _ _ q=>q
    rcases hc with z | z
    · rw[z];exact CV b u e
    · exact CV c _ z
theorem Inv.tok(I:Inv X pins σ H s)(t:Nat):Inv X pins σ H { s with toks:=t }:=I.un (h':=s.heap) (t':=t) Un.refl I.aZ
theorem Inv.kept{t':Nat}(I:Inv X pins σ H s)(k:∀b u,s.heap.get? b=some u->h'.get? b=some u):Inv X pins σ H { s with heap:=h',toks:=t' }:=I.un (Un.kept k) (I.aZ.kept k)
theorem Inv.laid{a:ah}{o:HO}{t':Nat}(I:Inv X pins σ H s)(k:∀b u,s.heap.get? b=some u->h'.get? b=some u)(hp:s.heap.objs.size<=a)(new:cI X.prog X.w (upd H a o) h' a o) :
    Inv X pins σ (upd H a o) { s with heap:=h',toks:=t' }:=I.un (Un.laid k hp (I.aZ.fresh hp)) (I.aZ.laid k hp new)
theorem Inv.write{x e:ah}{o:HO}{t':Nat}(I:Inv X pins σ H s)(mu:CS (H x))(he:e=x\/H e=some (.own x))(k:∀b u,b≠e->s.heap.get? b=some u->h'.get? b=some u)(BI:∃u,h'.get? e=some u)
    (new:cI X.prog X.w (upd H x o) h' x o):Inv X pins σ (upd H x o) { s with heap:=h',toks:=t' }:=I.un (Un.write mu he k BI) (I.aZ.write mu he k BI new)
theorem Inv.sj{qf:aD}(I:Inv X pins σ H s)(h:∀p∈qf,s.heap.get? p.1=some p.2/\H p.1=none/\p.1≠X.env.locals/\p.1 ∉ X.fs/\∀v,p.2.data≠.cell v):Inv X qf σ H s:=
  ⟨I.ok,I.os,I.bare,I.base,I.loc,I.cell,I.free,I.e9,fun p hp=>(bz.mp hp).elim (fun z=>I.pin p (dF _ z)) (h p),I.aZ,I.len⟩
theorem MF{N:List Str}(hN:N.Nodup){i j:Nat}{x:Str}(a:N[i]? = some x)(b:N[j]? = some x):i=j:=by
  obtain⟨h1,e1⟩:=bI.mp a;obtain⟨h2,e2⟩:=bI.mp b;exact(List.getElem_inj hN).mp (e1.trans e2.symm)
theorem MG{M:Model}{A:Around}{E:az}{i:Nat}{x:Str}{v:V}{u:ai}{Q:Unit->au->Prop}(I:Inv X pins σ H s)(hN:X.N.Nodup)(hi:X.N[i]? = some x)(hx:Loc X.env.scope x)(r:RelV v u)
    (h:∀s',Inv X pins (σ.set i (some v)) H s'->(∃a,Heap.SameBut a s.heap s'.heap/\(a=X.env.locals\/X.env.cells.lookup x=some a))->Q () s') (hf:X.fn x=true\/X.env.scope.names.lookup x=some .local:=by first | exact .inl rfl | exact .inr rfl | assumption):wpAny M A (storeName X.env x u) Q E s:=by
  obtain⟨m,hn,hl⟩:=id I.loc;have ID:(X.env.scope.kind == .class||(X.env.scope.kind == .module&&X.env.locals != X.env.globals))=false:=by rw[I.ok.kind];rfl
  have CW:i<σ.length:=by rw[I.len];exact(bI.mp hi).1
  have Ae:=I.Ae;have tracked:∀{a:ah}{h':Heap},(∃o,s.heap.get? a=some o/\H a=none)->Heap.SameBut a s.heap h'->jF X.prog X.w H h':=fun{a h'}ha hs b ob e=>by
    obtain⟨_,_,yS⟩:=ha;refine(I.aZ b ob e).cP (fun c w' hc q=>(hs.2 c ?_).trans q) (fun _ q=>q) fun _ _ q=>q
    rintro rfl;rcases hc with rfl | hc
    · rw[yS] at e;cases e
    · rw[yS] at hc;cases hc
  rcases hx with hk | hk
  · refine wpAny_storeName_local hk hn (fun h' BL hs=>?_) ID;obtain⟨oL,_,_,Sw,_⟩:=id hn;refine h _ ⟨I.ok,I.os,I.bare,⟨fun b o e n hb hx=>?_,fun b o e n hb hx=>?_,I.base.free,fun b o e hx=>?_,I.base.l7,I.base.kg,I.base.l8⟩,⟨_,BL,fun j y v' e1 e2 e3=>?_⟩,fun y c e=>?_,I.free,I.e9,fun p hp=>?_,tracked ⟨oL,Sw,I.free⟩ hs,by simpa using I.len⟩ ⟨_,hs,.inl rfl⟩
    · exact(hs.2 b (aX (dS (aJ e) I.ok.above))).trans (I.base.keep b o e n hb hx)
    · obtain⟨sl,e1⟩:=I.base.slot b o e n hb hx;exact⟨sl,(hs.2 b (aX (dS (aJ e) I.ok.above))).trans e1⟩
    · obtain⟨o',e1⟩:=I.base.there b o e hx;exact⟨o',(hs.2 b (aX (dS (aJ e) I.ok.above))).trans e1⟩
    · by_cases hj:j=i
      · subst hj;rw[hi] at e1;cases e1;rw[qS CW] at e2;cases e2;exact⟨u,r,.inl ⟨hk,by simp⟩⟩
      · rw[uY (aE hj)] at e2;obtain⟨u',r',q⟩:=hl j y v' e1 e2 e3;refine⟨u',r',?_⟩;rcases q with ⟨k,e⟩ | ⟨k,c,e,z⟩
        · refine .inl ⟨k,?_⟩;have:y≠x:=fun e=>hj (MF hN e1 (e▸hi))
          simp[this,e]
        · exact .inr ⟨k,c,e,z.sameBut hs (Ae y c e)⟩
    · obtain⟨w',z⟩:=I.cell y c e;exact⟨w',z.sameBut hs (Ae y c e)⟩
    · obtain⟨e,n,ne,nf,d⟩:=I.pin p hp;exact⟨(hs.2 p.1 ne).trans e,n,ne,nf,d⟩
  · have IE:X.fn x=true:=by
      rcases hf with z | z
      · exact z
      · rw[z] at hk;cases hk
    obtain⟨c,hc⟩:=I.ok.has x (.inl hk);obtain⟨w',z⟩:=I.cell x c hc;refine wpAny_storeName_cell I.ok.kind hk hc z (fun h' Ag hs=>?_);obtain⟨oc,MH,IF⟩:=id z;refine h { s with heap:=h' } ⟨I.ok,I.os,I.bare,⟨fun b o e n hb hx=>?_,fun b o e n hb hx=>?_,I.base.free,fun b o e hx=>?_,I.base.l7,I.base.kg,I.base.l8⟩,⟨m,hn.sameBut hs (aE (Ae x c hc)),fun j y v' e1 e2 e3=>?_⟩,fun y c' e=>?_,I.free,I.e9,fun p hp=>?_,tracked ⟨oc,MH,I.e9 x c hc⟩ hs,by simpa using I.len⟩ ⟨c,hs,.inr hc⟩
    · exact(hs.2 b (aX (dS (aJ e) (I.ok.Ac x c IE hc)))).trans (I.base.keep b o e n hb hx)
    · obtain⟨sl,e1⟩:=I.base.slot b o e n hb hx;exact⟨sl,(hs.2 b (aX (dS (aJ e) (I.ok.Ac x c IE hc)))).trans e1⟩
    · obtain⟨o',e1⟩:=I.base.there b o e hx;exact⟨o',(hs.2 b (aX (dS (aJ e) (I.ok.Ac x c IE hc)))).trans e1⟩
    · by_cases hj:j=i
      · subst hj;rw[hi] at e1;cases e1;rw[qS CW] at e2;cases e2;exact⟨u,r,.inr ⟨.inl hk,c,hc,Ag⟩⟩
      · rw[uY (aE hj)] at e2;obtain⟨u',r',q⟩:=hl j y v' e1 e2 e3;refine⟨u',r',?_⟩;rcases q with q | ⟨k,c',e,z'⟩
        · exact .inl q
        · refine .inr ⟨k,c',e,z'.sameBut hs ?_⟩;rintro rfl;exact hj (MF hN e1 (I.ok.inj _ _ _ e hc▸hi))
    · by_cases MI:c'=c
      · subst MI;exact⟨_,Ag⟩
      · obtain⟨w2,z2⟩:=I.cell y c' e;exact⟨w2,z2.sameBut hs MI⟩
    · obtain⟨e,n,ne,nf,d⟩:=I.pin p hp;refine⟨(hs.2 p.1 ?_).trans e,n,ne,nf,d⟩;intro q;rw[q,MH] at e;have q':oc=p.2:=bW e;exact d w' (by rw[←q'];exact IF)
theorem Gb{M:Model}{A:Around}{E:az}{i:Nat}{x:Str}{v:V}{u:ai}{Q:Unit->au->Prop}(I:Inv X pins σ H s)(hN:X.N.Nodup)(hi:X.N[i]? = some x)(hx:Loc X.env.scope x)(r:RelV v u)
    (h:∀s',Inv X pins (σ.set i (some v)) H s'->Q () s') (hf:X.fn x=true\/X.env.scope.names.lookup x=some .local:=by first | exact .inl rfl | exact .inr rfl | assumption):wpAny M A (storeName X.env x u) Q E s:=
  MG I hN hi hx r (fun s' I' _=>h s' I') hf
theorem Inv.qg{s':au}{ch:List ah}(I:Inv X pins σ H s)(ho:s'.os=s.os)(u:Un (jh X.stack) ch H H' s.heap s'.heap)(aZ:jF X.prog X.w H' s'.heap)(hg:AllBare s'.gens)
    (wO:∀b∈ch,(b∈X.ex\/X.cY.heap.objs.size<=b)/\b≠X.env.locals/\(∀x c,X.env.cells.lookup x=some c->c≠b)/\∀p∈X.pn++pins,p.1≠b):Inv X pins σ H' s':=by
  obtain⟨h',g',d',t',o'⟩:=s';have e:o'=s.os:=ho;subst e;exact I.call (g':=g') (t':=t') (d':=d') u aZ hg wO
end
abbrev XK:=ai->Option ah->Hp->Prop
abbrev St:=List (Option V)
abbrev VK:=V->Hp->Prop
abbrev TE:=St->Hp->VK->Prop
abbrev TT:=St->Hp->(Bool->Hp->Prop)->Prop
abbrev TA:=St->Hp->(List V->Hp->Prop)->Prop
structure Ends where
  nx:St->Hp->Prop
  rt:VK
  bk:St->Hp->Prop:=fun _ _=>False
  ct:St->Hp->Prop:=fun _ _=>False
abbrev TS:=Ends->St->Hp->Prop
def EP(X:Cx)(pins:aD)(σ:St)(Q:VK)(u:ai)(s':au):Prop:=∃v H',Inv X pins σ H' s'/\RelV v u/\Q v H'
def TP(X:Cx)(pins:aD)(σ:St)(Q:Bool->Hp->Prop)(b:Bool)(s':au):Prop:=∃H',Inv X pins σ H' s'/\Q b H'
def AP(X:Cx)(pins:aD)(σ:St)(Q:List V->Hp->Prop)(us:List ai)(s':au):Prop:=∃vs H',Inv X pins σ H' s'/\Vals vs us/\Q vs H'
def SP(X:Cx)(pins:aD)(D:Ends)(f:Flow)(s':au):Prop:=
  match f with
  | .next=>∃aI H',Inv X pins aI H' s'/\D.nx aI H'
  | .brk=>∃aI H',Inv X pins aI H' s'/\D.bk aI H'
  | .cont=>∃aI H',Inv X pins aI H' s'/\D.ct aI H'
  | .ret u=>∃v aI H',Inv X pins aI H' s'/\RelV v u/\D.rt v H'
def PE(X:Cx)(e:Expr)(t:TE):Prop:=
  ∀(pins:aD)(s:au)(σ:St)(H:Hp)(Q:VK),Inv X pins σ H s->t σ H Q->wpAny (model X.prog X.w) X.A (eval e X.env) (EP X pins σ Q) X.xe s
def PT(X:Cx)(e:Expr)(t:TT):Prop:=
  ∀(pins:aD)(s:au)(σ:St)(H:Hp)(Q:Bool->Hp->Prop),Inv X pins σ H s->t σ H Q->wpAny (model X.prog X.w) X.A (isTrue e X.env (eval e X.env)) (TP X pins σ Q) X.xe s
def PW(X:Cx)(e:Expr)(t:TT):Prop:=
  ∀(whole:Sem ai)(pins:aD)(s:au)(σ:St)(H:Hp)(Q:Bool->Hp->Prop),Inv X pins σ H s->t σ H Q->wpAny (model X.prog X.w) X.A (isTrue e X.env whole) (TP X pins σ Q) X.xe s
theorem PW.pt{X:Cx}{e:Expr}{t:TT}(h:PW X e t):PT X e t:=h _
def PA(X:Cx)(es:List Expr)(t:TA):Prop:=
  ∀(pos:Pos)(pins:aD)(s:au)(σ:St)(H:Hp)(Q:List V->Hp->Prop),Inv X pins σ H s->t σ H Q->wpAny (model X.prog X.w) X.A (spliced (backTo pos (starEach es X.env))) (AP X pins σ Q) X.xe s
def PS(X:Cx)(st:Stmt)(t:TS):Prop:=
  ∀(pins:aD)(s:au)(σ:St)(H:Hp)(D:Ends),Inv X pins σ H s->t D σ H->wpAny (model X.prog X.w) X.A (exec st X.env) (SP X pins D) X.xe s
def pO(X:Cx)(st:List Stmt)(t:TS):Prop:=
  ∀(pins:aD)(s:au)(σ:St)(H:Hp)(D:Ends),Inv X pins σ H s->t D σ H->wpAny (model X.prog X.w) X.A (execs st X.env) (SP X pins D) X.xe s
theorem bK{α:Type}{t:Sem α}{Q Q':α->au->Prop}{M:Model}{A:Around}{E:az}{s:au}(h:wpAny M A t Q E s)(hQ:∀a s,Q a s->Q' a s):wpAny M A t Q' E s:=cA h hQ fun _ _ x=>x
section
variable{X:Cx}
theorem bin{a b:Expr}{ta tb:TE}(ha:PE X a ta)(hb:PE X b tb){pins:aD}{s:au}{σ:St}{H:Hp}{R:V->V->Hp->Prop}(I:Inv X pins σ H s)(h:ta σ H fun x H1=>tb σ H1 fun y H2=>R x y H2)
    {α:Type}{Q:α->au->Prop}{f:ai->ai->Sem α}
    (hf:∀v u s2 x y H2,Inv X pins σ H2 s2->RelV x v->RelV y u->R x y H2->wpAny (model X.prog X.w) X.A (f v u) Q X.xe s2) :
    wpAny (model X.prog X.w) X.A (eval a X.env) (fun v bD=>wpAny (model X.prog X.w) X.A (eval b X.env) (fun u iL=>wpAny (model X.prog X.w) X.A (f v u) Q X.xe iL) X.xe bD) X.xe s:=by
  refine bK (ha pins s σ H _ I h) fun v s1 aQ=>?_
  obtain⟨x,H1,I1,r1,q1⟩:=aQ;refine bK (hb pins s1 σ H1 _ I1 q1) fun u s2 aQ=>?_
  obtain⟨y,H2,I2,r2,q2⟩:=aQ;exact hf v u s2 x y H2 I2 r1 r2 q2
inductive CY(i:Nat)(σ:St)(H:Hp)(Q:VK):Prop
  | mk (v:V) (_:σ[i]? = some (some v)) (_:Q v H)
def CZ(i:Nat):TE:=fun σ H Q=>CY i σ H Q
def tC(v:V):TE:=fun _ H Q=>Q v H
theorem Sx{i:Nat}{x:Str}{pos:Pos}(hN:X.N[i]? = some x)(hv:Iz X.env.scope x)(hd:(x == ("__debug__" : Str))=false:=by decide)(qh:(x == ("__classdict__" : Str))=false:=by decide):PE X (.Name x pos) (CZ i):=by
  intro pins s σ H Q I h;obtain⟨v,e,h⟩:=h;obtain⟨m,hn,hl⟩:=I.loc;obtain⟨u,r,l⟩:=hl i x v hN e hv;have fin:EP X pins σ Q u s:=⟨v,H,I,r,h⟩;rcases l with ⟨hk,hm⟩ | ⟨hk,c,hc,yT⟩
  · exact wpAny_Name (wpAny_loadName_local I.ok.kind hk hn hm fin) hd
  · rcases hk with hk | hk
    · exact wpAny_Name (wpAny_loadName_cell I.ok.kind hk hc yT fin) hd
    · exact wpAny_Name (wpAny_loadName_free I.ok.kind hk hc yT fin qh) hd
theorem zi{i j pos}:PE X (.Constant (.int i) j pos) (tC (.int i)):=fun _ _ _ H _ I h=>wpAny_Constant_int ⟨.int i,H,I.tok _,⟨_,rfl⟩,h⟩
theorem yU{b j pos}:PE X (.Constant (.bool b) j pos) (tC (.bl b)):=fun _ _ _ H _ I h=>Constant_bool ⟨.bl b,H,I,rfl,h⟩
theorem C0{j pos}:PE X (.Constant .none j pos) (tC .cu):=fun _ _ _ H _ I h=>Constant_none ⟨.cu,H,I,rfl,h⟩
theorem qi{x j pos}:PE X (.Constant (.str x) j pos) (tC (.str x)):=fun _ _ _ H _ I h=>Calls.Constant_str ⟨.str x,H,I.tok _,⟨_,rfl⟩,h⟩
def Gl(X:Cx)(x:Str):Prop:=X.env.kindOf x=some .globalImplicit
theorem BN{E:az}{pins:aD}{s:au}{σ:St}{H:Hp}{x:Str}{u:ai}{pos:Pos}{Q:az}(I:Inv X pins σ H s)(hg:Gl X x)(hm:X.mg x=some u)(h:Q u s)
    (hd:(x == ("__debug__" : Str))=false:=by decide):wpAny (model X.prog X.w) X.A (eval (.Name x pos) X.env) Q E s:=
  Calls.Name_function_global I.ok.kind hg (Calls.loadGlobal_global (by rw[I.ok.glob];exact I.mod.glob.keeps I.bk) hm h) hd
theorem C2{E:az}{pins:aD}{s:au}{σ:St}{H:Hp}{x:Str}{u:ai}{pos:Pos}{Q:az}(I:Inv X pins σ H s)(hg:Gl X x)(hm:X.mg x=none)(hv:bootBuiltins x=some u)(h:Q u s)
    (hn:x≠"__name__":=by decide) (hd:(x == ("__debug__" : Str))=false:=by decide):wpAny (model X.prog X.w) X.A (eval (.Name x pos) X.env) Q E s:=by
  obtain⟨mb,h1,h2⟩:=I.mod.blt;exact Calls.Name_function_global I.ok.kind hg (Calls.loadGlobal_builtin (by rw[I.ok.glob];exact I.mod.glob.keeps I.bk) hm (by rw[I.ok.blt];exact h1.keeps I.bk) ((h2 x hn).trans hv) h) hd
variable{a b:Expr}{ta tb:TE}{pos:Pos}
def PC(X:Cx)(op:CmpOp)(a b:Expr)(t:TE):Prop:=
  ∀(pins:aD)(s:au)(σ:St)(H:Hp)(Q:VK),Inv X pins σ H s->t σ H Q->
    wpAny (model X.prog X.w) X.A (eval a X.env) (fun v bD=>wpAny (model X.prog X.w) X.A (eval b X.env) (fun u iL=>wpAny (model X.prog X.w) X.A (compareOp op v u) (EP X pins σ Q) X.xe iL) X.xe bD) X.xe s
theorem MJ(b:Expr){op:CmpOp}(h:op≠.In)(h2:op≠.NotIn):behindInMarks op b=false:=by
  have e1:(op == CmpOp.In)=false:=by cases op<;>first | rfl | exact absurd rfl h
  have e2:(op == CmpOp.NotIn)=false:=by cases op<;>first | rfl | exact absurd rfl h2
  cases b<;>simp[behindInMarks,e1,e2]
def IG(ta:TE):TE:=fun σ H Q=>ta σ H fun x H1=>Q (.bl (decide (x = .cu))) H1
def Sy(ta:TE):TE:=fun σ H Q=>ta σ H fun x H1=>Q (.bl (!decide (x = .cu))) H1
theorem RelV.qj{x:V}{v:ai}(r:RelV x v):(v == Value.none)=decide (x = .cu):=by
  cases x with
  | cu=>cases r;rfl
  | bl _=>cases r;rfl
  | int _=>obtain⟨t,rfl⟩:=r;rfl
  | str _=>obtain⟨t,rfl⟩:=r;rfl
  | sW _=>obtain⟨t,rfl⟩:=r;rfl
  | CQ _=>obtain⟨t,rfl⟩:=r;rfl
  | ref _=>cases r;rfl
  | ty _=>cases r;rfl
theorem Sz{j pos'}(ha:PE X a ta):PC X .Is a (.Constant .none j pos') (IG ta):=by
  intro pins s σ H Q I h;refine bK (ha pins s σ H _ I h) fun v s1 aQ=>?_
  obtain⟨x,H1,I1,r1,q1⟩:=aQ;exact Constant_none (is_none_gen ⟨.bl _,H1,I1,by rw[r1.qj];rfl,q1⟩)
theorem SA{j pos'}(ha:PE X a ta):PC X .IsNot a (.Constant .none j pos') (Sy ta):=by
  intro pins s σ H Q I h;refine bK (ha pins s σ H _ I h) fun v s1 aQ=>?_
  obtain⟨x,H1,I1,r1,q1⟩:=aQ;exact Constant_none (isnot_none_gen ⟨.bl _,H1,I1,by rw[r1.qj];rfl,q1⟩)
def tB(t:TE):TT:=fun σ H Q=>t σ H fun x H1=>∃c,x = .bl c/\Q c H1
theorem MK{op:CmpOp}{t:TE}(h:PC X op a b t)(h1:behindInMarks op b=false:=by first | exact MJ _ (by decide) (by decide) | rfl):PE X (.Compare a [op] [b] pos) t:=fun pins s σ H Q I hw=>wpAny_Compare1 (h pins s σ H Q I hw) h1
theorem uN{op:CmpOp}{t:TE}(h:PC X op a b t)(h1:behindInMarks op b=false:=by first | exact MJ _ (by decide) (by decide) | rfl):PT X (.Compare a [op] [b] pos) (tB t):=by
  intro pins s σ H Q I hw;refine wpAny_isTrue_Compare1 (bK (h pins s σ H _ I hw) fun v s1 h1=>bK h1 fun u s2 h2=>bK h2 fun c s3 aQ=>?_) h1;obtain⟨x,H1,I1,r1,q1⟩:=aQ;obtain⟨d,rfl,q⟩:=q1;cases r1;exact j9 ⟨H1,I1,q⟩
theorem II{e:Expr}{t:TE}(h:PE X e t)(he:∀whole,isTrue e X.env whole=(do let v ←whole;standAt e.pos;holding [v] (truthy v)):=by intro _;rfl):PT X e (tB t):=by
  intro pins s σ H Q I hw;refine isTrue_plain (bK (h pins s σ H _ I hw) fun v s1 aQ=>?_) (he _);obtain⟨x,H1,I1,r1,q1⟩:=aQ;obtain⟨d,rfl,q⟩:=q1;cases r1;exact j9 ⟨H1,I1,q⟩
variable{tA Gd:TT}{rest:List Expr}
def IJ(t u:TT):TT:=fun σ H Q=>t σ H fun c H1=>if c=true then u σ H1 Q else Q false H1
def SE(t u:TT):TT:=fun σ H Q=>t σ H fun c H1=>if c=true then Q true H1 else u σ H1 Q
def IK(t:TT):TT:=fun σ H Q=>t σ H fun c H1=>Q (!c) H1
theorem xD(ha:PT X a tA):PW X (.BoolOp .And [a] pos) tA:=by
  intro wh pins s σ H Q I h;refine isTrue_and (bK (ha pins s σ H Q I h) fun c s1 e=>?_);cases c with
  | true=>exact isTrue_and_nil e
  | false=>exact e
theorem Ge(ha:PT X a tA):PW X (.BoolOp .Or [a] pos) tA:=by
  intro wh pins s σ H Q I h;refine isTrue_or (bK (ha pins s σ H Q I h) fun c s1 e=>?_);cases c with
  | false=>exact isTrue_or_nil e
  | true=>exact e
theorem xE(ha:PT X a tA)(hb:PW X (.BoolOp .And (b::rest) pos) Gd):PW X (.BoolOp .And (a::b::rest) pos) (IJ tA Gd):=by
  intro wh pins s σ H Q I h;refine isTrue_and (bK (ha pins s σ H _ I h) fun c s1 aQ=>?_);obtain⟨H1,I1,q1⟩:=aQ;cases c with
  | true=>exact hb wh pins s1 σ H1 Q I1 q1
  | false=>exact⟨H1,I1,q1⟩
theorem C3(ha:PT X a tA)(hb:PW X (.BoolOp .Or (b::rest) pos) Gd):PW X (.BoolOp .Or (a::b::rest) pos) (SE tA Gd):=by
  intro wh pins s σ H Q I h;refine isTrue_or (bK (ha pins s σ H _ I h) fun c s1 aQ=>?_);obtain⟨H1,I1,q1⟩:=aQ;cases c with
  | true=>exact⟨H1,I1,q1⟩
  | false=>exact hb wh pins s1 σ H1 Q I1 q1
theorem SG(ha:PT X a tA):PT X (.UnaryOp .Not a pos) (IK tA):=by
  intro pins s σ H Q I h;exact isTrue_not (ha pins s σ H (fun c H1=>Q (!c) H1) I h)
def IL(ta tb:TE):TE:=fun σ H Q=>ta σ H fun x H1=>∃c,x = .bl c/\if c=true then Q (.bl true) H1 else tb σ H1 Q
theorem SH{op}{t:TE}(h:PE X a t):PE X (.BoolOp op [a] pos) t:=fun pins s σ H Q I hw=>BoolOp_one (h pins s σ H Q I hw)
theorem SJ(ha:PE X a ta)(hb:PE X (.BoolOp .Or (b::rest) pos) tb):PE X (.BoolOp .Or (a::b::rest) pos) (IL ta tb):=by
  intro pins s σ H Q I h;refine BoolOp_or (bK (ha pins s σ H _ I h) fun v s1 aQ=>?_);obtain⟨x,H1,I1,r1,q1⟩:=aQ;obtain⟨c,rfl,q1⟩:=q1;cases r1;refine j9 ?_;cases c with
  | false=>exact hb pins s1 σ H1 Q I1 q1
  | true=>exact⟨.bl true,H1,I1,rfl,q1⟩
def SK(t:TT)(ta tb:TE):TE:=fun σ H Q=>t σ H fun c H1=>if c=true then ta σ H1 Q else tb σ H1 Q
theorem SM{c:Expr}(hc:PT X c tA)(ha:PE X a ta)(hb:PE X b tb):PE X (.IfExp c a b pos) (SK tA ta tb):=by
  intro pins s σ H Q I h;refine wpAny_IfExp (bK (hc pins s σ H _ I h) fun d s1 aQ=>?_);obtain⟨H1,I1,q1⟩:=aQ;cases d with
  | true=>exact ha pins s1 σ H1 Q I1 q1
  | false=>exact hb pins s1 σ H1 Q I1 q1
end
def aH(K:aF)(H:Hp)(a:ah)(xs:List V):Prop:=
  Rd H a (.lst xs)\/
    ∃(o:Obj)(its:Array ai)(n:Nat),K.lookup a=some o/\o.cls = .type "list"/\o.dict=none/\o.data = .seq its n/\its.size<=sizeLine/\Vals xs its.toList
def bx(K:aF)(H:Hp)(a:ah)(xs:List V):Prop:=
  Rd H a (.tup xs)\/
    ∃(o:Obj)(its:Array ai)(n:Nat),K.lookup a=some o/\o.cls = .type "tuple"/\o.data = .seq its n/\its.size<=sizeLine/\Vals xs its.toList
def C4:ai->Option V
  | .none=>some .cu
  | .bool b=>some (.bl b)
  | .int i _=>some (.int i)
  | .str x _=>some (.str x)
  | .bytes b _=>some (.sW b)
  | .float b _=>some (.CQ b)
  | .ref a=>some (.ref a)
  | .type n=>some (.ty n)
  | _=>none
theorem RelV.abs{x:V}{u:ai}(r:RelV x u):C4 u=some x:=by
  cases x with
  | cu=>cases r;rfl
  | bl _=>cases r;rfl
  | int _=>obtain⟨t,rfl⟩:=r;rfl
  | str _=>obtain⟨t,rfl⟩:=r;rfl
  | sW _=>obtain⟨t,rfl⟩:=r;rfl
  | CQ _=>obtain⟨t,rfl⟩:=r;rfl
  | ref _=>cases r;rfl
  | ty _=>cases r;rfl
theorem RelV.inj{x y:V}{u:ai}(r:RelV x u)(q:RelV y u):x=y:=bW (r.abs.symm.trans q.abs)
theorem Vals.inj:∀{xs ys:List V}{us:List ai},Vals xs us->Vals ys us->xs=ys
  | _,_,_,.nil,.nil=>rfl
  | _,_,_,.cons r t,.cons r' t'=>by rw[r.inj r',Vals.inj t t']
section
variable{X:Cx}{pins:aD}{σ:St}{H:Hp}{s:au}{a:ah}{xs ys:List V}
theorem aH.of{K:aF}(h:H a=some (.lst xs)):aH K H a xs:=.inl (.inl h)
theorem bx.of{K:aF}(h:H a=some (.tup xs)):bx K H a xs:=.inl (.inl h)
theorem Inv.list(I:Inv X pins σ H s)(h:aH X.K H a xs):∃its:List ai,Vals xs its/\PlainL s.heap a its.toArray/\xs.length<=sizeLine:=by
  rcases h with h | ⟨o,its,n,hk,hc,hd,hs,hz,r⟩
  · obtain⟨z,its,n,r,e⟩:=h.ok I.aZ;exact⟨its,r,⟨_,n,e,rfl,rfl,rfl⟩,z⟩
  · refine⟨its.toList,r,⟨o,n,I.lY a o hk,hc,hd,by simpa using hs⟩,?_⟩;have e:=r.length;simp only[iR] at e;lia
theorem Inv.tuple(I:Inv X pins σ H s)(h:bx X.K H a xs):∃its:List ai,Vals xs its/\IsTup s.heap a its.toArray/\xs.length<=sizeLine:=by
  rcases h with h | ⟨o,its,n,hk,hc,hs,hz,r⟩
  · obtain⟨z,its,r,p⟩:=h.ok I.aZ;exact⟨its,r,p,z⟩
  · refine⟨its.toList,r,⟨o,I.lY a o hk,hc,n,by simpa using hs⟩,?_⟩;have e:=r.length;simp only[iR] at e;lia
theorem Inv.kj(I:Inv X pins σ H s)(h:aH X.K H a xs)(h':aH X.K H a ys):xs=ys:=by
  obtain⟨its,r,⟨o,n,e,_,_,d⟩,_⟩:=I.list h;obtain⟨its',r',⟨o',n',e',_,_,d'⟩,_⟩:=I.list h';rw[e] at e';cases e';rw[d] at d';injection d' with d1 _
  have:its=its':=by simpa using bQ Array.toList d1
  subst this;exact r.inj r'
theorem Inv.tu(I:Inv X pins σ H s)(h:bx X.K H a xs)(h':bx X.K H a ys):xs=ys:=by
  obtain⟨its,r,⟨o,e,_,n,d⟩,_⟩:=I.tuple h;obtain⟨its',r',⟨o',e',_,n',d'⟩,_⟩:=I.tuple h';rw[e] at e';cases e';rw[d] at d';injection d' with d1 _
  have:its=its':=by simpa using bQ Array.toList d1
  subst this;exact r.inj r'
end
abbrev Cx.n9(X:Cx)(E:az):Cx:={ X with xe:=E }
abbrev Cx.Ah(X:Cx):Cx:=X.n9 fun _ _=>False
theorem Cx.Ok.n9{X:Cx}(ok:X.Ok)(E:az):(X.n9 E).Ok:=
  ⟨ok.mod,ok.kind,ok.glob,ok.blt,ok.above,ok.inj,ok.has,ok.Ac,ok.hd,ok.frames,ok.BK,ok.Ad,ok.bs,ok.sX,ok.qe,ok.sY,ok.kh,ok.xC⟩
theorem Cx.Ok.i9{X:Cx}{E:az}(ok:(X.n9 E).Ok):X.Ok:=
  ⟨ok.mod,ok.kind,ok.glob,ok.blt,ok.above,ok.inj,ok.has,ok.Ac,ok.hd,ok.frames,ok.BK,ok.Ad,ok.bs,ok.sX,ok.qe,ok.sY,ok.kh,ok.xC⟩
section
variable{X:Cx}{pins:aD}{σ:St}{H:Hp}{s:au}{E:az}
theorem Inv.n9(I:Inv X pins σ H s)(E:az):Inv (X.n9 E) pins σ H s:=⟨I.ok.n9 E,I.os,I.bare,I.base,I.loc,I.cell,I.free,I.e9,I.pin,I.aZ,I.len⟩
theorem Inv.i9(I:Inv (X.n9 E) pins σ H s):Inv X pins σ H s:=⟨I.ok.i9,I.os,I.bare,I.base,I.loc,I.cell,I.free,I.e9,I.pin,I.aZ,I.len⟩
theorem SP.i9{D:Ends}{f:Flow}{s':au}(h:SP (X.n9 E) pins D f s'):SP X pins D f s':=by
  cases f with
  | next=>obtain⟨aI,H',I,q⟩:=h;exact⟨aI,H',I.i9,q⟩
  | brk=>obtain⟨aI,H',I,q⟩:=h;exact⟨aI,H',I.i9,q⟩
  | cont=>obtain⟨aI,H',I,q⟩:=h;exact⟨aI,H',I.i9,q⟩
  | ret u=>obtain⟨v,aI,H',I,r,q⟩:=h;exact⟨v,aI,H',I.i9,r,q⟩
theorem pO.Ah{st:List Stmt}{t:TS}(h:pO X.Ah st t):pO X st t:=fun pins s σ H D I hw=>
  cA (h pins s σ H D (I.n9 _) hw) (fun _ _ q=>q.i9) fun _ _ z=>False.elim z
end
section
variable{X:Cx}{st:Stmt}{rest:List Stmt}{t u:TS}{e:Expr}{te:TE}{pos:Pos}
def Gf:TS:=fun D σ H=>D.nx σ H
def xF(t u:TS):TS:=fun D σ H=>t { D with nx:=u D } σ H
theorem jc:pO X [] Gf:=fun _ _ σ H _ I h=>nA ⟨σ,H,I,h⟩
theorem zc(h1:PS X st t)(h2:pO X rest u):pO X (st::rest) (xF t u):=by
  intro pins s σ H D I h;refine wpAny_execs_cons (bK (h1 pins s σ H { D with nx:=u D } I h) fun f s1 q=>?_);cases f with
  | next=>
    obtain⟨aI,H',I',q⟩:=q;exact h2 pins s1 aI H' D I' q
  | ret v=>exact q
  | brk=>exact q
  | cont=>exact q
theorem zh(h1:PS X st t):pO X [st] t:=by
  intro pins s σ H D I h;refine wpAny_execs_cons (bK (h1 pins s σ H D I h) fun f s1 q=>?_);cases f with
  | next=>exact nA q
  | ret v=>exact q
  | brk=>exact q
  | cont=>exact q
theorem Inv.quiet{pins:aD}{σ:St}{H:Hp}{s:au}(I:Inv X pins σ H s):interactive X.env=false:=by simp[interactive,I.ok.kind]
def SN(te:TE):TS:=fun D σ H=>te σ H fun _ H1=>D.nx σ H1
theorem ig(he:PE X e te)(hs:swapsWith e none pos.line X.env=pure false:=by rfl):PS X (.Expr e pos) (SN te):=by
  intro pins s σ H D I h;exact wpAny_Expr_any (bK (he pins s σ H _ I h) fun v s1 ⟨x,H1,I1,r1,q1⟩=>⟨σ,H1,I1,q1⟩) I.quiet hs
def IM(te:TE):TS:=fun D σ H=>te σ H D.rt
theorem fW(he:PE X e te):PS X (.Return (some e) pos) (IM te):=by
  intro pins s σ H D I h;exact wpAny_Return_some (bK (he pins s σ H _ I h) fun v s1 ⟨x,H1,I1,r1,q1⟩=>⟨x,σ,H1,I1,r1,q1⟩)
def uZ(c:TT)(t u:TS):TS:=fun D σ H=>c σ H fun b H1=>if b=true then t D σ H1 else u D σ H1
theorem gR{c:Expr}{a b:List Stmt}{tc:TT}(hc:PT X c tc)(ha:pO X a t)(hb:pO X b u):PS X (.If c a b pos) (uZ tc t u):=by
  intro pins s σ H D I h;refine wpAny_If (bK (hc pins s σ H _ I h) fun d s1 aQ=>?_);obtain⟨H1,I1,q1⟩:=aQ;cases d with
  | true=>exact ha pins s1 σ H1 D I1 q1
  | false=>exact hb pins s1 σ H1 D I1 q1
def SO:TS:=fun _ _ _=>False
theorem yV:PS X st SO:=fun _ _ _ _ _ _ h=>h.elim
end
abbrev TG:=V->St->Hp->(St->Hp->Prop)->Prop
abbrev yW:=List V->St->Hp->(St->Hp->Prop)->Prop
def PG(X:Cx)(target:Expr)(t:TG):Prop:=
  ∀(pins:aD)(s:au)(σ:St)(H:Hp)(v:V)(u:ai)(Q:St->Hp->Prop),Inv X pins σ H s->RelV v u->t v σ H Q->
    wpAny (model X.prog X.w) X.A (assign target X.env u) (fun _ s'=>∃aI H',Inv X pins aI H' s'/\Q aI H') X.xe s
def C5(X:Cx)(ts:List Expr)(t:yW):Prop:=
  ∀(pins:aD)(s:au)(σ:St)(H:Hp)(vs:List V)(us:List ai)(Q:St->Hp->Prop),Inv X pins σ H s->Vals vs us->t vs σ H Q->
    wpAny (model X.prog X.w) X.A (assignInOrder ((assignEach ts X.env).map (·.2)) us) (fun _ s'=>∃aI H',Inv X pins aI H' s'/\Q aI H') X.xe s
abbrev Ai:=V->V->V->Hp->(Hp->Prop)->Prop
def C6(X:Cx)(t:Ai):Prop:=
  ∀(pins:aD)(s:au)(σ:St)(H:Hp)(o i v:V)(ov iv u:ai)(Q:Hp->Prop),Inv X pins σ H s->RelV o ov->RelV i iv->RelV v u->t o i v H Q->
    wpAny (model X.prog X.w) X.A (setItem ov iv u) (fun _ s'=>∃H',Inv X pins σ H' s'/\Q H') X.xe s
section
variable{X:Cx}{pos:Pos}
def zy(i:Nat):TG:=fun v σ H Q=>Q (σ.set i (some v)) H
theorem nX{i:Nat}{x:Str}(hN:X.N.Nodup)(hi:X.N[i]? = some x)(hx:Loc X.env.scope x)(hf:X.fn x=true\/X.env.scope.names.lookup x=some .local:=by first | exact .inl rfl | exact .inr rfl | assumption):PG X (.Name x pos) (zy i):=by
  intro pins s σ H v u Q I r h;exact wpAny_assign_Name (Gb I hN hi hx r (fun s' I'=>⟨_,H,I',h⟩) hf)
def IP:yW:=fun vs σ H Q=>vs = []/\Q σ H
def SQ(t:TG)(u:yW):yW:=fun vs σ H Q=>∃v r,vs=v::r/\t v σ H fun aI H'=>u r aI H' Q
theorem u9:C5 X [] IP:=by
  intro pins s σ H vs us Q I r h;obtain⟨e,h⟩:=h;subst e;cases r;exact assignInOrder_nil ⟨σ,H,I,h⟩
theorem mD{e:Expr}{es:List Expr}{t:TG}{u:yW}(h1:PG X e t)(h2:C5 X es u)
    (hs:(assignEach (e::es) X.env).map (·.2)=assign e X.env::(assignEach es X.env).map (·.2):=by rfl):C5 X (e::es) (SQ t u):=by
  intro pins s σ H vs us Q I r h;obtain⟨v,vr,e1,h⟩:=h;subst e1;cases r with
  | cons r rr=>
    rw[hs];refine assignInOrder_cons (bK (h1 pins s σ H _ _ _ I r h) fun _ s1 aQ=>?_);obtain⟨wQ,H1,I1,q1⟩:=aQ;exact h2 pins s1 wQ H1 _ _ Q I1 rr q1
def C7(K:aF)(n:Nat)(t:yW):TG:=fun v σ H Q=>∃a xs,v = .ref a/\bx K H a xs/\xs.length=n/\t xs σ H Q
theorem SR{es:List Expr}{k:Nat}{t:yW}{n:Nat}(hc:X.calm=true)(h:C5 X es t)
    (hn:(assignEach es X.env).length=n:=by rfl) (qk:(assignEach es X.env).findIdx? (·.1)=none:=by rfl):PG X (.Tuple es k pos) (C7 X.K n t):=by
  intro pins s σ H v u Q I r hw;obtain⟨a,xs,e1,hq,hl,hw⟩:=hw;subst e1;cases r;obtain⟨its,rv,ht,hz⟩:=I.tuple hq;refine assign_Tuple_tuple (I.ok.hd hc) ht (by simp[hn,←hl,rv.length]) qk fun h' hx=>?_
  have I1:Inv X pins σ H { s with heap:=h' }:=I.kept (t':=s.toks) fun b o e=>hx b o (aX (aJ e)) e
  exact h pins _ σ H xs _ Q I1 (by simpa using rv) hw
def IQ(to ti:TE)(t:Ai):TG:=fun v σ H Q=>to σ H fun o H1=>ti σ H1 fun i H2=>t o i v H2 fun H3=>Q σ H3
theorem SV{o i:Expr}{to ti:TE}{t:Ai}(ho:PE X o to)(hi:PE X i ti)(hs:C6 X t)
    (ha:∀v,assign (.Subscript o i pos) X.env v=(do
      let ov ←holding [v] (eval o X.env)
      let iv ←holding [v,ov] (eval i X.env)
      standAt pos
      holding [v,ov,iv] (setItem ov iv v)
      release [v,ov,iv] []):=by intro _;rfl):PG X (.Subscript o i pos) (IQ to ti t):=by
  intro pins s σ H v u Q I r h;rw[ha];refine aj (dG (bK (ho pins s σ H _ I h) fun ov s1 aQ=>?_));obtain⟨x,H1,I1,r1,q1⟩:=aQ;refine aj (dG (bK (hi pins s1 σ H1 _ I1 q1) fun iv s2 aQ=>?_));obtain⟨y,H2,I2,r2,q2⟩:=aQ;refine aj (i6 (aj (dG (bK (hs pins s2 σ H2 x y v ov iv u _ I2 r1 r2 r q2) fun _ s3 aQ=>?_))));obtain⟨H3,I3,q3⟩:=aQ;exact wpAny_release ⟨σ,H3,I3,q3⟩
def xG(te:TE)(g:TG):TS:=fun D σ H=>te σ H fun x H1=>g x σ H1 D.nx
theorem IT{tg e:Expr}{te:TE}{g:TG}(he:PE X e te)(hg:PG X tg g)(hs:swapsWithSole [tg] e pos.line X.env=pure false:=by rfl)(hw:swappedStores [tg] e X.env=pure none:=by rfl)
    (h1:(assignEach [tg] X.env).map (·.2) = [assign tg X.env]:=by rfl):PS X (.Assign [tg] e pos) (xG te g):=by
  intro pins s σ H D I h;refine wpAny_Assign_stores (bK (he pins s σ H _ I h) fun v s1 aQ=>?_) hs hw;obtain⟨x,H1,I1,r1,q1⟩:=aQ;rw[h1];exact bK (hg pins s1 σ H1 x v _ I1 r1 q1) fun _ s2 q=>q
theorem SW{i:Nat}{x:Str}{e:Expr}{te:TE}{pos':Pos}(hN:X.N.Nodup)(hi:X.N[i]? = some x)(hx:Loc X.env.scope x)(he:PE X e te)(hs:swapsWith e (some (.Name x pos')) pos.line X.env=pure false:=by rfl)(hf:X.fn x=true\/X.env.scope.names.lookup x=some .local:=by first | exact .inl rfl | exact .inr rfl | assumption) :
    PS X (.Assign [.Name x pos'] e pos) (xG te (zy i)):=by
  intro pins s σ H D I h;refine wpAny_Assign_Name (bK (he pins s σ H _ I h) fun v s1 aQ=>?_) hs;obtain⟨y,H1,I1,r1,q1⟩:=aQ;exact Gb I1 hN hi hx r1 (fun s2 I2=>⟨_,H1,I2,q1⟩) hf
def IU(i j:Nat)(ta:TA):TS:=fun D σ H=>ta σ H fun vs H1=>∃v w,vs = [v,w]/\D.nx ((σ.set i (some v)).set j (some w)) H1
theorem SX{i j:Nat}{x y:Str}{a b:Expr}{ta:TA}{px py pt:Pos}{kt k2 IV}(hc:X.calm=true)(hN:X.N.Nodup)(hi:X.N[i]? = some x)(hj:X.N[j]? = some y)(qF:i≠j)
    (hx:X.env.scope.names.lookup x=some .local) (hy:X.env.scope.names.lookup y=some .local) (ha:PA X [a,b] ta)
    (hw:swappedStores [.Tuple [.Name x px,.Name y py] kt pt] (.Tuple [a,b] k2 IV) X.env=pure (some [x,y]))
    (hs:swapsWithSole [.Tuple [.Name x px,.Name y py] kt pt] (.Tuple [a,b] k2 IV) pos.line X.env=pure false:=by rfl) :
    PS X (.Assign [.Tuple [.Name x px,.Name y py] kt pt] (.Tuple [a,b] k2 IV) pos) (IU i j ta):=by
  intro pins s σ H D I h;rw[exec_Assign_arm];refine aj (i6 ?_);rw[hs];refine aj (ay ?_);rw[ao (by decide)];refine aj (Tuple_ (bK (ha _ pins s σ H _ I h) fun us s1 aQ=>?_));obtain⟨vs,H1,I1,r1,q1⟩:=aQ;obtain⟨v,w,e1,q1⟩:=q1;subst e1;obtain⟨u1,u2,rfl,rv,iO⟩:∃u1 u2,us = [u1,u2]/\RelV v u1/\RelV w u2:=by
    cases r1 with
    | cons p q=>
      cases q with
      | cons p' q'=>
        cases q';exact⟨_,_,rfl,p,p'⟩
  refine eK ?_ (by show 2<=sizeLine;decide);have I2:Inv X pins σ H1 { s1 with heap:=s1.heap.push { cls:=.type "tuple",data:=.seq [u1,u2].toArray } }:=I1.kept (t':=s1.toks) fun b o e=>aY _ e
  rw[hw];refine aj (ay ?_);show wpAny (model X.prog X.w) X.A (do rule "assign.swapped-stores";let items ←unpackItems (.ref s1.heap.objs.size) 2 none;assignInOrder [fun v=>bindName X.env y v,fun v=>bindName X.env x v] items.reverse;pure Flow.next) _ _ _;refine aj (gv (aj (unpackItems_tuple (items:=#[u1,u2]) (I.ok.hd hc) (IsTup.new s1.heap _) fun h' oK=>?_)));have I3:=I2.kept (h':=h') (t':=s1.toks) fun b o e=>oK b o (aX (aJ e)) e
  show wpAny _ _ (assignInOrder [fun v=>bindName X.env y v,fun v=>bindName X.env x v] [u2,u1] >>= fun _=>pure Flow.next) _ _ _;refine aj (assignInOrder_cons (wpAny_bindName (Gb I3 hN hj (.inl hy) iO (fun s2 I4=>?_) (.inr hy))));refine assignInOrder_cons (wpAny_bindName (Gb I4 hN hi (.inl hx) rv (fun s3 I5=>assignInOrder_nil (ay ?_)) (.inr hx)));rw[List.set_comm _ _ (aE qF)] at I5;exact⟨_,H1,I5,q1⟩
end
section
variable{X:Cx}{pos:Pos}
def SY(c:TT)(tb:TS):TS:=fun D σ H=>∃W:Nat->St->Hp->Prop,(∃m,W m σ H)/\∀m σ H,W m σ H->
  c σ H fun b H1=>if b=true then ∃N:St->Hp->Prop,(∀aI H',N aI H'->∃m',m'<m/\W m' aI H')/\tb { D with nx:=N,ct:=N,bk:=D.nx } σ H1 else D.nx σ H1
theorem Gg{c:Expr}{body:List Stmt}{tc:TT}{tb:TS}(hp:PassesOwn (model X.prog X.w) X.A X.env X.xe)(hc:PT X c tc)(hb:pO X body tb):PS X (.While c body [] pos) (SY tc tb):=by
  intro pins s σ H D I h;obtain⟨W,⟨m0,w0⟩,turn⟩:=h;refine wpAny_While (codeAny_whileLoop (fun n s'=>∃aI H',Inv X pins aI H' s'/\W n aI H') ?_ m0 ⟨σ,H,I,w0⟩);rintro n s1 ⟨wQ,H1,I1,w1⟩;refine jP hp (bK (hc pins s1 wQ H1 _ I1 (turn n wQ H1 w1)) fun b s2 aQ=>?_);obtain⟨H2,I2,q2⟩:=aQ;cases b with
  | true=>
    obtain⟨N,hN,q2⟩:=q2;rw[av rfl];refine jP hp (bK (hb pins s2 wQ H2 _ I2 q2) fun f s3 q3=>?_);cases f with
    | next=>
      obtain⟨oh,H3,I3,n3⟩:=q3;obtain⟨m',hm,w3⟩:=hN oh H3 n3;exact⟨m',hm,oh,H3,I3,w3⟩
    | cont=>
      obtain⟨oh,H3,I3,n3⟩:=q3;obtain⟨m',hm,w3⟩:=hN oh H3 n3;exact⟨m',hm,oh,H3,I3,w3⟩
    | brk=>exact q3
    | ret v=>exact q3
  | false=>
    rw[ao bJ];exact nA ⟨wQ,H2,I2,q2⟩
end
structure It where
  go:Nat->Hp->Prop
  vc:Nat->Hp->V->Hp->Prop
  stop:Nat->Hp->Prop
def fX(X:Cx)(pins:aD)(H:Hp)(b:ah):Prop:=
  H b=none/\b≠X.env.locals/\b ∉ X.fs/\(b∈X.ex\/X.cY.heap.objs.size<=b)/\(∀x c,X.env.cells.lookup x=some c->c≠b)/\∀p∈X.pn++pins,p.1≠b
theorem Inv.nF{X:Cx}{pins:aD}{σ:St}{H H':Hp}{s:au}{b:ah}(I:Inv X pins σ H s)(hb:s.heap.objs.size<=b)(hn:H' b=none):fX X pins H' b:=by
  refine⟨hn,jS (dS I.lt hb),I.IB hb,.inr (bH I.sz hb),fun x c e z=>?_,fun p hp z=>?_⟩
  · obtain⟨v,q⟩:=I.cell x c e;exact absurd (dS q.lt (by rw[z];exact hb)) (dW _)
  · exact absurd (dS (aJ (I.pin p hp).1) (by rw[z];exact hb)) (dW _)
structure Turn(P:aU)(w:World)(K:aF)(tg:Expr)(J:It)(fp:List ah)(it:ah)(tn:Nat->Heap->Prop):Prop where
  mem:it∈fp
  obj:∀i h,tn i h->∀b∈fp,∃o,h.get? b=some o/\∀v,o.data≠.cell v
  keep:∀i h h',tn i h->(∀b∈fp,∀o,h.get? b=some o->h'.get? b=some o)->tn i h'
  item:∀(X:Cx),X.prog=P->X.w=w->X.K=K->X.calm=true->∀(i:Nat)(pins:aD)(s:au)(σ:St)(H:Hp)(E:az),Inv X pins σ H s->(∀b∈fp,fX X pins H b)->tn i s.heap->J.go i H->
    wpAny (model P w) X.A (pyNext (.ref it)) (fun r s1=>∃u,r=some u/\
      wpAny (model P w) X.A (letOwnedTupleGo tg (.ref it) u) (fun _ s2=>∃x H',Inv X pins σ H' s2/\RelV x u/\J.vc i H x H'/\tn (i+1) s2.heap/\∀b∈fp,H' b=none) E s1) E s
  done:∀(X:Cx),X.prog=P->X.w=w->X.K=K->X.calm=true->∀(i:Nat)(pins:aD)(s:au)(σ:St)(H:Hp)(E:az),Inv X pins σ H s->(∀b∈fp,fX X pins H b)->tn i s.heap->J.stop i H->
    wpAny (model P w) X.A (pyNext (.ref it)) (fun r s1=>r=none/\Inv X pins σ H s1) E s
  self:∀(A:Around)(i:Nat)(s:au)(Q:az)(E:az),tn i s.heap->Q (.ref it) s->wpAny (model P w) A (pyIter (.ref it)) Q E s
abbrev TI:=St->Hp->(It->Hp->Prop)->Prop
def Gh(X:Cx)(pins:aD)(σ:St)(tg:Expr)(R:It->Hp->Prop)(vd:ai)(s2:au):Prop:=
  ∃(it:ah)(fp:List ah)(tn:Nat->Heap->Prop)(J:It)(H':Hp),vd = .ref it/\Inv X pins σ H' s2/\Turn X.prog X.w X.K tg J fp it tn/\tn 0 s2.heap/\(∀b∈fp,fX X pins H' b)/\R J H'
def PI(X:Cx)(tg iter:Expr)(wi:TI):Prop:=
  ∀(pins:aD)(s:au)(σ:St)(H:Hp)(R:It->Hp->Prop),Inv X pins σ H s->wi σ H R->
    wpAny (model X.prog X.w) X.A (eval iter X.env) (fun v s1=>wpAny (model X.prog X.w) X.A (pyIter v) (Gh X pins σ tg R) X.xe s1) X.xe s
theorem BO{M:Model}{A:Around}{E:az}{s:au}{tg:Expr}{it:ah}{u:ai}{o:Obj}{n:String}{vs:Array ai}{Q:Unit->au->Prop}(ho:s.heap.get? it=some o)(hc:o.cls = .type n)(hd:o.data = .fields vs)
    (hn : ["enumerate","zip","dict_itemiterator","dict_reverseitemiterator","odict_iterator","itertools.zip_longest","itertools.pairwise"].contains n=false) (hQ:Q () s):wpAny M A (letOwnedTupleGo tg (.ref it) u) Q E s:=by
  unfold letOwnedTupleGo;cases tg<;>first
    | exact ay hQ
    | (cases u<;>first
        | exact ay hQ
        | (refine aj (wpAny_load ho ?_)
           rw[hc,hd];show wpAny M A (if(["enumerate","zip","dict_itemiterator","dict_reverseitemiterator","odict_iterator","itertools.zip_longest","itertools.pairwise"].contains n&&vs[0]? == some (rawInt _))=true then _ else _) Q E s;rw[ao (by intro h;rw[hn,Bool.false_and] at h;cases h)];exact ay hQ))
def BP(K:aF)(a:ah):It:=
  ⟨fun i H=>∃xs x,aH K H a xs/\xs[i]? = some x,fun i H x H'=>H'=H/\∀xs,aH K H a xs->xs[i]? = some x,fun i H=>∃xs,aH K H a xs/\xs.length<=i⟩
def Aj(lo:Int)(n:Nat):It:=⟨fun i _=>i<n,fun i H x H'=>H'=H/\x = .int (lo+i),fun i _=>n<=i⟩
theorem S0{P:aU}{w:World}{K:aF}{tg:Expr}(a it:ah):Turn P w K tg (BP K a) [it] it (fun i h=>h.IsListIter it a i) where
  mem:=by simp
  obj:=fun i h st b hb=>by
    have e:b=it:=by simpa using hb
    subst e;obtain⟨o,e,c,d⟩:=st;exact⟨o,e,fun v z=>by rw[d] at z;cases z⟩
  keep:=fun i h h' st k=>st.at fun o e=>k it (by simp) o e
  item:=by
    intro X hP hw hK hc i pins s σ H E I hf st hg;subst hP hw hK;obtain⟨xs,x,hq,hx⟩:=hg;obtain⟨its,rv,p,hz⟩:=I.list hq;obtain⟨u,hu,ru⟩:=rv.get hx;obtain⟨f0,f1,f2,f3,f4,f5⟩:=hf it (by simp);refine mS st p.isList (x:=u) (by simpa using hu) fun h' nG sb=>?_
    have I1:Inv X pins σ H { s with heap:=h' }:=I.turned (t':=s.toks) (fun b o hb e=>(sb.2 b hb).trans e) f0 f1 f3 f4 f5;obtain⟨o,e,c,d⟩:=id nG;exact⟨u,rfl,BO (s:={ s with heap:=h' }) e c d (by decide) ⟨x,H,I1,ru,⟨rfl,fun ys hy=>by rw[I.kj hy hq];exact hx⟩,nG,fun b hb=>(hf b hb).1⟩⟩
  done:=by
    intro X hP hw hK hc i pins s σ H E I hf st hg;subst hP hw hK;obtain⟨xs,hq,hx⟩:=hg;obtain⟨its,rv,p,hz⟩:=I.list hq;obtain⟨f0,f1,f2,f3,f4,f5⟩:=hf it (by simp);have hl:=rv.length;exact ng (I.ok.hd hc) st p.isList (by simp;lia) fun h' eb=>⟨rfl,I.turned (t':=s.toks) (fun b o hb e=>eb b o hb e) f0 f1 f3 f4 f5⟩
  self:=fun _ _ _ _ _ st h=>wpAny_pyIter_listiter st h
theorem S1{P:aU}{w:World}{K:aF}{tg:Expr}(it:ah)(lo:Int)(n:Nat):Turn P w K tg (Aj lo n) [it] it (fun i h=>IsRangeIter h it (lo+(i:Nat) * 1) ((n:Int)-(i:Nat)) 1) where
  mem:=by simp
  obj:=fun i h st b hb=>by
    have e:b=it:=by simpa using hb
    subst e;exact⟨_,st,fun v z=>by
      have z':Data.fields _=Data.cell v:=z;cases z'⟩
  keep:=fun i h h' st k=>k it (by simp) _ st
  item:=by
    intro X hP hw hK hc i pins s σ H E I hf st hg;subst hP hw hK;obtain⟨f0,f1,f2,f3,f4,f5⟩:=hf it (by simp);have W:=Walks.range (prog:=X.prog) (w:=X.w) (I.ok.hd hc) it lo 1 n;refine W.item i s _ _ hg st fun v h' tk hv nG kk=>?_
    obtain⟨t,rfl⟩:=hv;have I1:Inv X pins σ H { s with heap:=h',toks:=tk }:=I.turned (fun b o hb e=>kk b o (by simpa using hb) e) f0 f1 f3 f4 f5;refine⟨_,rfl,BO (s:={ s with heap:=h',toks:=tk }) (n:="range_iterator") nG rfl rfl (by decide) ⟨.int (lo+i),H,I1,⟨t,?_⟩,⟨rfl,rfl⟩,nG,fun b hb=>(hf b hb).1⟩⟩;rw[Int.mul_one]
  done:=by
    intro X hP hw hK hc i pins s σ H E I hf st hg;subst hP hw hK;obtain⟨f0,f1,f2,f3,f4,f5⟩:=hf it (by simp);exact wpAny_pyNext_range_end (I.ok.hd hc) st (by have:n<=i:=hg;lia) fun h' eb=>⟨rfl,I.turned (t':=s.toks) (fun b o hb e=>eb b o hb e) f0 f1 f3 f4 f5⟩
  self:=fun _ _ _ _ _ st h=>wpAny_pyIter_rangeiter st h
section
variable{X:Cx}{tg:Expr}
def ML(K:aF)(tl:TE):TI:=fun σ H R=>tl σ H fun x H1=>∃a,x = .ref a/\(∃xs,aH K H1 a xs)/\R (BP K a) H1
theorem S2{l:Expr}{tl:TE}(hl:PE X l tl):PI X tg l (ML X.K tl):=by
  intro pins s σ H R I h;refine bK (hl pins s σ H _ I h) fun v s1 aQ=>?_
  obtain⟨x,H1,I1,r1,q1⟩:=aQ;obtain⟨a,e,⟨xs,hq⟩,q⟩:=q1;subst e;cases r1;obtain⟨its,rv,p,hz⟩:=I1.list hq;refine lA p.isList ?_;refine⟨s1.heap.objs.size,[s1.heap.objs.size],_,_,H1,rfl,I1.kept (t':=s1.toks) fun b o e=>aY _ e,S0 a _,⟨_,bF _ rfl,rfl,rfl⟩,fun b hb=>?_,q⟩;have e:b=s1.heap.objs.size:=by simpa using hb
  subst e;exact I1.nF (aG _) (I1.aZ.fresh (aG _))
theorem S4{pins:aD}{σ:St}{H:Hp}{s:au}{R:It->Hp->Prop}{E:az}{lo hi:Int}{t u v:Tok}{tk:Nat}(I:Inv X pins σ H s)(h1 : -(2 ^ 62)<=lo)(h2:lo<2 ^ 62)(h3 : -(2 ^ 62)<=hi)(h4:hi<2 ^ 62)
    (q:R (Aj lo (hi-lo).toNat) H):wpAny (model X.prog X.w) X.A (pyIter (.ref s.heap.objs.size)) (Gh X pins σ tg R) E { s with heap:=s.heap.push { cls:=.type "range",data:=.fields #[.int lo t,.int hi u,.int 1 v] },toks:=tk }:=by
  refine wpAny_pyIter_range (IsRange.new ..) (small_one h1 h2 h3 h4) ?_;have I1:Inv X pins σ H { s with heap:=s.heap.push { cls:=.type "range",data:=.fields #[.int lo t,.int hi u,.int 1 v] },toks:=tk }:=I.kept fun b o e=>aY _ e
  refine⟨(s.heap.push { cls:=.type "range",data:=.fields #[.int lo t,.int hi u,.int 1 v] }).objs.size,[(s.heap.push { cls:=.type "range",data:=.fields #[.int lo t,.int hi u,.int 1 v] }).objs.size],_,_,H,rfl,
    I1.kept (t':=tk) fun b o e=>aY _ e,S1 _ lo (hi-lo).toNat,?_,fun b hb=>?_,q⟩
  · have e1:lo+((0:Nat):Int) * 1=lo:=by simp
    have e2:(((hi-lo).toNat:Nat):Int)-((0:Nat):Int)=Builtin.Range.rangeSize lo hi 1:=by rw[rangeSize_one];split<;>lia
    show IsRangeIter _ _ (lo+((0:Nat):Int) * 1) ((((hi-lo).toNat:Nat):Int)-((0:Nat):Int)) 1;rw[e1,e2];exact bF _ rfl
  · have e:b=(s.heap.push { cls:=.type "range",data:=.fields #[.int lo t,.int hi u,.int 1 v] }).objs.size:=by simpa using hb
    subst e;exact I1.nF (aG _) (I1.aZ.fresh (aG _))
def S5(ta:TA):TI:=fun σ H R=>ta σ H fun vs H1=>∃j:Int,vs = [.int j]/\-(2 ^ 62)<=j/\j<2 ^ 62/\R (Aj 0 j.toNat) H1
theorem Gi{a:Expr}{ta:TA}{p pos:Pos}(hg:Gl X "range")(hm:X.mg "range" = none)(ha:PA X [a] ta)(hs:starEach [a] X.env = [(false,eval a X.env)]:=by rfl):PI X tg (.Call (.Name "range" p) [a] [] pos) (S5 ta):=by
  intro pins s σ H R I h;refine Call_ (C2 I hg hm boot_range (qQ (bK (ha pos pins s σ H _ I h) fun us s1 aQ=>?_) hs rfl));obtain⟨vs,H1,I1,r1,q1⟩:=aQ;obtain⟨j,e,q1,q2,q⟩:=q1;subst e;cases r1 with
  | cons r rr=>
    cases rr;obtain⟨t,rfl⟩:=r;exact call_range_1 (S4 I1 (by lia) (by lia) q1 q2 (by simpa using q))
def IW(wi:TI)(g:TG)(tb:TS):TS:=fun D σ H=>wi σ H fun J H1=>∃W:Nat->Nat->St->Hp->Prop,(∃m,W 0 m σ H1)/\∀i m σ H,W i m σ H->
  (J.stop i H/\D.nx σ H)\/(J.go i H/\∃N:St->Hp->Prop,(∀aI H',N aI H'->∃m',m'<m/\W (i+1) m' aI H')/\∀x H',J.vc i H x H'->g x σ H' fun oj H2=>tb { D with nx:=N,ct:=N,bk:=D.nx } oj H2)
def BQ(fp:List ah)(h:Heap):aD:=fp.filterMap fun b=>(h.get? b).map fun o=>(b,o)
theorem BR{fp:List ah}{h:Heap}{b:ah}{o:Obj}(hb:b∈fp)(e:h.get? b=some o):(b,o)∈BQ fp h:=List.mem_filterMap.mpr ⟨b,hb,by rw[e];rfl⟩
theorem S6{fp:List ah}{h:Heap}{p:ah×Obj}(hp:p∈BQ fp h):p.1∈fp/\h.get? p.1=some p.2:=by
  obtain⟨b,hb,e⟩:=List.mem_filterMap.mp hp;cases q:h.get? b with
  | none=>rw[q] at e;cases e
  | some o=>
    rw[q] at e;have e':(b,o)=p:=bW e;subst e';exact⟨hb,q⟩
theorem Inv.pinned{pins:aD}{σ:St}{H:Hp}{s:au}{fp:List ah}(I:Inv X pins σ H s)(hf:∀b∈fp,fX X pins H b)(ho:∀b∈fp,∃o,s.heap.get? b=some o/\∀v,o.data≠.cell v):Inv X (pins++BQ fp s.heap) σ H s:=
  I.sj fun p hp=>(bz.mp hp).elim (fun z=>I.pin p (dZ _ z)) fun z=>by
    obtain⟨hb,e⟩:=S6 z;obtain⟨f0,f1,f2,_⟩:=hf p.1 hb;obtain⟨o,e',d⟩:=ho p.1 hb;rw[e] at e';cases e';exact⟨e,f0,f1,f2,d⟩
theorem Inv.jd{pins pl:aD}{σ:St}{H:Hp}{s:au}(I:Inv X (pins++pl) σ H s):Inv X pins σ H s:=I.sj fun p hp=>I.pin p (dZ _ (dF _ hp))
theorem j3{iter:Expr}{body:List Stmt}{wi:TI}{g:TG}{tb:TS}{pos:Pos}(hp:PassesOwn (model X.prog X.w) X.A X.env X.xe)(hc:X.calm=true)(hi:PI X tg iter wi)(hg:PG X tg g)(hb:pO X body tb)
    (hs:∀x,foldedSetIterable iter X.env x=pure x:=by intro _;rfl):PS X (.For tg iter body [] pos) (IW wi g tb):=by
  intro pins s σ H D I h;refine wpAny_For (bK (hi pins s σ H _ I h) fun v s1 h1=>bK h1 fun vd s2 h2=>?_) hs;obtain⟨it,fp,tn,J,H2,e,I2,T,Ak,f2,W,⟨m0,w0⟩,turn⟩:=h2;subst e;have nH:∀{H':Hp},(∀b∈fp,H' b=none)->∀b∈fp,fX X pins H' b:=fun hn b hb=>⟨hn b hb,(f2 b hb).2⟩
  refine codeAny_forLoop_any (fun n s'=>∃i aI H',Inv X pins aI H' s'/\tn i s'.heap/\(∀b∈fp,H' b=none)/\W i n aI H') ?_ m0 ⟨0,σ,H2,I2,Ak,fun b hb=>(f2 b hb).1,w0⟩;rintro n s3 ⟨i,oh,H3,I3,MM,MN,w3⟩;rcases turn i n oh H3 w3 with ⟨stop,qn⟩ | ⟨go,N,hN,step⟩
  · refine jP hp (bK (T.done X rfl rfl rfl hc i pins s3 oh H3 X.xe I3 (nH MN) MM stop) fun r s4 aQ=>?_);obtain⟨hr,I4⟩:=aQ;subst hr;exact nA ⟨oh,H3,I4,qn⟩
  · refine jP hp (bK (T.item X rfl rfl rfl hc i pins s3 oh H3 X.xe I3 (nH MN) MM go) fun r s4 aQ=>?_);obtain⟨u,hr,h4⟩:=aQ;subst hr;refine jP hp (bK h4 fun _ s5 aQ=>?_);obtain⟨x,H5,I5,r5,y5,xH,Al⟩:=aQ;have S7:=I5.pinned (nH Al) (T.obj _ _ xH);refine jP hp (bK (hg _ s5 oh H5 x u _ S7 r5 (step x H5 y5)) fun _ s6 aQ=>?_);obtain⟨S8,H6,I6,q6⟩:=aQ;refine jP hp (bK (hb _ s6 S8 H6 _ I6 q6) fun f s7 q7=>?_);have again:∀{vf:St}{H7:Hp},Inv X (pins++BQ fp s5.heap) vf H7 s7->N vf H7->∃m,m<n/\∃i aI H',Inv X pins aI H' s7/\tn i s7.heap/\(∀b∈fp,H' b=none)/\W i m aI H':=fun{vf H7}I7 n7=>by
      obtain⟨m',hm,w7⟩:=hN vf H7 n7;refine⟨m',hm,i+1,vf,H7,I7.jd,T.keep _ _ _ xH fun b hb o e=>(I7.pin (b,o) (dZ _ (dZ _ (BR hb e)))).1,fun b hb=>?_,w7⟩;obtain⟨o,e,d⟩:=T.obj _ _ xH b hb;exact(I7.pin (b,o) (dZ _ (dZ _ (BR hb e)))).2.1
    cases f with
    | next=>obtain⟨vf,H7,I7,n7⟩:=q7;exact again I7 n7
    | cont=>obtain⟨vf,H7,I7,n7⟩:=q7;exact again I7 n7
    | brk=>obtain⟨vf,H7,I7,q7⟩:=q7;exact⟨vf,H7,I7.jd,q7⟩
    | ret v=>obtain⟨x7,vf,H7,I7,r7,q7⟩:=q7;exact⟨x7,vf,H7,I7.jd,r7,q7⟩
end
theorem pP{K:aF}{a:ah}{xs:List V}{g:TG}{tb:TS}{D:Ends}{σ:St}{H:Hp}(Pv:Nat->St->Hp->Prop)(h0:Pv 0 σ H)(hl:∀i σ H,i<=xs.length->Pv i σ H->aH K H a xs)
    (hs:∀i x σ H,xs[i]? = some x->Pv i σ H->g x σ H fun oj H2=>tb { D with nx:=Pv (i+1),ct:=Pv (i+1),bk:=D.nx } oj H2) (hd:∀σ H,Pv xs.length σ H->D.nx σ H) :
    ∃W:Nat->Nat->St->Hp->Prop,(∃m,W 0 m σ H)/\∀i m σ H,W i m σ H->
      ((BP K a).stop i H/\D.nx σ H)\/((BP K a).go i H/\∃N:St->Hp->Prop,(∀aI H',N aI H'->∃m',m'<m/\W (i+1) m' aI H')/\∀x H',(BP K a).vc i H x H'->g x σ H' fun oj H2=>tb { D with nx:=N,ct:=N,bk:=D.nx } oj H2):=by
  refine⟨fun i m σ H=>m=xs.length-i/\i<=xs.length/\Pv i σ H,⟨xs.length,by simp,dH _,h0⟩,?_⟩;rintro i m σ H ⟨rfl,hi,p⟩;have q:=hl i σ H hi p
  by_cases dz:i<xs.length
  · refine .inr ⟨⟨xs,xs[i],q,by simp[dz]⟩,Pv (i+1),fun aI H' p'=>⟨xs.length-(i+1),by lia,rfl,dz,p'⟩,fun x H' y=>?_⟩;obtain⟨e,y⟩:=y;subst e;exact hs i x σ _ (y xs q) p
  · have e:i=xs.length:=by lia
    subst e;exact .inl ⟨⟨xs,q,aG _⟩,hd σ H p⟩
theorem IX{lo:Int}{n:Nat}{g:TG}{tb:TS}{D:Ends}{σ:St}{H:Hp}(Pv:Nat->St->Hp->Prop)(h0:Pv 0 σ H)
    (hs:∀i σ H,i<n->Pv i σ H->g (.int (lo+i)) σ H fun oj H2=>tb { D with nx:=Pv (i+1),ct:=Pv (i+1),bk:=D.nx } oj H2) (hd:∀σ H,Pv n σ H->D.nx σ H) :
    ∃W:Nat->Nat->St->Hp->Prop,(∃m,W 0 m σ H)/\∀i m σ H,W i m σ H->
      ((Aj lo n).stop i H/\D.nx σ H)\/((Aj lo n).go i H/\∃N:St->Hp->Prop,(∀aI H',N aI H'->∃m',m'<m/\W (i+1) m' aI H')/\∀x H',(Aj lo n).vc i H x H'->g x σ H' fun oj H2=>tb { D with nx:=N,ct:=N,bk:=D.nx } oj H2):=by
  refine⟨fun i m σ H=>m=n-i/\i<=n/\Pv i σ H,⟨n,by simp,dH _,h0⟩,?_⟩;rintro i m σ H ⟨rfl,hi,p⟩
  by_cases dz:i<n
  · refine .inr ⟨dz,Pv (i+1),fun aI H' p'=>⟨n-(i+1),by lia,rfl,dz,p'⟩,fun x H' y=>?_⟩;obtain⟨e,y⟩:=y;subst e y;exact hs i σ _ dz p
  · have e:i=n:=by lia
    subst e;exact .inl ⟨aG _,hd σ H p⟩
abbrev R2:=V->V->Hp->VK->Prop
def jo(X:Cx)(f:ai->ai->Sem ai)(r:R2):Prop:=
  ∀(pins:aD)(s:au)(σ:St)(H:Hp)(x y:V)(v u:ai)(Q:VK),Inv X pins σ H s->RelV x v->RelV y u->r x y H Q->
    wpAny (model X.prog X.w) X.A (f v u) (EP X pins σ Q) X.xe s
def IY(X:Cx)(f:ai->Sem ai)(r:V->Hp->VK->Prop):Prop:=
  ∀(pins:aD)(s:au)(σ:St)(H:Hp)(x:V)(v:ai)(Q:VK),Inv X pins σ H s->RelV x v->r x H Q->
    wpAny (model X.prog X.w) X.A (f v) (EP X pins σ Q) X.xe s
def om(X:Cx)(f:ai)(r:List V->Hp->VK->Prop):Prop:=
  ∀(pins:aD)(s:au)(σ:St)(H:Hp)(xs:List V)(us:List ai)(Q:VK),Inv X pins σ H s->Vals xs us->r xs H Q->
    wpAny (model X.prog X.w) X.A (call f us) (EP X pins σ Q) X.xe s
def C8(r:R2)(ta tb:TE):TE:=fun σ H Q=>ta σ H fun x H1=>tb σ H1 fun y H2=>r x y H2 Q
def S9(r:V->Hp->VK->Prop)(ta:TE):TE:=fun σ H Q=>ta σ H fun x H1=>r x H1 Q
def rI(C:Int->Int->Prop)(g:Int->Int->V):R2:=fun x y H Q=>∃i j,x = .int i/\y = .int j/\C i j/\Q (g i j) H
inductive IZ(g:Int->Int->V)(x y:V)(H:Hp)(Q:VK):Prop
  | mk (i j:Int) (_:x = .int i) (_:y = .int j) (_:Q (g i j) H)
def Am(g:Int->Int->V):R2:=fun x y H Q=>IZ g x y H Q
def rU(g:Int->V):V->Hp->VK->Prop:=fun x H Q=>∃i,x = .int i/\Q (g i) H
section
variable{X:Cx}{a b c:Expr}{ta tb tc:TE}{pos:Pos}
theorem An(ha:PE X a ta)(hb:PE X b tb){pins:aD}{s:au}{σ:St}{H:Hp}{R:V->V->Hp->Prop}(I:Inv X pins σ H s)
    (h:ta σ H fun x H1=>tb σ H1 fun y H2=>R x y H2) {Q:az}{f:ai->ai->Sem ai}
    (hf:∀v u s2 x y H2,Inv X pins σ H2 s2->RelV x v->RelV y u->R x y H2->wpAny (model X.prog X.w) X.A (f v u) Q X.xe s2) :
    wpAny (model X.prog X.w) X.A (eval a X.env) (fun v bD=>wpAny (model X.prog X.w) X.A (eval b X.env) (fun u iL=>wpAny (model X.prog X.w) X.A (f v u) Q X.xe iL) X.xe bD) X.xe s:=by
  refine bK (ha pins s σ H _ I h) fun v s1 aQ=>?_
  obtain⟨x,H1,I1,r1,q1⟩:=aQ;refine bK (hb pins s1 σ H1 _ I1 q1) fun u s2 aQ=>?_
  obtain⟨y,H2,I2,r2,q2⟩:=aQ;exact hf v u s2 x y H2 I2 r1 r2 q2
theorem fR{op:Operator}{r:R2}(ho:jo X (binaryOp op) r)(ha:PE X a ta)(hb:PE X b tb):PE X (.BinOp a op b pos) (C8 r ta tb):=by
  intro pins s σ H Q I h;exact wpAny_BinOp (An ha hb I h fun v u s2 x y H2 I2 rx ry q=>ho pins s2 σ H2 x y v u Q I2 rx ry q)
theorem I0{op:UnaryOp}{r:V->Hp->VK->Prop}(ho:IY X (unaryOp op) r)(ha:PE X a ta):PE X (.UnaryOp op a pos) (S9 r ta):=by
  intro pins s σ H Q I h;exact UnaryOp_ (bK (ha pins s σ H _ I h) fun v s1 ⟨x,H1,I1,r1,q1⟩=>ho pins s1 σ H1 x v Q I1 r1 q1)
theorem Gj{f:ai->ai->Sem ai}{C:Int->Int->Prop}{g:Int->Int->Int}
    (rule:∀(i j:Int)(t u:Tok)(s:au)(Q:az)(E:az),C i j->Q (.int (g i j) s.toks) { s with toks:=s.toks+1 }->wpAny (model X.prog X.w) X.A (f (.int i t) (.int j u)) Q E s) :
    jo X f (rI C fun i j=>.int (g i j)):=by
  intro pins s σ H x y v u Q I rx ry h;obtain⟨i,j,rfl,rfl,hc,q⟩:=h;obtain⟨t,rfl⟩:=rx;obtain⟨t',rfl⟩:=ry;exact rule i j t t' s _ _ hc ⟨.int (g i j),H,I.tok _,⟨_,rfl⟩,q⟩
theorem C9{f:ai->ai->Sem ai}{g:Int->Int->Int}
    (rule:∀(i j:Int)(t u:Tok)(s:au)(Q:az)(E:az),Q (.int (g i j) s.toks) { s with toks:=s.toks+1 }->wpAny (model X.prog X.w) X.A (f (.int i t) (.int j u)) Q E s) :
    jo X f (Am fun i j=>.int (g i j)):=by
  intro pins s σ H x y v u Q I rx ry h;obtain⟨i,j,rfl,rfl,q⟩:=h;obtain⟨t,rfl⟩:=rx;obtain⟨t',rfl⟩:=ry;exact rule i j t t' s _ _ ⟨.int (g i j),H,I.tok _,⟨_,rfl⟩,q⟩
theorem Ao{f:ai->ai->Sem ai}{g:Int->Int->Bool}
    (rule:∀(i j:Int)(t u:Tok)(s:au)(Q:az)(E:az),Q (.bool (g i j)) s->wpAny (model X.prog X.w) X.A (f (.int i t) (.int j u)) Q E s) :
    jo X f (Am fun i j=>.bl (g i j)):=by
  intro pins s σ H x y v u Q I rx ry h;obtain⟨i,j,rfl,rfl,q⟩:=h;obtain⟨t,rfl⟩:=rx;obtain⟨t',rfl⟩:=ry;exact rule i j t t' s _ _ ⟨.bl (g i j),H,I,rfl,q⟩
def Ja(i j:Int):Prop:=0<j/\j<1073741824
def Aq(i j:Int):Prop:=0<=j/\j<=1000000/\i.natAbs<2 ^ 64
def Ar(i j:Int):Prop:=(-(2 ^ 64)<i/\i<2 ^ 64)\/(-(2 ^ 64)<j/\j<2 ^ 64)
theorem Ar.ok{i j:Int}(h:Ar i j):IntMulOk i j:=by
  rcases h with ⟨h1,h2⟩ | ⟨h1,h2⟩
  · exact .of_left (intBits_le_64 h1 h2)
  · exact .of_right (intBits_le_64 h1 h2)
theorem sq:jo X (binaryOp .Add) (Am fun i j=>.int (i+j)):=C9 fun _ _ _ _ _ _ _ q=>add_int q
theorem MO:jo X (binaryOp .Sub) (Am fun i j=>.int (i-j)):=C9 fun _ _ _ _ _ _ _ q=>sub_int q
theorem Dd:jo X (binaryOp .Mult) (rI Ar fun i j=>.int (i * j)):=Gj fun _ _ _ _ _ _ _ hc q=>mul_int q hc.ok
theorem Tc:jo X (binaryOp .FloorDiv) (rI Ja fun i j=>.int (i / j)):=Gj fun i j _ _ _ _ _ hc q=>by
  have h1:(0:Int)<j:=hc.1;have h2:j<1073741824:=hc.2;exact floordiv_int (by lia) (by rw[Int.fdiv_eq_ediv_of_nonneg i (by lia)];exact q) (.inl (PyProof.noPylong_small (by lia)))
theorem yX:jo X (binaryOp .Mod) (rI (fun _ j=>0<j) fun i j=>.int (i%j)):=Gj fun i j _ _ _ _ _ hc q=>by
  have h1:(0:Int)<j:=hc;exact mod_int' (by lia) (by rw[Int.fmod_eq_emod_of_nonneg i (by lia)];exact q)
theorem De:jo X (binaryOp .Pow) (rI Aq fun i j=>.int (i ^ j.toNat)):=Gj fun _ _ _ _ _ _ _ hc q=>pow_int_small hc.1 hc.2.1 hc.2.2 q
theorem Td{f:ai->Sem ai}{g:Int->Int}
    (rule:∀(i:Int)(t:Tok)(s:au)(Q:az)(E:az),Q (.int (g i) s.toks) { s with toks:=s.toks+1 }->wpAny (model X.prog X.w) X.A (f (.int i t)) Q E s) :
    IY X f (rU fun i=>.int (g i)):=by
  intro pins s σ H x v Q I rx h;obtain⟨i,rfl,q⟩:=h;obtain⟨t,rfl⟩:=rx;exact rule i t s _ _ ⟨.int (g i),H,I.tok _,⟨_,rfl⟩,q⟩
theorem Jb:IY X (unaryOp .USub) (rU fun i=>.int (-i)):=Td fun _ _ _ _ _ q=>neg_int q
end
def Dg:V->V->Bool
  | .cu,.cu=>true | .cu,.int _=>true | .int _,.cu=>true | .cu,.bl _=>true | .bl _,.cu=>true | .cu,.str _=>true | .str _,.cu=>true
  | .int _,.int _=>true | .bl _,.bl _=>true | .str _,.str _=>true | .sW _,.sW _=>true
  | .int _,.str _=>true | .str _,.int _=>true | .bl _,.str _=>true | .str _,.bl _=>true
  | _,_=>false
def Tf:R2:=fun x y H Q=>Dg x y=true/\Q (.bl (decide (x=y))) H
def Tg:R2:=fun x y H Q=>Dg x y=true/\Q (.bl (!decide (x=y))) H
theorem MP{i j:Int}:decide (V.int i=V.int j)=(i == j):=by
  rw[jQ];simp
theorem MQ{i j:Bool}:decide (V.bl i=V.bl j)=(i == j):=by
  rw[jQ];simp
theorem MR{i j:Str}:decide (V.str i=V.str j)=(i == j):=by
  rw[jQ];simp
theorem MS{i j:Array UInt8}:decide (V.sW i=V.sW j)=(i.toList == j.toList):=by
  rw[jQ];cases i;cases j;simp
section
variable{X:Cx}{a b c:Expr}{ta tb tc:TE}{pos:Pos}
theorem j4{pins:aD}{σ:St}{H:Hp}{s:au}{Q:VK}{k k':Bool}(I:Inv X pins σ H s)(q:Q (.bl k) H)(e:k=k'):EP X pins σ Q (.bool k') s:=by
  subst e;exact⟨.bl k,H,I,rfl,q⟩
theorem su:jo X (compareOp .Eq) Tf:=by
  intro pins s σ H x y v u Q I rx ry h;obtain⟨hs,q⟩:=h;cases x with
  | cu=>
    cases rx;cases y with
    | cu=>cases ry;exact PySem.EqNone.eq_none_none (j4 I q (by simp))
    | bl j=>cases ry;exact PySem.EqNone.eq_none_bool (j4 I q (by simp))
    | int j=>obtain⟨t',rfl⟩:=ry;exact PySem.EqNone.eq_none_int (j4 I q (by simp))
    | str j=>obtain⟨t',rfl⟩:=ry;exact PySem.EqNone.eq_none_str (j4 I q (by simp))
    | _=>exact absurd (show false=true from hs) bJ
  | bl i=>
    cases rx;cases y with
    | cu=>cases ry;exact PySem.EqNone.eq_bool_none (j4 I q (by simp))
    | bl j=>cases ry;exact eq_bool (j4 I q MQ)
    | str j=>obtain⟨t',rfl⟩:=ry;exact PySem.EqMixed.eq_bool_str (j4 I q (by simp))
    | _=>exact absurd (show false=true from hs) bJ
  | int i=>
    obtain⟨t,rfl⟩:=rx;cases y with
    | cu=>cases ry;exact PySem.EqNone.eq_int_none (j4 I q (by simp))
    | int j=>obtain⟨t',rfl⟩:=ry;exact eq_int (j4 I q MP)
    | str j=>obtain⟨t',rfl⟩:=ry;exact PySem.EqMixed.eq_int_str (j4 I q (by simp))
    | _=>exact absurd (show false=true from hs) bJ
  | str i=>
    obtain⟨t,rfl⟩:=rx;cases y with
    | cu=>cases ry;exact PySem.EqNone.eq_str_none (j4 I q (by simp))
    | bl j=>cases ry;exact PySem.EqMixed.eq_str_bool (j4 I q (by simp))
    | int j=>obtain⟨t',rfl⟩:=ry;exact PySem.EqMixed.eq_str_int (j4 I q (by simp))
    | str j=>obtain⟨t',rfl⟩:=ry;exact eq_str (j4 I q MR)
    | _=>exact absurd (show false=true from hs) bJ
  | sW i=>
    obtain⟨t,rfl⟩:=rx;cases y with
    | sW j=>obtain⟨t',rfl⟩:=ry;exact PySem.W.eq_bytes (j4 I q MS)
    | _=>exact absurd (show false=true from hs) bJ
  | _=>cases y<;>exact absurd (show false=true from hs) bJ
theorem Th:jo X (compareOp .NotEq) Tg:=by
  intro pins s σ H x y v u Q I rx ry h;obtain⟨hs,q⟩:=h;cases x with
  | cu=>
    cases rx;cases y with
    | cu=>cases ry;exact PySem.EqNone.ne_none_none (j4 I q (by simp))
    | bl j=>cases ry;exact PySem.EqNone.ne_none_bool (j4 I q (by simp))
    | int j=>obtain⟨t',rfl⟩:=ry;exact PySem.EqNone.ne_none_int (j4 I q (by simp))
    | str j=>obtain⟨t',rfl⟩:=ry;exact PySem.EqNone.ne_none_str (j4 I q (by simp))
    | _=>exact absurd (show false=true from hs) bJ
  | bl i=>
    cases rx;cases y with
    | cu=>cases ry;exact PySem.EqNone.ne_bool_none (j4 I q (by simp))
    | bl j=>cases ry;exact ne_bool (j4 I q (bQ not MQ))
    | str j=>obtain⟨t',rfl⟩:=ry;exact PySem.EqMixed.ne_bool_str (j4 I q (by simp))
    | _=>exact absurd (show false=true from hs) bJ
  | int i=>
    obtain⟨t,rfl⟩:=rx;cases y with
    | cu=>cases ry;exact PySem.EqNone.ne_int_none (j4 I q (by simp))
    | int j=>obtain⟨t',rfl⟩:=ry;exact ne_int (j4 I q (bQ not MP))
    | str j=>obtain⟨t',rfl⟩:=ry;exact PySem.EqMixed.ne_int_str (j4 I q (by simp))
    | _=>exact absurd (show false=true from hs) bJ
  | str i=>
    obtain⟨t,rfl⟩:=rx;cases y with
    | cu=>cases ry;exact PySem.EqNone.ne_str_none (j4 I q (by simp))
    | bl j=>cases ry;exact PySem.EqMixed.ne_str_bool (j4 I q (by simp))
    | int j=>obtain⟨t',rfl⟩:=ry;exact PySem.EqMixed.ne_str_int (j4 I q (by simp))
    | str j=>obtain⟨t',rfl⟩:=ry;exact ne_str (j4 I q (bQ not MR))
    | _=>exact absurd (show false=true from hs) bJ
  | sW i=>
    obtain⟨t,rfl⟩:=rx;cases y with
    | sW j=>obtain⟨t',rfl⟩:=ry;exact PySem.W.ne_bytes (j4 I q (bQ not MS))
    | _=>exact absurd (show false=true from hs) bJ
  | _=>cases y<;>exact absurd (show false=true from hs) bJ
theorem BS:jo X (compareOp .Lt) (Am fun i j=>.bl (decide (i<j))):=Ao fun _ _ _ _ _ _ _ q=>lt_int q
theorem BU:jo X (compareOp .Gt) (Am fun i j=>.bl (decide (j<i))):=Ao fun _ _ _ _ _ _ _ q=>gt_int q
theorem Ti:jo X (compareOp .GtE) (Am fun i j=>.bl (decide (j<=i))):=Ao fun _ _ _ _ _ _ _ q=>ge_int q
theorem fV(b:Expr){op:CmpOp}(h:op≠.In:=by decide)(h2:op≠.NotIn:=by decide):behindInMarks op b=false:=by
  have e1:(op == CmpOp.In)=false:=by cases op<;>first | rfl | exact absurd rfl h
  have e2:(op == CmpOp.NotIn)=false:=by cases op<;>first | rfl | exact absurd rfl h2
  cases b<;>simp[behindInMarks,e1,e2]
theorem Jc{op:CmpOp}{r:R2}(ho:jo X (compareOp op) r)(ha:PE X a ta)(hb:PE X b tb)(hm:behindInMarks op b=false):PE X (.Compare a [op] [b] pos) (C8 r ta tb):=by
  intro pins s σ H Q I h;exact wpAny_Compare1 (An ha hb I h fun v u s2 x y H2 I2 rx ry q=>ho pins s2 σ H2 x y v u Q I2 rx ry q) hm
def Tj(t:TE):TT:=fun σ H Q=>t σ H fun x H'=>∃k,x = .bl k/\Q k H'
theorem fh{op:CmpOp}{r:R2}(ho:jo X (compareOp op) r)(ha:PE X a ta)(hb:PE X b tb)(hm:behindInMarks op b=false):PT X (.Compare a [op] [b] pos) (Tj (C8 r ta tb)):=by
  intro pins s σ H Q I h;refine wpAny_isTrue_Compare1 (bK (ha pins s σ H _ I h) fun v s1 ⟨x,H1,I1,r1,q1⟩=>bK (hb pins s1 σ H1 _ I1 q1) fun u s2 ⟨y,H2,I2,r2,q2⟩=>
    bK (ho pins s2 σ H2 x y v u _ I2 r1 r2 q2) fun c s3 ⟨z,H3,I3,r3,k,e,q3⟩=>?_) hm
  subst e;cases r3;exact j9 ⟨H3,I3,q3⟩
theorem Dh:(sizeLine:Nat)<2 ^ 63:=by rw[d8];decide
theorem Tn:jo X (binaryOp .Add) (fun x y H Q=>∃i j,x = .str i/\y = .str j/\i.length+j.length<=sizeLine/\Q (.str (i++j)) H):=by
  intro pins s σ H x y v u Q I rx ry h;obtain⟨i,j,rfl,rfl,hz,q⟩:=h;obtain⟨t,rfl⟩:=rx;obtain⟨t',rfl⟩:=ry;exact add_str (fun t' tk=>⟨.str (i++j),H,I.tok _,⟨_,rfl⟩,q⟩) hz
theorem pZ{x:V}{us:List ai}(r:Vals [x] us):∃u,us = [u]/\RelV x u:=by
  cases r with
  | cons r1 r2=>cases r2;exact⟨_,rfl,r1⟩
theorem As{x y:V}{us:List ai}(r:Vals [x,y] us):∃u w',us = [u,w']/\RelV x u/\RelV y w':=by
  cases r with
  | cons r1 r2=>
    cases r2 with
    | cons r3 r4=>cases r4;exact⟨_,_,rfl,r1,r3⟩
theorem To(hc:X.calm=true):om X (.builtin "max") (fun xs H Q=>∃i j,xs = [.int i,.int j]/\Q (.int (if j > i then j else i)) H):=by
  intro pins s σ H xs us Q I r h;obtain⟨i,j,rfl,q⟩:=h;obtain⟨u,w',rfl,⟨t,rfl⟩,⟨t',rfl⟩⟩:=As r;refine max_two_ints (I.ok.hd hc) fun h' tk k=>⟨_,H,I.kept k,?_,q⟩
  by_cases hj:j > i
  · rw[av hj,av hj];exact⟨_,rfl⟩
  · rw[ao hj,ao hj];exact⟨_,rfl⟩
theorem Tp(hc:X.calm=true):om X (.builtin "min") (fun xs H Q=>∃i j,xs = [.int i,.int j]/\Q (.int (if j<i then j else i)) H):=by
  intro pins s σ H xs us Q I r h;obtain⟨i,j,rfl,q⟩:=h;obtain⟨u,w',rfl,⟨t,rfl⟩,⟨t',rfl⟩⟩:=As r;refine min_two_ints (I.ok.hd hc) fun h' tk k=>⟨_,H,I.kept k,?_,q⟩
  by_cases hj:j<i
  · rw[av hj,av hj];exact⟨_,rfl⟩
  · rw[ao hj,ao hj];exact⟨_,rfl⟩
end
structure rj(h:Heap)(x dx C:ah)(mA:Str->Option ai):Prop where
  obj:h.get? x=some (PySem.W.instObj C dx)
  ns:h.Ns1 dx mA
  ne:dx≠x
theorem Tq{h:Heap}{dx:ah}{mA:Str->Option ai}(n:h.Ns1 dx mA):∃od,h.get? dx=some od/\∀name,PySem.W.lookIn name od=some (mA name):=by
  obtain⟨o,es,ep,ho,hd,hk,_,hm⟩:=n;refine⟨o,ho,fun name=>?_⟩;have e:=hm name;unfold nsFind findBy at e;rw[←Array.find?_toList] at e;unfold PySem.W.lookIn;rw[hd];dsimp only;split
  · rename_i y q;rw[q] at e;exact bQ some e
  · rename_i q;rw[q] at e;have a:es.toList.any (·.refKey)=false:=by
      rw[List.any_eq_false];intro y hy;obtain⟨z,t,xJ⟩:=hk y (Array.mem_toList_iff.mp hy);simp[DictEntry.refKey,xJ]
    have a':¬es.toList.any (·.refKey)=true:=by rw[a];exact bJ
    rw[ao a'];exact bQ some e
theorem rj.look{h:Heap}{x dx C:ah}{mA:Str->Option ai}(I:rj h x dx C mA):∃od,PySem.W.InstAt h x (PySem.W.instObj C dx) C (some od)/\∀name,PySem.W.lookIn name od=some (mA name):=
  let ⟨od,ho,hl⟩:=Tq I.ns
  ⟨od,⟨I.obj,rfl,rfl,ho⟩,hl⟩
section
variable{prog:aU}{w:World}{A:Around}{E:az}{s:au}{K:aF}{x dx C f:ah}{mA:Str->Option ai}{name:Str}{v:ai}
theorem Tt{expr:Bool}{Q:az}(X:K.In s.heap)(I:rj s.heap x dx C mA)(hg:PySem.W.plainGet K C name=true)(hh:PySem.W.hasDictIn K C=true)
    (ha:PySem.W.findIn K (.ref C) name=some none) (hv:mA name=some v) (Di:PySem.W.handedIn v=true) (h:Q v { s with toks:=s.toks+1 }) :
    wpAny (model prog w) A (getAttr (.ref x) name expr) Q E s:=by
  obtain⟨od,J,hl⟩:=I.look;exact PySem.W.get_value X J (PySem.W.plainGet_of hg).1 (PySem.W.findObj_own hh ha rfl (by rw[hl,hv])) Di h
theorem Tu{pl:Sem Bool}{Q:ai×List ai->au->Prop}(X:K.In s.heap)(I:rj s.heap x dx C mA)(hg:PySem.W.plainGet K C name=true)
    (hf:PySem.W.findIn K (.ref C) name=some (some (.ref f))) (ht:PySem.W.isFn K (.ref f)=true) (hv:mA name=none) (h:Q (.ref f,[.ref x]) s) :
    wpAny (model prog w) A (getMethod (.ref x) name pl) Q E s:=by
  obtain⟨od,J,hl⟩:=I.look;exact PySem.W.method_fn X J (PySem.W.plainGet_of hg).1 (PySem.W.plainGet_of hg).2 hf (gx.mp ht) (by show(PySem.W.lookIn name od).map (·.isSome)=some false;rw[hl,hv];rfl) h
theorem Tv{ns:List Str}{Q:Unit->au->Prop}(X:K.In s.heap)(I:rj s.heap x dx C mA)
    (hs:PySem.W.findIn K (.ref C) "__setattr__" = some (some (.builtin "object.__setattr__"))) (hp:PySem.W.plainOver K C=true) (ht:PySem.W.takerIn K C name=some none) (hh:PySem.W.hasDictIn K C=true)
    (hw:PySem.Within mA ns) (hsz:ns.length<=sizeLine)
    (h:∀h',rj h' x dx C (fun y=>if y=name then some v else mA y)->Heap.SameBut dx s.heap h'->Q () { s with heap:=h',toks:=s.toks+2 }) :
    wpAny (model prog w) A (setAttr (.ref x) name v) Q E s:=by
  obtain⟨od,J,hl⟩:=I.look;refine PySem.W.set_plain X J hs (PySem.W.osa_open (s:={ s with toks:=s.toks+1 }) (r:=none) X J hp ht fun b=>?_);obtain⟨cd,hc,pY⟩:=PySem.W.any_some hh;have hx:s.heap.get? x=some ⟨.ref C,some dx,.plain,#[]⟩:=I.obj;refine aj (ay (aj (aj (wpAny_loadPart hx (aj (PySem.W.Looks.here (s:={ s with toks:=s.toks+1 }) (PySem.W.looks_clsIn X hc) ?_))))));rw[pY];refine ay (a:=some dx) (aj (ay (aj ?_)));refine wpAny_nsSet1 (s:={ s with toks:=s.toks+1 }) I.ns fun h' uO MT=>?_
  obtain⟨oD,Tw,Tz,Jd,Je,Jf⟩:=uO.count (PySem.Within.cons name v hw);refine aj (wpAny_lookBehind Jd (by rw[Je];exact pastItsLine_dict (bH Jf (by rw[fK];lia))) ?_);exact ay (h _ ⟨(MT.2 _ (aE I.ne)).trans I.obj,uO,I.ne⟩ MT)
theorem TF{R:Result->au->Prop}{vs:List ai}{kw:List (Str×ai)}(X:K.In s.heap)(hm:PySem.W.makesIn K C=true)
    (hi:PySem.W.findIn K (.ref C) "__init__" = some (some (.ref f))) (hf:PySem.W.typeIn K (.ref f)=some (.type "function"))
    (h:codeAny (model prog w) (A.under (.builtin "type.__call__" ⟨.ref C::vs,kw⟩)) (.call (.ref f) ⟨.ref (s.heap.objs.size+1)::vs,kw⟩) (PySem.W.InitBack (s.heap.objs.size+1) R)
      { s with heap:=(s.heap.push PySem.W.emptyDict).push (PySem.W.instObj C s.heap.objs.size) }) :
    codeAny (model prog w) A (.call (.ref C) ⟨vs,kw⟩) R s:=by
  obtain⟨hh,g,d,t,os⟩:=s;exact PySem.W.make_core (PySem.W.makes_of X hm) (PySem.W.looks_findIn X hi) (fun self=>PySem.W.bind_fn X self hf) (.inl rfl) h
end
def bX(f:Str)(v:V):List (Str×V)->List (Str×V)
  | []=>[(f,v)]
  | (g,x)::r=>if g=f then(g,v)::r else(g,x)::bX f v r
theorem MU(f g:Str)(v:V):∀fs:List (Str×V),(bX f v fs).lookup g=if g=f then some v else fs.lookup g
  | []=>by
    show List.lookup g [(f,v)]=_
    by_cases h:g=f
    · have hb:(g == f)=true:=gx.mpr h;simp only[List.lookup,hb,av h]
    · have hb:(g == f)=false:=f9.mpr h;simp only[List.lookup,hb,ao h]
  | (k,x)::r=>by
    have ih:=MU f g v r;rw[show bX f v ((k,x)::r)=(if k=f then(k,v)::r else(k,x)::bX f v r) from rfl]
    by_cases hk:k=f
    · rw[av hk]
      by_cases h:g=k
      · have hb:(g == k)=true:=gx.mpr h;simp only[List.lookup,hb,av (h.trans hk)]
      · have hb:(g == k)=false:=f9.mpr h;simp only[List.lookup,hb,ao (fun e:g=f=>h (e.trans hk.symm))]
    · rw[ao hk]
      by_cases h:g=k
      · have hb:(g == k)=true:=gx.mpr h;simp only[List.lookup,hb,ao (fun e:g=f=>hk (h.symm.trans e))]
      · have hb:(g == k)=false:=f9.mpr h;simp only[List.lookup,hb];exact ih
theorem Jg(f:Str)(v:V):∀fs:List (Str×V),f∈(bX f v fs).map (·.1)/\∀g,g∈fs.map (·.1)->g∈(bX f v fs).map (·.1)
  | []=>⟨by simp[bX],fun g h=>by simp at h⟩
  | (k,x)::r=>by
    obtain⟨i1,i2⟩:=Jg f v r;rw[show bX f v ((k,x)::r)=(if k=f then(k,v)::r else(k,x)::bX f v r) from rfl]
    by_cases hk:k=f
    · rw[av hk];subst hk;exact⟨by simp,fun g h=>by simpa using h⟩
    · rw[ao hk];refine⟨?_,fun g h=>?_⟩
      · rw[cE];exact bE _ i1
      · rw[cE] at h ⊢;rcases aO.mp h with e | e
        · exact aO.mpr (.inl e)
        · exact bE _ (i2 g e)
theorem Dj(f:Str)(v:V):∀fs:List (Str×V),(bX f v fs).length<=fs.length+1
  | []=>by simp[bX]
  | (k,x)::r=>by
    have ih:=Dj f v r;rw[show bX f v ((k,x)::r)=(if k=f then(k,v)::r else(k,x)::bX f v r) from rfl]
    by_cases hk:k=f
    · rw[av hk,fK,fK];lia
    · rw[ao hk,fK,fK];lia
theorem gQ.some_of{v:V}{o:Option ai}(r:gQ (some v) o):∃u,o=some u/\RelV v u:=by
  cases o with
  | none=>exact(show False from r).elim
  | some u=>exact⟨u,rfl,r⟩
theorem gQ.none_of{o:Option ai}(r:gQ none o):o=none:=by
  cases o with
  | none=>rfl
  | some u=>exact(show False from r).elim
theorem TJ{v:V}{u:ai}(r:RelV v u):PySem.W.handedIn u=true:=by
  cases v with
  | cu=>cases (show u=Value.none from r);rfl
  | bl b=>cases (show u=Value.bool b from r);rfl
  | int i=>obtain⟨t,e⟩:=(show ∃t,u=Value.int i t from r);cases e;rfl
  | str x=>obtain⟨t,e⟩:=(show ∃t,u=Value.str x t from r);cases e;rfl
  | sW b=>obtain⟨t,e⟩:=(show ∃t,u=Value.bytes b t from r);cases e;rfl
  | CQ b=>obtain⟨t,e⟩:=(show ∃t,u=Value.float b t from r);cases e;rfl
  | ref a=>cases (show u=Value.ref a from r);rfl
  | ty n=>cases (show u=Value.type n from r);rfl
section
variable{P:aU}{w:World}{H H':Hp}{h h':Heap}{a C dx:ah}{fs i8:List (Str×V)}
theorem Jh(aZ:jF P w H h)(e:H a=some (.ins C dx fs)):∃mA,rj h a dx C mA/\(∀f,gQ (fs.lookup f) (mA f))/\PySem.Within mA (fs.map (·.1))/\fs.length<=1000/\H dx=some (.own a):=by
  obtain⟨d,z,ne,ob,mA,n,r,q⟩:=(show cI P w H h a (.ins C dx fs) from aZ a _ e);exact⟨mA,⟨ob,n,ne⟩,r,q,z,d⟩
end
structure tD(K:aF)(C:ah):Prop where
  pg:PySem.W.plainGet K C Str.empty=true
  hd:PySem.W.hasDictIn K C=true
  po:PySem.W.plainOver K C=true
  sa:PySem.W.findIn K (.ref C) "__setattr__" = some (some (.builtin "object.__setattr__"))
theorem tD.get{K:aF}{C:ah}(c:tD K C)(f:Str):PySem.W.plainGet K C f=true:=c.pg
def cJ(K:aF)(C:ah)(f:Str):Prop:=PySem.W.findIn K (.ref C) f=some none
theorem cJ.yY{K:aF}{C:ah}{f:Str}(n:cJ K C f):PySem.W.takerIn K C f=some none:=by
  unfold PySem.W.takerIn;rw[show PySem.W.findIn K (.ref C) f=some none from n];rfl
structure Meth(K:aF)(C:ah)(m:Str)(f:ah):Prop where
  at_:PySem.W.findIn K (.ref C) m=some (some (.ref f))
  fn:PySem.W.isFn K (.ref f)=true
  kp:PySem.W.keepIn K (.ref f)=true
section
variable{X:Cx}{pins:aD}{σ:St}{H:Hp}{s:au}{a C dx:ah}{fs:List (Str×V)}{f:Str}{v:V}{A:Around}{E:az}
theorem TL{b:Bool}{Q:az}(I:Inv X pins σ H s)(e:H a=some (.ins C dx fs))(c:tD X.K C)(n:cJ X.K C f)(l:fs.lookup f=some v)
    (h:∀u s',Inv X pins σ H s'->RelV v u->Q u s'):wpAny (model X.prog X.w) A (getAttr (.ref a) f b) Q E s:=by
  obtain⟨mA,O,r,_,_,_⟩:=Jh I.aZ e;obtain⟨u,hu,ru⟩:=gQ.some_of (v:=v) (o:=mA f) (by rw[←l];exact r f);exact Tt I.lY O (c.get f) c.hd n hu (TJ ru) (h u _ (I.tok _) ru)
theorem Ji{m:Str}{g:ah}{pl:Sem Bool}{Q:ai×List ai->au->Prop}(I:Inv X pins σ H s)(e:H a=some (.ins C dx fs))(c:tD X.K C)(k:Meth X.K C m g)(l:fs.lookup m=none)
    (h:Q (.ref g,[.ref a]) s):wpAny (model X.prog X.w) A (getMethod (.ref a) m pl) Q E s:=by
  obtain⟨mA,O,r,_,_,_⟩:=Jh I.aZ e;have hn:mA m=none:=gQ.none_of (by rw[←l];exact r m);exact Tu I.lY O (c.get m) k.at_ k.fn hn h
theorem TM{y:V}{u:ai}{Q:Unit->au->Prop}(I:Inv X pins σ H s)(e:H a=some (.ins C dx fs))(c:tD X.K C)(n:cJ X.K C f)(hl:fs.length<1000)(ry:RelV y u)
    (h:∀s',Inv X pins σ (upd H a (.ins C dx (bX f y fs))) s'->Q () s'):wpAny (model X.prog X.w) A (setAttr (.ref a) f u) Q E s:=by
  obtain⟨mA,O,r,wi,_,ho⟩:=Jh I.aZ e;have hz:(fs.map (·.1)).length<=sizeLine:=by rw[aq,d8];lia
  refine Tv I.lY O c.sa c.po n.yY c.hd wi hz fun h' O' sb=>h _ ?_
  have hd:∃o,h'.get? dx=some o:=let ⟨o,_,_,e',_⟩:=O'.ns;⟨o,e'⟩
  refine I.write (x:=a) (e:=dx) (by rw[e];exact True.intro) (.inr ho) (fun b q hb z=>(sb.2 b hb).trans z) hd ?_;refine⟨by rw[ze O.ne];exact ho,?_,O.ne,O'.obj,_,O'.ns,fun g=>?_,fun g hg=>?_⟩
  · have:=Dj f y fs;lia
  · show gQ ((bX f y fs).lookup g) (if g=f then some u else mA g);rw[MU]
    by_cases q:g=f
    · rw[av q,av q];exact ry
    · rw[ao q,ao q];exact r g
  · by_cases q:g=f
    · rw[q];exact(Jg f y fs).1
    · refine(Jg f y fs).2 g (wi g fun z=>hg ?_);show(if g=f then some u else mA g)=none;rw[ao q];exact z
theorem Inv.made(I:Inv X pins σ H s):Inv X pins σ (upd (upd H s.heap.objs.size (.own (s.heap.objs.size+1))) (s.heap.objs.size+1) (.ins C s.heap.objs.size []))
    { s with heap:=(s.heap.push PySem.W.emptyDict).push (PySem.W.instObj C s.heap.objs.size) }:=by
  have e1:(s.heap.push PySem.W.emptyDict).get? s.heap.objs.size=some PySem.W.emptyDict:=bF s.heap rfl;have e2:((s.heap.push PySem.W.emptyDict).push (PySem.W.instObj C s.heap.objs.size)).get? (s.heap.objs.size+1)=some (PySem.W.instObj C s.heap.objs.size):=by
    have:=bF (s.heap.push PySem.W.emptyDict) (o:=PySem.W.instObj C s.heap.objs.size) rfl
    rwa [fP] at this
  have e3:(s.heap.push PySem.W.emptyDict).Ns s.heap.objs.size (fun _=>none):=⟨PySem.W.emptyDict,#[],_,e1,rfl,(fun e he=>absurd he (by simp)),fun _=>rfl⟩;have I1:=I.laid (a:=s.heap.objs.size) (o:=.own (s.heap.objs.size+1)) (h':=s.heap.push PySem.W.emptyDict) (t':=s.toks) (fun b u q=>aY _ q) (aG _) ⟨_,e1⟩;refine I1.laid (a:=s.heap.objs.size+1) (o:=.ins C s.heap.objs.size []) (t':=s.toks) (fun b u q=>aY _ q) (Nat.le_of_eq (fP _ _)) ?_;have ne:s.heap.objs.size≠s.heap.objs.size+1:=aX (iY _);refine⟨by rw[ze ne,zb],dH _,ne,e2,fun _=>none,(Heap.Ns1.of_empty e3).at fun o q=>aY _ q,fun _=>True.intro,fun y hy=>absurd rfl hy⟩
theorem TN{prog:aU}{w:World}{env:Env}{e:Expr}{f:Str}{pos:Pos}{s:au}{Q:az}(hb:attributeBase e f env (eval e env)=eval e env)
    (h:wpAny (model prog w) A (eval e env) (fun o bD=>wpAny (model prog w) A (getAttr o f true) Q E bD) E s):wpAny (model prog w) A (eval (.Attribute e f pos) env) Q E s:=
  Attribute_any_ h (by rw[arm_eval_Attribute,hb])
end
def Jj(K:aF)(ta:TE)(f:Str):TE:=fun σ H Q=>ta σ H fun x H1=>∃a C dx fs v,x = .ref a/\H1 a=some (.ins C dx fs)/\tD K C/\cJ K C f/\fs.lookup f=some v/\Q v H1
def Jk(K:aF)(ta tv:TE)(f:Str):TS:=fun D σ H=>tv σ H fun y H1=>ta σ H1 fun x H2=>∃a C dx fs,x = .ref a/\H2 a=some (.ins C dx fs)/\tD K C/\cJ K C f/\fs.length<1000/\
  D.nx σ (upd H2 a (.ins C dx (bX f y fs)))
section
variable{X:Cx}{o e value:Expr}{f:Str}{pos pos' Jl:Pos}{ta tv:TE}
theorem oM(he:PE X e ta)(hb:attributeBase e f X.env (eval e X.env)=eval e X.env):PE X (.Attribute e f pos) (Jj X.K ta f):=by
  intro pins s σ H Q I h;refine TN hb (bK (he pins s σ H _ I h) fun u s1 aQ=>?_);obtain⟨x,H1,I1,rx,a,C,dx,fs,v,ex,ea,c,n,l,q⟩:=aQ;subst ex;obtain rfl:u=Value.ref a:=rx;exact TL I1 ea c n l fun u' s2 I2 ru=>⟨v,H1,I2,ru,q⟩
theorem Gk(ha:PE X o ta)(hv:PE X value tv)(hs:swapsWith value (some (.Attribute o f pos')) pos.line X.env=pure false):PS X (.Assign [.Attribute o f pos'] value pos) (Jk X.K ta tv f):=by
  intro pins s σ H D I h;refine plainObj_wpAny_Assign_Attribute (bK (hv pins s σ H _ I h) fun u s1 ⟨y,H1,I1,ry,q⟩=>bK (ha pins s1 σ H1 _ I1 q) fun ov s2 aQ=>?_) hs;obtain⟨x,H2,I2,rx,a,C,dx,fs,ex,ea,c,n,l,q2⟩:=aQ;subst ex;obtain rfl:ov=Value.ref a:=rx;exact TM I2 ea c n l ry fun s3 I3=>⟨σ,_,I3,q2⟩
theorem zw7{pl:Sem Bool}{m:Str}{apos:Pos}{args:List Expr}{pins:aD}{s:au}{σ:St}{H:Hp}{Q:az}{te:TE}(he:PE X e te)(I:Inv X pins σ H s)
    (h:te σ H fun x H1=>∃a C dx fs g,x = .ref a/\H1 a=some (.ins C dx fs)/\tD X.K C/\Meth X.K C m g/\fs.lookup m=none/\
      ∀s1,Inv X pins σ H1 s1->wpAny (model X.prog X.w) X.A (callWith pos (.ref g) [.ref a] (backTo pos (starEach args X.env)) (backToKw pos (keywordEach [] X.env))) Q X.xe s1)
    (ht:eval (.Call (.Attribute e m apos) args [] pos) X.env=(do
      let ov ←eval e X.env
      standAt apos.atName
      let (f,first) ←holding [ov] (getMethod ov m pl)
      callWith pos f first (backTo pos (starEach args X.env)) (backToKw pos (keywordEach [] X.env)))) :
    wpAny (model X.prog X.w) X.A (eval (.Call (.Attribute e m apos) args [] pos) X.env) Q X.xe s:=by
  refine PySem.W.methodCall_KW (pl:=pl) (bK (he pins s σ H _ I h) fun u s1 aQ=>?_) ht;obtain⟨x,H1,I1,rx,a,C,dx,fs,g,ex,ea,c,k,l,q⟩:=aQ;subst ex;obtain rfl:u=Value.ref a:=rx;exact Ji I1 ea c k l (q s1 I1)
end
structure cD(k:Nat)(A:Around):Prop where
  hd:A.handled=none
  dp:A.depth+3 * k+5<recursionLimit
  un:A.units+16 * k+200<cLine
theorem cD.mono{j k:Nat}{A:Around}(r:cD k A)(h:j<=k):cD j A:=⟨r.hd,by have:=r.dp;lia,by have:=r.un;lia⟩
theorem cD.deeper{k:Nat}{A:Around}(r:cD (k+1) A)(env:Env):cD k (A.deeper env):=
  ⟨r.hd,by have:=r.dp;show A.depth+1+3 * k+5<_;lia,by have:=r.un;show A.units+3+16 * k+200<_;lia⟩
theorem TQ{A:Around}{C:ah}{us:List ai}{kw:List (Str×ai)}:(A.under (.builtin "type.__call__" ⟨.ref C::us,kw⟩)).depth=A.depth+1:=by
  first | rfl | simp[Around.under,Code.weight,Code.isCreation,Code.isGuard,Code.isCaller,Code.frames,Code.isFrame,guardIds]
theorem TR{A:Around}{C:ah}{us:List ai}{kw:List (Str×ai)}:(A.under (.builtin "type.__call__" ⟨.ref C::us,kw⟩)).units=A.units+1:=by
  first | rfl | simp[Around.under,Code.cUnits,Code.frames,Code.isFrame]
theorem cD.make{k:Nat}{A:Around}(r:cD (k+1) A)(C:ah)(us:List ai)(kw:List (Str×ai)):cD k (A.under (.builtin "type.__call__" ⟨.ref C::us,kw⟩)):=
  ⟨r.hd,by have:=r.dp;rw[TQ];lia,by have:=r.un;rw[TR];lia⟩
theorem cD.depth{k:Nat}{A:Around}(r:cD k A):A.depth<recursionLimit:=by have:=r.dp;lia
theorem cD.units{k:Nat}{A:Around}(r:cD k A):A.units+64<cLine:=by have:=r.un;lia
def xK:TA:=fun _ H Q=>Q [] H
def MV(ta:TE)(tr:TA):TA:=fun σ H Q=>ta σ H fun x H1=>tr σ H1 fun xs H2=>Q (x::xs) H2
section
variable{X:Cx}{e:Expr}{es:List Expr}{te:TE}{t:TA}{pos:Pos}
theorem zd:PA X [] xK:=fun _ _ _ _ H Q I h=>Calls.spliced_nil ⟨[],H,I,.nil,h⟩
theorem za(ha:PE X e te)(hr:PA X es t)(hs:starEach (e::es) X.env=(false,eval e X.env)::starEach es X.env:=by rfl):PA X (e::es) (MV te t):=by
  intro pos pins s σ H Q I h;rw[hs];show wpAny _ _ (spliced ((false,eval e X.env)::backTo pos (starEach es X.env))) _ _ s;refine Calls.spliced_cons (bK (ha pins s σ H _ I h) fun u s1 aQ=>?_);obtain⟨x,H1,I1,r1,q1⟩:=aQ;exact bK (hr pos pins s1 σ H1 _ I1 q1) fun us s2 ⟨xs,H2,I2,r2,q2⟩=>⟨x::xs,H2,I2,.cons r1 r2,q2⟩
def Jm(t:TA):TE:=fun σ H Q=>t σ H fun xs H1=>xs.length<=sizeLine/\∀p,H1 p=none->Q (.ref p) (upd H1 p (.tup xs))
def Jo(t:TA):TE:=fun σ H Q=>t σ H fun xs H1=>xs.length<=sizeLine/\∀p,H1 p=none->Q (.ref p) (upd H1 p (.lst xs))
theorem ko{x1}(h:PA X es t):PE X (.Tuple es x1 pos) (Jm t):=by
  intro pins s σ H Q I hq;refine wpAny_Tuple_spliced (bK (h pos pins s σ H _ I hq) fun us s1 ⟨xs,H1,I1,r,z,q⟩=>⟨by rw[←r.length];exact z,?_⟩);have hf:H1 s1.heap.objs.size=none:=I1.aZ.fresh (aG _);refine⟨.ref s1.heap.objs.size,upd H1 s1.heap.objs.size (.tup xs),I1.laid (t':=s1.toks) (fun b u e=>aY _ e) (aG _) ?_,rfl,q _ hf⟩;exact⟨z,us,r,⟨_,bF _ rfl,rfl,_,rfl⟩⟩
theorem gZ(h:PA X es t):PE X (.List es pos) (Jo t):=by
  intro pins s σ H Q I hq;refine wpAny_List_spliced (bK (h pos pins s σ H _ I hq) fun us s1 ⟨xs,H1,I1,r,z,q⟩=>⟨by rw[←r.length];exact z,?_⟩);have hf:H1 s1.heap.objs.size=none:=I1.aZ.fresh (aG _);refine⟨.ref s1.heap.objs.size,upd H1 s1.heap.objs.size (.lst xs),I1.laid (t':=s1.toks) (fun b u e=>aY _ e) (aG _) ?_,rfl,q _ hf⟩;exact⟨z,us,0,r,bF _ rfl⟩
end
abbrev Sp:=List V->Hp->VK->XK->Prop
abbrev qG:=List Env->Hp->au->XK->az
structure rm(P:aU)(w:World)(K:aF)(mg:Str->Option ai)(base:Heap)(A:Around)(outer:List Env)(s:au)(H:Hp):Prop where
  frames:A.frames=some outer
  mod:Mod K mg base
  bs:∀b o,base.get? b=some o->s.heap.get? b=some o/\H b=none
  sX:base.objs.size<=s.heap.objs.size
  kh:s.heap.FunFrames base outer
  xC:∀b∈jh outer,H b=none
  aZ:jF P w H s.heap
  bare:AllBare s.gens
def CE(outer:List Env)(P:aU)(w:World)(H:Hp)(s:au)(Q:VK)(u:ai)(s':au):Prop:=
  ∃v H',s'.os=s.os/\AllBare s'.gens/\Un (jh outer) [] H H' s.heap s'.heap/\jF P w H' s'.heap/\RelV v u/\Q v H'
def CR(CX:qG)(outer:List Env)(P:aU)(w:World)(H:Hp)(s:au)(Q:VK)(E:XK)(r:Result)(s':au):Prop:=
  match r with
  | .ok (.ret u)=>CE outer P w H s Q u s'
  | .ok _=>False
  | .error e=>CX outer H s E e s'
structure jq(P:aU)(w:World)(K:aF)(mg:Str->Option ai)(base:Heap)(CX:qG)(k:Nat)(f:ah)(fd:FuncData)(ps:List Str)(sp:Sp):Prop where
  len:∀vs H Q E,sp vs H Q E->vs.length=ps.length
  run:∀(A:Around)(outer:List Env)(s:au)(H:Hp)(args:Args)(us:List ai)(vs:List V)(Q:VK)(E:XK),cD k A->rm P w K mg base A outer s H->BindsTo s fd args (ps.zip us)->Vals vs us->sp vs H Q E->
    codeAny (model P w) A (.call (.ref f) args) (CR CX outer P w H s Q E) s
theorem rm.make{P:aU}{w:World}{K:aF}{mg:Str->Option ai}{base:Heap}{A:Around}{outer:List Env}{s:au}{H:Hp}(e:rm P w K mg base A outer s H)(C:ah)(us:List ai)(kw:List (Str×ai)) :
    rm P w K mg base (A.under (.builtin "type.__call__" ⟨.ref C::us,kw⟩)) outer s H:=⟨by first | exact e.frames | (simpa[Around.under,Code.envs,Code.isFrame,pushEnvs] using e.frames),e.mod,e.bs,e.sX,e.kh,e.xC,e.aZ,e.bare⟩
section
variable{X:Cx}{pins:aD}{σ:St}{H:Hp}{s s':au}
theorem Inv.xM(I:Inv X pins σ H s):rm X.prog X.w X.K X.mg X.base X.A X.stack s H:=
  ⟨I.ok.frames,I.ok.mod,I.bs,bH I.ok.sX I.sz,I.stack,I.ki,I.aZ,I.bare⟩
theorem Inv.after{Q:VK}{u:ai}(I:Inv X pins σ H s)(h:CE X.stack X.prog X.w H s Q u s'):EP X pins σ Q u s':=by
  obtain⟨v,H',os,bare,un,aZ,r,q⟩:=h;obtain⟨hh,g,d,t,wR⟩:=s';obtain rfl:wR=s.os:=os;exact⟨v,H',I.call (h':=hh) (g':=g) (d':=d) (t':=t) (ch:=[]) un aZ bare (fun b z=>absurd z (by simp)),r,q⟩
end
def Gm(sp:Sp)(kq:List V)(E:XK)(t:TA):TE:=fun σ H Q=>t σ H fun vs H1=>sp (vs++kq) H1 Q E
def Gn(C:ah)(m:Str)(sp:Sp)(kq:List V)(E:XK)(ta:TE)(t:TA):TE:=fun σ H Q=>ta σ H fun x H1=>∃a dx fs,x = .ref a/\H1 a=some (.ins C dx fs)/\fs.lookup m=none/\
  t σ H1 fun vs H2=>sp (x::(vs++kq)) H2 Q E
def MW(C:ah)(sp:Sp)(kq:List V)(E:XK)(t:TA):TE:=fun σ H Q=>t σ H fun vs H1=>∀x dx,H1 x=none->H1 dx=none->dx≠x->
  sp (.ref x::(vs++kq)) (upd (upd H1 dx (.own x)) x (.ins C dx [])) (fun v H2=>v = .cu/\Q (.ref x) H2) E
def Binds(K:aF)(fd:FuncData)(ps:List Str)(ds:List ai):Prop:=
  ∀(s:au)(us:List ai),K.In s.heap->(us++ds).length=ps.length->BindsTo s fd ⟨us,[]⟩ (ps.zip (us++ds))
theorem Binds.all{K:aF}{fd:FuncData}{ps:List Str}(h:∀us:List ai,us.length=ps.length->bindArgs fd ⟨us,[]⟩=pure (ps.zip us)):Binds K fd ps []:=fun s us _ hl=>by
  rw[fL] at hl ⊢;exact .of_eq (h us hl)
def xN(CX:qG)(X:Cx)(E:XK):Prop:=∀(pins:aD)(σ:St)(H:Hp)(s:au)(e:ai)(s':au),Inv X pins σ H s->CX X.stack H s E e s'->X.xe e s'
section
variable{X:Cx}{CX:qG}{k:Nat}{f C:ah}{fd:FuncData}{ps:List Str}{sp:Sp}{kq:List V}{ds:List ai}{E:XK}{x m:Str}{p pos apos:Pos}{e o:Expr}{es:List Expr}{ta:TE}{t:TA}
theorem Jp{pins:aD}{σ:St}{H:Hp}{s:au}{Q:VK}{us:List ai}{vs:List V}(F:jq X.prog X.w X.K X.mg X.base CX k f fd ps sp)(hr:cD k X.A)(hb:Binds X.K fd ps ds)(hd:Vals kq ds)(hx:xN CX X E)
    (I:Inv X pins σ H s) (r:Vals vs us) (h:sp (vs++kq) H Q E):wpAny (model X.prog X.w) X.A (call (.ref f) us) (EP X pins σ Q) X.xe s:=by
  have r2:Vals (vs++kq) (us++ds):=r.append hd;have hl:(us++ds).length=ps.length:=by rw[←r2.length];exact F.len _ _ _ _ h
  refine gw (ia (F.run X.A X.stack s H ⟨us,[]⟩ (us++ds) (vs++kq) Q E hr I.xM (hb s us I.lY hl) r2 h) fun r s' hq=>?_);cases r with
  | error e=>exact hx pins σ H s e s' I hq
  | ok fl=>
    cases fl with
    | ret u=>exact I.after hq
    | next=>exact False.elim hq
    | brk=>exact False.elim hq
    | cont=>exact False.elim hq
theorem MX(F:jq X.prog X.w X.K X.mg X.base CX k f fd ps sp)(hr:cD k X.A)(hg:Gl X x)(hm:X.mg x=some (.ref f))(hk:PySem.W.keepIn X.K (.ref f)=true)(hb:Binds X.K fd ps ds)(hd:Vals kq ds)(hx:xN CX X E)
    (ha:PA X (e::es) t) (jT:(x == ("__debug__" : Str))=false:=by decide) (he:starEach (e::es) X.env=(false,eval e X.env)::starEach es X.env:=by rfl) (iP:(backTo pos (starEach es X.env)).any (·.1)=false:=by rfl) :
    PE X (.Call (.Name x p) (e::es) [] pos) (Gm sp kq E t):=by
  intro pins s σ H Q I h;refine kY (BN I hg hm ?_ jT);refine PySem.W.callWith_K (h₀:=X.base) I.ok.mod.BJ hk (bK (ha pos pins s σ H _ I h) fun us s1 ⟨vs,H1,I1,r,q⟩=>⟨I1.lY,?_⟩) he iP;exact Jp F hr hb hd hx I1 r q
theorem TU{pl:Sem Bool}(he:PE X o ta)(c:tD X.K C)(hm:Meth X.K C m f)(F:jq X.prog X.w X.K X.mg X.base CX k f fd ps sp)(hr:cD k X.A)(hb:Binds X.K fd ps ds)(hd:Vals kq ds)(hx:xN CX X E)(ha:PA X (e::es) t)
    (qk:starEach (e::es) X.env=(false,eval e X.env)::starEach es X.env:=by rfl) (iP:(backTo pos (starEach es X.env)).any (·.1)=false:=by rfl)
    (ht:eval (.Call (.Attribute o m apos) (e::es) [] pos) X.env=(do
      let ov ←eval o X.env
      standAt apos.atName
      let (f,first) ←holding [ov] (getMethod ov m pl)
      callWith pos f first (backTo pos (starEach (e::es) X.env)) (backToKw pos (keywordEach [] X.env))):=by rfl) :
    PE X (.Call (.Attribute o m apos) (e::es) [] pos) (Gn C m sp kq E ta t):=by
  intro pins s σ H Q I h;refine PySem.W.methodCall_KW (pl:=pl) (bK (he pins s σ H _ I h) fun u s1 aQ=>?_) ht;obtain⟨x,H1,I1,rx,a,dx,fs,ex,ea,l,q⟩:=aQ;subst ex;obtain rfl:u=Value.ref a:=rx;refine Ji I1 ea c hm l ?_;refine PySem.W.callWith_K (first:=[.ref a]) (h₀:=X.base) I.ok.mod.BJ hm.kp (bK (ha pos pins s1 σ H1 _ I1 q) fun us s2 ⟨vs,H2,I2,r,q2⟩=>⟨I2.lY,?_⟩) qk iP;exact Jp (us:=.ref a::us) (vs:=.ref a::vs) F hr hb hd hx I2 (.cons rfl r) q2
theorem TV{pl:Sem Bool}(he:PE X o ta)(c:tD X.K C)(hm:Meth X.K C m f)(F:jq X.prog X.w X.K X.mg X.base CX k f fd ps sp)(hr:cD k X.A)(hb:Binds X.K fd ps ds)(hd:Vals kq ds)(hx:xN CX X E)
    (ht:eval (.Call (.Attribute o m apos) [] [] pos) X.env=(do
      let ov ←eval o X.env
      standAt apos.atName
      let (f,first) ←holding [ov] (getMethod ov m pl)
      callWith pos f first (backTo pos (starEach [] X.env)) (backToKw pos (keywordEach [] X.env))):=by rfl) :
    PE X (.Call (.Attribute o m apos) [] [] pos) (Gn C m sp kq E ta xK):=by
  intro pins s σ H Q I h;refine PySem.W.methodCall_KW (pl:=pl) (bK (he pins s σ H _ I h) fun u s1 aQ=>?_) ht;obtain⟨x,H1,I1,rx,a,dx,fs,ex,ea,l,q⟩:=aQ;subst ex;obtain rfl:u=Value.ref a:=rx;refine Ji I1 ea c hm l ?_;exact PySem.W.callWith_K0 (first:=[.ref a]) I1.lY hm.kp (Jp (us:=[.ref a]) (vs:=[.ref a]) F hr hb hd hx I1 (.cons rfl .nil) q)
structure Mk(K:aF)(C f:ah):Prop where
  makes:PySem.W.makesIn K C=true
  init:PySem.W.findIn K (.ref C) "__init__" = some (some (.ref f))
  fn:PySem.W.isFn K (.ref f)=true
  kp:PySem.W.keepIn K (.ref C)=true
theorem TX{pins:aD}{σ:St}{H:Hp}{s:au}{Q:VK}{us:List ai}{vs:List V}(M:Mk X.K C f)(F:jq X.prog X.w X.K X.mg X.base CX k f fd ps sp)(hr:cD (k+1) X.A)(hb:Binds X.K fd ps ds)(hd:Vals kq ds)
    (hx:xN CX X E) (I:Inv X pins σ H s) (r:Vals vs us)
    (h:∀x dx,H x=none->H dx=none->dx≠x->sp (.ref x::(vs++kq)) (upd (upd H dx (.own x)) x (.ins C dx [])) (fun v H2=>v = .cu/\Q (.ref x) H2) E) :
    wpAny (model X.prog X.w) X.A (call (.ref C) us) (EP X pins σ Q) X.xe s:=by
  have hq:=h (s.heap.objs.size+1) s.heap.objs.size (I.aZ.fresh (eV _)) (I.aZ.fresh (aG _)) (aX (iY _));have I2:=Inv.made (C:=C) I;have r2:Vals (V.ref (s.heap.objs.size+1)::(vs++kq)) (Value.ref (s.heap.objs.size+1)::(us++ds)):=.cons rfl (r.append hd);have hl:(Value.ref (s.heap.objs.size+1)::us++ds).length=ps.length:=by
    have e:=r2.length;rw[F.len _ _ _ _ hq] at e;exact e.symm
  refine gw (TF (f:=f) I.lY M.makes M.init (gx.mp M.fn) (ia (F.run _ X.stack _ _ ⟨Value.ref (s.heap.objs.size+1)::us,[]⟩ (Value.ref (s.heap.objs.size+1)::(us++ds)) _ _ E (hr.make C us [])
    (I2.xM.make C us []) (hb _ (Value.ref (s.heap.objs.size+1)::us) I2.lY hl) r2 hq) fun r s' vg=>?_))
  cases r with
  | error e=>exact hx pins σ _ _ e s' I2 vg
  | ok fl=>
    cases fl with
    | ret u=>
      obtain⟨v,H',I3,rv,ev,q3⟩:=I2.after vg;subst ev;exact⟨rv,⟨V.ref (s.heap.objs.size+1),H',I3,rfl,q3⟩⟩
    | next=>exact False.elim vg
    | brk=>exact False.elim vg
    | cont=>exact False.elim vg
theorem TY(M:Mk X.K C f)(F:jq X.prog X.w X.K X.mg X.base CX k f fd ps sp)(hr:cD (k+1) X.A)(hg:Gl X x)(hm:X.mg x=some (.ref C))(hb:Binds X.K fd ps ds)(hd:Vals kq ds)(hx:xN CX X E)
    (ha:PA X (e::es) t) (jT:(x == ("__debug__" : Str))=false:=by decide) (he:starEach (e::es) X.env=(false,eval e X.env)::starEach es X.env:=by rfl) (iP:(backTo pos (starEach es X.env)).any (·.1)=false:=by rfl) :
    PE X (.Call (.Name x p) (e::es) [] pos) (MW C sp kq E t):=by
  intro pins s σ H Q I h;refine kY (BN I hg hm ?_ jT);refine PySem.W.callWith_K (h₀:=X.base) I.ok.mod.BJ M.kp (bK (ha pos pins s σ H _ I h) fun us s1 ⟨vs,H1,I1,r,q⟩=>⟨I1.lY,?_⟩) he iP;exact TX M F hr hb hd hx I1 r q
end
def PK(X:Cx)(Dk:List Keyword)(t:TA):Prop:=
  ∀(pos:Pos)(pins:aD)(s:au)(σ:St)(H:Hp)(Q:List V->Hp->Prop),Inv X pins σ H s->t σ H Q->wpAny (model X.prog X.w) X.A (evalAll ((backToKw pos (keywordEach Dk X.env)).map (·.2))) (AP X pins σ Q) X.xe s
section
variable{X:Cx}{CX:qG}{k:Nat}{f C:ah}{fd:FuncData}{ps ks:List Str}{sp:Sp}{E:XK}{x m:Str}{p pos apos kpos:Pos}{e o:Expr}{es:List Expr}{Dk:List Keyword}{te ta:TE}{t tk:TA}{nm:Option Str}
theorem TZ:PK X [] xK:=fun _ _ _ _ H Q I h=>wpAny_evalAll_nil ⟨[],H,I,.nil,h⟩
theorem T3(ha:PE X e te)(hr:PK X Dk t):PK X (⟨nm,e,kpos⟩::Dk) (MV te t):=by
  intro pos pins s σ H Q I h;show wpAny _ _ (evalAll ((do let v ←eval e X.env;standAt pos;pure v)::(backToKw pos (keywordEach Dk X.env)).map (·.2))) _ _ s;refine wpAny_evalAll_cons (aj (bK (ha pins s σ H _ I h) fun u s1 ⟨x,H1,I1,r1,q1⟩=>aj (i6 (ay ?_))));exact bK (hr pos pins s1 σ H1 _ I1 q1) fun us s2 ⟨xs,H2,I2,r2,q2⟩=>⟨x::xs,H2,I2,.cons r1 r2,q2⟩
variable{g:List ai->List ai->List ai}{gV:List V->List V->List V}
end
structure aC(N P:List Str)(sc:Scope):Prop where
  kind:sc.kind = .function
  co:sc.isCoroutine=false
  gen:sc.isGenerator=false
  nd:N.Nodup
  pre:N.take P.length=P
  par:∀x∈P,sc.names.lookup x=some .local\/sc.names.lookup x=some .cell
  Au:∀y∈sc.names,y.2≠.free
theorem MY{kindOf:Str->Option NameKind}{x:Str}:∀{binds:List (Str×ai)}{m:Str->Option ai},(∀v,(x,v) ∉ binds)->bindL kindOf binds m x=m x
  | [],_,_=>rfl
  | (n,v)::r,m,h=>by
    unfold bindL;rw[MY fun w hw=>h w (bE _ hw)];split
    · have:x≠n:=by rintro rfl;exact h v e8
      simp[this]
    · rfl
theorem MZ{kindOf:Str->Option NameKind}{x:Str}:∀{binds:List (Str×ai)}{m:Str->Option ai},(∀v,(x,v) ∉ binds)->bindC kindOf binds m x=m x
  | [],_,_=>rfl
  | (n,v)::r,m,h=>by
    unfold bindC;rw[MZ fun w hw=>h w (bE _ hw)];split
    · rfl
    · have:x≠n:=by rintro rfl;exact h v e8
      simp[this]
theorem M0{kindOf:Str->Option NameKind}{x:Str}{v:ai}:∀{P:List Str}{vs:List ai}{i:Nat}{m:Str->Option ai},P.Nodup->P[i]? = some x->vs[i]? = some v->kindOf x=some .local->
    bindL kindOf (P.zip vs) m x=some v
  | [],_,_,_,_,h,_,_=>by simp at h
  | _::_,[],_,_,_,_,h,_=>by simp at h
  | p::P,w::vs,0,m,nd,h1,h2,hk=>by
    simp at h1 h2;subst h1;subst h2;show bindL kindOf ((p,w)::P.zip vs) m p=_;unfold bindL;rw[MY fun v hv=>(fM.mp nd).1 (jD hv).1,av hk];simp
  | p::P,w::vs,i+1,m,nd,h1,h2,hk=>by
    show bindL kindOf ((p,w)::P.zip vs) m x=_;unfold bindL;exact M0 (i:=i) (fM.mp nd).2 (by simpa using h1) (by simpa using h2) hk
theorem M3{kindOf:Str->Option NameKind}{x:Str}{v:ai}:∀{P:List Str}{vs:List ai}{i:Nat}{m:Str->Option ai},P.Nodup->P[i]? = some x->vs[i]? = some v->kindOf x≠some .local->
    bindC kindOf (P.zip vs) m x=some v
  | [],_,_,_,_,h,_,_=>by simp at h
  | _::_,[],_,_,_,_,h,_=>by simp at h
  | p::P,w::vs,0,m,nd,h1,h2,hk=>by
    simp at h1 h2;subst h1;subst h2;show bindC kindOf ((p,w)::P.zip vs) m p=_;unfold bindC;rw[MZ fun v hv=>(fM.mp nd).1 (jD hv).1,ao hk];simp
  | p::P,w::vs,i+1,m,nd,h1,h2,hk=>by
    show bindC kindOf ((p,w)::P.zip vs) m x=_;unfold bindC;exact M3 (i:=i) (fM.mp nd).2 (by simpa using h1) (by simpa using h2) hk
def start(N:List Str)(vs:List V):St:=vs.map some++List.replicate (N.length-vs.length) none
def nI(CX:qG)(P:aU)(w:World)(K:aF)(mg:Str->Option ai)(base:Heap)(N:List Str)(qual:Str)(scope:Scope)(f:ah)(cd:ai)(A:Around)(outer:List Env)(s:au)(H:Hp)(E:XK):Cx where
  prog:=P
  w:=w
  K:=K
  mg:=mg
  base:=base
  A:=A.deeper (envOfC qual scope s.heap.objs.size f cd)
  N:=N
  cY:=s
  nE:=H
  env:=envOfC qual scope s.heap.objs.size f cd
  outer:=outer
  stack:=envOfC qual scope s.heap.objs.size f cd::outer
  ex:=[]
  calm:=true
  fn:=fun _=>true
  pn:=[]
  xe:=fun e s'=>wpAny (model P w) (A.deeper (envOfC qual scope s.heap.objs.size f cd)) (leaving (envOfC qual scope s.heap.objs.size f cd) e) (fun _ wU=>CX outer H s E e wU) (fun e' wU=>CX outer H s E e' wU) s'
theorem M4{sc:Scope}{n:Nat}{x:Str}(h:sc.names.lookup x=some .cell):∃c,(cellsFrom n sc.names []).lookup x=some c:=by
  have q:=PySem.W.cellsFrom_some sc.names n [] (.inl h);exact qR.mp q
theorem T4{CX:qG}{P:aU}{w:World}{K:aF}{mg:Str->Option ai}{base:Heap}{N ps:List Str}{qual:Str}{scope:Scope}{f:ah}{cd:ai}{A:Around}{outer:List Env}{s s1:au}{H:Hp}{E:XK}{us:List ai}{vs:List V}
    (S:aC N ps scope) (hd:A.handled=none) (e0:rm P w K mg base A outer s H) (hl:vs.length=ps.length) (r:Vals vs us)
    (x:InCallC s s.heap.objs.size (bindL (envOfC qual scope s.heap.objs.size f cd).kindOf (ps.zip us) fun _=>none) (cellsFrom (s.heap.objs.size+1) scope.names []) (bindC (envOfC qual scope s.heap.objs.size f cd).kindOf (ps.zip us) fun _=>none) s1) :
    Inv (nI CX P w K mg base N qual scope f cd A outer s H E) [] (start N vs) H s1:=by
  have iP:ps.length<=N.length:=by have:=bQ List.length S.pre;rw[bw] at this;lia
  obtain⟨h1,tk,rfl,hk⟩:=x.done;have Dl:∀b:ah,b ∉ (nI CX P w K mg base N qual scope f cd A outer s H E).ex:=fun b z=>absurd (show b∈([]:List ah) from z) (by simp)
  refine⟨⟨e0.mod,S.kind,rfl,rfl,aG _,fun y z c h1 h2=>?_,fun y hy=>?_,fun y c _ h=>?_,fun _=>hd,Around.frames_deeper e0.frames,.inr ⟨rfl,rfl⟩,fun b z=>absurd z (Dl b),e0.bs,e0.sX,fun b _ _=>Dl b,fun b z=>absurd z (Dl b),e0.kh,e0.xC⟩,
    rfl,e0.bare,Un.kept hk,⟨_,x.toInCall.ns,fun i y v h1 h2 h3=>?_⟩,fun y c h=>⟨_,x.cell y c h⟩,e0.aZ.fresh (aG _),fun y c h=>?_,fun p hp=>absurd (show p∈([]:aD) from hp) (by simp),e0.aZ.kept hk,?_⟩
  · exact name_of_addr x.apart (PySem.mem_of_lookup h1) (PySem.mem_of_lookup h2)
  · have hy:scope.names.lookup y=some .cell\/scope.names.lookup y=some .free:=hy;rcases hy with hy | hy
    · exact M4 hy
    · exact absurd rfl (S.Au _ (PySem.mem_of_lookup hy))
  · exact i7 (x.above y c (PySem.mem_of_lookup h))
  · have hi:i<vs.length:=by
      unfold start at h2
      by_cases hi:i<vs.length
      · exact hi
      · rw[mQ (by simpa using hi)] at h2;rw[List.getElem?_replicate] at h2;split at h2<;>cases h2
    have ha:vs[i]? = some v:=by
      unfold start at h2;rw[mR (by simpa using hi),aN] at h2;cases e:vs[i]? with
      | none=>rw[e] at h2;cases h2
      | some a=>rw[e] at h2;cases h2;rfl
    obtain⟨u,hu,rv⟩:=r.get ha;have hp:ps[i]? = some y:=by
      rw[←S.pre,List.getElem?_take_of_lt (by lia)];exact h1
    have M5:ps.Nodup:=by rw[←S.pre];exact S.nd.sublist (List.take_sublist _ _)
    refine⟨u,rv,?_⟩;rcases S.par y (bC hp) with k | k
    · exact .inl ⟨k,M0 M5 hp hu k⟩
    · obtain⟨c,e⟩:=M4 (n:=s.heap.objs.size+1) k;refine .inr ⟨.inl k,c,e,?_⟩;have q:=x.cell y c e;rw[M3 M5 hp hu (by show scope.names.lookup y≠_;rw[k];decide)] at q;exact q
  · exact e0.aZ.fresh (i7 (x.above y c (PySem.mem_of_lookup h)))
  · unfold start;show _=N.length;rw[cG,aq,List.length_replicate];lia
theorem M6{CX:qG}{P:aU}{w:World}{K:aF}{mg:Str->Option ai}{base:Heap}{k:Nat}{f:ah}{name qual:Str}{params:Arguments}{body:List Stmt}{scope:Scope}{dV kV doc pm bY ct oc:ai}{an od:Option ah}
    {l9:Array (Option ai)}{N ps:List Str}{sp:Sp}(lk:K.lookup f=some ⟨oc,od,.func (PySem.W.fnOf name qual params body scope dV kV doc pm an bY ct),l9⟩) (qh:PySem.W.codeIn K bY qual=true) (S:aC N ps scope)
    (len:∀vs H Q E,sp vs H Q E->vs.length=ps.length)
    (kr:∀(A:Around)(outer:List Env)(s:au)(H:Hp)(vs:List V)(Q:VK)(E:XK),cD k (A.deeper (envOfC qual scope s.heap.objs.size f bY))->sp vs H Q E->
      ∃t,pO (nI CX P w K mg base N qual scope f bY A outer s H E) body t/\t { nx:=fun _ H'=>Q .cu H',rt:=Q } (start N vs) H) :
    jq P w K mg base CX (k+1) f (PySem.W.fnOf name qual params body scope dV kV doc pm an bY ct) ps sp:=by
  refine⟨len,fun A outer s H args us vs Q E hr e0 hb r rq=>?_⟩;have hl:=len _ _ _ _ rq;have KX:K.In s.heap:=e0.mod.BJ.keeps fun b o e=>(e0.bs b o e).1
  have lim:s.heap.NoLimit:=e0.mod.nolimit.keeps fun b o e=>(e0.bs b o e).1
  have Dq:∀y∈ps.zip us,scope.names.lookup y.1=some .local\/(scope.names.lookup y.1=some .cell/\((cellsFrom (s.heap.objs.size+1) scope.names []).lookup y.1).isSome=true):=fun⟨n,v⟩ hy=>by
    rcases S.par n (jD hy).1 with q | q
    · exact .inl q
    · exact .inr ⟨q,PySem.W.cellsFrom_some _ _ _ (.inl q)⟩
  refine codeAny_call_function hr.depth (KX _ _ lk) rfl S.co S.gen rfl (PySem.W.codeRec_of KX qh) (hb _ _ _ _ ?_);refine wpAny_newFunctionEnv_cells S.kind Dq fun env he s1 x=>?_
  subst he;refine⟨lim.keeps x.toInCall.keep,codeAny_func ?_⟩;obtain⟨t,ht,hq⟩:=kr A outer s H vs Q E (hr.deeper _) rq;have I:Inv (nI CX P w K mg base N qual scope f bY A outer s H E) [] (start N vs) H s1:=T4 S hr.hd e0 hl r x;refine cA (ht [] s1 (start N vs) H _ I hq) (fun fl s' hs=>?_) fun e s' hs=>hs
  have fin:∀{aI:St}{H':Hp}{v:V}{u:ai},Inv (nI CX P w K mg base N qual scope f bY A outer s H E) [] aI H' s'->RelV v u->Q v H'->CE outer P w H s Q u s':=
    fun{aI H' v u}J rv q=>⟨v,H',J.os,J.bare,J.base,J.aZ,rv,q⟩
  cases fl with
  | ret u=>
    obtain⟨v,aI,H',J,rv,q⟩:=hs;exact fin J rv q
  | next=>
    obtain⟨aI,H',J,q⟩:=hs;exact fin (v:=V.cu) (u:=Value.none) J rfl q
  | brk=>
    obtain⟨_,_,_,q⟩:=hs;exact False.elim q
  | cont=>
    obtain⟨_,_,_,q⟩:=hs;exact False.elim q
section
variable{X:Cx}{x:Str}{p pos:Pos}{e:Expr}{es:List Expr}{t:TA}{id T:String}{r:List V->Hp->VK->Prop}
def M7(r:List V->Hp->VK->Prop)(t:TA):TE:=fun σ H Q=>t σ H fun vs H1=>r vs H1 Q
theorem ji(hc:om X (.builtin id) r)(hg:Gl X x)(hm:X.mg x=none)(hv:bootBuiltins x=some (.builtin id))(ha:PA X (e::es) t)(hn:x≠"__name__":=by decide)(jT:(x == ("__debug__" : Str))=false:=by decide)
    (he:starEach (e::es) X.env=(false,eval e X.env)::starEach es X.env:=by rfl) (iP:(backTo pos (starEach es X.env)).any (·.1)=false:=by rfl):PE X (.Call (.Name x p) (e::es) [] pos) (M7 r t):=by
  intro pins s σ H Q I h;refine kY (C2 I hg hm hv ?_ hn jT);exact PyProof.Rows.callWith_builtin1 (bK (ha pos pins s σ H _ I h) fun us s1 ⟨vs,H1,I1,r1,q1⟩=>hc pins s1 σ H1 vs us Q I1 r1 q1) he iP
theorem xO(hc:om X (.type T) r)(hg:Gl X x)(hm:X.mg x=none)(hv:bootBuiltins x=some (.type T))(ha:PA X (e::es) t)(hn:x≠"__name__":=by decide)(jT:(x == ("__debug__" : Str))=false:=by decide)
    (he:starEach (e::es) X.env=(false,eval e X.env)::starEach es X.env:=by rfl) (iP:(backTo pos (starEach es X.env)).any (·.1)=false:=by rfl):PE X (.Call (.Name x p) (e::es) [] pos) (M7 r t):=by
  intro pins s σ H Q I h;refine kY (C2 I hg hm hv ?_ hn jT);exact qQ (bK (ha pos pins s σ H _ I h) fun us s1 ⟨vs,H1,I1,r1,q1⟩=>hc pins s1 σ H1 vs us Q I1 r1 q1) he iP
end
end L2
namespace HT
open PySem PyProof.Rows
section
open PySem.SeqAt
open PySem.AutoSeq1 (wpAny_loadPart')
open PySem.MeetsSeq PySem.MeetsSeq2 PySem.MeetsSeq3
end
section
variable{prog:aU}{w:World}{A:Around}{E:az}{s:au}
theorem xP{t b:ah}{vs ws:List ai}{Q:az}(ht:IsTup s.heap t vs.toArray)(hb:IsTup s.heap b ws.toArray)(hv:vs≠[])
    (h1:ws = []->Q (.ref t) s) (h2:ws≠[]->Q (.ref s.heap.objs.size) { s with heap:=s.heap.push { cls:=.type "tuple",data:=.seq (vs++ws).toArray } })
    (hsz:vs.length+ws.length<=sizeLine):wpAny (model prog w) A (binaryOp .Add (.ref t) (.ref b)) Q E s:=by
  obtain⟨⟨cls,dd,data,sl⟩,ho,hc,n,hd⟩:=id ht;obtain⟨⟨Jq,Gp,data2,Gq⟩,Av,Dr,n2,hd2⟩:=id hb;simp only at hc hd Dr hd2;subst hc hd Dr hd2;have e:vs.toArray++ws.toArray=(vs++ws).toArray:=by simp
  by_cases hw:ws = []
  · exact concat_meets ⟨_,ho,rfl⟩ ⟨_,Av,rfl⟩ noFill_tuple_add seq_tuple_add PySem.F.slot_tuple_add PySem.F.entry_tuple_add (PySem.F.args_tuple_add_2 _ _)
      (tuple_addW1 t b vs.toArray ws.toArray n n2 dd Gp sl Gq (by simpa using hv) (by simp[hw])) ⟨ho,Av,h1 hw⟩
  · refine concat_meets ⟨_,ho,rfl⟩ ⟨_,Av,rfl⟩ noFill_tuple_add seq_tuple_add PySem.F.slot_tuple_add PySem.F.entry_tuple_add (PySem.F.args_tuple_add_2 _ _)
      (tuple_addW2 t b vs.toArray ws.toArray n n2 dd Gp sl Gq (by simpa using hv) (by simpa using hw) (by rw[br,br];exact hsz)) ⟨ho,Av,?_⟩
    rw[e];exact h2 hw
def dR(n d:Nat):Option Int->Nat
  | none=>d
  | some v=>if v<0 then(v+(n:Int)).toNat else min v.toNat n
theorem T5(n d:Nat)(hd:d<=n)(o:Option Int):dR n d o<=n:=by
  cases o with
  | none=>exact hd
  | some v=>
    show(if v<0 then(v+(n:Int)).toNat else min v.toNat n)<=n
    by_cases hv:v<0
    · rw[av hv];lia
    · rw[ao hv];exact Nat.min_le_right _ _
theorem M8(v:Int)(n d:Nat):(if v<0 then max (v+(n:Int)) 0 else min v (n:Int))=((dR n d (some v):Nat):Int):=by
  show(if v<0 then max (v+(n:Int)) 0 else min v (n:Int))=(((if v<0 then(v+(n:Int)).toNat else min v.toNat n):Nat):Int)
  by_cases hv:v<0
  · simp only[av hv];lia
  · simp only[ao hv];lia
theorem T6(lo hi:Option Int)(n:Nat):Builtin.Slice.sliceAdjust lo hi 1 (n:Int)=(((dR n 0 lo:Nat):Int),((dR n n hi:Nat):Int)):=by
  have h1:¬((1:Int)<0):=by lia
  unfold Builtin.Slice.sliceAdjust;simp only[h1,c8];refine Prod.ext ?_ ?_
  · cases lo with
    | none=>rfl
    | some v=>exact M8 v n 0
  · cases hi with
    | none=>rfl
    | some v=>exact M8 v n n
theorem T7(i j:Nat):Builtin.Slice.slicePlaces (i:Int) (j:Int) 1=j-i:=by
  unfold Builtin.Slice.slicePlaces;have h1:(1:Int) > 0:=by lia
  simp only[h1,if_true,Int.ediv_one];split<;>lia
theorem M9{v:ai}{o:Option Int}{Q:Option Int->au->Prop}(p:IsPart v o)(h:Q o s):wpAny (model prog w) A (Builtin.Slice.slicePartIndex v) Q E s:=by
  cases p with
  | none=>exact slicePart_none h
  | int i t=>exact slicePart_int h
theorem T8{sl:ah}{vl vu:ai}{lo hi:Option Int}{n:Nat}{Q:Int×Int×Nat->au->Prop}(hs:s.heap.IsSliceOf sl vl vu .none)(pl:IsPart vl lo)(pu:IsPart vu hi)
    (h:Q (((dR n 0 lo:Nat):Int),1,dR n n hi-dR n 0 lo) s):wpAny (model prog w) A (Builtin.Slice.sliceApplied (.ref sl) (pure (n:Int))) Q E s:=by
  obtain⟨os,Ds,Gr,Gs⟩:=id hs;unfold Builtin.Slice.sliceApplied Builtin.Slice.sliceFields;refine aj (aj (eU Ds Gs (x:=vl) rfl (aj (eU Ds Gs (x:=vu) rfl (aj (eU Ds Gs (x:=.none) rfl (ay ?_)))))));refine aj (slicePart_none ?_);show wpAny _ _ (if((1:Int) == 0)=true then _ else _) _ _ s;rw[ao (by decide)];refine aj (M9 pl (aj (M9 pu (aj (ay ?_)))));show wpAny _ _ (match Builtin.Slice.sliceAdjust lo hi 1 (n:Int) with | (lo,hi)=>pure (lo,(1:Int),Builtin.Slice.slicePlaces lo hi 1)) _ _ s;rw[T6 lo hi n];show wpAny _ _ (pure (((dR n 0 lo:Nat):Int),(1:Int),Builtin.Slice.slicePlaces ((dR n 0 lo:Nat):Int) ((dR n n hi:Nat):Int) 1)) _ _ s;rw[T7];exact ay h
theorem T9(xs:Array ai)(i k:Nat):((List.range k).filterMap fun(m:Nat)=>xs[((i:Int)+(m:Int) * 1).toNat]?).toArray=((xs.toList.drop i).take k).toArray:=by
  have e:(fun(m:Nat)=>xs[((i:Int)+(m:Int) * 1).toNat]?)=fun m=>xs[i+m]?:=by
    funext m;have:((i:Int)+(m:Int) * 1).toNat=i+m:=by lia
    rw[this]
  rw[e];have:=pick_run xs i k;rw[List.filterMap_map] at this;have e2:((fun x=>xs[x]?) ∘ fun x=>i+x)=fun m=>xs[i+m]?:=rfl
  rw[e2] at this;rw[this]
theorem ku{t sl:ah}{items:Array ai}{vl vu:ai}{lo hi:Option Int}{Q:az}(ht:IsTup s.heap t items)(hs:s.heap.IsSliceOf sl vl vu .none)(pl:IsPart vl lo)(pu:IsPart vu hi)
    (hw:¬(dR items.size 0 lo=0/\dR items.size items.size hi=items.size))
    (h:Q (.ref s.heap.objs.size) { s with heap:=s.heap.push { cls:=.type "tuple",data:=.seq ((items.toList.drop (dR items.size 0 lo)).take (dR items.size items.size hi-dR items.size 0 lo)).toArray } })
    (hsz:items.size<=sizeLine):wpAny (model prog w) A (getItem (.ref t) (.ref sl)) Q E s:=by
  have sy:sizeOk (.seq ((items.toList.drop (dR items.size 0 lo)).take (dR items.size items.size hi-dR items.size 0 lo)).toArray):=by
    show((items.toList.drop (dR items.size 0 lo)).take (dR items.size items.size hi-dR items.size 0 lo)).toArray.size<=sizeLine;rw[br,bw,pG,iR];lia
  have hj:dR items.size items.size hi<=items.size:=T5 _ _ (aG _) hi;obtain⟨os,Ds,Gr,Gs⟩:=id hs;have Ua:s.TypeIs (.ref sl) "slice":=⟨os,Ds,Gr⟩;unfold getItem
  try with_reducible refine dG ?_
  first | refine aj (ay ?_) | skip
  refine aj (wpAny_sequenceKey ht.typeIs (by decide) ?_);refine aj (mW (name:=Str.ofString "__getitem__") ht.typeIs qP
    (jA qP ht.typeIs entry_tuple_getitem ?_ (args_tuple_getitem _ _)))
  show wpAny _ _ (Builtin.Tuple.tupleItemsOf (.ref t) >>= _) _ _ s;refine aj (tupleItemsOf_ ht ?_);refine aj (lI Ua ?_);rw[av (by decide)];refine aj (T8 hs pl pu ?_);have BV:¬((((dR items.size 0 lo:Nat):Int) == 0&&(1:Int) == 1&&(dR items.size items.size hi-dR items.size 0 lo) == items.size)=true):=by
    intro q;rw[gb,gb] at q;have q1:((dR items.size 0 lo:Nat):Int)=0:=eq_of_beq q.1.1;have q2:dR items.size items.size hi-dR items.size 0 lo=items.size:=eq_of_beq q.2;exact hw ⟨by lia,by lia⟩
  show wpAny _ _ (if(((dR items.size 0 lo:Nat):Int) == 0&&(1:Int) == 1&&(dR items.size items.size hi-dR items.size 0 lo) == items.size)=true then _ else _) _ _ s;rw[ao BV,T9]
  first
    | exact aj (m:=Builtin.Tuple.tupleExact _) (eK (ay ⟨_,rfl,ay h⟩) sy)
    | exact aj (m:=Builtin.Tuple.tupleExact _) (eK (aj (ay (ay ⟨_,rfl,ay h⟩))) sy)
    | exact aj (aj (m:=Builtin.Tuple.tupleExact _) (eK (ay (ay ⟨_,rfl,ay h⟩)) sy))
    | exact aj (aj (m:=Builtin.Tuple.tupleExact _) (eK (ay ⟨_,rfl,ay h⟩) sy))
end
end HT
namespace L2
open PySem PySem.Spec PyProof.Rows
abbrev TO:=St->Hp->(Option Int->Hp->Prop)->Prop
def PO(X:Cx)(e:Option Expr)(t:TO):Prop:=
  ∀(pins:aD)(s:au)(σ:St)(H:Hp)(Q:Option Int->Hp->Prop),Inv X pins σ H s->t σ H Q->
    wpAny (model X.prog X.w) X.A (evalPart e X.env) (fun u s'=>∃o H',Inv X pins σ H' s'/\IsPart u o/\Q o H') X.xe s
def Ub:TO:=fun _ H Q=>Q none H
def Uc(t:TE):TO:=fun σ H Q=>t σ H fun x H1=>∃i,x = .int i/\Q (some i) H1
section
variable{X:Cx}{e:Expr}{te:TE}{lo hi:Option Expr}{tl th:TO}{pos p2:Pos}
theorem Na:PO X none Ub:=by
  intro pins s σ H Q I h;rw[evalPart_none];exact ay ⟨none,H,I,.none,h⟩
theorem BW(h:PE X e te):PO X (some e) (Uc te):=by
  intro pins s σ H Q I hw;rw[evalPart_some];refine bK (h pins s σ H _ I hw) fun u s1 aQ=>?_
  obtain⟨x,H1,I1,r1,q1⟩:=aQ;obtain⟨i,rfl,q⟩:=q1;obtain⟨t,rfl⟩:=r1;exact⟨some i,H1,I1,.int i t,q⟩
def BX(X:Cx)(r:V->Option Int->Option Int->Hp->VK->Prop):Prop:=
  ∀(pins:aD)(s:au)(σ:St)(H:Hp)(x:V)(v vl vu:ai)(lo hi:Option Int)(sl:ah)(Q:VK),Inv X pins σ H s->RelV x v->s.heap.IsSliceOf sl vl vu .none->IsPart vl lo->IsPart vu hi->r x lo hi H Q->
    ∃T id,typeLookup (.type T) "__getitem__" = pure (some (.builtin id))/\s.TypeIs v T/\wpAny (model X.prog X.w) X.A (getItem v (.ref sl)) (EP X pins σ Q) X.xe s
def Ud(r:V->Option Int->Option Int->Hp->VK->Prop)(te:TE)(tl th:TO):TE:=fun σ H Q=>te σ H fun x H1=>tl σ H1 fun l H2=>th σ H2 fun u H3=>r x l u H3 Q
theorem Gu{r:V->Option Int->Option Int->Hp->VK->Prop}(hr:BX X r)(he:PE X e te)(hl:PO X lo tl)(hu:PO X hi th):PE X (.Subscript e (.Slice lo hi none p2) pos) (Ud r te tl th):=by
  intro pins s σ H Q I h;refine Subscript_ (bK (he pins s σ H _ I h) fun v s1 aQ=>?_);obtain⟨x,H1,I1,r1,q1⟩:=aQ;refine wpAny_Slice (bK (hl pins s1 σ H1 _ I1 q1) fun vl s2 ⟨l,H2,I2,pl,q2⟩=>bK (hu pins s2 σ H2 _ I2 q2) fun vu s3 aQ=>?_);obtain⟨u,H3,I3,pu,q3⟩:=aQ;rw[evalPart_none];refine ay ?_;have I4:Inv X pins σ H3 { s3 with heap:=s3.heap.push { cls:=.type "slice",data:=.fields #[vl,vu,.none] } }:=I3.kept (t':=s3.toks) fun b ob q=>aY _ q
  obtain⟨T,id,hT,ht,hg⟩:=hr pins { s3 with heap:=s3.heap.push { cls:=.type "slice",data:=.fields #[vl,vu,.none] } } σ H3 x v vl vu l u s3.heap.objs.size Q I4 r1 (Heap.IsSliceOf.new ..) pl pu q3;show wpAny (model X.prog X.w) X.A (subscriptTail e (.Slice lo hi none p2) v (.ref s3.heap.objs.size)) (EP X pins σ Q) X.xe { s3 with heap:=s3.heap.push { cls:=.type "slice",data:=.fields #[vl,vu,.none] } };exact tail_any (ops:=[.ref s3.heap.objs.size,v]) ht hT hg (by with_unfolding_all rfl)
def nJ(xs:List V)(lo hi:Option Int):List V:=(xs.drop (HT.dR xs.length 0 lo)).take (HT.dR xs.length xs.length hi-HT.dR xs.length 0 lo)
theorem Nc(xs:List V)(lo hi:Option Int):(nJ xs lo hi).length<=xs.length:=by
  unfold nJ;rw[bw,pG];lia
def Dt(K:aF):V->Option Int->Option Int->Hp->VK->Prop:=fun x lo hi H Q=>∃a xs,x = .ref a/\bx K H a xs/\
  ¬(HT.dR xs.length 0 lo=0/\HT.dR xs.length xs.length hi=xs.length)/\∀p,H p=none->Q (.ref p) (upd H p (.tup (nJ xs lo hi)))
theorem Ue:BX X (Dt X.K):=by
  intro pins s σ H x v vl vu lo hi sl Q I rx hs pl pu h;obtain⟨a,xs,rfl,hx,hw,q⟩:=h;cases rx;obtain⟨its,r,ht,hz⟩:=I.tuple hx;have hlen:its.toArray.size=xs.length:=by rw[br];exact r.length.symm
  refine⟨"tuple",_,qP.lookup,ht.typeIs,?_⟩;refine HT.ku ht hs pl pu (by rw[hlen];exact hw) ?_ (by rw[hlen];exact hz);rw[hlen];refine⟨.ref s.heap.objs.size,_,I.laid (t':=s.toks) (o:=.tup (nJ xs lo hi)) (fun b ob q=>aY _ q) (aG _) ?_,rfl,q _ (I.aZ.fresh (aG _))⟩;exact⟨bH (Nc xs lo hi) hz,_,(r.drop (HT.dR xs.length 0 lo)).take (HT.dR xs.length xs.length hi-HT.dR xs.length 0 lo),IsTup.new _ _⟩
def Nd(K:aF):R2:=fun x y H Q=>∃a b xs ys,x = .ref a/\y = .ref b/\bx K H a xs/\bx K H b ys/\xs≠[]/\xs.length+ys.length<=sizeLine/\
  (ys = []->Q (.ref a) H)/\(ys≠[]->∀p,H p=none->Q (.ref p) (upd H p (.tup (xs++ys))))
theorem Vals.ir{xs:List V}{us:List ai}(r:Vals xs us):us = []↔xs = []:=by
  cases r with
  | nil=>simp
  | cons _ _=>simp
theorem Ug:jo X (binaryOp .Add) (Nd X.K):=by
  intro pins s σ H x y v u Q I rx ry h;obtain⟨a,b,xs,ys,rfl,rfl,ha,hb,hx,hz,q1,q2⟩:=h;cases rx;cases ry;obtain⟨its,r1,p1,_⟩:=I.tuple ha;obtain⟨dQ,r2,p2,_⟩:=I.tuple hb;refine HT.xP p1 p2 (fun z=>hx (r1.ir.mp z)) (fun z=>⟨.ref a,H,I,rfl,q1 (r2.ir.mp z)⟩) (fun z=>?_) (by rw[←r1.length,←r2.length];exact hz);refine⟨.ref s.heap.objs.size,_,I.laid (t':=s.toks) (o:=.tup (xs++ys)) (fun b ob q=>aY _ q) (aG _) ?_,rfl,q2 (fun w=>z (r2.ir.mpr w)) _ (I.aZ.fresh (aG _))⟩;exact⟨by rw[cG];exact hz,_,r1.append r2,IsTup.new _ _⟩
end
def vh(n:Nat)(i:Int):Option Nat:=if 0<=i then(if i<n then some i.toNat else none) else if -(n:Int)<=i then some (i+n).toNat else none
def kB{α:Type}(xs:List α)(i:Int):Option α:=(vh xs.length i).bind fun j=>xs[j]?
theorem Jr{n:Nat}{i:Int}{j:Nat}(h:vh n i=some j):seqIndex? i n=some j/\j<n/\-(n:Int)<=i/\i<n:=by
  unfold vh at h
  by_cases h0:0<=i
  · rw[av h0] at h
    by_cases h1:i<n
    · rw[av h1] at h;have e:i.toNat=j:=bW h;exact⟨by rw[seqIndex_of h0 h1,e],by lia,by lia,h1⟩
    · rw[ao h1] at h;cases h
  · rw[ao h0] at h
    by_cases h1 : -(n:Int)<=i
    · rw[av h1] at h;have e:(i+n).toNat=j:=bW h;exact⟨by rw[seqIndex_neg (by lia) h1,e],by lia,h1,by lia⟩
    · rw[ao h1] at h;cases h
theorem Js{α:Type}{xs:List α}{i:Int}{v:α}(h:kB xs i=some v):∃j,seqIndex? i xs.length=some j/\xs[j]? = some v/\j<xs.length/\-(xs.length:Int)<=i/\i<xs.length:=by
  unfold kB at h;cases e:vh xs.length i with
  | none=>rw[e] at h;cases h
  | some j=>
    rw[e] at h;obtain⟨h1,h2,h3,h4⟩:=Jr e;exact⟨j,h1,h,h2,h3,h4⟩
theorem tE{α:Type}{xs:List α}{j:Nat}{v:α}(h:xs[j]? = some v):kB xs (j:Int)=some v:=by
  have hj:j<xs.length:=(bI.mp h).1;have e:vh xs.length (j:Int)=some j:=by
    unfold vh;rw[av (by lia),av (by lia)];simp
  unfold kB;rw[e];exact h
theorem Uh{α:Type}(xs:List α)(v:α):kB (xs++[v]) (-1)=some v:=by
  have hl:(xs++[v]).length=xs.length+1:=by simp
  have e:vh (xs++[v]).length (-1)=some xs.length:=by
    unfold vh;rw[hl,ao (by decide),av (by lia)]
    congr 1
    lia
  unfold kB;rw[e];show(xs++[v])[xs.length]? = some v;simp
def Nf(b:Expr):Prop:=∀o i,subscripted b false o i=operate [o,i] (getItem o i)
def Aw(X:Cx)(r:R2):Prop:=
  ∀(value slice:Expr)(pins:aD)(s:au)(σ:St)(H:Hp)(x y:V)(v u:ai)(Q:VK),Inv X pins σ H s->RelV x v->RelV y u->r x y H Q->
    subscripted slice false v u=operate [v,u] (getItem v u)->wpAny (model X.prog X.w) X.A (subscriptTail value slice v u) (EP X pins σ Q) X.xe s
def Du(X:Cx)(id:String)(r:V->List V->Hp->VK->Prop):Prop:=
  ∀(pins:aD)(s:au)(σ:St)(H:Hp)(x:V)(xs:List V)(v:ai)(us:List ai)(Q:VK),Inv X pins σ H s->RelV x v->Vals xs us->r x xs H Q->
    wpAny (model X.prog X.w) X.A (call (.builtin id) (v::us)) (EP X pins σ Q) X.xe s
section
variable{X:Cx}{a b:Expr}{ta tb:TE}{pos:Pos}
theorem Ui{r:R2}(hr:Aw X r)(ha:PE X a ta)(hb:PE X b tb)(hs:Nf b):PE X (.Subscript a b pos) (C8 r ta tb):=by
  intro pins s σ H Q I h;exact Subscript_ (An ha hb I h fun v u s2 x y H2 I2 rx ry q=>hr a b pins s2 σ H2 x y v u Q I2 rx ry q (hs _ _))
inductive Dv(K:aF)(x y:V)(H:Hp)(Q:VK):Prop
  | mk (p:ah) (xs:List V) (i:Int) (v:V) (_:x = .ref p) (_:y = .int i) (_:aH K H p xs) (_:kB xs i=some v) (_:Q v H)
def Dw(K:aF):R2:=fun x y H Q=>Dv K x y H Q
inductive Dy(K:aF)(x y:V)(H:Hp)(Q:VK):Prop
  | mk (p:ah) (xs:List V) (i:Int) (v:V) (_:x = .ref p) (_:y = .int i) (_:bx K H p xs) (_:kB xs i=some v) (_:Q v H)
def Dz(K:aF):R2:=fun x y H Q=>Dy K x y H Q
def Jt:R2:=fun x y H Q=>∃z i c,x = .str z/\y = .int i/\z.length<=sizeLine/\kB z.cps.toList i=some c/\Q (.str ⟨#[c]⟩) H
theorem Uj:Aw X (Dw X.K):=by
  intro value slice pins s σ H x y v u Q I rx ry h hs;obtain⟨p,xs,i,z,rfl,rfl,hq,he,q⟩:=h;cases rx;obtain⟨t,rfl⟩:=ry;obtain⟨its,r,pl,hz⟩:=I.list hq;obtain⟨j,h1,h2,h3,h4,h5⟩:=Js he;obtain⟨w,ew,iO⟩:=r.get h2;have hl:=r.length;have hn:=Dh;have fin:EP X pins σ Q w s:=⟨z,H,I,iO,q⟩
  by_cases h0:0<=i
  · have hj:i.toNat=j:=by
      rw[seqIndex_of h0 h5] at h1;exact bW h1
    exact item_listR pl.isList h0 (by lia) (by rw[hj];simpa using ew) fin hs
  · have hj:(i+(its.toArray.size:Int)).toNat=j:=by
      rw[seqIndex_neg (by lia) h4] at h1;rw[br,←hl];exact bW h1
    exact subscriptTail_builtinR (x:=w) pl.isList.typeIs slot_list_getitem.lookup
      (wpAny_getItem_list_neg (Q:=fun r s'=>r=w/\EP X pins σ Q r s') pl.isList (by lia) (by rw[br]<;>lia) (by lia) (by rw[hj];simpa using ew) ⟨rfl,fin⟩) hs
theorem Uk:Aw X (Dz X.K):=by
  intro value slice pins s σ H x y v u Q I rx ry h hs;obtain⟨p,xs,i,z,rfl,rfl,hq,he,q⟩:=h;cases rx;obtain⟨t,rfl⟩:=ry;obtain⟨its,r,pl,hz⟩:=I.tuple hq;obtain⟨j,h1,h2,h3,h4,h5⟩:=Js he;obtain⟨w,ew,iO⟩:=r.get h2;have hl:=r.length;have hn:=Dh;have fin:EP X pins σ Q w s:=⟨z,H,I,iO,q⟩;exact subscriptTail_builtinR (x:=w) pl.typeIs slot_tuple_getitem.lookup
    (getItem_tuple (j:=j) (Q:=fun r s'=>r=w/\EP X pins σ Q r s') pl (by lia) (by lia) (by rw[br,←hl];exact h1) (by simpa using ew) ⟨rfl,fin⟩) hs
theorem Ul:Aw X Jt:=by
  intro value slice pins s σ H x y v u Q I rx ry h hs;obtain⟨z,i,c,rfl,rfl,hz,he,q⟩:=h;obtain⟨t,rfl⟩:=rx;obtain⟨t',rfl⟩:=ry;obtain⟨j,h1,h2,h3,h4,h5⟩:=Js he;have hl:z.cps.toList.length=z.length:=by simp[Str.length]
  rw[hl] at h1 h4 h5;have hn:=Dh;exact tail_any (typeIs_str s z t) slot_str_getitem.lookup (getItem_str (c:=c) (by
    have e1:decide (i < -(2 ^ 63:Int))=false:=bq (by lia);have e2:decide (i≥2 ^ 63)=false:=bq (by lia);rw[e1,e2,Bool.or_false]) (by rw[h1];simpa using h2) ⟨.str ⟨#[c]⟩,H,I.tok _,⟨_,rfl⟩,q⟩) hs
theorem Um(its:List ai)(n j:Nat)(u:ai):Obj.mapSeq (·.setIfInBounds j u) { cls:=.type "list",data:=.seq its.toArray n } = { cls:=.type "list",data:=.seq (its.set j u).toArray n }:=by
  simp[Obj.mapSeq]
theorem Inv.lst{pins:aD}{σ:St}{H:Hp}{s:au}{p:ah}{xs:List V}(I:Inv X pins σ H s)(h:H p=some (.lst xs)) :
    ∃(its:List ai)(n:Nat),Vals xs its/\s.heap.get? p=some { cls:=.type "list",data:=.seq its.toArray n }/\xs.length<=sizeLine:=by
  obtain⟨z,its,n,r,e⟩:=I.aZ p _ h;exact⟨its,n,r,e,z⟩
theorem Inv.Ax{pins:aD}{σ:St}{H:Hp}{s:au}{p:ah}{xs ys:List V}{its its':List ai}{n n':Nat}{f:Obj->Obj}(I:Inv X pins σ H s)(h:H p=some (.lst xs))
    (ho:s.heap.get? p=some { cls:=.type "list",data:=.seq its.toArray n }) (hf:f { cls:=.type "list",data:=.seq its.toArray n } = { cls:=.type "list",data:=.seq its'.toArray n' }) (r:Vals ys its') (hz:ys.length<=sizeLine) (t:Nat) :
    Inv X pins σ (upd H p (.lst ys)) { s with heap:=s.heap.update p f,toks:=t }:=by
  have e:(s.heap.update p f).get? p=some { cls:=.type "list",data:=.seq its'.toArray n' }:=by
    rw[cX f ho (by rw[hf]<;>rfl),hf]
  refine I.write (x:=p) (e:=p) (by rw[h];trivial) (.inl rfl) (fun b u hb q=>(cF _ _ (aE hb)).trans q) ⟨_,e⟩ ?_;exact⟨hz,its',n',r,e⟩
def Uo:V->V->V->Hp->(Hp->Prop)->Prop:=fun o i v H Q=>∃p xs k j,o = .ref p/\i = .int k/\H p=some (.lst xs)/\vh xs.length k=some j/\Q (upd H p (.lst (xs.set j v)))
theorem Uq:C6 X Uo:=by
  intro pins s σ H o i v ov iv u Q I ro ri rv h;obtain⟨p,xs,k,j,rfl,rfl,hp,hj,q⟩:=h;cases ro;obtain⟨t,rfl⟩:=ri;obtain⟨its,n,r,ho,hz⟩:=I.lst hp;obtain⟨h1,h2,h3,h4⟩:=Jr hj;have hl:=r.length;have hn:=Dh;have I':Inv X pins σ (upd H p (.lst (xs.set j v))) { s with heap:=s.heap.update p (Obj.mapSeq (·.setIfInBounds j u)) }:=
    I.Ax hp ho (Um its n j u) (r.set rv j) (by rw[List.length_set];exact hz) s.toks
  by_cases h0:0<=k
  · have hk:k.toNat=j:=by
      rw[seqIndex_of h0 h4] at h1;exact bW h1
    exact PySem.W.ki_setAt ho h0 (by lia) (by rw[br,←hl];exact h4) (by rw[hk];exact⟨_,I',q⟩)
  · have hk:(k+(its.toArray.size:Int)).toNat=j:=by
      rw[seqIndex_neg (by lia) h3] at h1;rw[br,←hl];exact bW h1
    exact PySem.W.ki_setBack ho (by lia) (by rw[br,←hl];exact h3) (by lia) (by rw[hk];exact⟨_,I',q⟩)
theorem Ur(lo hi:Option Int)(n:Nat):(sliceBounds lo hi none n).1=((HT.dR n 0 lo:Nat):Int)/\(sliceBounds lo hi none n).2.1=((HT.dR n n hi:Nat):Int)/\(sliceBounds lo hi none n).2.2=1:=by
  refine⟨?_,?_,rfl⟩
  · cases lo with
    | none=>simp[sliceBounds,HT.dR]
    | some i=>
      simp only[sliceBounds,HT.dR,Option.getD_none,show(1:Int) > 0 by decide,if_true]
      by_cases h:i<0
      · simp only[h,if_true]<;>lia
      · simp only[h,c8]<;>lia
  · cases hi with
    | none=>simp[sliceBounds,HT.dR]
    | some i=>
      simp only[sliceBounds,HT.dR,Option.getD_none,show(1:Int) > 0 by decide,if_true]
      by_cases h:i<0
      · simp only[h,if_true]<;>lia
      · simp only[h,c8]<;>lia
theorem Us(its:List ai)(lo hi:Option Int):slicePick its.toArray lo hi none=((its.drop (HT.dR its.length 0 lo)).take (HT.dR its.length its.length hi-HT.dR its.length 0 lo)).toArray:=by
  obtain⟨h1,h2,h3⟩:=Ur lo hi its.toArray.size;unfold slicePick;rw[h1,h2,h3];simp only[sliceRange_one,pick_run,br]<;>rfl
def DA(K:aF):V->Option Int->Option Int->Hp->VK->Prop:=fun x lo hi H Q=>∃a xs,x = .ref a/\aH K H a xs/\∀p,H p=none->Q (.ref p) (upd H p (.lst (nJ xs lo hi)))
theorem Ut:BX X (DA X.K):=by
  intro pins s σ H x v vl vu lo hi sl Q I rx hs pl pu h;obtain⟨a,xs,rfl,hx,q⟩:=h;cases rx;obtain⟨its,r,ht,hz⟩:=I.list hx;have hlen:=r.length;refine⟨"list",_,slot_list_getitem.lookup,ht.isList.typeIs,?_⟩;refine wpAny_getItem_list_slice ht.isList hs pl pu .none (by simp) ?_ (by rw[br]<;>lia);rw[Us,←hlen];refine⟨.ref s.heap.objs.size,_,I.laid (t':=s.toks) (o:=.lst (nJ xs lo hi)) (fun b ob q=>aY _ q) (aG _) ?_,rfl,q _ (I.aZ.fresh (aG _))⟩;exact⟨bH (Nc xs lo hi) hz,_,0,(r.drop (HT.dR xs.length 0 lo)).take (HT.dR xs.length xs.length hi-HT.dR xs.length 0 lo),bF _ rfl⟩
def nK:V->Bool
  | .cu=>true
  | .bl _=>true
  | .int _=>true
  | .str _=>true
  | _=>false
def p7:V->V->Bool
  | .cu,.cu=>true
  | .bl a,.bl b=>a == b
  | .bl a,.int b=>(if a then 1 else 0) == b
  | .int a,.bl b=>a == (if b then 1 else 0)
  | .int a,.int b=>a == b
  | .str a,.str b=>a == b
  | _,_=>false
theorem Ng{A:Around}{s:au}{y x:V}{u v:ai}(ry:RelV y u)(rx:RelV x v)(fy:nK y=true)(fx:nK x=true):SeqAt.EqAt A s u v (p7 y x):=by
  cases y with
  | cu=>
    cases ry;cases x with
    | cu=>cases rx;exact SeqAt.EqAt.same _
    | bl b=>cases rx;exact SeqAt.EqAt.none_bool b
    | int b=>obtain⟨t,rfl⟩:=rx;exact SeqAt.EqAt.none_int b t
    | str b=>obtain⟨t,rfl⟩:=rx;exact SeqAt.EqAt.none_str b t
    | _=>exact absurd (show false=true from fx) bJ
  | bl a=>
    cases ry;cases x with
    | cu=>cases rx;exact SeqAt.EqAt.bool_none a
    | bl b=>cases rx;exact SeqAt.EqAt.bool_bool a b
    | int b=>obtain⟨t,rfl⟩:=rx;exact SeqAt.EqAt.bool_int a b t
    | str b=>obtain⟨t,rfl⟩:=rx;exact SeqAt.EqAt.bool_str a b t
    | _=>exact absurd (show false=true from fx) bJ
  | int a=>
    obtain⟨t',rfl⟩:=ry;cases x with
    | cu=>cases rx;exact SeqAt.EqAt.int_none a t'
    | bl b=>cases rx;exact SeqAt.EqAt.int_bool a t' b
    | int b=>obtain⟨t,rfl⟩:=rx;exact SeqAt.EqAt.int_int a t' b t
    | str b=>obtain⟨t,rfl⟩:=rx;exact SeqAt.EqAt.int_str a t' b t
    | _=>exact absurd (show false=true from fx) bJ
  | str a=>
    obtain⟨t',rfl⟩:=ry;cases x with
    | cu=>cases rx;exact SeqAt.EqAt.str_none a t'
    | bl b=>cases rx;exact SeqAt.EqAt.str_bool a t' b
    | int b=>obtain⟨t,rfl⟩:=rx;exact SeqAt.EqAt.str_int a t' b t
    | str b=>obtain⟨t,rfl⟩:=rx;exact SeqAt.EqAt.str_str a t' b t
    | _=>exact absurd (show false=true from fx) bJ
  | _=>exact absurd (show false=true from fy) bJ
def rA(x:V)(u:ai):Bool:=match u with
  | .none=>p7 .cu x
  | .bool b=>p7 (.bl b) x
  | .int i _=>p7 (.int i) x
  | .str z _=>p7 (.str z) x
  | _=>false
theorem Nh{x y:V}{u:ai}(r:RelV y u)(f:nK y=true):rA x u=p7 y x:=by
  cases y with
  | cu=>cases r;rfl
  | bl b=>cases r;rfl
  | int i=>obtain⟨t,rfl⟩:=r;rfl
  | str z=>obtain⟨t,rfl⟩:=r;rfl
  | _=>exact absurd (show false=true from f) bJ
theorem DB{x:V}:∀{xs:List V}{us:List ai},Vals xs us->xs.all nK=true->us.any (rA x)=xs.any fun y=>p7 y x
  | _,_,.nil,_=>rfl
  | y::xs,u::us,.cons r t,f=>by
    rw[List.all_cons,gb] at f;rw[g9,g9,Nh r f.1,DB t f.2]
theorem DC{A:Around}{s:au}{x:V}{v:ai}(rx:RelV x v)(fx:nK x=true):∀{xs:List V}{us:List ai},Vals xs us->xs.all nK=true->∀u∈us,SeqAt.EqAt A s u v (rA x u)
  | _,_,.nil,_=>fun u hu=>by cases hu
  | y::xs,u::us,.cons r t,f=>fun u' hu=>by
    rw[List.all_cons,gb] at f;rcases aO.mp hu with rfl | hu
    · rw[Nh r f.1];exact Ng r rx f.1 fx
    · exact DC rx fx t f.2 u' hu
def xQ(x:V)(xs:List V):Bool:=xs.any fun y=>p7 y x
def Gv(K:aF)(neg:Bool):R2:=fun x y H Q=>∃p xs,y = .ref p/\(aH K H p xs\/bx K H p xs)/\nK x=true/\xs.all nK=true/\Q (.bl (if neg then !xQ x xs else xQ x xs)) H
theorem Uu:jo X (compareOp .In) (Gv X.K false):=by
  intro pins s σ H x y v u Q I rx ry h;obtain⟨p,xs,rfl,hq,fx,fs,q⟩:=h;cases ry;rcases hq with hq | hq
  · obtain⟨its,r,pl,hz⟩:=I.list hq;refine SeqAt.in_listAt (rA x) pl.isList (fun w hw=>DC rx fx r fs w (by simpa using hw)) ⟨.bl _,H,I,rfl,?_⟩;rw[show its.toArray.any (rA x)=its.any (rA x) by simp,DB r fs];exact q
  · obtain⟨its,r,pl,hz⟩:=I.tuple hq;refine SeqAt.in_tupleAt (rA x) pl (fun w hw=>DC rx fx r fs w (by simpa using hw)) ⟨.bl _,H,I,rfl,?_⟩;rw[show its.toArray.any (rA x)=its.any (rA x) by simp,DB r fs];exact q
theorem Uv:jo X (compareOp .NotIn) (Gv X.K true):=by
  intro pins s σ H x y v u Q I rx ry h;obtain⟨p,xs,rfl,hq,fx,fs,q⟩:=h;cases ry;rcases hq with hq | hq
  · obtain⟨its,r,pl,hz⟩:=I.list hq;refine SeqAt.notIn_listAt (rA x) pl.isList (fun w hw=>DC rx fx r fs w (by simpa using hw)) ⟨.bl _,H,I,rfl,?_⟩;rw[show its.toArray.any (rA x)=its.any (rA x) by simp,DB r fs];exact q
  · obtain⟨its,r,pl,hz⟩:=I.tuple hq;refine SeqAt.notIn_tupleAt (rA x) pl (fun w hw=>DC rx fx r fs w (by simpa using hw)) ⟨.bl _,H,I,rfl,?_⟩;rw[show its.toArray.any (rA x)=its.any (rA x) by simp,DB r fs];exact q
theorem Uw:om X (.builtin "len") (fun xs H Q=>∃p ys,xs = [.ref p]/\(aH X.K H p ys\/bx X.K H p ys)/\Q (.int ys.length) H):=by
  intro pins s σ H xs us Q I r h;obtain⟨p,ys,rfl,hq,q⟩:=h;obtain⟨u,rfl,rx⟩:=pZ r;cases rx;have hn:=Dh;rcases hq with hq | hq
  · obtain⟨its,r',pl,hz⟩:=I.list hq;have hlen:=r'.length;exact Calls.call_len_list pl.isList (by simp only[br]<;>lia) ⟨.int ys.length,H,I.tok _,⟨s.toks+1,by rw[br,hlen]⟩,q⟩
  · obtain⟨its,r',pl,hz⟩:=I.tuple hq;have hlen:=r'.length;exact len_tuple pl (by simp only[br]<;>lia) ⟨.int ys.length,H,I.tok _,⟨s.toks+1,by rw[br,hlen]⟩,q⟩
theorem Ux:om X (.type "list") (fun xs H Q=>∃p ys,xs = [.ref p]/\(aH X.K H p ys\/bx X.K H p ys)/\∀l,H l=none->Q (.ref l) (upd H l (.lst ys))):=by
  intro pins s σ H xs us Q I r h;obtain⟨p,ys,rfl,hq,q⟩:=h;obtain⟨u,rfl,rx⟩:=pZ r;cases rx;have fin:∀(its:List ai),Vals ys its->ys.length<=sizeLine->∀(h':Heap)(c':Nat),(∀b o',s.heap.get? b=some o'->h'.get? b=some o')->
      h'.get? s.heap.objs.size=some { cls:=.type "list",dict:=none,data:=.seq its.toArray c',slots:=#[] }->EP X pins σ Q (.ref s.heap.objs.size) { s with heap:=h' }:=fun its r' hz h' c' kp e=>
    ⟨.ref s.heap.objs.size,_,I.laid (t':=s.toks) kp (aG _) (show cI X.prog X.w _ h' _ (.lst ys) from⟨hz,its,c',r',e⟩),rfl,q _ (I.aZ.fresh (aG _))⟩
  rcases hq with hq | hq
  · obtain⟨its,r',pl,hz⟩:=I.list hq;have hlen:=r'.length;obtain⟨o,ho,hc,n,hd⟩:=pl.isList;exact call_list_seq p (.inl rfl) ho hc hd (fun h' c' kp e=>fin its r' hz h' c' kp e) (by simp only[br]<;>lia)
  · obtain⟨its,r',pl,hz⟩:=I.tuple hq;have hlen:=r'.length;obtain⟨o,ho,hc,n,hd⟩:=pl;exact call_list_seq p (.inr rfl) ho hc hd (fun h' c' kp e=>fin its r' hz h' c' kp e) (by simp only[br]<;>lia)
def Ju(K:aF)(T:String)(x:V)(H:Hp):Prop:=match x with
  | .str _=>T = "str"
  | .int _=>T = "int"
  | .ref p=>(T = "list"/\∃xs,aH K H p xs)\/(T = "tuple"/\∃o,K.lookup p=some o/\o.cls = .type "tuple"/\o.dict=none)\/
      (T = "dict"/\((∃kvs,H p=some (.dK kvs))\/∃kvs,H p=some (.dT kvs)))\/(T = "set"/\∃S n,H p=some (.set S n))
  | _=>False
theorem Ni{pins:aD}{σ:St}{H:Hp}{s:au}{T:String}{x:V}{v:ai}(I:Inv X pins σ H s)(r:RelV x v)(ty:Ju X.K T x H) :
    s.TypeIs v T/\∀a,v = .ref a->∃ob,s.heap.get? a=some ob/\ob.dict=none:=by
  cases x with
  | str z=>
    obtain⟨t,rfl⟩:=r;cases (show T = "str" from ty);exact⟨typeIs_str s z t,fun _ e=>nomatch e⟩
  | int i=>
    obtain⟨t,rfl⟩:=r;cases (show T = "int" from ty);exact⟨typeIs_int s i t,fun _ e=>nomatch e⟩
  | ref p=>
    cases r;rcases ty with ⟨rfl,xs,hq⟩ | ⟨rfl,o,hk,hc,hd⟩ | ⟨rfl,hk⟩ | ⟨rfl,S,n,hk⟩
    · obtain⟨its,_,pl,_⟩:=I.list hq;refine⟨pl.isList.typeIs,fun a e=>?_⟩;cases e;obtain⟨o,n,e,c,hd,_⟩:=pl;exact⟨o,e,hd⟩
    · refine⟨⟨o,I.lY p o hk,hc⟩,fun a e=>?_⟩;cases e;exact⟨o,I.lY _ o hk,hd⟩
    · have z:∃o,s.heap.get? p=some o/\o.ExactDict:=by
        rcases hk with ⟨kvs,hk⟩ | ⟨kvs,hk⟩
        · obtain⟨_,_,_,_,o,_,_,e,ex,_⟩:=I.aZ p _ hk;exact⟨o,e,ex⟩
        · obtain⟨_,_,_,_,o,_,_,e,ex,_⟩:=I.aZ p _ hk;exact⟨o,e,ex⟩
      obtain⟨o,e,ex⟩:=z;refine⟨⟨o,e,ex.1⟩,fun a e2=>?_⟩;cases e2;exact⟨o,e,ex.2.1⟩
    · obtain⟨o,_,_,_,e,ex,_⟩:=I.aZ p _ hk;refine⟨⟨o,e,ex.1⟩,fun a e2=>?_⟩;cases e2;exact⟨o,e,ex.2.1⟩
  | _=>exact False.elim ty
def DE(K:aF)(T:String)(r:V->List V->Hp->VK->Prop)(to:TE):TE:=fun σ H Q=>to σ H fun x H1=>Ju K T x H1/\r x [] H1 Q
def Nj(K:aF)(T:String)(r:V->List V->Hp->VK->Prop)(to:TE)(t:TA):TE:=fun σ H Q=>to σ H fun x H1=>Ju K T x H1/\t σ H1 fun xs H2=>r x xs H2 Q
variable{o e:Expr}{es:List Expr}{to:TE}{t:TA}{name:Str}{apos bO:Pos}{T id:String}{r:V->List V->Hp->VK->Prop}
theorem Uy(pa:PlainAttrs T)(slot:Slot T name id)(Ay:typeOf (.builtin id)=pure (.type "method_descriptor"))(hm:Du X id r)(ho:PE X o to)
    (nM:attributeBase o name X.env (eval o X.env)=eval o X.env:=by rfl) (nN:(apos.endLine == bO.line)=true:=by rfl):PE X (.Call (.Attribute o name apos) [] [] bO) (DE X.K T r to):=by
  intro pins s σ H Q I h;refine wpAny_Call_method0_late nM nN (bK (ho pins s σ H _ I h) fun v s1 aQ=>?_);obtain⟨x,H1,I1,r1,ty,q1⟩:=aQ;obtain⟨h1,h2⟩:=Ni I1 r1 ty;exact⟨T,id,pa,slot,Ay,h1,h2,oJ rfl (PySem.evalArgs_none (hm pins s1 σ H1 x [] v [] Q I1 r1 .nil q1))⟩
theorem Uz(pa:PlainAttrs T)(slot:Slot T name id)(Ay:typeOf (.builtin id)=pure (.type "method_descriptor"))(hm:Du X id r)(ho:PE X o to)(ha:PA X (e::es) t)
    (nM:attributeBase o name X.env (eval o X.env)=eval o X.env:=by rfl)
    (Az:((backTo bO (starEach (e::es) X.env)).all (fun x=>!x.1)&&(backToKw bO (keywordEach [] X.env)).all (fun x=>x.1.isSome)
      && decide ((e::es).length+([]:List Keyword).length+(if([]:List Keyword).isEmpty then 0 else 1)<30))=true:=by rfl)
    (nN:(apos.endLine == bO.line)=true:=by rfl) (hs:starEach (e::es) X.env=(false,eval e X.env)::starEach es X.env:=by rfl) (rB:(backTo bO (starEach es X.env)).any (·.1)=false:=by rfl) :
    PE X (.Call (.Attribute o name apos) (e::es) [] bO) (Nj X.K T r to t):=by
  intro pins s σ H Q I h;refine wpAny_Call_method_late nM Az nN rfl (bK (ho pins s σ H _ I h) fun v s1 aQ=>?_);obtain⟨x,H1,I1,r1,ty,q1⟩:=aQ;obtain⟨h1,h2⟩:=Ni I1 r1 ty;refine⟨T,id,pa,slot,Ay,h1,h2,?_⟩;have hA:=ha bO pins s1 σ H1 _ I1 q1;rw[hs] at hA ⊢;refine oJ (by show(false||(backTo bO (starEach es X.env)).any (·.1))=false;rw[rB]<;>rfl) (kU ?_);exact bK hA fun us s2 ⟨vs,H2,I2,r2,q2⟩=>hm pins s2 σ H2 x vs v us Q I2 r1 r2 q2
end
def DF(X:Cx)(id:String)(r:V->List V->Hp->VK->Prop):Prop:=
  ∀(pins:aD)(s:au)(σ:St)(H:Hp)(x:V)(xs:List V)(v:ai)(us:List ai)(Q:VK),Inv X pins σ H s->RelV x v->Vals xs us->r x xs H Q->
    wpAny (model X.prog X.w) X.A (call (.builtin id) (v::us)) (EP X pins σ Q) X.xe s
theorem Vals.one:∀{x:V}{us:List ai},Vals [x] us->∃u,us = [u]/\RelV x u
  | _,_,.cons r .nil=>⟨_,rfl,r⟩
theorem Vals.eraseIdx:∀{xs:List V}{us:List ai}(i:Nat),Vals xs us->Vals (xs.eraseIdx i) (us.eraseIdx i)
  | _,_,_,.nil=>.nil
  | _,_,0,.cons _ t=>t
  | _,_,i+1,.cons r t=>.cons r (Vals.eraseIdx i t)
theorem Nk{α:Type}:∀(l:List α)(i:Nat),(l.eraseIdx i).length<=l.length
  | [],_=>aG _
  | _::_,0=>eV _
  | _::r,i+1=>Nat.succ_le_succ (Nk r i)
section
variable{X:Cx}{pins:aD}{σ:St}{H:Hp}{s:au}{l b:ah}{xs ys zs:List V}
theorem Inv.xR{its its':List ai}{n:Nat}{f:Array ai->Array ai}{t':Nat}(I:Inv X pins σ H s)(hH:H l=some (.lst xs))
    (e:s.heap.get? l=some { cls:=.type "list",data:=.seq its.toArray n }) (hf:f its.toArray=its'.toArray) (hv:Vals ys its') (hz:ys.length<=sizeLine) :
    Inv X pins σ (upd H l (.lst ys)) { s with heap:=s.heap.update l (Obj.mapSeq f),toks:=t' }:=by
  have q:=PySem.IsL.update e f;rw[hf] at q;refine I.write (x:=l) (e:=l) (by rw[hH];exact trivial) (.inl rfl) (fun b' u hb hu=>(cF s.heap (Obj.mapSeq f) (aE hb)).trans hu) ⟨_,q⟩ ?_;exact⟨hz,its',_,hv,q⟩
theorem Inv.xS{its:List ai}{t':Nat}(I:Inv X pins σ H s)(hv:Vals ys its)(hz:ys.length<=sizeLine) :
    Inv X pins σ (upd H s.heap.objs.size (.lst ys)) { s with heap:=s.heap.push { cls:=.type "list",data:=.seq its.toArray },toks:=t' }:=
  I.laid (fun _ _ q=>aY _ q) (aG _) ⟨hz,its,0,hv,bF _ rfl⟩
theorem Inv.fresh(I:Inv X pins σ H s):H s.heap.objs.size=none:=I.aZ.fresh (aG _)
theorem Inv.tF(I:Inv X pins σ H s)(hH:H l=some (.lst xs)):xs.length<=sizeLine/\∃(its:List ai)(n:Nat),Vals xs its/\xs.length=its.length/\s.heap.get? l=some { cls:=.type "list",data:=.seq its.toArray n }:=by
  obtain⟨z,its,n,r,e⟩:=I.aZ l _ hH;exact⟨z,its,n,r,r.length,e⟩
theorem z1r{n:Nat}(h:n<=sizeLine):Builtin.List.listTooLong n=false:=by
  unfold Builtin.List.listTooLong;exact bq (by lia)
end
section
variable{X:Cx}
inductive vm(x:V)(vs:List V)(H:Hp)(Q:VK):Prop
  | mk (l:ah) (xs:List V) (y:V) (_:x = .ref l) (_:vs = [y]) (_:H l=some (.lst xs)) (_:xs.length<sizeLine) (_:Q .cu (upd H l (.lst (xs++[y]))))
def UA:V->List V->Hp->VK->Prop:=fun x vs H Q=>vm x vs H Q
theorem uP:DF X "list.append" UA:=by
  intro pins s σ H x vs v us Q I rx rv h;obtain⟨l,xs,y,rfl,rfl,hH,hz,q⟩:=h;cases rx;obtain⟨u,rfl,ru⟩:=rv.one;obtain⟨z,its,n,r,hl,e⟩:=I.tF hH;refine call_meets F.slot_list_append ⟨_,e,rfl⟩ F.entry_list_append (F.args_list_append_2 _ _) (PySem.list_append l its.toArray n u (by rw[br];lia)) ⟨e,?_⟩;refine⟨.cu,_,I.xR (its':=its++[u]) hH e (by simp) (r.append (.cons ru .nil)) ?_,rfl,q⟩;rw[cG,List.length_singleton];lia
def UB:V->List V->Hp->VK->Prop:=fun x vs H Q=>∃l xs i k y,x = .ref l/\vs = [.int i]/\H l=some (.lst xs)/\-(2 ^ 63)<=i/\i<2 ^ 63/\seqIndex? i xs.length=some k/\xs[k]? = some y/\Q y (upd H l (.lst (xs.eraseIdx k)))
theorem Nl:DF X "list.pop" UB:=by
  intro pins s σ H x vs v us Q I rx rv h;obtain⟨l,xs,i,k,y,rfl,rfl,hH,h1,h2,hk,hy,q⟩:=h;cases rx;obtain⟨u,rfl,ru⟩:=rv.one;obtain⟨t,rfl⟩:=ru;obtain⟨z,its,n,r,hl,e⟩:=I.tF hH;obtain⟨w,hw,iO⟩:=r.get hy;refine call_meets F.slot_list_pop ⟨_,e,rfl⟩ F.entry_list_pop (F.args_list_pop_2 _ _)
    (MeetsSeq.list_pop_at l its.toArray n i t k w (fitsIndex_both h1 h2) (by rw[br,←hl];exact hk) (by rw[←kT];exact hw) (by rw[br];lia)) ⟨e,?_⟩
  refine⟨y,_,I.xR (its':=its.eraseIdx k) hH e ?_ (r.eraseIdx k) ?_,iO,q⟩
  · show its.toArray.eraseIdxIfInBounds k=(its.eraseIdx k).toArray;rw[List.eraseIdxIfInBounds_toArray]
  · have:=Nk xs k;lia
def Jv:R2:=fun x y H Q=>∃l b xs zs,x = .ref l/\y = .ref b/\H l=some (.lst xs)/\H b=some (.lst zs)/\xs.length+zs.length<=sizeLine/\∀p,H p=none->Q (.ref p) (upd H p (.lst (xs++zs)))
theorem BY:jo X (binaryOp .Add) Jv:=by
  intro pins s σ H x y v u Q I rx ry h;obtain⟨l,b,xs,zs,rfl,rfl,hH,hB,hz,q⟩:=h;cases rx;cases ry;obtain⟨z,its,n,r,hl,e⟩:=I.tF hH;obtain⟨z2,dQ,n2,r2,nY,e2⟩:=I.tF hB;refine PySem.P.add_list e e2 ?_ (by rw[br,br];lia);have ea:its.toArray++dQ.toArray=(its++dQ).toArray:=by simp
  rw[ea];exact⟨.ref _,_,I.xS (t':=s.toks) (r.append r2) (by rw[cG];lia),rfl,q _ I.fresh⟩
end
section
variable{κ:Type}[DecidableEq κ]
def cT(kvs:List (κ×V))(k:κ):Option V:=(kvs.find? fun kv=>decide (kv.1=k)).map (·.2)
def putK(kvs:List (κ×V))(k:κ)(v:V):List (κ×V):=
  if(kvs.any fun kv=>decide (kv.1=k))=true then kvs.map (fun kv=>if kv.1=k then(kv.1,v) else kv) else kvs++[(k,v)]
def sC(kvs:List (κ×V))(k:κ):List (κ×V):=kvs.filter fun kv=>decide (kv.1≠k)
theorem AA{p:κ×V}{r:List (κ×V)}{k:κ}(e:p.1=k):cT (p::r) k=some p.2:=by simp[cT,lF,e]
theorem DG{p:κ×V}{r:List (κ×V)}{k:κ}(e:¬p.1=k):cT (p::r) k=cT r k:=by simp[cT,lF,e]
theorem Gw(k:κ):∀kvs:List (κ×V),(kvs.any fun kv=>decide (kv.1=k))=(cT kvs k).isSome
  | []=>rfl
  | p::r=>by
    rw[g9]
    by_cases e:p.1=k
    · simp only[AA e,aP e,Bool.true_or,Option.isSome_some]
    · rw[DG e,bq e,Bool.false_or];exact Gw k r
theorem Gx(kvs:List (κ×V))(k:κ)(v:V):(putK kvs k v).length<=kvs.length+1:=by
  unfold putK;split
  · rw[aq];lia
  · rw[cG,fK,List.length_nil];lia
theorem Jw{kvs:List (κ×V)}{k:κ}(v:V)(h:cT kvs k=none):putK kvs k v=kvs++[(k,v)]:=by
  unfold putK;rw[Gw,h];exact ao (by decide)
theorem gQ.fD{o:Option V}{u:Option ai}(r:gQ o u):o.isSome=u.isSome:=by
  cases o with
  | none=>cases u with
    | none=>rfl
    | some _=>exact(show False from r).elim
  | some _=>cases u with
    | none=>exact(show False from r).elim
    | some _=>rfl
theorem KV.val{kvs:List (κ×V)}{vs:List (κ×ai)}(r:KV kvs vs)(k:κ):gQ (cT kvs k) (valueAt vs k):=by
  unfold KV at r
  induction r with
  | nil=>exact True.intro
  | @cons p q ps qs h t ih=>
    obtain⟨h1,h2⟩:=h
    by_cases e:p.1=k
    · have e':q.1=k:=h1.symm.trans e;have b:valueAt (q::qs) k=some q.2:=by simp[valueAt,lF,e']
      rw[AA e,b];exact h2
    · have e':¬q.1=k:=fun z=>e (h1.trans z)
      have b:valueAt (q::qs) k=valueAt qs k:=by simp[valueAt,lF,e']
      rw[DG e,b];exact ih
theorem KV.any{kvs:List (κ×V)}{vs:List (κ×ai)}(r:KV kvs vs)(k:κ):(kvs.any fun kv=>decide (kv.1=k))=vs.any fun kv=>decide (kv.1=k):=by
  unfold KV at r
  induction r with
  | nil=>rfl
  | cons h t ih=>rw[g9,g9,ih,h.1]
theorem KV.AB{kvs:List (κ×V)}{vs:List (κ×ai)}(r:KV kvs vs)(k:κ){y:V}{u:ai}(ry:RelV y u) :
    KV (kvs.map fun kv=>if kv.1=k then(kv.1,y) else kv) (vs.map fun kv=>if kv.1=k then(kv.1,u) else kv):=by
  unfold KV at r ⊢
  induction r with
  | nil=>exact .nil
  | @cons p q ps qs h t ih=>
    rw[cE,cE];refine .cons ?_ ih;obtain⟨h1,h2⟩:=h
    by_cases e:p.1=k
    · rw[av e,av (h1.symm.trans e)];exact⟨h1,ry⟩
    · rw[ao e,ao (fun z=>e (h1.trans z))];exact⟨h1,h2⟩
theorem KV.put{kvs:List (κ×V)}{vs:List (κ×ai)}(r:KV kvs vs)(k:κ){y:V}{u:ai}(ry:RelV y u):KV (putK kvs k y) (stored vs k u):=by
  unfold putK stored;rw[r.any k]
  by_cases e:(vs.any fun kv=>decide (kv.1=k))=true
  · rw[av e,av e];exact r.AB k ry
  · rw[ao e,ao e];exact Paired.snoc r ⟨rfl,ry⟩
theorem KV.drop{kvs:List (κ×V)}{vs:List (κ×ai)}(r:KV kvs vs)(k:κ):KV (sC kvs k) (without vs k):=by
  unfold KV at r ⊢;unfold sC without
  induction r with
  | nil=>exact .nil
  | @cons p q ps qs h t ih=>
    obtain⟨h1,h2⟩:=h;rw[List.filter_cons,List.filter_cons]
    by_cases e:p.1=k
    · have a:¬decide (p.1≠k)=true:=by simp[e]
      have b:¬decide (q.1≠k)=true:=by simp[h1.symm.trans e]
      rw[ao a,ao b];exact ih
    · have e':¬q.1=k:=fun z=>e (h1.trans z)
      have a:decide (p.1≠k)=true:=by simp[e]
      have b:decide (q.1≠k)=true:=by simp[e']
      rw[av a,av b];exact .cons ⟨h1,h2⟩ ih
theorem KV.length{kvs:List (κ×V)}{vs:List (κ×ai)}(r:KV kvs vs):kvs.length=vs.length:=Paired.length r
theorem Jx(kvs:List (κ×V))(k:κ):(sC kvs k).length<=kvs.length:=e7 _ _
end
theorem yZ{P:aU}{w:World}{k:Key}{u:ai}(r:RelV (kV k) u):(nW P w).is k u=true:=by
  cases k with
  | inl i=>obtain⟨t,e⟩:=(show ∃t,u=Value.int i t from r);subst e;exact Sm P w i t
  | inr x=>obtain⟨t,e⟩:=(show ∃t,u=Value.str x t from r);subst e;exact Sn P w x t
theorem Nm{P:aU}{w:World}:∀{ks:List Key}{us:List ai},Vals (ks.map kV) us->ItemsAre (nW P w) ks us
  | [],_,r=>by rw[pM] at r;cases r;exact .nil
  | k::ks,_,r=>by
    rw[cE] at r;cases r with
    | cons h t=>exact .cons (yZ h) (Nm t)
abbrev KT(H:Hp):List (List Key×V)->List (List Key×ah×ai)->Prop:=Paired fun p q=>p.1=q.1/\H q.2.1=some (.tup (p.1.map kV))/\RelV p.2 q.2.2
theorem KT.val{H:Hp}{kvs:List (List Key×V)}{xs:List (List Key×ah×ai)}(r:KT H kvs xs)(k:List Key):gQ (cT kvs k) ((atKey xs k).map (·.2)):=by
  induction r with
  | nil=>exact True.intro
  | @cons p q ps qs h t ih=>
    obtain⟨h1,_,h2⟩:=h
    by_cases e:p.1=k
    · have e':q.1=k:=h1.symm.trans e;have b:atKey (q::qs) k=some q.2:=by simp[atKey,lF,e']
      rw[AA e,b];exact h2
    · have e':¬q.1=k:=fun z=>e (h1.trans z)
      have b:atKey (q::qs) k=atKey qs k:=by simp[atKey,lF,e']
      rw[DG e,b];exact ih
theorem KT.AB{H:Hp}{kvs:List (List Key×V)}{xs:List (List Key×ah×ai)}(r:KT H kvs xs)(k:List Key){y:V}{u:ai}(ry:RelV y u) :
    KT H (kvs.map fun kv=>if kv.1=k then(kv.1,y) else kv) (xs.map (putAt k u)):=by
  induction r with
  | nil=>exact .nil
  | @cons p q ps qs h t ih=>
    rw[cE,cE];refine .cons ?_ ih;obtain⟨h1,h2,h3⟩:=h;unfold putAt
    by_cases e:p.1=k
    · rw[av e,av (h1.symm.trans e)];exact⟨h1,h2,ry⟩
    · rw[ao e,ao (fun z=>e (h1.trans z))];exact⟨h1,h2,h3⟩
theorem KT.put{H:Hp}{kvs:List (List Key×V)}{xs:List (List Key×ah×ai)}(r:KT H kvs xs)(k:List Key){b:ah}{y:V}{u:ai}(hb:H b=some (.tup (k.map kV)))(ry:RelV y u) :
    KT H (putK kvs k y) (storedH xs k b u):=by
  have e:(kvs.any fun kv=>decide (kv.1=k))=(atKey xs k).isSome:=by
    rw[Gw,(r.val k).fD,Option.isSome_map]
  unfold putK storedH;rw[e]
  by_cases q:(atKey xs k).isSome=true
  · rw[av q,av q];exact r.AB k ry
  · rw[ao q,ao q];exact Paired.snoc r ⟨rfl,hb,ry⟩
theorem KT.keeps{H H':Hp}{kvs:List (List Key×V)}{xs:List (List Key×ah×ai)}(r:KT H kvs xs)(ht:∀b ys,H b=some (.tup ys)->H' b=some (.tup ys)):KT H' kvs xs:=
  Paired.gy r fun _ _ z=>⟨z.1,ht _ _ z.2.1,z.2.2⟩
section
variable{P:aU}{w:World}{H:Hp}{h:Heap}{a:ah}
theorem Jy{u:HO}(ok:jF P w H h)(e:Rd H a u):cI P w H h a u:=e.ok ok
theorem wV{kvs:List (Key×V)}(ok:jF P w H h)(e:Rd H a (.dK kvs)):kvs.length<=sizeLine/\(a == sysModules)=false/\∃vs,KV kvs vs/\h.DictOf (nW P w) a vs:=
  show cI P w H h a (.dK kvs) from Jy ok e
theorem DH{kvs:List (Key×V)}(ok:jF P w H h)(e:H a=some (.dK kvs)):kvs.length<=sizeLine/\(a == sysModules)=false/\∃vs,KV kvs vs/\h.DictOf (nW P w) a vs:=wV ok (.inl e)
theorem BZ{ks:List Key}(ok:jF P w H h)(e:H a=some (.tup (ks.map kV))):(tupleKind (nW P w)).is h ks a:=by
  obtain⟨_,its,r,o,h1,h2,n,h3⟩:=(show cI P w H h a (.tup (ks.map kV)) from ok a _ e);exact⟨o,its.toArray,n,h1,h2,h3,by simpa using Nm r⟩
theorem B0{kvs:List (List Key×V)}(ok:jF P w H h)(e:Rd H a (.dT kvs)):kvs.length<=sizeLine/\(a == sysModules)=false/\
    ∃xs,KT H kvs xs/\h.DictOfH (tupleKind (nW P w)) a xs:=by
  obtain⟨z,y,xs,r,o,es,ep,h1,h2,h3,h4,h5⟩:=(show cI P w H h a (.dT kvs) from Jy ok e);refine⟨z,y,xs,r,o,es,ep,h1,h2,h3,h4,fun x hx=>?_,h5⟩;have all:∀{l:List (List Key×V)}{m:List (List Key×ah×ai)},KT H l m->∀x∈m,(tupleKind (nW P w)).is h x.1 x.2.1:=by
    intro l m q
    induction q with
    | nil=>intro x hx;exact nomatch hx
    | @cons p q ps qs hq t ih=>
      intro x hx;rcases aO.mp hx with e | hx
      · subst e;exact BZ ok (by rw[←hq.1];exact hq.2.1)
      · exact ih x hx
  exact all r x hx
theorem Nn{kvs:List (List Key×V)}(ok:jF P w H h)(e:H a=some (.dT kvs)):kvs.length<=sizeLine/\(a == sysModules)=false/\
    ∃xs,KT H kvs xs/\h.DictOfH (tupleKind (nW P w)) a xs:=B0 ok (.inl e)
end
def ck(H:Hp)(a:ah)(y:V)(r:Option V):Prop:=
  (∃kvs k,Rd H a (.dK kvs)/\y=kV k/\r=cT kvs k)\/∃kvs k b,Rd H a (.dT kvs)/\y = .ref b/\H b=some (.tup (k.map kV))/\r=cT kvs k
def eO(H:Hp)(a:ah)(y v:V)(H':Hp):Prop:=
  (∃kvs k,H a=some (.dK kvs)/\y=kV k/\kvs.length<sizeLine/\H'=upd H a (.dK (putK kvs k v)))\/
  ∃kvs k b,H a=some (.dT kvs)/\y = .ref b/\H b=some (.tup (k.map kV))/\kvs.length<sizeLine/\H'=upd H a (.dT (putK kvs k v))
theorem ck.k{H:Hp}{a:ah}{kvs:List (Key×V)}{k:Key}(e:H a=some (.dK kvs)):ck H a (kV k) (cT kvs k):=.inl ⟨kvs,k,.inl e,rfl,rfl⟩
theorem ck.t{H:Hp}{a b:ah}{kvs:List (List Key×V)}{k:List Key}(e:H a=some (.dT kvs))(eb:H b=some (.tup (k.map kV))):ck H a (.ref b) (cT kvs k):=.inr ⟨kvs,k,b,.inl e,rfl,eb,rfl⟩
theorem eO.k{H:Hp}{a:ah}{kvs:List (Key×V)}{k:Key}{v:V}(e:H a=some (.dK kvs))(hl:kvs.length<sizeLine):eO H a (kV k) v (upd H a (.dK (putK kvs k v))):=.inl ⟨kvs,k,e,rfl,hl,rfl⟩
theorem eO.t{H:Hp}{a b:ah}{kvs:List (List Key×V)}{k:List Key}{v:V}(e:H a=some (.dT kvs))(eb:H b=some (.tup (k.map kV)))(hl:kvs.length<sizeLine) :
    eO H a (.ref b) v (upd H a (.dT (putK kvs k v))):=.inr ⟨kvs,k,b,e,rfl,eb,hl,rfl⟩
section
variable{X:Cx}{pins:aD}{σ:St}{H:Hp}{s:au}{a:ah}{y v:V}{u r:ai}{o:Option V}{A:Around}{E:az}
theorem Inv.big(I:Inv X pins σ H s):sysModules<s.heap.objs.size:=by
  have h:mainGlobals<s.heap.objs.size:=(I.mod.glob.keeps I.bk).lt;exact Nat.lt_trans (by decide) h
theorem UC{Q:az}(hu:A.units+1<cLine)(I:Inv X pins σ H s)(g:ck H a y (some v))(ry:RelV y u)(h:∀w' s',Inv X pins σ H s'->RelV v w'->Q w' s') :
    wpAny (model X.prog X.w) A (getItem (.ref a) u) Q E s:=by
  rcases g with ⟨kvs,k,e,ey,l⟩ | ⟨kvs,k,b,e,ey,eb,l⟩
  · subst ey;obtain⟨z,hd,vs,rel,dd⟩:=wV I.aZ e;obtain⟨w',hw,iO⟩:=gQ.some_of (v:=v) (o:=valueAt vs k) (by rw[l];exact rel.val k);exact wpAny_getItem_of (yZ ry) dd.mapOf hw (h w' _ (I.tok _) iO)
  · subst ey;cases (show u=Value.ref b from ry);obtain⟨z,hd,xs,rel,dd⟩:=B0 I.aZ e;obtain⟨w',hw,iO⟩:=gQ.some_of (v:=v) (o:=(atKey xs k).map (·.2)) (by rw[l];exact rel.val k);obtain⟨p,hp,sD⟩:=Option.map_eq_some_iff.mp hw;refine wpAny_getItem_heap (ni hu) (BZ I.aZ eb) dd hp ?_;rw[sD];exact h w' _ (I.tok _) iO
theorem Jz{Q:az}(hu:A.units+1<cLine)(I:Inv X pins σ H s)(g:ck H a y o)(ry:RelV y u)(h:∀s',Inv X pins σ H s'->Q (.bool o.isSome) s') :
    wpAny (model X.prog X.w) A (compareOp .In u (.ref a)) Q E s:=by
  rcases g with ⟨kvs,k,e,ey,l⟩ | ⟨kvs,k,b,e,ey,eb,l⟩
  · subst ey;obtain⟨z,hd,vs,rel,dd⟩:=wV I.aZ e;refine wpAny_in_of (yZ ry) hd dd.mapOf ?_;rw[←(rel.val k).fD,←l];exact h _ (I.tok _)
  · subst ey;cases (show u=Value.ref b from ry);obtain⟨z,hd,xs,rel,dd⟩:=B0 I.aZ e;refine wpAny_in_heap (ni hu) (BZ I.aZ eb) hd dd ?_;have q:=(rel.val k).fD;rw[Option.isSome_map] at q;rw[←q,←l];exact h _ (I.tok _)
theorem UD{Q:az}(hu:A.units+1<cLine)(I:Inv X pins σ H s)(g:ck H a y o)(ry:RelV y u)(h:∀s',Inv X pins σ H s'->Q (.bool (!o.isSome)) s') :
    wpAny (model X.prog X.w) A (compareOp .NotIn u (.ref a)) Q E s:=by
  rcases g with ⟨kvs,k,e,ey,l⟩ | ⟨kvs,k,b,e,ey,eb,l⟩
  · subst ey;obtain⟨z,hd,vs,rel,dd⟩:=wV I.aZ e;refine wpAny_notIn_of (yZ ry) hd dd.mapOf ?_;rw[←(rel.val k).fD,←l];exact h _ (I.tok _)
  · subst ey;cases (show u=Value.ref b from ry);obtain⟨z,hd,xs,rel,dd⟩:=B0 I.aZ e;refine wpAny_notIn_heap (ni hu) (BZ I.aZ eb) hd dd ?_;have q:=(rel.val k).fD;rw[Option.isSome_map] at q;rw[←q,←l];exact h _ (I.tok _)
theorem AD{h':Heap}{t':Nat}{ob:HO}(I:Inv X pins σ H s)(mu:CS (H a))(hs:Heap.SameBut a s.heap h')(he:∃q,h'.get? a=some q)(new:cI X.prog X.w (upd H a ob) h' a ob) :
    Inv X pins σ (upd H a ob) { s with heap:=h',toks:=t' }:=
  I.write (x:=a) (e:=a) mu (.inl rfl) (fun b q hb z=>(hs.2 b hb).trans z) he new
theorem DI{P:aU}{w:World}{H':Hp}{h':Heap}{kvs:List (Key×V)}{vs:List (Key×ai)}(z:kvs.length<=sizeLine)(hd:(a == sysModules)=false)(rel:KV kvs vs)(dd:h'.DictOf (nW P w) a vs) :
    cI P w H' h' a (.dK kvs):=⟨z,hd,vs,rel,dd⟩
theorem UE{H':Hp}{Q:Unit->au->Prop}(hu:A.units+1<cLine)(I:Inv X pins σ H s)(g:eO H a y v H')(ry:RelV y u)(rv:RelV v r)(h:∀s',Inv X pins σ H' s'->Q () s') :
    wpAny (model X.prog X.w) A (setItem (.ref a) u r) Q E s:=by
  rcases g with ⟨kvs,k,e,ey,l,eH⟩ | ⟨kvs,k,b,e,ey,eb,l,eH⟩
  · subst ey eH;obtain⟨z,hd,vs,rel,dd⟩:=DH I.aZ e;have hz:vs.length<=sizeLine:=by rw[←rel.length];exact z
    have hl:(putK kvs k v).length<=sizeLine:=by have:=Gx kvs k v;lia
    refine wpAny_setItem_pairs (hsz:=hz) (yZ ry) dd fun h' p8 hs=>h _ ?_
    have he:∃q,h'.get? a=some q:=let ⟨q,_,_,hq,_⟩:=p8;⟨q,hq⟩
    exact AD I (by rw[e];exact True.intro) hs he (DI hl hd (rel.put k rv) p8)
  · subst ey eH;cases (show u=Value.ref b from ry);obtain⟨z,hd,xs,rel,dd⟩:=Nn I.aZ e;have hz:xs.length<=sizeLine:=by rw[←Paired.length rel];exact z
    have hl:(putK kvs k v).length<=sizeLine:=by have:=Gx kvs k v;lia
    refine wpAny_setItem_heap (hsz:=hz) (ni hu) (BZ I.aZ eb) dd fun h' p8 hs=>h _ ?_
    obtain⟨q,es,ep,hq,h2,h3,h4,_,h5⟩:=p8;refine AD I (by rw[e];exact True.intro) hs ⟨q,hq⟩ ⟨hl,hd,_,(rel.put k eb rv).keeps fun c ys ec=>?_,q,es,ep,hq,h2,h3,h4,h5⟩;rw[ze (jE ec e (fun z=>nomatch z))];exact ec
end
section
variable{X:Cx}{pins:aD}{σ:St}{H:Hp}{s:au}{a:ah}{kvs:List (Key×V)}{k:Key}{u:ai}{A:Around}{E:az}
theorem zz3{Q:Unit->au->Prop}(I:Inv X pins σ H s)(e:H a=some (.dK kvs))(ry:RelV (kV k) u)(l:(cT kvs k).isSome=true)(h:∀s',Inv X pins σ (upd H a (.dK (sC kvs k))) s'->Q () s') :
    wpAny (model X.prog X.w) A (delItem (.ref a) u) Q E s:=by
  obtain⟨z,hd,vs,rel,dd⟩:=DH I.aZ e;refine wpAny_delItem_slot dd.typeIs (by decide) PySem.F.slot_dict_delitem
    (call_meetsIn PySem.F.slot_dict_delitem dd.typeIs PySem.F.entry_dict_delitem (PySem.F.args_dict_delitem_2 _ _) (meets_dict_delitem_pairs (nW X.prog X.w) a (yZ ry)) ⟨vs,dd,by rw[←rel.length];exact z,by rw[←(rel.val k).fD];exact l,fun h' p8 hs=>h _ ?_⟩)
  have he:∃q,h'.get? a=some q:=let ⟨q,_,_,hq,_⟩:=p8;⟨q,hq⟩
  exact AD I (by rw[e];exact True.intro) hs he (DI (bH (Jx kvs k) z) hd (rel.drop k) p8)
theorem UG{v:V}{more:List ai}{Q:az}(I:Inv X pins σ H s)(e:H a=some (.dK kvs))(ry:RelV (kV k) u)(l:cT kvs k=some v)(hm:more = []\/∃x,more = [x])
    (h:∀w' s',Inv X pins σ (upd H a (.dK (sC kvs k))) s'->RelV v w'->Q w' s'):wpAny (model X.prog X.w) A (call (.builtin "dict.pop") (.ref a::u::more)) Q E s:=by
  obtain⟨z,hd,vs,rel,dd⟩:=DH I.aZ e;obtain⟨w',hw,iO⟩:=gQ.some_of (v:=v) (o:=valueAt vs k) (by rw[←l];exact rel.val k);have hp:(keyPart u).isSome=true:=by
    cases k with
    | inl i=>obtain⟨t,q⟩:=(show ∃t,u=Value.int i t from ry);subst q;rfl
    | inr x=>obtain⟨t,q⟩:=(show ∃t,u=Value.str x t from ry);subst q;rfl
  have ha:argsOk "dict.pop" ⟨.ref a::u::more,[]⟩:=by
    rcases hm with q | ⟨x,q⟩
    · subst q;exact PySem.F.args_dict_pop_2 _ _
    · subst q;exact PySem.F.args_dict_pop_3 _ _ _
  refine call_meetsIn PySem.F.slot_dict_pop dd.typeIs PySem.F.entry_dict_pop ha (meets_dict_pop_there (nW X.prog X.w) a (yZ ry) more hm hp)
    ⟨vs,w',dd,by rw[←rel.length];exact z,hw,fun h' p8 hs=>h w' _ ?_ iO⟩
  have he:∃q,h'.get? a=some q:=let ⟨q,_,_,hq,_⟩:=p8;⟨q,hq⟩
  exact AD I (by rw[e];exact True.intro) hs he (DI (bH (Jx kvs k) z) hd (rel.drop k) p8)
theorem Np{Q:az}(I:Inv X pins σ H s)(e:Rd H a (.dK kvs))(h:∀t s',Inv X pins σ H s'->Q (.int kvs.length t) s'):wpAny (model X.prog X.w) A (call (.builtin "len") [.ref a]) Q E s:=by
  obtain⟨z,hd,vs,rel,dd⟩:=wV I.aZ e;refine call_len_dict hd dd (by rw[←rel.length];rw[d8] at z;lia) ?_;rw[←rel.length];exact h _ _ (I.tok _)
end
def DJ(i:Expr):Prop:=∀ov iv,subscripted i false ov iv=operate [ov,iv] (getItem ov iv)
theorem UH{prog:aU}{w:World}{A:Around}{E:az}{s:au}{env:Env}{value slice:Expr}{pos:Pos}{T id:String}{Q:az}
    (hl:typeLookup (.type T) "__getitem__" = pure (some (.builtin id))) (hs:DJ slice)
    (h:wpAny (model prog w) A (eval value env) (fun o bD=>wpAny (model prog w) A (eval slice env) (fun i iL=>iL.TypeIs o T/\wpAny (model prog w) A (getItem o i) Q E iL) E bD) E s) :
    wpAny (model prog w) A (eval (.Subscript value slice pos) env) Q E s:=by
  refine Subscript_ (cA h (fun o bD c9=>cA c9 (fun i iL nO=>?_) fun _ _ x=>x) fun _ _ x=>x);obtain⟨hT,nO⟩:=nO;unfold subscriptTail;refine aj ?_;rw[getitemInPython_of_ne hT.not_modules];refine aj (wpAny_specialOf hT hl ?_);have fin:wpAny (model prog w) A (subscripted slice false o i) (fun r mh=>wpAny (model prog w) A (letTemporaryGo value o r >>= fun _=>pure r) Q E mh) E iL:=by
    rw[hs o i];exact wpAny_operating (cA nO (fun r mh xT=>aj (wpAny_letTemporaryGo (ay xT))) fun _ _ x=>x)
  first
    | exact ay (aj fin)
    | exact aj (ay (aj fin))
    | exact aj fin
theorem UI{X:Cx}{pins:aD}{σ:St}{H:Hp}{s:au}{a:ah}{y:V}{o:Option V}(I:Inv X pins σ H s)(g:ck H a y o):s.TypeIs (.ref a) "dict":=by
  rcases g with ⟨kvs,k,e,_,_⟩ | ⟨kvs,k,b,e,_,_,_⟩
  · obtain⟨_,_,vs,_,dd⟩:=wV I.aZ e;exact dd.typeIs
  · obtain⟨_,_,xs,_,dd⟩:=B0 I.aZ e;exact dd.typeIs
def UJ(td ty:TE):TE:=fun σ H Q=>td σ H fun x H1=>ty σ H1 fun y H2=>∃a v,x = .ref a/\ck H2 a y (some v)/\Q v H2
def JA(ty td:TE):TE:=fun σ H Q=>ty σ H fun y H1=>td σ H1 fun x H2=>∃a o,x = .ref a/\ck H2 a y o/\Q (.bl o.isSome) H2
def UK(ty td:TE):TE:=fun σ H Q=>ty σ H fun y H1=>td σ H1 fun x H2=>∃a o,x = .ref a/\ck H2 a y o/\Q (.bl (!o.isSome)) H2
def UL(td ty tv:TE):TS:=fun D σ H=>tv σ H fun v H1=>td σ H1 fun x H2=>ty σ H2 fun y H3=>∃a H4,x = .ref a/\eO H3 a y v H4/\D.nx σ H4
section
variable{X:Cx}{o i e value:Expr}{pos pos' Jl:Pos}{td ty tv:TE}
theorem g7(hu:X.A.units+1<cLine)(ho:PE X o td)(hi:PE X i ty)(hs:DJ i):PE X (.Subscript o i pos) (UJ td ty):=by
  intro pins s σ H Q I h;refine UH PySem.F.slot_dict_getitem.lookup hs (bK (ho pins s σ H _ I h) fun u s1 ⟨x,H1,I1,rx,q1⟩=>bK (hi pins s1 σ H1 _ I1 q1) fun iv s2 aQ=>?_);obtain⟨y,H2,I2,ry,a,v,ex,g,q2⟩:=aQ;subst ex;obtain rfl:u=Value.ref a:=rx;exact⟨UI I2 g,UC hu I2 g ry fun w' s3 I3 iO=>⟨v,H2,I3,iO,q2⟩⟩
theorem B8(hu:X.A.units+1<cLine)(hi:PE X i ty)(ho:PE X o td):PC X .In i o (JA ty td):=by
  intro pins s σ H Q I h;refine bK (hi pins s σ H _ I h) fun iv s1 ⟨y,H1,I1,ry,q1⟩=>bK (ho pins s1 σ H1 _ I1 q1) fun u s2 aQ=>?_
  obtain⟨x,H2,I2,rx,a,ov,ex,g,q2⟩:=aQ;subst ex;obtain rfl:u=Value.ref a:=rx;exact Jz hu I2 g ry fun s3 I3=>⟨.bl ov.isSome,H2,I3,rfl,q2⟩
theorem B9(hu:X.A.units+1<cLine)(hi:PE X i ty)(ho:PE X o td):PC X .NotIn i o (UK ty td):=by
  intro pins s σ H Q I h;refine bK (hi pins s σ H _ I h) fun iv s1 ⟨y,H1,I1,ry,q1⟩=>bK (ho pins s1 σ H1 _ I1 q1) fun u s2 aQ=>?_
  obtain⟨x,H2,I2,rx,a,ov,ex,g,q2⟩:=aQ;subst ex;obtain rfl:u=Value.ref a:=rx;exact UD hu I2 g ry fun s3 I3=>⟨.bl (!ov.isSome),H2,I3,rfl,q2⟩
theorem oq(hu:X.A.units+1<cLine)(ho:PE X o td)(hi:PE X i ty)(hv:PE X value tv)(hs:swapsWith value (some (.Subscript o i pos')) pos.line X.env=pure false) :
    PS X (.Assign [.Subscript o i pos'] value pos) (UL td ty tv):=by
  intro pins s σ H D I h;refine wpAny_Assign_Subscript (bK (hv pins s σ H _ I h) fun r s1 ⟨v,H1,I1,rv,q1⟩=>bK (ho pins s1 σ H1 _ I1 q1) fun u s2 ⟨x,H2,I2,rx,q2⟩=>bK (hi pins s2 σ H2 _ I2 q2) fun iv s3 aQ=>?_) hs;obtain⟨y,H3,I3,ry,a,H4,ex,g,q3⟩:=aQ;subst ex;obtain rfl:u=Value.ref a:=rx;exact UE hu I3 g ry rv fun s4 I4=>⟨σ,H4,I4,q3⟩
end
theorem UM{P:aU}{w:World}{H:Hp}(h:Heap)(hb:sysModules<h.objs.size):cI P w H (h.push { cls:=.type "dict",data:=.dict #[] }) h.objs.size (.dK []):=
  ⟨dH _,f9.mpr (aE (aX hb)),[],.nil,Heap.DictOf.new h⟩
theorem UN{P:aU}{w:World}{H:Hp}(h:Heap)(hb:sysModules<h.objs.size):cI P w H (h.push { cls:=.type "dict",data:=.dict #[] }) h.objs.size (.dT []):=
  ⟨dH _,f9.mpr (aE (aX hb)),[],.nil,_,#[],0,bF _ rfl,⟨rfl,rfl,rfl⟩,rfl,rfl,List.nodup_nil⟩
def UO:TE:=fun _ H Q=>∀p,H p=none->Q (.ref p) (upd H p (.dK []))
def UP:TE:=fun _ H Q=>∀p,H p=none->Q (.ref p) (upd H p (.dT []))
section
variable{X:Cx}{pos:Pos}
theorem ql:PE X (.Dict [] [] pos) UO:=fun pins s σ H Q I h=>
  wpAny_Dict_empty ⟨.ref s.heap.objs.size,_,I.laid (a:=s.heap.objs.size) (o:=.dK []) (t':=s.toks) (fun _ _ q=>aY _ q) (aG _) (UM s.heap I.big),rfl,h _ (I.aZ.fresh (aG _))⟩
theorem Nq:PE X (.Dict [] [] pos) UP:=fun pins s σ H Q I h=>
  wpAny_Dict_empty ⟨.ref s.heap.objs.size,_,I.laid (a:=s.heap.objs.size) (o:=.dT []) (t':=s.toks) (fun _ _ q=>aY _ q) (aG _) (UN s.heap I.big),rfl,h _ (I.aZ.fresh (aG _))⟩
end
def Ca(kvs more:List (Key×V)):List (Key×V):=more.foldl (fun acc kv=>putK acc kv.1 kv.2) kvs
theorem KV.merge:∀{more:List (Key×V)}{rs:List (Key×ai)}{kvs:List (Key×V)}{vs:List (Key×ai)},KV more rs->KV kvs vs->KV (Ca kvs more) (merged vs rs):=by
  intro more rs kvs vs r;unfold KV at r
  induction r generalizing kvs vs with
  | nil=>intro q;exact q
  | @cons p q ps qs h t ih=>
    intro r0;have e:KV (putK kvs p.1 p.2) (stored vs q.1 q.2):=by
      have:=r0.put p.1 h.2;rw[←h.1];exact this
    exact ih e
theorem Nr:∀(more kvs:List (Key×V)),(Ca kvs more).length<=kvs.length+more.length
  | [],kvs=>by show kvs.length<=kvs.length+0;lia
  | p::r,kvs=>by
    have h1:=Nr r (putK kvs p.1 p.2);have h2:=Gx kvs p.1 p.2;show(Ca (putK kvs p.1 p.2) r).length<=_;rw[fK];lia
structure M1(X:Cx)(o:Expr)(m:Str)(apos:Pos)(e:Expr)(bO:Pos):Prop where
  base:attributeBase o m X.env (eval o X.env)=eval o X.env
  Gy:((backTo bO (starEach [e] X.env)).all (fun x=>!x.1)&&(backToKw bO (keywordEach [] X.env)).all (fun x=>x.1.isSome)
    && decide (([e]:List Expr).length+([]:List Keyword).length+(if([]:List Keyword).isEmpty then 0 else 1)<30))=true
  line:(apos.endLine == bO.line)=true
  trees:backTo bO (starEach [e] X.env) = [(false,eval e X.env)]
structure M2(X:Cx)(o:Expr)(m:Str)(apos:Pos)(e f:Expr)(bO:Pos):Prop where
  base:attributeBase o m X.env (eval o X.env)=eval o X.env
  Gy:((backTo bO (starEach [e,f] X.env)).all (fun x=>!x.1)&&(backToKw bO (keywordEach [] X.env)).all (fun x=>x.1.isSome)
    && decide (([e,f]:List Expr).length+([]:List Keyword).length+(if([]:List Keyword).isEmpty then 0 else 1)<30))=true
  line:(apos.endLine == bO.line)=true
  trees:backTo bO (starEach [e,f] X.env) = [(false,eval e X.env),(false,eval f X.env)]
def Gz(H:Hp)(a:ah):Prop:=(∃kvs,Rd H a (.dK kvs))\/∃kvs,Rd H a (.dT kvs)
theorem JB{X:Cx}{pins:aD}{σ:St}{H:Hp}{s:au}{a:ah}(I:Inv X pins σ H s)(d:Gz H a) :
    s.TypeIs (.ref a) "dict"/\(∀b,Value.ref a = .ref b->∃ob,s.heap.get? b=some ob/\ob.dict=none)/\(a == sysModules)=false:=by
  rcases d with ⟨kvs,e⟩ | ⟨kvs,e⟩
  · obtain⟨_,hd,vs,_,dd⟩:=wV I.aZ e;refine⟨dd.typeIs,fun b q=>?_,hd⟩;cases q;obtain⟨ob,_,_,h1,h2,_⟩:=dd;exact⟨ob,h1,h2.2.1⟩
  · obtain⟨_,hd,xs,_,dd⟩:=B0 I.aZ e;refine⟨dd.typeIs,fun b q=>?_,hd⟩;cases q;obtain⟨ob,_,_,h1,h2,_⟩:=dd;exact⟨ob,h1,h2.2.1⟩
def UQ(td ty:TE):TE:=fun σ H Q=>td σ H fun x H1=>∃a,x = .ref a/\Gz H1 a/\ty σ H1 fun y H2=>∃kvs k v,H2 a=some (.dK kvs)/\y=kV k/\cT kvs k=some v/\Q v (upd H2 a (.dK (sC kvs k)))
section
variable{X:Cx}{o e f:Expr}{apos bO:Pos}{td ty tx:TE}
theorem Nt(ho:PE X o td)(he:PE X e ty)(m:M1 X o "pop" apos e bO):PE X (.Call (.Attribute o "pop" apos) [e] [] bO) (UQ td ty):=by
  intro pins s σ H Q I h;refine wpAny_Call_method m.base m.Gy m.line PySem.F.plainAttrs_dict PySem.F.slot_dict_pop PySem.F.type_dict_pop (bK (ho pins s σ H _ I h) fun u s1 aQ=>?_);obtain⟨x,H1,I1,rx,a,ex,d,q1⟩:=aQ;subst ex;obtain rfl:u=Value.ref a:=rx;obtain⟨t1,t2,_⟩:=JB I1 d;refine⟨t1,t2,?_⟩;rw[m.trees];refine oJ rfl (kU (Calls.spliced_cons (bK (he pins s1 σ H1 _ I1 q1) fun iv s2 ⟨y,H2,I2,ry,kvs,k,v,ea,ey,l,q2⟩=>Calls.spliced_nil ?_)));subst ey;exact UG I2 ea ry l (.inl rfl) fun w' s3 I3 iO=>⟨v,_,I3,iO,q2⟩
end
end L2
namespace Nu
open PySem PySem.W PySem.Calls PyProof.Rows
theorem UR{P:Params}{h:Heap}:∀(ns:List Int)(vs:List ai),WellAll P h vs (ns.map WData.int)->IntsAre vs ns:=by
  intro ns
  induction ns with
  | nil=>
    intro vs w;rw[pM] at w;cases w;exact .nil
  | cons n ns ih=>
    intro vs w;rw[cE] at w;cases w with
    | cons a b=>
      cases a;exact .cons _ _ (ih _ b)
theorem US{l:OpenLaw}{n:Nat}(hn:l.most=some n){P:Params}{h:Heap}{args:List WData}{vals:List ai}
    (xU:l.row.toRowW.claim.pre args=true) (JC:WellAll P h vals args) :
    ∃a vs ns,vals = [Value.ref a]/\args = [WData.list (ns.map WData.int)]/\h.get? a=some { cls:=.type "list",data:=.seq vs.toArray }/\IntsAre vs ns/\ns.length<=n:=by
  have UT:WShape.hasAll [] args [.list .int]=true:=(pre_splitW xU).1;have hc:l.pre.holds [] { args:=args } = true:=(pre_splitW xU).2;obtain⟨d,r,rfl,h1,h2⟩:=hasAllW_cons UT;obtain rfl:=hasAllW_nil h2;obtain⟨xs,rfl,h3⟩:=hasW_list h1;obtain⟨ns,rfl⟩:=items_int h3;have hlen:ns.length<=n:=by
    unfold OpenLaw.pre at hc;have h4:(WTm.not (.lt (.lit (.int (n:Int))) (.len (.arg 0)))).holds [] { args:=[.list (ns.map .int)] } = true:=by
      have h4:=(holds_andW hc).1;rw[hn] at h4;exact h4
    have h5:=condW_of h4 (w_not (w_lt w_lit (w_len_list (w_arg rfl))));rw[aq] at h5;refine nv fun q=>?_
    have q':(n:Int)<((ns.length:Nat):Int):=by lia
    first
      | (rw[aP q'] at h5;exact absurd h5 (by decide))
      | (simp at h5;lia)
  cases JC with
  | cons w1 w2=>
    cases w2;cases w1 with
    | list ho JD=>exact⟨_,_,ns,rfl,rfl,ho,UR ns _ JD,hlen⟩
theorem UU(l:OpenLaw)(args:List WData):l.row.toRowW.claim.post args (.bool true) args=true:=
  postW_of (r:=l.row.toRowW) (X:=(true == true))
    (show WShape.has [] (.bool true) .bool=true by first | rfl | decide | simp[WShape.has,WShape.arms,WShape.armsAll])
    (show(WTm.eq .res (.lit (.bool true))).value [] { args:=args,res:=some (.bool true),after:=args } = some (.bool (true == true)) from w_eq_bool (w_res rfl) w_lit) rfl
theorem qo{l:OpenLaw}{n:Nat}{q:aU}{loose:List Str}{XP:(Str->Option ai)->Heap->Prop}{YP:World->Heap->Prop}{d:DefRec}
    (hn:l.most=some n) (uQ:d.params.defaults = [])
    (call:∀(w:World)(cY bD:au)(mg mb:Str->Option ai)(fa:ah)(o:Obj)(pm cd doc:ai)(a:ah)(vs:List ai)(ns:List Int),
      Ground q loose [] XP w cY mg mb bD.heap->YP w bD.heap->
      bD.heap.get? fa=some o->o.data = .func (docDef d.name d.params d.body d.scope pm cd doc)->bD.heap.CodeRec cd d.name->mg d.name=some (.ref fa)->
      bD.heap.get? a=some { cls:=.type "list",data:=.seq vs.toArray }->IntsAre vs ns->ns.length<=n->bD.gens = #[]->
      codeAny (model l.prog w) callerA (.call (.ref fa) ⟨[.ref a],[]⟩) (fun r s'=>r = .ok (.ret (.bool true))/\OldK bD.heap s'.heap/\s'.os=bD.os/\AllBare s'.gens) bD) :
    WalkO q loose XP YP l.row.toRowW d [] (fun f vs=>PySem.call f vs):=by
  intro w cY bD mg mb G Y fa o pm cd doc dV kV ho hd qh hD Cb hg args vals as xU UW hrd JC hlo;obtain rfl:dV = .none:=Dflts.none hD uQ;obtain rfl:kV = .none:=Dflts.noKw hD;obtain⟨a,vs,ns,rfl,rfl,AE,hints,hlen⟩:=US hn xU JC;refine enter_call (ia (call w cY bD mg mb fa o pm cd doc a vs ns G Y ho (fd_plain hd) qh Cb AE hints hlen hg) fun r s' hq=>?_);obtain⟨rfl,h2,h3,h4⟩:=hq;exact⟨.inl ⟨.bool true,.bool true,[],rfl,fun _=>rfl,.bool true,UU l _,fun _=>⟨List.Pairwise.nil,fun _ hm=>(nomatch hm)⟩⟩,h2,h3,h4⟩
end Nu
namespace L2
open PySem PySem.Spec PyProof.Rows
theorem Nv:∀{vs:List ai}{ns:List Int},IntsAre vs ns->Vals (ns.map V.int) vs
  | _,_,.nil=>.nil
  | _,_,.cons n t h=>.cons ⟨t,rfl⟩ (Nv h)
def xV(H:Hp):Prop:=∀b,H b=none\/∃o xs,H b=some (.dw o (.lst xs))
theorem UX{P:aU}{w:World}{K:aF}{mg mb:Str->Option ai}{CX:qG}{k:Nat}{fa a:ah}{fd:FuncData}{x:Str}{sp:Sp}{bD:au}{vs:List ai}{ns:List Int}
    (KX:K.In bD.heap) (GA:bD.heap.Ns mainGlobals mg) (hb:bD.heap.Ns builtinsNs mb) (UY:∀x:Str,x≠"__name__"->mb x=bootBuiltins x) (JE:bD.heap.NoLimit) (hg:bD.gens = #[])
    (ha:bD.heap.get? a=some { cls:=.type "list",data:=.seq vs.toArray }) (hi:IntsAre vs ns) (hl:ns.length<=sizeLine) (hr:cD k callerA)
    (F:∀base:Heap,K.In base->base.Ns mainGlobals mg->jq P w K mg base CX k fa fd [x] sp) (DK:∀(s:au)(u:ai),BindsTo s fd ⟨[u],[]⟩ [(x,u)])
    (rq:∀H:Hp,xV H->aH K H a (ns.map V.int)->sp [.ref a] H (fun v _=>v = .bl true) fun _ _ _=>False)
    (DL:∀H e s',CX [] H bD (fun _ _ _=>False) e s'->False) :
    codeAny (model P w) callerA (.call (.ref fa) ⟨[.ref a],[]⟩) (fun r s'=>r = .ok (.ret (.bool true))/\OldK bD.heap s'.heap/\s'.os=bD.os/\AllBare s'.gens) bD:=by
  have rv:=Nv hi;have JF:=hi.length;have core:∀H:Hp,xV H->aH K H a (ns.map V.int)->jF P w H bD.heap->(∀b,H b≠none->b=a)->(H a≠none->K.lookup a=none)->
      codeAny (model P w) callerA (.call (.ref fa) ⟨[.ref a],[]⟩) (fun r s'=>r = .ok (.ret (.bool true))/\OldK bD.heap s'.heap/\s'.os=bD.os/\AllBare s'.gens) bD:=by
    intro H hO hS aZ hA hK;have sF:∀{b:ah}{o:Obj},bD.heap.get? b=some o->H b=none->(pN bD.heap H).get? b=some o:=fun e n=>Ss e n
    have Dl:∀{b:ah}{o:Obj}{es:Array DictEntry}{ep:Nat},bD.heap.get? b=some o->o.data = .dict es ep->H b=none:=fun{b o es ep}e d=>by
      cases q:H b with
      | none=>rfl
      | some u=>
        have e':b=a:=hA b (by rw[q];simp);subst e';rw[ha] at e;cases e;have d':Data.seq vs.toArray _=Data.dict es ep:=d;cases d'
    have GB:∀{b:ah}{m:Str->Option ai},bD.heap.Ns b m->(pN bD.heap H).Ns b m:=fun{b m} ⟨o,es,ep,e,d,r⟩=>⟨o,es,ep,sF e (Dl e d),d,r⟩
    have Nx:K.In (pN bD.heap H):=fun b o e=>sF (KX b o e) (by
      cases q:H b with
      | none=>rfl
      | some u=>
        have e':b=a:=hA b (by rw[q];simp);subst e';rw[hK (by rw[q];simp)] at e;cases e)
    have hM:Mod K mg (pN bD.heap H):=⟨Nx,GB GA,⟨mb,GB hb,UY⟩,let ⟨mc,h1,h2⟩:=JE;⟨mc,GB h1,h2⟩⟩;have e0:rm P w K mg (pN bD.heap H) callerA [] bD H:=⟨rfl,hM,fun b o e=>Su e,Nat.le_of_eq (Sq _ _),trivial,fun b hb=>absurd (show b∈([]:List ah) from hb) (by simp),aZ,.of_eq hg⟩;refine ia ((F _ Nx (GB GA)).run callerA [] bD H ⟨[.ref a],[]⟩ [.ref a] [.ref a] _ _ hr e0 (DK bD (.ref a)) (.cons rfl .nil) (rq H hO hS)) fun r s' h=>?_
    cases r with
    | error e=>exact(DL H e s' h).elim
    | ok fl=>
      cases fl with
      | next=>exact False.elim h
      | brk=>exact False.elim h
      | cont=>exact False.elim h
      | ret u=>
        obtain⟨v,H',os,bare,un,AF,r',q⟩:=h;have q':v = .bl true:=q;subst q';obtain rfl:u=Value.bool true:=r';refine⟨rfl,OldK.of_keep fun b o e=>?_,os,bare⟩;cases q:H b with
        | none=>exact un.keep b o e q (by intro z;exact absurd (show b∈([]:List ah) from z) (by simp)) (by simp)
        | some u=>
          rcases hO b with z | ⟨ob,xs,z⟩
          · rw[q] at z;cases z
          · have z2:=un.kg b ob _ z;obtain⟨e1,_⟩:=aZ b _ z;obtain⟨e2,_⟩:=AF b _ z2;rw[e] at e1;cases e1;exact e2
  cases hk:K.lookup a with
  | some o=>
    have e:=KX a o hk;rw[ha] at e;cases e;refine core (fun _=>none) (fun _=>.inl rfl) (.inr ⟨_,vs.toArray,_,hk,rfl,rfl,rfl,by rw[br,JF];exact hl,by simpa using rv⟩) (fun b u z=>by have z':(none:Option HO)=some u:=z;cases z') (fun b z=>absurd rfl z) fun z=>absurd rfl z
  | none=>
    refine core (fun b=>if b=a then some (.dw { cls:=.type "list",data:=.seq vs.toArray } (.lst (ns.map V.int))) else none) (fun b=>?_) (.inl (.inr ⟨{ cls:=.type "list",data:=.seq vs.toArray },av rfl⟩)) (fun b u z=>?_) (fun b z=>?_) fun _=>hk
    · by_cases hb:b=a
      · exact .inr ⟨_,_,av hb⟩
      · exact .inl (ao hb)
    · by_cases hb:b=a
      · have z':=(av hb).symm.trans z;cases z';subst hb;exact⟨ha,by rw[aq];exact hl,vs,_,rv,ha⟩
      · have z':=(ao hb).symm.trans z;cases z'
    · by_cases hb:b=a
      · exact hb
      · exact absurd (ao hb) z
abbrev Ny{K:aF}{h:Heap}(_:K.In h):aF:=K
theorem UZ{l:PySem.W.OpenLaw}{n k:Nat}{q:aU}{loose:List Str}{XP:(Str->Option ai)->Heap->Prop}{YP:World->Heap->Prop}{d:DefRec}{K:Params->aF}{CX:World->qG}{sp:World->Sp}{x:Str}
    (hn:l.most=some n) (uO:n<=sizeLine) (uQ:d.params.defaults = []) (hr:cD k callerA)
    (hY:∀(w:World)(h:Heap),YP w h->(K w.params).In h)
    (F:∀(w:World)(mg:Str->Option ai)(fa:ah)(h:Heap),(K w.params).In h->h.Ns mainGlobals mg->mg d.name=some (.ref fa)->
      ∃fd:FuncData,(∀(s:au)(u:ai),BindsTo s fd ⟨[u],[]⟩ [(x,u)])/\
        ∀base:Heap,(K w.params).In base->base.Ns mainGlobals mg->jq l.prog w (K w.params) mg base (CX w) k fa fd [x] (sp w))
    (rq:∀(w:World)(H:Hp)(a:ah)(ns:List Int),ns.length<=n->xV H->aH (K w.params) H a (ns.map V.int)->sp w [.ref a] H (fun v _=>v = .bl true) fun _ _ _=>False)
    (DL:∀(w:World)(H:Hp)(s:au)(e:ai)(s':au),CX w [] H s (fun _ _ _=>False) e s'->False) :
    PySem.W.WalkO q loose XP YP l.row.toRowW d [] (fun f vs=>PySem.call f vs):=by
  refine Nu.qo hn uQ fun w cY bD mg mb fa o pm cd doc a vs ns G Y ho hd qh Cb AE hints hlen hg=>?_
  have KX:=hY w _ Y;obtain⟨fd,hb,hF⟩:=F w mg fa _ KX G.T.g Cb;exact UX KX G.T.g G.T.b G.T.builtins G.T.nolimit hg AE hints (bH hlen uO) hr hF hb (fun H hO hS=>rq w H a ns hlen hO hS) fun H e s'=>DL w H bD e s'
theorem vn{l:PySem.W.OpenLaw}{n k:Nat}{q:aU}{loose:List Str}{XP:(Str->Option ai)->Heap->Prop}{YP:World->Heap->Prop}{d:DefRec}{K:Params->aF}{CX:qG}{sp:aF->Sp}{x:Str}
    (hn:l.most=some n) (uO:n<=sizeLine) (uQ:d.params.defaults = []) (hr:cD k callerA)
    (hY:∀(w:World)(h:Heap),YP w h->(K w.params).In h)
    (F:∀(w:World)(mg:Str->Option ai)(fa:ah)(h:Heap),(K w.params).In h->h.Ns mainGlobals mg->mg d.name=some (.ref fa)->
      ∃fd:FuncData,(∀(s:au)(u:ai),BindsTo s fd ⟨[u],[]⟩ [(x,u)])/\
        ∀base:Heap,(K w.params).In base->base.Ns mainGlobals mg->jq l.prog w (K w.params) mg base CX k fa fd [x] (sp (K w.params)))
    (rq:∀(K:aF)(H:Hp)(a:ah)(ns:List Int),ns.length<=n->xV H->aH K H a (ns.map V.int)->sp K [.ref a] H (fun v _=>v = .bl true) fun _ _ _=>False)
    (DL:∀(H:Hp)(s:au)(e:ai)(s':au),CX [] H s (fun _ _ _=>False) e s'->False) :
    PySem.W.WalkO q loose XP YP l.row.toRowW d [] (fun f vs=>PySem.call f vs):=
  UZ (K:=K) (CX:=fun _=>CX) (sp:=fun w=>sp (K w.params)) hn uO uQ hr hY F (fun w H a ns h1 h2 h3=>rq (K w.params) H a ns h1 h2 h3) fun _ H s e s'=>DL H s e s'
def j5(s:Stmt)(j:Nat):Stmt:=match s with
  | .ClassDef _ _ _ body _ _ _ _ _ _ _=>body.getD j (.Pass ⟨0,0,0,0⟩)
  | _=>.Pass ⟨0,0,0,0⟩
def AG(s:Stmt):Arguments:=match s with
  | .FunctionDef _ a _ _ _ _ _ _ _ _=>a
  | _=>{ posonlyargs:=[],args:=[],vararg:=none,kwonlyargs:=[],kw_defaults:=[],kwarg:=none,defaults:=[] }
def tG(s:Stmt):List Stmt:=match s with
  | .FunctionDef _ _ b _ _ _ _ _ _ _=>b
  | _=>[]
def zm(s:Stmt):Scope:=match s with
  | .FunctionDef _ _ _ _ _ _ sc _ _ _=>sc
  | _=>{ kind:=.function,names:=[],isGenerator:=false,isCoroutine:=false }
abbrev oN:qG:=fun _ _ _ _ _ _=>False
abbrev E0:XK:=fun _ _ _=>False
theorem GC{X:Cx}:xN oN X E0:=fun _ _ _ _ _ _ _ h=>h.elim
structure DM(K:aF)(x qual:Str)(st:Stmt)(f:ah)(fd:FuncData):Prop where
  ex:∃(oc:ai)(od:Option ah)(kV doc pm:ai)(an:Option ah)(bY ct:ai)(l9:Array (Option ai)),
    fd=PySem.W.fnOf x qual (AG st) (tG st) (zm st) .none kV doc pm an bY ct/\K.lookup f=some ⟨oc,od,.func fd,l9⟩/\PySem.W.codeIn K bY qual=true
  kp:PySem.W.keepIn K (.ref f)=true
section
variable{P:aU}{w:World}{K:aF}{mg:Str->Option ai}{base:Heap}
theorem DM.ok{x qual:Str}{st:Stmt}{f:ah}{fd:FuncData}{N ps:List Str}{k:Nat}{sp:Sp}(F:DM K x qual st f fd)(S:aC N ps (zm st))(len:∀vs H Q E,sp vs H Q E->vs.length=ps.length)
    (kr:∀(bY:ai)(A:Around)(outer:List Env)(s:au)(H:Hp)(vs:List V)(Q:VK)(E:XK),cD k (A.deeper (envOfC qual (zm st) s.heap.objs.size f bY))->sp vs H Q E->
      ∃t,pO (nI oN P w K mg base N qual (zm st) f bY A outer s H E).Ah (tG st) t/\t { nx:=fun _ H'=>Q .cu H',rt:=Q } (start N vs) H):jq P w K mg base oN (k+1) f fd ps sp:=by
  obtain⟨oc,od,kV,doc,pm,an,bY,ct,l9,rfl,lk,qh⟩:=F.ex;refine M6 lk qh S len fun A outer s H vs Q E hr rq=>?_
  obtain⟨t,h,q⟩:=kr bY A outer s H vs Q E hr rq;exact⟨t,h.Ah,q⟩
theorem Nz{x qual:Str}{st:Stmt}{f:ah}{oc:ai}{od an:Option ah}{l9:Array (Option ai)}{kV doc pm bY ct:ai}(l:K.lookup f=some ⟨oc,od,.func (PySem.W.fnOf x qual (AG st) (tG st) (zm st) .none kV doc pm an bY ct),l9⟩)
    (c:PySem.W.codeIn K bY qual=true) (k:PySem.W.keepIn K (.ref f)=true):DM K x qual st f (PySem.W.fnOf x qual (AG st) (tG st) (zm st) .none kV doc pm an bY ct):=⟨⟨oc,od,kV,doc,pm,an,bY,ct,l9,rfl,l,c⟩,k⟩
end
theorem kC{A:Around}{k:Nat}(hr:cD k A):A.units+1<cLine:=jM (Nat.add_le_add_left (by decide:1<=64) _) hr.units
theorem jr{n:Nat}(h:n<=1000):n<sizeLine:=jM h (by decide)
section
variable{X:Cx}
theorem pv(i:Nat){x:Str}{pos:Pos}(hN:X.N[i]? = some x:=by rfl)(hv:Iz X.env.scope x:=by first | exact Or.inl rfl | exact Or.inr (Or.inl rfl) | exact Or.inr (Or.inr rfl))(hd:(x == ("__debug__" : Str))=false:=by decide)
    (qh:(x == ("__classdict__" : Str))=false:=by decide):PE X (.Name x pos) (CZ i):=Sx hN hv hd qh
end
theorem fj{A B:Prop}(h:B):if false=true then A else B:=by
  rw[ao bJ];exact h
theorem lO{A B:Prop}(h:A):if true=true then A else B:=by
  rw[av rfl];exact h
theorem cM{c A B:Prop}[Decidable c](h1:c->A)(h2:¬c->B):if c then A else B:=by
  by_cases h:c
  · rw[av h];exact h1 h
  · rw[ao h];exact h2 h
def ak(H H':Hp):Prop:=∀b o,H b=some o->H' b=some o
theorem ak.refl(H:Hp):ak H H:=fun _ _ h=>h
theorem ak.trans{H H1 H2:Hp}(a:ak H H1)(b:ak H1 H2):ak H H2:=fun c o h=>b c o (a c o h)
theorem ak.free{H H':Hp}(e:ak H H'){l:ah}(h:H' l=Option.none):H l=Option.none:=by
  cases q:H l with
  | none=>rfl
  | some o=>
    rw[e l o q] at h;cases h
theorem ak.seq{K:aF}{H H':Hp}{a:ah}{xs:List V}(e:ak H H')(h:aH K H a xs):aH K H' a xs:=by
  rcases h with (h | ⟨o,h⟩) | h
  · exact .inl (.inl (e _ _ h))
  · exact .inl (.inr ⟨o,e _ _ h⟩)
  · exact .inr h
section
variable{X:Cx}
theorem NB:om X (.builtin "len") (fun xs H Q=>∃a kvs,xs = [V.ref a]/\H a=some (.dK kvs)/\Q (.int kvs.length) H):=by
  intro pins s σ H xs us Q I r h;obtain⟨a,kvs,rfl,ha,q⟩:=h;obtain⟨u,rfl,ru⟩:=pZ r;cases ru;exact Np I (.inl ha) fun t s' I'=>⟨.int kvs.length,H,I',⟨t,rfl⟩,q⟩
end
def mE(cells:List (Str×ah)):List (Str×NameKind)->List (Str×ah)->List (Str×ah)
  | [],cs=>cs
  | (n,k)::r,cs=>mE cells r (if(k == NameKind.free)=true then(match cells.lookup n with | some c=>(n,c)::cs | none=>cs) else cs)
theorem NC{scope:Scope}{env:Env}(h:∀x∈scope.names,x.2 = .free->∃c,env.cells.lookup x.1=some c):closureFor scope env=pure (mE env.cells scope.names []):=by
  unfold closureFor;have go:∀(names:List (Str×NameKind))(cs:List (Str×ah)),(∀x∈names,x.2 = .free->∃c,env.cells.lookup x.1=some c)->
      (forIn names cs (fun(x:Str×NameKind)(r:List (Str×ah))=>if(x.2 == NameKind.free)=true then(do let a ←cellOf env x.1;pure (ForInStep.yield ((x.1,a)::r))) else pure (ForInStep.yield r)):Sem (List (Str×ah)))=pure (mE env.cells names cs):=by
    intro names
    induction names with
    | nil=>intro cs _;rfl
    | cons x r ih=>
      intro cs hc;obtain⟨n,k⟩:=x;have hr:∀y∈r,y.2 = .free->∃c,env.cells.lookup y.1=some c:=fun y hy=>hc y (bE _ hy)
      rw[lG];cases e:(k == NameKind.free) with
      | true=>
        obtain⟨c,hl⟩:=hc (n,k) e8 (by simpa using e);have gz:env.cells.lookup n=some c:=hl;have ec:cellOf env n=pure c:=by unfold cellOf;rw[gz]
        show(_ >>= _)=pure (mE env.cells r (if(k == NameKind.free)=true then _ else _));rw[e,gz];simp only[if_true,ec,pure_bind];exact ih _ hr
      | false=>
        show(_ >>= _)=pure (mE env.cells r (if(k == NameKind.free)=true then _ else _));rw[e];simp only[iS,c8,pure_bind];exact ih _ hr
  exact(bQ (· >>= fun r=>pure r) (go scope.names [] h)).trans (pure_bind _ _)
theorem Cc{α:Type}{y n:Str}{c:α}{r:List (Str×α)}(h:y=n):((n,c)::r).lookup y=some c:=by
  subst h;simp
theorem vo{α:Type}{y n:Str}{c:α}{r:List (Str×α)}(h:¬y=n):((n,c)::r).lookup y=r.lookup y:=by
  rw[List.lookup_cons,f9.mpr h]
theorem ND{cells:List (Str×ah)}{n:Str}{k:NameKind}{cs:List (Str×ah)}(hs:∀y d,cs.lookup y=some d->cells.lookup y=some d) :
    ∀y d,(if(k == NameKind.free)=true then(match cells.lookup n with | some c=>(n,c)::cs | none=>cs) else cs).lookup y=some d->cells.lookup y=some d:=by
  intro y d h;split at h
  · split at h
    · rename_i c hc
      by_cases hy:y=n
      · rw[Cc hy] at h;rw[hy,hc];exact h
      · rw[vo hy] at h;exact hs y d h
    · exact hs y d h
  · exact hs y d h
theorem DN(cells:List (Str×ah)):∀(names:List (Str×NameKind))(cs:List (Str×ah)),(∀y d,cs.lookup y=some d->cells.lookup y=some d)->
    ∀y d,(mE cells names cs).lookup y=some d->cells.lookup y=some d
  | [],_,hs,y,d,h=>hs y d h
  | (n,k)::r,cs,hs,y,d,h=>DN cells r _ (ND hs) y d h
theorem JG(cells:List (Str×ah)){x:Str}{c:ah}(hc:cells.lookup x=some c):∀(names:List (Str×NameKind))(cs:List (Str×ah)),(∀y d,cs.lookup y=some d->cells.lookup y=some d)->
    ((x,NameKind.free)∈names\/cs.lookup x=some c)->(mE cells names cs).lookup x=some c
  | [],_,_,h=>by
    rcases h with h | h
    · cases h
    · exact h
  | (n,k)::r,cs,hs,h=>by
    refine JG cells hc r _ (ND hs) ?_
    by_cases hx:(x,NameKind.free)=(n,k)
    · cases hx
      right
      rw[av (by rfl),hc];exact Cc rfl
    · rcases h with h | h
      · rcases aO.mp h with h | h
        · exact absurd h hx
        · exact .inl h
      · right
        split
        · split
          · rename_i c' Ag
            by_cases hn:x=n
            · rw[Cc hn];rw[hn,Ag] at hc;exact hc
            · rw[vo hn];exact h
          · exact h
        · exact h
theorem DO(env:Env)(x:Str):∀names:List (Str×NameKind),
    (names.map fun(n,k)=>if(k == NameKind.free&&env.scope.kind == .function&&env.kindOf n == some .cell) then(n,NameKind.cell) else(n,k)).lookup x =
      (names.lookup x).map fun k=>if(k == NameKind.free&&env.scope.kind == .function&&env.kindOf x == some .cell) then NameKind.cell else k
  | []=>rfl
  | (n,k)::r=>by
    have ih:=DO env x r;rw[cE]
    by_cases hx:x=n
    · subst hx;rw[Cc rfl];show List.lookup x ((if(k == NameKind.free&&env.scope.kind == .function&&env.kindOf x == some .cell)=true then(x,NameKind.cell) else(x,k))::_)=some (if(k == NameKind.free&&env.scope.kind == .function&&env.kindOf x == some .cell)=true then NameKind.cell else k)
      by_cases hc:(k == NameKind.free&&env.scope.kind == .function&&env.kindOf x == some .cell)=true
      · rw[av hc,av hc];exact Cc rfl
      · rw[ao hc,ao hc];exact Cc rfl
    · rw[vo hx,←ih];show List.lookup x ((if(k == NameKind.free&&env.scope.kind == .function&&env.kindOf n == some .cell)=true then(n,NameKind.cell) else(n,k))::_)=_
      by_cases hc:(k == NameKind.free&&env.scope.kind == .function&&env.kindOf n == some .cell)=true
      · rw[av hc];exact vo hx
      · rw[ao hc];exact vo hx
theorem JH{scope:Scope}{env:Env}{x:Str}(h:scope.names.lookup x=some .free):(relabel scope env).names.lookup x=some .cell\/(relabel scope env).names.lookup x=some .free:=by
  have e:=DO env x scope.names;rw[h] at e;have e':(relabel scope env).names.lookup x=some (if(NameKind.free == NameKind.free&&env.scope.kind == .function&&env.kindOf x == some .cell)=true then NameKind.cell else NameKind.free):=e;rw[e'];split
  · exact .inl rfl
  · exact .inr rfl
theorem U1{scope:Scope}{env:Env}{x:Str}(nc:∀y∈scope.names,y.2≠.cell)(h:(relabel scope env).names.lookup x=some .cell\/(relabel scope env).names.lookup x=some .free):(x,NameKind.free)∈scope.names:=by
  have e:=DO env x scope.names;have e':(relabel scope env).names.lookup x=_:=e;cases q:scope.names.lookup x with
  | none=>
    rw[q] at e';rw[e'] at h;rcases h with h | h<;>cases h
  | some k=>
    rw[q] at e';have m:=PySem.mem_of_lookup q;cases k with
    | free=>exact m
    | cell=>exact absurd rfl (nc _ m)
    | _=>
      rw[e'] at h;rcases h with h | h<;>cases h
structure d9(scope gA:Scope)(cap:List Str):Prop where
  kind:scope.kind = .function
  vp:∀y∈scope.names,y.2≠.cell
  loc:∀y∈scope.names,y.2 = .local->scope.names.lookup y.1=some .local
  free:∀y∈scope.names,y.2 = .free->gA.names.lookup y.1=some .cell\/gA.names.lookup y.1=some .free
  cap:∀x∈cap,scope.names.lookup x=some .free
def p9(X:Cx)(N:List Str)(scope:Scope)(C:ah)(s:au)(H:Hp)(ex:List ah):Cx where
  prog:=X.prog
  w:=X.w
  K:=X.K
  mg:=X.mg
  base:=X.base
  A:=X.A
  N:=N
  cY:=s
  nE:=H
  env:=compEnvC scope (mE X.env.cells scope.names []) C X.env
  outer:=X.stack
  stack:=X.stack
  ex:=ex
  fn:=fun _=>false
  calm:=X.calm
  pn:=[]
  xe:=fun _ _=>False
def rC(own:List Str)(ix:List Nat)(σ:St):St:=own.map (fun _=>none)++ix.map fun i=>(σ[i]?).join
theorem NF{X:Cx}{pins:aD}{σ:St}{H:Hp}{s:au}{scope:Scope}{cap:List Str}(I:Inv X pins σ H s)(S:d9 scope X.env.scope cap) :
    closureFor scope X.env=pure (mE X.env.cells scope.names []):=
  NC fun x hx hf=>I.ok.has x.1 (S.free x hx hf)
theorem U3{X:Cx}{pins:aD}{σ:St}{H:Hp}{s:au}{scope:Scope}{own cap:List Str}{ix:List Nat}{fp:List ah}{c9:Heap}{m:Str->Option ai}{tk:Nat}
    (I:Inv X pins σ H s) (S:d9 scope X.env.scope cap) (c6:ix.map (fun i=>X.N[i]?)=cap.map some) (hf:∀b∈fp,fX X pins H b) (dz:∀b∈fp,b<s.heap.objs.size)
    (hn:c9.Ns s.heap.objs.size m) (hk:∀b o,s.heap.get? b=some o->c9.get? b=some o) :
    Inv (p9 X (own++cap) scope s.heap.objs.size s H fp) [] (rC own ix σ) H { s with heap:=c9,toks:=tk }:=by
  have sub:∀y d,(mE X.env.cells scope.names []).lookup y=some d->X.env.cells.lookup y=some d:=DN _ _ _ (fun y d h=>by cases h);have has:∀y c,(y,NameKind.free)∈scope.names->X.env.cells.lookup y=some c->(mE X.env.cells scope.names []).lookup y=some c:=fun y c hy hc=>JG _ hc _ _ (fun y d h=>by cases h) (.inl hy)
  have hlen:ix.length=cap.length:=by
    have:=bQ List.length c6;simpa using this
  refine⟨⟨I.mod,S.kind,I.ok.glob,I.ok.blt,aG _,fun x y c e1 e2=>I.ok.inj x y c (sub _ _ e1) (sub _ _ e2),fun x hx=>?_,fun x c z=>(by cases z),I.ok.hd,I.ok.frames,.inl rfl,fun b hb=>⟨aX (dz b hb),fun x c e=>(hf b hb).2.2.2.2.1 x c (sub _ _ e)⟩,I.bs,
      bH I.ok.sX I.sz,fun b o e hb=>?_,fun b hb z=>?_,I.stack,I.ki⟩,rfl,I.bare,Un.kept hk,⟨m,hn,fun i x v e1 e2 e3=>?_⟩,fun x c e=>?_,I.aZ.fresh (aG _),fun x c e=>I.e9 x c (sub _ _ e),fun p hp=>absurd (show p∈([]:aD) from hp) (by simp),I.aZ.kept hk,?_⟩
  · have m':=U1 (env:=X.env) S.vp hx;obtain⟨c,hc⟩:=I.ok.has x (S.free _ m' rfl);exact⟨c,has x c m' hc⟩
  · obtain⟨f0,f1,f2,f3,f4,f5⟩:=hf b hb;rcases f3 with z | z
    · exact I.ok.qe b o e z
    · exact absurd (dS (dS (aJ e) I.ok.sX) z) (dW _)
  · obtain⟨f0,f1,f2,f3,f4,f5⟩:=hf b hb;rcases aO.mp (I.lK b z) with z | z
    · exact f1 z
    · exact f2 z
  · have e1:(own++cap)[i]? = some x:=e1;unfold rC at e2
    by_cases hi:i<own.length
    · rw[mR (by simpa using hi),aN] at e2;cases q:own[i]? with
      | none=>rw[q] at e2;cases e2
      | some y=>rw[q] at e2;cases e2
    · rw[mQ (by simpa using hi)] at e1;rw[mQ (by simpa using hi),aq,aN] at e2;generalize i-own.length=j at e1 e2;cases q:ix[j]? with
      | none=>rw[q] at e2;cases e2
      | some k=>
        rw[q] at e2;have e2:(σ[k]?).join=some v:=bW e2;have JI:σ[k]? = some (some v):=by
          cases q2:σ[k]? with
          | none=>rw[q2] at e2;cases e2
          | some o=>rw[q2] at e2;exact bQ some e2
        have eN:X.N[k]? = some x:=by
          have:=bQ (fun l=>l[j]?) c6;simp only[aN,q,e1,Option.map_some] at this;exact bW this
        have iu:=S.cap x (bC e1);have jt:=PySem.mem_of_lookup iu;have vq:=S.free _ jt rfl;obtain⟨m0,U4,hl⟩:=I.loc;obtain⟨u,r,l⟩:=hl k x v eN JI (.inr vq);rcases l with ⟨kd,_⟩ | ⟨kd,c,e,z⟩
        · have kd:X.env.scope.names.lookup x=some .local:=kd;rcases vq with ho | ho<;>(have ho:X.env.scope.names.lookup x=_:=ho;rw[kd] at ho;cases ho)
        · exact⟨u,r,.inr ⟨JH iu,c,has x c jt e,z.keeps hk⟩⟩
  · obtain⟨v,q⟩:=I.cell x c (sub _ _ e);exact⟨v,q.keeps hk⟩
  · show(rC own ix σ).length=(own++cap).length;unfold rC;simp[hlen]
theorem U7{X:Cx}{pins:aD}{σ aI:St}{H H':Hp}{s s':au}{scope:Scope}{N:List Str}{fp:List ah}{h':Heap}
    (I:Inv X pins σ H s) (hf:∀b∈fp,fX X pins H b) (J:Inv (p9 X N scope s.heap.objs.size s H fp) [] aI H' s') (hs:Heap.SameBut s.heap.objs.size s'.heap h'):Inv X pins σ H' { s' with heap:=h' }:=by
  have ne:∀b o,s.heap.get? b=some o->b≠s.heap.objs.size:=fun b o e=>aX (aJ e)
  have B:Un (jh X.stack) fp H H' s.heap s'.heap:=J.base;refine I.qg (s':={ s' with heap:=h' }) (ch:=fp) J.os ⟨fun b o e n hb hx=>?_,fun b o e n hb hx=>?_,B.free,fun b o e hx=>?_,B.l7,B.kg,B.l8⟩ (fun b ob e=>?_) J.bare fun b hb=>?_
  · exact(hs.2 b (ne b o e)).trans (B.keep b o e n hb hx)
  · obtain⟨sl,e1⟩:=B.slot b o e n hb hx;exact⟨sl,(hs.2 b (ne b o e)).trans e1⟩
  · obtain⟨o',e1⟩:=B.there b o e hx;exact⟨o',(hs.2 b (ne b o e)).trans e1⟩
  · have fr:H' s.heap.objs.size=none:=J.free;refine(J.aZ b ob e).cP (fun c w' hc q=>(hs.2 c ?_).trans q) (fun _ q=>q) fun _ _ q=>q
    rintro rfl;rcases hc with hc | hc
    · rw[←hc,fr] at e;cases e
    · rw[fr] at hc;cases hc
  · obtain⟨f0,f1,f2,f3,f4,f5⟩:=hf b hb;exact⟨f3,f1,f4,f5⟩
def y9(X:Cx)(ifs:List Expr)(t:TT):Prop:=
  ∀(pins:aD)(s:au)(σ:St)(H:Hp)(Q:Bool->Hp->Prop),Inv X pins σ H s->t σ H Q->
    wpAny (model X.prog X.w) X.A (forIn ifs true fun c r=>if r=true then do let ok ←isTrue c X.env (eval c X.env);pure (ForInStep.yield ok) else pure (ForInStep.yield r)) (TP X pins σ Q) X.xe s
def kD:TT:=fun _ H Q=>Q true H
theorem sH{X:Cx}:y9 X [] kD:=fun _ s σ H Q I h=>wpAny_tests_nil ⟨H,I,h⟩
theorem DP{X:Cx}{c:Expr}{t:TT}(h:PT X c t):y9 X [c] t:=fun pins s σ H Q I hw=>wpAny_tests_one (h pins s σ H Q I hw)
theorem NG{prog:aU}{w:World}{A:Around}{R:Result->au->Prop}{s:au}{elt target iter:Expr}{ifs:List Expr}{scope:Scope}{pos:Pos}{it acc:ai}{env:Env}(I:Nat->au->Prop)
    (turn:∀n s,I n s->wpAny (model prog w) A (pyNext it) (fun r bD=>match r with
      | none=>R (.ok .next) bD
      | some v=>wpAny (model prog w) A (letOwnedTupleGo target it v) (fun _ zA=>wpAny (model prog w) A (assign target env v) (fun _ iL=>
          wpAny (model prog w) A (forIn ifs true fun c r=>if r=true then do let ok ←isTrue c env (eval c env);pure (ForInStep.yield ok) else pure (ForInStep.yield r)) (fun ok mh=>
            if ok=true then wpAny (model prog w) A (eval elt env) (fun x kF=>
              wpAny (model prog w) A (call (.builtin "list.append") [acc,x]) (fun _ DQ=>∃m,m<n/\I m DQ) (notedBy (model prog w) A env fun e s'=>R (.error e) s') kF) (notedBy (model prog w) A env fun e s'=>R (.error e) s') mh
            else ∃m,m<n/\I m mh) (notedBy (model prog w) A env fun e s'=>R (.error e) s') iL) (notedBy (model prog w) A env fun e s'=>R (.error e) s') zA) (notedBy (model prog w) A env fun e s'=>R (.error e) s') bD) (notedBy (model prog w) A env fun e s'=>R (.error e) s') s)
    (n:Nat) (h:I n s):codeAny (model prog w) A (.compLoop (.ListComp elt [⟨target,iter,ifs,0⟩] scope pos) 0 it acc env) R s:=by
  refine codeAny_loop rfl I (fun n s hI=>?_) n h;show wpAny _ A ((compTurn (.ListComp elt [⟨target,iter,ifs,0⟩] scope pos) 0 it acc env).onRaise (fun x=>do noteFrame x env;theTreesLotGoes x)) _ _ s;refine wpAny_noted ?_;rw[compTurn_list];refine aj (i6 (aj (cA (turn n s hI) (fun r bD c9=>?_) fun _ _ h'=>h')));cases r with
  | none=>exact ay c9
  | some v=>
    refine aj (cA c9 (fun _ zA DR=>?_) fun _ _ h'=>h');refine aj (cA DR (fun _ iL nO=>aj (cA nO (fun ok mh xT=>?_) fun _ _ h'=>h')) fun _ _ h'=>h');cases ok with
    | false=>exact ay ⟨rfl,xT⟩
    | true=>
      exact aj (aj (cA xT (fun x kF JJ=>aj (cA JJ (fun _ DQ JK=>ay (ay ⟨rfl,JK⟩)) fun _ _ h'=>h')) fun _ _ h'=>h'))
def DS(own:List Str)(ix:List Nat)(J:It)(g:TG)(tc:TT)(te:TE)(σ:St)(H1:Hp)(D:ah)(Q:VK):Prop:=
  ∃W:Nat->Nat->St->List V->Hp->Prop,(∃m,W 0 m (rC own ix σ) [] (upd H1 D (.lst [])))/\∀i m aI ys H',W i m aI ys H'->H' D=some (.lst ys)/\
    ((J.stop i H'/\Q (.ref D) H')\/(J.go i H'/\ys.length<sizeLine/\∀x H2,J.vc i H' x H2->g x aI H2 fun oh H3=>tc oh H3 fun b H4=>
      if b=true then te oh H4 fun y H5=>H5 D=some (.lst ys)/\∃m',m'<m/\W (i+1) m' oh (ys++[y]) (upd H5 D (.lst (ys++[y]))) else H4 D=some (.lst ys)/\∃m',m'<m/\W (i+1) m' oh ys H4))
def GD(own:List Str)(ix:List Nat)(wi:TI)(g:TG)(tc:TT)(te:TE):TE:=fun σ H Q=>wi σ H fun J H1=>∀D,H1 D=none->DS own ix J g tc te σ H1 D Q
section
variable{X:Cx}{tg iter elt:Expr}{ifs:List Expr}{scope:Scope}{pos:Pos}{own cap:List Str}{ix:List Nat}{wi:TI}{g:TG}{tc:TT}{te:TE}
theorem NH{pins:aD}{σ:St}{s:au}{E:az}{RR:ai->ah->Result->au->Prop}{Q:VK}
    (hc:X.calm=true) (S:d9 scope X.env.scope cap) (c6:ix.map (fun i=>X.N[i]?)=cap.map some)
    (hg:∀C s H ex,PG (p9 X (own++cap) scope C s H ex) tg g) (ht:∀C s H ex,y9 (p9 X (own++cap) scope C s H ex) ifs tc) (he:∀C s H ex,PE (p9 X (own++cap) scope C s H ex) elt te)
    {vd:ai}(h:Gh X pins σ tg (fun J H1=>∀D,H1 D=none->DS own ix J g tc te σ H1 D Q) vd s)
    (hR:∀(D C:ah)(s':au)(H':Hp)(m:Str->Option ai),s'.heap.Ns C m->fX X pins H' C->(∀h',Heap.SameBut C s'.heap h'->Inv X pins σ H' { s' with heap:=h' })->Q (.ref D) H'->RR (.ref D) C (.ok .next) s') :
    wpAny (model X.prog X.w) X.A (newList []) (fun acc mh=>wpAny (model X.prog X.w) X.A (newFunctionEnv scope X.env.globals (mE X.env.cells scope.names []) [] X.env.qual none .none (some X.env)) (fun vt kF=>
      codeAny (model X.prog X.w) X.A (.compStart (.ListComp elt [⟨tg,iter,ifs,0⟩] scope pos) 0 vd acc { vt with scope:=relabel scope X.env }) (RR acc vt.locals) kF) E mh) E s:=by
  obtain⟨it,fp,tn,J,H2,rfl,I2,T,Ak,f2,q2⟩:=h;refine eK (wpAny_newFunctionEnv S.vp (by intro y hy;simp at hy) (fun c9 nP rD=>?_) S.kind);dsimp only at nP rD ⊢;have hD:H2 s.heap.objs.size=none:=I2.aZ.fresh (aG _);obtain⟨W,⟨m0,w0⟩,turn⟩:=q2 s.heap.objs.size hD;have I3:Inv X pins σ (upd H2 s.heap.objs.size (.lst [])) { s with heap:=s.heap.push { cls:=.type "list",data:=.seq ([]:List ai).toArray } }:=I2.xS (t':=s.toks) (its:=[]) .nil (dH _);have DT:∀b∈fp,b<s.heap.objs.size:=fun b hb=>by
    obtain⟨o,e,_⟩:=T.obj 0 _ Ak b hb;exact aJ e
  have f3:∀b∈fp,fX X pins (upd H2 s.heap.objs.size (.lst [])) b:=fun b hb=>⟨by rw[ze (aX (DT b hb))];exact(f2 b hb).1,(f2 b hb).2⟩
  generalize hH:s.heap.push { cls:=.type "list",data:=.seq ([]:List ai).toArray } = H3 at I3 nP rD ⊢;have sz:H3.objs.size=s.heap.objs.size+1:=by rw[←hH,fP]
  have up:∀b o,H3.get? b=some o->c9.get? b=some o:=fun b o e=>rD.extBut b o (aX (aJ e)) (aY _ e)
  have old:∀b o,s.heap.get? b=some o->c9.get? b=some o:=fun b o e=>up b o (by rw[←hH];exact aY _ e)
  have xW:∀b∈fp,b<({ s with heap:=H3 }:au).heap.objs.size:=fun b hb=>by show b<H3.objs.size;rw[sz];exact iV (DT b hb)
  have DU:tn 0 c9:=T.keep _ _ _ Ak fun b _ o e=>old b o e
  have nH:∀{H':Hp},(∀b∈fp,H' b=none)->∀b∈fp,fX (p9 X (own++cap) scope H3.objs.size { s with heap:=H3 } (upd H2 s.heap.objs.size (.lst [])) fp) [] H' b:=fun hn b hb=>
    ⟨hn b hb,aX (xW b hb),fun z=>(aO.mp (I3.lK b z)).elim (f2 b hb).2.1 (f2 b hb).2.2.1,.inl hb,fun x c e=>(f2 b hb).2.2.2.2.1 x c (DN _ _ _ (fun y d h=>by cases h) _ _ e),fun p hp=>absurd (show p∈([]:aD) from hp) (by simp)⟩
  have loop:∀kF:au,kF = { s with heap:=c9,toks:=s.toks+([]:List (Str×ai)).length }->
      codeAny (model X.prog X.w) X.A (.compLoop (.ListComp elt [⟨tg,iter,ifs,0⟩] scope pos) 0 (.ref it) (.ref s.heap.objs.size) (compEnvC scope (mE X.env.cells scope.names []) H3.objs.size X.env))
        (RR (.ref s.heap.objs.size) H3.objs.size) kF:=by
    rintro kF rfl;have I4:=U3 (own:=own) (fp:=fp) (tk:=s.toks+([]:List (Str×ai)).length) I3 S c6 f3 xW nP up;refine NG (fun n s'=>∃i aI ys H',Inv (p9 X (own++cap) scope H3.objs.size { s with heap:=H3 } (upd H2 s.heap.objs.size (.lst [])) fp) [] aI H' s'/\tn i s'.heap/\(∀b∈fp,H' b=none)/\W i n aI ys H') ?_ m0
      ⟨0,_,[],_,I4,DU,fun b hb=>(f3 b hb).1,w0⟩
    rintro n s5 ⟨i,xX,ys,H5,I5,xH,Al,w5⟩;obtain⟨GF,vz⟩:=turn i n xX ys H5 w5;rcases vz with ⟨stop,q⟩ | ⟨go,hz,step⟩
    · refine bK (T.done (p9 X (own++cap) scope H3.objs.size { s with heap:=H3 } (upd H2 s.heap.objs.size (.lst [])) fp) rfl rfl rfl hc i [] s5 xX H5 _ I5 (nH Al) xH stop) fun r s6 aQ=>?_
      obtain⟨hr,I6⟩:=aQ;subst hr;obtain⟨m6,DV,_⟩:=I6.loc;exact hR _ _ s6 H5 m6 DV (I3.nF (aG _) I6.free) (fun h' hs=>U7 I3 f3 I6 hs) q
    · refine bK (T.item (p9 X (own++cap) scope H3.objs.size { s with heap:=H3 } (upd H2 s.heap.objs.size (.lst [])) fp) rfl rfl rfl hc i [] s5 xX H5 _ I5 (nH Al) xH go) fun r s6 aQ=>?_
      obtain⟨u,hr,h6⟩:=aQ;subst hr;refine bK h6 fun _ s7 aQ=>?_
      obtain⟨x,H7,I7,r7,y7,AH,JL⟩:=aQ;have JM:=I7.pinned (nH JL) (T.obj _ _ AH);refine cA (hg _ _ _ _ _ s7 xX H7 x u _ JM r7 (step x H7 y7)) (fun _ s8 aQ=>?_) fun _ _ z=>False.elim z
      obtain⟨AI,H8,I8,q8⟩:=aQ;refine cA (ht _ _ _ _ _ s8 AI H8 _ I8 q8) (fun ok s9 aQ=>?_) fun _ _ z=>False.elim z
      obtain⟨H9,I9,q9⟩:=aQ;have again:∀{s':au}{aI:St}{H':Hp}{AJ:List V}{m':Nat},Inv (p9 X (own++cap) scope H3.objs.size { s with heap:=H3 } (upd H2 s.heap.objs.size (.lst [])) fp) ([]++BQ fp s7.heap) aI H' s'->m'<n->W (i+1) m' aI AJ H'->
          ∃m,m<n/\∃i aI ys H',Inv (p9 X (own++cap) scope H3.objs.size { s with heap:=H3 } (upd H2 s.heap.objs.size (.lst [])) fp) [] aI H' s'/\tn i s'.heap/\(∀b∈fp,H' b=none)/\W i m aI ys H':=fun{s' aI H' AJ m'}I' hm w'=>by
        refine⟨m',hm,i+1,aI,AJ,H',I'.jd,T.keep _ _ _ AH fun b hb o e=>(I'.pin (b,o) (dZ _ (dZ _ (BR hb e)))).1,fun b hb=>?_,w'⟩;obtain⟨o,e,d⟩:=T.obj _ _ AH b hb;exact(I'.pin (b,o) (dZ _ (dZ _ (BR hb e)))).2.1
      cases ok with
      | false=>
        rw[ao bJ] at q9 ⊢;obtain⟨_,m',hm,w'⟩:=q9;exact again I9 hm w'
      | true=>
        rw[av rfl] at q9 ⊢;refine cA (he _ _ _ _ _ s9 AI H9 _ I9 q9) (fun v JN aQ=>?_) fun _ _ z=>False.elim z
        obtain⟨y,DW,JO,JP,AK,m',hm,w'⟩:=aQ;refine cA (uP (X:=p9 X (own++cap) scope H3.objs.size { s with heap:=H3 } (upd H2 s.heap.objs.size (.lst [])) fp) _ JN AI DW (.ref s.heap.objs.size) [y] (.ref s.heap.objs.size) [v] (fun _ H'=>H'=upd DW s.heap.objs.size (.lst (ys++[y]))) JO rfl (.cons JP .nil) ⟨_,ys,y,rfl,rfl,AK,hz,rfl⟩)
          (fun _ U8 ⟨_,U9,JQ,_,JR⟩=>?_) fun _ _ z=>False.elim z
        subst JR;exact again JQ hm w'
  exact codeAny_compStart_list (loop _ rfl) (T.self _ 0 _ _ _ DU (loop _ rfl))
theorem sI{gA:Scope}(hc:X.calm=true)(S':d9 scope gA cap)(c6:ix.map (fun i=>X.N[i]?)=cap.map some)(hi:PI X tg iter wi)
    (hg:∀C s H ex,PG (p9 X (own++cap) scope C s H ex) tg g) (ht:∀C s H ex,y9 (p9 X (own++cap) scope C s H ex) ifs tc) (he:∀C s H ex,PE (p9 X (own++cap) scope C s H ex) elt te)
    (hs:∀x,foldedSetIterable iter X.env x=pure x:=by intro _;rfl) (ho:X.env.scope=gA:=by rfl):PE X (.ListComp elt [⟨tg,iter,ifs,0⟩] scope pos) (GD own ix wi g tc te):=by
  have S:d9 scope X.env.scope cap:=ho▸S';intro pins s σ H Q I h;rw[eval_ListComp];refine wpAny_comprehension_free (use:=none) rfl hs (NF I S) S.kind S.loc (bK (hi pins s σ H _ I h) fun xv bD c9=>bK c9 fun vd iL nO=>?_);refine NH (RR:=fun acc C=>compPost (model X.prog X.w) X.A X.xe none (EP X pins σ Q) acc C) hc S c6 hg ht he nO fun D C s' H' m hn _ hI q=>?_
  exact⟨m,hn,fun h' AL=>⟨.ref D,H',hI h' AL,rfl,q⟩⟩
theorem GG{gA:Scope}{i:Nat}{y:Str}{py DX:Pos}(hc:X.calm=true)(hN:X.N.Nodup)(xY:X.N[i]? = some y)(hy:X.env.scope.names.lookup y=some .local)
    (Va:swapsWith (.ListComp elt [⟨tg,iter,ifs,0⟩] scope pos) (some (.Name y py)) DX.line X.env=pure true) (S':d9 scope gA cap) (c6:ix.map (fun i=>X.N[i]?)=cap.map some) (hi:PI X tg iter wi)
    (hg:∀C s H ex,PG (p9 X (own++cap) scope C s H ex) tg g) (ht:∀C s H ex,y9 (p9 X (own++cap) scope C s H ex) ifs tc) (he:∀C s H ex,PE (p9 X (own++cap) scope C s H ex) elt te)
    (hs:∀x,foldedSetIterable iter X.env x=pure x:=by intro _;rfl) (ho:X.env.scope=gA:=by rfl):PS X (.Assign [.Name y py] (.ListComp elt [⟨tg,iter,ifs,0⟩] scope pos) DX) (xG (GD own ix wi g tc te) (zy i)):=by
  have S:d9 scope X.env.scope cap:=ho▸S';intro pins s σ H D I h;rw[exec_Assign_Name_used _ _ _ _ Va];refine aj (i6 (aj ?_));show wpAny _ X.A (do let _ ←comprehension (.ListComp elt [⟨tg,iter,ifs,0⟩] scope pos) scope X.env _ (newList []) false (eval iter X.env) (some (assign (.Name y py) X.env))) _ _ s;refine aj (cA (wpAny_comprehension_free (use:=some (assign (.Name y py) X.env)) (Q:=fun _ s'=>SP X pins D .next s') rfl hs (NF I S) S.kind S.loc
    (bK (hi pins s σ H _ I h) fun xv bD c9=>bK c9 fun vd iL nO=>?_)) (fun _ s' hq=>ay (ay hq)) fun _ _ e=>e)
  refine NH (RR:=fun acc C=>compPost (model X.prog X.w) X.A X.xe (some (assign (.Name y py) X.env)) (fun _ s'=>SP X pins D .next s') acc C) hc S c6 hg ht he nO fun D' C s' H' m hn hF hI q=>?_
  show wpAny _ X.A (assign (.Name y py) X.env (.ref D')) _ _ _;have I':Inv X pins σ H' s':=hI s'.heap (Heap.SameBut.refl ..);refine wpAny_assign_Name (MG I' hN xY (.inl hy) (v:=.ref D') rfl (fun wU Vb aQ=>?_) (.inr hy));obtain⟨a,JS,ha⟩:=aQ;obtain⟨f0,f1,f2,f3,f4,f5⟩:=hF;have Vc:C≠a:=by
    rcases ha with ha | ha
    · rw[ha];exact f1
    · exact fun z=>f4 _ _ ha z.symm
  exact⟨m,hn.sameBut JS Vc,fun h' AL=>⟨_,H',Vb.turned (t':=wU.toks) (fun b o hb e=>(AL.2 b hb).trans e) f0 f1 f3 f4 f5,q⟩⟩
end
structure Fix(J:It)(xs:List V)(P:Hp->Prop):Prop where
  go:∀i H,P H->i<xs.length->J.go i H
  vc:∀i H x H',P H->J.vc i H x H'->H'=H/\(i<xs.length->xs[i]? = some x)
  stop:∀i H,P H->xs.length<=i->J.stop i H
theorem tH{K:aF}{a:ah}{xs:List V}:Fix (BP K a) xs (fun H=>aH K H a xs):=
  ⟨fun i H h hi=>⟨xs,xs[i],h,by simp[hi]⟩,fun i H x H' h y=>⟨y.1,fun _=>y.2 xs h⟩,fun i H h hi=>⟨xs,h,hi⟩⟩
theorem Vd{lo:Int}{n:Nat}:Fix (Aj lo n) ((List.range n).map fun i=>V.int (lo+(i:Nat))) (fun _=>True):=
  ⟨fun i H h hi=>by show i<n;simpa using hi,fun i H x H' h y=>⟨y.1,fun hi=>by
    have xY:i<n:=by simpa using hi
    rw[aN,List.getElem?_range xY,y.2];rfl⟩,fun i H h hi=>by show n<=i;simpa using hi⟩
theorem Ve{J:It}{xs:List V}{P:Hp->Prop}{own:List Str}{ix:List Nat}{tc:TT}{te:TE}{σ:St}{H1:Hp}{D:ah}{Q:VK}(F:Fix J xs P)(p:V->Bool)(f:V->V)
    (hP:∀ys,P (upd H1 D (.lst ys))) (hz:xs.length<=sizeLine)
    (ht:∀x∈xs,∀ys(Q':Bool->Hp->Prop),Q' (p x) (upd H1 D (.lst ys))->tc ((rC own ix σ).set 0 (some x)) (upd H1 D (.lst ys)) Q')
    (he:∀x∈xs,p x=true->∀ys(Q':VK),Q' (f x) (upd H1 D (.lst ys))->te ((rC own ix σ).set 0 (some x)) (upd H1 D (.lst ys)) Q')
    (hQ:Q (.ref D) (upd H1 D (.lst ((xs.filter p).map f)))):DS own ix J (zy 0) tc te σ H1 D Q:=by
  refine⟨fun i m aI ys H'=>m=xs.length-i/\i<=xs.length/\(∀z,aI.set 0 z=(rC own ix σ).set 0 z)/\ys=((xs.take i).filter p).map f/\H'=upd H1 D (.lst ys),
    ⟨xs.length,by simp,dH _,fun _=>rfl,by simp,rfl⟩,?_⟩
  rintro i m aI ys H' ⟨rfl,hi,Vf,rfl,rfl⟩;refine⟨zb,?_⟩
  by_cases dz:i<xs.length
  · refine .inr ⟨F.go i _ (hP _) dz,?_,fun x H2 y=>?_⟩
    · rw[aq];have h1:((xs.take i).filter p).length<=(xs.take i).length:=e7 _ _;rw[bw] at h1;lia
    · obtain⟨e,y'⟩:=F.vc i _ x H2 (hP _) y;subst e;have hx:=y' dz;have hm:x∈xs:=bC hx;have tk:=take_succ_filter p xs i x hx;show tc (aI.set 0 (some x)) _ _;rw[Vf];refine ht x hm _ _ ?_;have DY:∀z,((rC own ix σ).set 0 (some x)).set 0 z=(rC own ix σ).set 0 z:=fun z=>List.set_set ..
      cases hp:p x with
      | true=>
        rw[av rfl];refine he x hm hp _ _ ⟨zb,xs.length-(i+1),by lia,rfl,dz,DY,?_,?_⟩
        · rw[tk,hp];simp
        · rw[So]
      | false=>
        rw[ao bJ];refine⟨zb,xs.length-(i+1),by lia,rfl,dz,DY,?_,?_⟩
        · rw[tk,hp];simp
        · rfl
  · have e:i=xs.length:=by lia
    subst e;refine .inl ⟨F.stop _ _ (hP _) (aG _),?_⟩;rw[bh];exact hQ
def sg(c:Nat):V:=.str ⟨#[c]⟩
section
variable{X:Cx}
theorem JT:∀{bs:List Bool}{us:List ai},Vals (bs.map V.bl) us->us=bs.map Value.bool
  | [],_,r=>by cases r;rfl
  | b::bs,_,r=>by
    cases r with
    | cons r1 r2=>rw[show _=Value.bool b from r1,JT r2];rfl
theorem Vg(bs:List Bool):((List.range bs.length).all fun i=>(bs[i]?).getD true)=bs.all id:=by
  rw[jQ,iE,iE];constructor
  · intro h b hb;obtain⟨i,hi,e⟩:=mT.mp hb;have:=h i (d7.mpr hi);rw[aV hi,pH,e] at this;exact this
  · intro h i hi;have xY:=d7.mp hi;rw[aV xY,pH];exact h _ (jB xY)
theorem Vh(hc:X.calm=true):om X (.builtin "all") (fun xs H Q=>∃(a:ah)(bs:List Bool),xs = [V.ref a]/\aH X.K H a (bs.map V.bl)/\Q (.bl (bs.all id)) H):=by
  intro pins s σ H xs us Q I r h;obtain⟨a,bs,rfl,ha,q⟩:=h;obtain⟨u,rfl,ru⟩:=pZ r;cases ru;obtain⟨its,rv,pl,hz⟩:=I.list ha;have e:its=bs.map Value.bool:=JT rv;subst e;have hl:=pl.isList;have dz:a<s.heap.objs.size:=by obtain⟨_,e,_⟩:=hl;exact aJ e
  refine call_all_walk (lA hl ?_);refine⟨s.heap.objs.size,[s.heap.objs.size,a],[s.heap.objs.size],(bs.map Value.bool).toArray.size,_,_,fun i=>(bs[i]?).getD true,rfl,Walks.list (A:=X.A.in1) (I.ok.hd hc) _ a (aX dz) (bs.map Value.bool).toArray,
    ⟨⟨_,bF _ rfl,rfl,rfl⟩,hl.push _⟩,fun i v s' Q' E' hP hQ=>?_,fun h' tk hk=>?_⟩
  · have qH:(bs.map Value.bool)[i]? = some v:=by simpa using hP
    rw[aN] at qH;cases e:bs[i]? with
    | none=>rw[e] at qH;cases qH
    | some b=>
      rw[e] at qH;cases qH;simp only[e,pH] at hQ;exact j9 hQ
  · have e:((List.range (bs.map Value.bool).toArray.size).all fun i=>(bs[i]?).getD true)=bs.all id:=by
      rw[br,aq];exact Vg bs
    rw[e];refine⟨.bl (bs.all id),H,?_,rfl,q⟩;exact I.kept fun b o eb=>hk b o (fun z=>by rw[iT.mp z] at eb;exact absurd (aJ eb) (dW _)) (aY _ eb)
theorem NI:∀{ys:List Str}{us:List ai},Vals (ys.map V.str) us->StrsAre us ys
  | [],_,r=>by cases r;exact .nil
  | y::ys,_,r=>by
    cases r with
    | cons r1 r2=>
      obtain⟨t,rfl⟩:=r1;exact .cons y t (NI r2)
def JU:V->Option Int->Option Int->Hp->VK->Prop:=fun x lo hi H Q=>∃z,x = .str z/\z.length<=sizeLine/\Q (.str (Txt.slice z lo hi)) H
theorem Vi:BX X JU:=by
  intro pins s σ H x v vl vu lo hi sl Q I rx hs pl pu h;obtain⟨z,rfl,hz,q⟩:=h;obtain⟨t,rfl⟩:=rx;refine⟨"str",_,F.slot_str_getitem.lookup,typeIs_str _ _ _,?_⟩;have fin:∀(t':Tok)(k:Nat),EP X pins σ Q (.str (Txt.slice z lo hi) t') { s with toks:=k }:=fun t' k=>⟨.str _,H,I.tok k,⟨_,rfl⟩,q⟩
  obtain⟨o,ho,zB,hd⟩:=hs;cases pl<;>cases pu
  · exact o8 (l:=none) (u:=none) (st:=none) ⟨o,ho,zB,hd⟩ rfl (pI ⟨bH (Txt.slice_le z _ _) hz,fin⟩)
  · exact o8 (l:=none) (u:=some (_,_)) (st:=none) ⟨o,ho,zB,hd⟩ rfl (pI ⟨bH (Txt.slice_le z _ _) hz,fin⟩)
  · exact o8 (l:=some (_,_)) (u:=none) (st:=none) ⟨o,ho,zB,hd⟩ rfl (pI ⟨bH (Txt.slice_le z _ _) hz,fin⟩)
  · exact o8 (l:=some (_,_)) (u:=some (_,_)) (st:=none) ⟨o,ho,zB,hd⟩ rfl (pI ⟨bH (Txt.slice_le z _ _) hz,fin⟩)
end
theorem vA{Pl:List ai->Prop}{n:Nat}(h:∀a r,r.length=n->Pl (a::r)):∀us:List ai,us.length=n+1->Pl us:=fun us e=>by
  cases us with
  | nil=>cases e
  | cons a r=>exact h a r (Nat.succ.inj e)
theorem fk{Pl:List ai->Prop}(h:∀a,Pl [a]):∀us:List ai,us.length=1->Pl us:=vA fun a r e=>by
  cases r with
  | nil=>exact h a
  | cons=>cases e
theorem fY{Pl:List ai->Prop}(h:∀a b,Pl [a,b]):∀us:List ai,us.length=2->Pl us:=vA fun a=>fk (h a)
theorem qp{Pl:List ai->Prop}(h:∀a b c,Pl [a,b,c]):∀us:List ai,us.length=3->Pl us:=vA fun a=>fY (h a)
theorem DZ{Pl:List ai->Prop}(h:∀a b c d,Pl [a,b,c,d]):∀us:List ai,us.length=4->Pl us:=vA fun a=>qp (h a)
theorem D0{Pl:List ai->Prop}(h:∀a b c d e,Pl [a,b,c,d,e]):∀us:List ai,us.length=5->Pl us:=vA fun a=>DZ (h a)
def Df(K:aF)(mg:Str->Option ai)(x:Str)(st:Stmt)(ps:List Str):Prop:=
  ∃(f:ah)(fd:FuncData),DM K x x st f fd/\mg x=some (.ref f)/\∀us:List ai,us.length=ps.length->bindArgs fd ⟨us,[]⟩=pure (ps.zip us)
theorem bA{K:aF}{h:Heap}{mg:Str->Option ai}(X:K.In h)(G:h.Ns mainGlobals mg){x:Str}{st:Stmt}{ps:List Str}{f:ah}{oc kV dc pm cd ct:ai}{od an:Option ah}{sl:Array (Option ai)}
    (hb:∀(kV doc pm:ai)(an:Option ah)(bY ct:ai)(us:List ai),us.length=ps.length->bindArgs (PySem.W.fnOf x x (AG st) (tG st) (zm st) .none kV doc pm an bY ct) ⟨us,[]⟩=pure (ps.zip us))
    (a:PySem.W.nsIn K mainGlobals x=some (some (.ref f))) (l:K.lookup f=some ⟨oc,od,.func (PySem.W.fnOf x x (AG st) (tG st) (zm st) .none kV dc pm an cd ct),sl⟩) (c:PySem.W.codeIn K cd x=true) (k:PySem.W.keepIn K (.ref f)=true):Df K mg x st ps:=
  ⟨f,_,Nz l c k,PySem.W.mg_of X G a,fun us hl=>hb kV dc pm an cd ct us hl⟩
theorem dX{K:aF}{h:Heap}{mg:Str->Option ai}(X:K.In h)(G:h.Ns mainGlobals mg){x:Str}{u:ai}(a:PySem.W.nsIn K mainGlobals x=some (some u)):mg x=some u:=PySem.W.mg_of X G a
theorem iw{K:aF}{h:Heap}{mg:Str->Option ai}(X:K.In h)(G:h.Ns mainGlobals mg){x:Str}(a:PySem.W.nsIn K mainGlobals x=some none):mg x=none:=PySem.W.mg_none_of X G a
def gk(P:aU)(w:World)(K:aF)(mg:Str->Option ai)(base:Heap)(x:Str)(ps:List Str)(k:Nat)(sp:Sp):Prop:=
  ∃(f:ah)(fd:FuncData),mg x=some (.ref f)/\PySem.W.keepIn K (.ref f)=true/\(∃oc od l9,K.lookup f=some ⟨oc,od,.func fd,l9⟩)/\(∀us:List ai,us.length=ps.length->bindArgs fd ⟨us,[]⟩=pure (ps.zip us))/\jq P w K mg base oN k f fd ps sp
section
variable{P:aU}{w:World}{K:aF}{mg:Str->Option ai}{base:Heap}
theorem Df.has{x:Str}{st:Stmt}{N ps:List Str}{k:Nat}{sp:Sp}(D:Df K mg x st ps)(S:aC N ps (zm st))(len:∀vs H Q E,sp vs H Q E->vs.length=ps.length)
    (kr:∀(f:ah)(bY:ai)(A:Around)(outer:List Env)(s:au)(H:Hp)(vs:List V)(Q:VK)(E:XK),cD k (A.deeper (envOfC x (zm st) s.heap.objs.size f bY))->sp vs H Q E->
      ∃t,pO (nI oN P w K mg base N x (zm st) f bY A outer s H E).Ah (tG st) t/\t { nx:=fun _ H'=>Q .cu H',rt:=Q } (start N vs) H):gk P w K mg base x ps (k+1) sp:=by
  obtain⟨f,fd,F,a,b⟩:=D;obtain⟨oc,od,kV,doc,pm,an,bY,ct,l9,e,lk,qh⟩:=id F.ex;exact⟨f,fd,a,F.kp,⟨oc,od,l9,lk⟩,b,F.ok S len (kr f)⟩
end
section
variable{X:Cx}{k:Nat}{ps:List Str}{sp:Sp}{x:Str}{p pos:Pos}{e:Expr}{es:List Expr}{t:TA}
theorem Vj(F:gk X.prog X.w X.K X.mg X.base x ps k sp)(hr:cD k X.A)(hg:Gl X x)(ha:PA X (e::es) t)(jT:(x == ("__debug__" : Str))=false:=by decide)
    (he:starEach (e::es) X.env=(false,eval e X.env)::starEach es X.env:=by rfl) (iP:(backTo pos (starEach es X.env)).any (·.1)=false:=by rfl):PE X (.Call (.Name x p) (e::es) [] pos) (Gm sp [] E0 t):=by
  obtain⟨f,fd,a,kp,lk,b,G⟩:=F;exact MX G hr hg a kp (.all b) .nil GC ha jT he iP
end
theorem vB{l:PySem.W.OpenLaw}{q:aU}{loose:List Str}{XP:(Str->Option ai)->Heap->Prop}{YP:World->Heap->Prop}{d:DefRec}{K:Params->aF}{k:Nat}{x:Str}{sp:aF->Sp}
    (hn:l.most=some 63) (uQ:d.params.defaults = []) (hr:cD k callerA) (hY:∀(w:World)(h:Heap),YP w h->(K w.params).In h)
    (rq:∀(K:aF)(H:Hp)(a:ah)(ns:List Int),ns.length<=63->aH K H a (ns.map V.int)->sp K [.ref a] H (fun v _=>v = .bl true) fun _ _ _=>False)
    (F:∀(w:World)(mg:Str->Option ai)(h:Heap),(K w.params).In h->h.Ns mainGlobals mg->∀base:Heap,(K w.params).In base->base.Ns mainGlobals mg->gk l.prog w (K w.params) mg base d.name [x] k (sp (K w.params))) :
    PySem.W.WalkO q loose XP YP l.row.toRowW d [] (fun f vs=>PySem.call f vs):=by
  refine L2.vn (n:=63) (k:=k) (x:=x) (CX:=oN) (sp:=sp) hn (by decide) uQ hr hY (fun w mg fa h KX G Cb=>?_) (fun K H a ns hl _ hS=>rq K H a ns hl hS) fun _ _ _ _ z=>z
  obtain⟨f,fd,a,kp,⟨oc,od,l9,lk⟩,b,_⟩:=F w mg h KX G h KX G;have ef:fa=f:=by
    rw[Cb] at a;cases a;rfl
  subst ef;refine⟨fd,fun s u=>.of_eq (b [u] rfl),fun base kb nb=>?_⟩;obtain⟨f',Vk,a',D4,⟨Vl,Vm,JV,GH⟩,b',G'⟩:=F w mg h KX G base kb nb;have ef:f'=fa:=by
    rw[Cb] at a';cases a';rfl
  subst ef;rw[lk] at GH;cases GH;exact G'
inductive cV(K:aF)(H:Hp):Nat->V->V->Bool->Prop where
  | flat {n:Nat}{x y:V}(fx:nK x=true) (fy:nK y=true):cV K H n x y (p7 x y)
  | lst {n:Nat}{a b:ah}{xs ys:List V}(e:Nat->Bool) (hx:aH K H a xs) (hy:aH K H b ys) (hl:xs.length=ys.length) (he:∀(i:Nat)x y,xs[i]? = some x->ys[i]? = some y->cV K H n x y (e i)) :
      cV K H (n+1) (.ref a) (.ref b) ((List.range xs.length).all e)
  | xZ {n:Nat}{a b:ah}{xs ys:List V}(hx:aH K H a xs) (hy:aH K H b ys) (hl:xs.length≠ys.length):cV K H (n+1) (.ref a) (.ref b) false
  | tup {n:Nat}{a b:ah}{xs ys:List V}(e:Nat->Bool) (hx:bx K H a xs) (hy:bx K H b ys) (he:∀(i:Nat)x y,xs[i]? = some x->ys[i]? = some y->cV K H n x y (e i)) :
      cV K H (n+1) (.ref a) (.ref b) ((List.range (min xs.length ys.length)).all e&&xs.length == ys.length)
  | lt {n:Nat}{a b:ah}{xs ys:List V}(hx:aH K H a xs) (hy:bx K H b ys):cV K H (n+1) (.ref a) (.ref b) false
  | tl {n:Nat}{a b:ah}{xs ys:List V}(hx:bx K H a xs) (hy:aH K H b ys):cV K H (n+1) (.ref a) (.ref b) false
theorem JW{x:V}(h:nK x=true):p7 x x=true:=by
  cases x<;>first | rfl | (simp[nK] at h;done) | (simp[p7];done)
section
variable{X:Cx}{pins:aD}{σ:St}{H:Hp}{s:au}
theorem NJ(I:Inv X pins σ H s){a:ah}{xs ys:List V}(hx:aH X.K H a xs)(hy:bx X.K H a ys):False:=by
  obtain⟨its,_,⟨o,n,e,c,_,_⟩,_⟩:=I.list hx;obtain⟨its',_,⟨o',e',c',_⟩,_⟩:=I.tuple hy;rw[e] at e';cases e';rw[c] at c';injection c' with c'
  exact absurd c' (by decide)
theorem cV.refl(I:Inv X pins σ H s){n:Nat}{x y:V}{b:Bool}(h:cV X.K H n x y b):x=y->b=true:=by
  induction h with
  | flat fx fy=>intro e;subst e;exact JW fx
  | lst e hx hy hl he ih=>
    intro q;cases q;have:=I.kj hx hy;subst this;rw[iE];intro i hi;have hi:=d7.mp hi;exact ih i _ _ (aV hi) (aV hi) rfl
  | xZ hx hy hl=>
    intro q;cases q;exact absurd (bQ List.length (I.kj hx hy)) hl
  | tup e hx hy he ih=>
    intro q;cases q;have:=I.tu hx hy;subst this;rw[Nat.min_self,qY,Bool.and_true,iE];intro i hi;have hi:=d7.mp hi;exact ih i _ _ (aV hi) (aV hi) rfl
  | lt hx hy=>intro q;cases q;exact(NJ I hx hy).elim
  | tl hx hy=>intro q;cases q;exact(NJ I hy hx).elim
theorem GI(A:Around):A.in1.units<=A.units+1:=by
  first
    | exact aG _
    | exact eV _
    | (unfold Around.in1;simp)
theorem cV.at(I:Inv X pins σ H s){n:Nat}{x y:V}{b:Bool}(h:cV X.K H n x y b):∀{u v:ai}{A:Around},RelV x u->RelV y v->A.units+n<cLine->
    SeqAt.EqAt A s u v b/\((∃p q,x = .ref p/\y = .ref q)->SeqAt.RcAt A s u v b):=by
  induction h with
  | flat fx fy=>
    intro u v A ru rv hu;refine⟨Ng ru rv fx fy,fun aQ=>?_⟩;obtain⟨p,q,e,_⟩:=aQ;subst e;cases fx
  | @lst n a b xs ys e hx hy hl he ih=>
    intro u v A ru rv hu;cases ru;cases rv;obtain⟨its,r1,p1,_⟩:=I.list hx;obtain⟨dQ,r2,p2,_⟩:=I.list hy;have l1:=r1.length;have l2:=r2.length;have h1:=GI A;have rc:SeqAt.RcAt A s (.ref a) (.ref b) ((List.range xs.length).all e):=by
      have:=SeqAt.RcAt.lists (A:=A) (e:=e) p1.isList p2.isList (by simp;lia) (by lia) (fun j j1 j2=>by
        have g1:xs[j]? = some (xs[j]'(by simp at j1;lia)):=aV _;have g2:ys[j]? = some (ys[j]'(by simp at j2;lia)):=aV _;obtain⟨w1,q1,t1⟩:=r1.get g1;obtain⟨w2,q2,t2⟩:=r2.get g2;have:=(ih j _ _ g1 g2 t1 t2 (A:=A.in1) (by lia)).1;have z1:its.toArray[j]=w1:=by
          have:=bI.mp q1;obtain⟨_,z⟩:=this;simpa using z
        have z2:dQ.toArray[j]=w2:=by
          have:=bI.mp q2;obtain⟨_,z⟩:=this;simpa using z
        rw[z1,z2];exact this)
      have es:its.toArray.size=xs.length:=by simp;lia
      rw[es] at this;exact this
    refine⟨?_,fun _=>rc⟩
    by_cases mj:a=b
    · subst mj;have:=(cV.lst e hx hy hl he).refl I rfl;rw[this];exact .same _
    · exact .of_refs mj rc
  | @xZ n a b xs ys hx hy hl=>
    intro u v A ru rv hu;cases ru;cases rv;obtain⟨its,r1,p1,_⟩:=I.list hx;obtain⟨dQ,r2,p2,_⟩:=I.list hy;have l1:=r1.length;have l2:=r2.length;have rc:SeqAt.RcAt A s (.ref a) (.ref b) false:=SeqAt.RcAt.lists_lengths p1.isList p2.isList (by simp;lia) (by lia);refine⟨?_,fun _=>rc⟩
    by_cases mj:a=b
    · subst mj;exact absurd (bQ List.length (I.kj hx hy)) hl
    · exact .of_refs mj rc
  | @tup n a b xs ys e hx hy he ih=>
    intro u v A ru rv hu;cases ru;cases rv;obtain⟨its,r1,p1,_⟩:=I.tuple hx;obtain⟨dQ,r2,p2,_⟩:=I.tuple hy;have l1:=r1.length;have l2:=r2.length;have h1:=GI A;have rc:SeqAt.RcAt A s (.ref a) (.ref b) ((List.range (min xs.length ys.length)).all e&&xs.length == ys.length):=by
      have:=SeqAt.RcAt.tuples (A:=A) (e:=e) (show s.heap.IsTuple a its.toArray from p1) (show s.heap.IsTuple b dQ.toArray from p2) (by lia) (fun j j1 j2=>by
        have g1:xs[j]? = some (xs[j]'(by simp at j1;lia)):=aV _;have g2:ys[j]? = some (ys[j]'(by simp at j2;lia)):=aV _;obtain⟨w1,q1,t1⟩:=r1.get g1;obtain⟨w2,q2,t2⟩:=r2.get g2;have:=(ih j _ _ g1 g2 t1 t2 (A:=A.in1) (by lia)).1;have z1:its.toArray[j]=w1:=by
          have:=bI.mp q1;obtain⟨_,z⟩:=this;simpa using z
        have z2:dQ.toArray[j]=w2:=by
          have:=bI.mp q2;obtain⟨_,z⟩:=this;simpa using z
        rw[z1,z2];exact this)
      have es:its.toArray.size=xs.length:=by simp;lia
      have Vn:dQ.toArray.size=ys.length:=by simp;lia
      rw[es,Vn] at this;exact this
    refine⟨?_,fun _=>rc⟩
    by_cases mj:a=b
    · subst mj;have:=(cV.tup e hx hy he).refl I rfl;rw[this];exact .same _
    · exact .of_refs mj rc
  | @lt n a b xs ys hx hy=>
    intro u v A ru rv hu;cases ru;cases rv;obtain⟨its,r1,p1,_⟩:=I.list hx;obtain⟨dQ,r2,p2,_⟩:=I.tuple hy;exact⟨SeqAt.EqAt.list_tuple p1.isList (show s.heap.IsTuple b dQ.toArray from p2) (by lia),fun _=>SeqAt.RcAt.list_tuple p1.isList (show s.heap.IsTuple b dQ.toArray from p2) (by lia)⟩
  | @tl n a b xs ys hx hy=>
    intro u v A ru rv hu;cases ru;cases rv;obtain⟨its,r1,p1,_⟩:=I.tuple hx;obtain⟨dQ,r2,p2,_⟩:=I.list hy;exact⟨SeqAt.EqAt.tuple_list (show s.heap.IsTuple a its.toArray from p1) p2.isList (by lia),fun _=>SeqAt.RcAt.tuple_list (show s.heap.IsTuple a its.toArray from p1) p2.isList (by lia)⟩
end
section
variable{X:Cx}{pins:aD}{σ:St}{H:Hp}{s:au}
theorem NK(I:Inv X pins σ H s){n:Nat}{xs ys:List V}{its dQ:List ai}{e:Nat->Bool}(r1:Vals xs its)(r2:Vals ys dQ)(he:∀(i:Nat)x y,xs[i]? = some x->ys[i]? = some y->cV X.K H n x y (e i)){A:Around}(hu:A.units+n<cLine) :
    ∀(j:Nat)(h1:j<its.toArray.size)(h2:j<dQ.toArray.size),SeqAt.EqAt A s its.toArray[j] dQ.toArray[j] (e j):=fun j j1 j2=>by
  have l1:=r1.length;have l2:=r2.length;have g1:xs[j]? = some (xs[j]'(by simp at j1;lia)):=aV _;have g2:ys[j]? = some (ys[j]'(by simp at j2;lia)):=aV _;obtain⟨w1,q1,t1⟩:=r1.get g1;obtain⟨w2,q2,t2⟩:=r2.get g2;have:=((he j _ _ g1 g2).at I t1 t2 (A:=A) hu).1;have z1:its.toArray[j]=w1:=by
    obtain⟨_,z⟩:=bI.mp q1;simpa using z
  have z2:dQ.toArray[j]=w2:=by
    obtain⟨_,z⟩:=bI.mp q2;simpa using z
  rw[z1,z2];exact this
theorem cV.ne(I:Inv X pins σ H s){n:Nat}{p q:ah}{b:Bool}(h:cV X.K H n (.ref p) (.ref q) b){A:Around}(hu:A.units+n<cLine):SeqAt.RcNeAt A s (.ref p) (.ref q) (!b):=by
  have h1:=GI A;cases h with
  | flat fx fy=>cases fx
  | lst e hx hy hl he=>
    obtain⟨its,r1,p1,_⟩:=I.list hx;obtain⟨dQ,r2,p2,_⟩:=I.list hy;have l1:=r1.length;have l2:=r2.length;have:=SeqAt.RcNeAt.lists (A:=A) (e:=e) p1.isList p2.isList (by simp;lia) (by lia) (NK I r1 r2 he (A:=A.in1) (by lia));rw[br,←l1] at this;exact this
  | xZ hx hy hl=>
    obtain⟨its,r1,p1,_⟩:=I.list hx;obtain⟨dQ,r2,p2,_⟩:=I.list hy;have l1:=r1.length;have l2:=r2.length;exact SeqAt.RcNeAt.lists_lengths p1.isList p2.isList (by simp;lia) (by lia)
  | tup e hx hy he=>
    obtain⟨its,r1,p1,_⟩:=I.tuple hx;obtain⟨dQ,r2,p2,_⟩:=I.tuple hy;have l1:=r1.length;have l2:=r2.length;have:=SeqAt.RcNeAt.tuples (A:=A) (e:=e) (show s.heap.IsTuple p its.toArray from p1) (show s.heap.IsTuple q dQ.toArray from p2) (by lia) (NK I r1 r2 he (A:=A.in1) (by lia));rw[br,br,←l1,←l2] at this;exact this
  | lt hx hy=>
    obtain⟨its,r1,p1,_⟩:=I.list hx;obtain⟨dQ,r2,p2,_⟩:=I.tuple hy;exact SeqAt.RcNeAt.list_tuple p1.isList (show s.heap.IsTuple q dQ.toArray from p2) (by lia)
  | tl hx hy=>
    obtain⟨its,r1,p1,_⟩:=I.tuple hx;obtain⟨dQ,r2,p2,_⟩:=I.list hy;exact SeqAt.RcNeAt.tuple_list (show s.heap.IsTuple p its.toArray from p1) p2.isList (by lia)
end
section
variable{X:Cx}
def D5(K:aF):R2:=fun x y H Q=>∃p q b,x = .ref p/\y = .ref q/\cV K H 8 x y b/\Q (.bl b) H
theorem Vo(hu:X.A.units+9<cLine):jo X (compareOp .Eq) (D5 X.K):=by
  intro pins s σ H x y v u Q I rx ry h;obtain⟨p,q,b,rfl,rfl,d,hq⟩:=h;exact(d.at I rx ry (A:=X.A) (by lia)).2 ⟨p,q,rfl,rfl⟩ X.prog X.w _ _ ⟨.bl b,H,I,rfl,hq⟩
def D6(K:aF):R2:=fun x y H Q=>∃p q b,x = .ref p/\y = .ref q/\cV K H 8 x y b/\Q (.bl (!b)) H
theorem Vp(hu:X.A.units+9<cLine):jo X (compareOp .NotEq) (D6 X.K):=by
  intro pins s σ H x y v u Q I rx ry h;obtain⟨p,q,b,rfl,rfl,d,hq⟩:=h;cases rx;cases ry;exact d.ne I (A:=X.A) (by lia) X.prog X.w _ _ ⟨.bl (!b),H,I,rfl,hq⟩
def D7(K:aF)(neg:Bool):R2:=fun x y H Q=>∃(p:ah)(xs:List V)(e:V->Bool),y = .ref p/\(aH K H p xs\/bx K H p xs)/\(∀z∈xs,cV K H 8 z x (e z))/\Q (.bl (if neg then !xs.any e else xs.any e)) H
theorem NL:∀{xs:List V}{us:List ai}{u:ai},Vals xs us->u∈us->∃x∈xs,RelV x u
  | _,_,_,.cons r t,h=>by
    rcases aO.mp h with h | h
    · subst h;exact⟨_,e8 ..,r⟩
    · obtain⟨x,hx,q⟩:=NL t h;exact⟨x,bE _ hx,q⟩
def ou(e:V->Bool)(u:ai):Bool:=match C4 u with
  | some x=>e x
  | none=>false
theorem NN{e:V->Bool}{x:V}{u:ai}(r:RelV x u):ou e u=e x:=by unfold ou;rw[r.abs]
theorem JX{e:V->Bool}:∀{xs:List V}{us:List ai},Vals xs us->us.any (ou e)=xs.any e
  | _,_,.nil=>rfl
  | _,_,.cons r t=>by rw[g9,g9,NN r,JX t]
theorem Vq(hu:X.A.units+10<cLine):jo X (compareOp .NotIn) (D7 X.K true):=by
  intro pins s σ H x y v u Q I rx ry h;obtain⟨p,xs,e,rfl,hq,hd,q⟩:=h;cases ry;have h1:=GI X.A;have items:∀{its:List ai},Vals xs its->∀z,z∈its.toArray->SeqAt.EqAt X.A.in1 s z v (ou e z):=fun{its}r z hz=>by
    obtain⟨x',oK,rz⟩:=NL r (by simpa using hz);rw[NN rz];exact((hd x' oK).at I rz rx (A:=X.A.in1) (by lia)).1
  rcases hq with hq | hq
  · obtain⟨its,r,pl,hz⟩:=I.list hq;refine SeqAt.notIn_listAt (ou e) pl.isList (items r) ⟨.bl _,H,I,rfl,?_⟩;rw[show its.toArray.any (ou e)=its.any (ou e) by simp,JX r];exact q
  · obtain⟨its,r,pl,hz⟩:=I.tuple hq;refine SeqAt.notIn_tupleAt (ou e) pl (items r) ⟨.bl _,H,I,rfl,?_⟩;rw[show its.toArray.any (ou e)=its.any (ou e) by simp,JX r];exact q
end
def Wd(v:V):Prop:=(∃x,v = .str x/\x.length<=100)\/∃i:Int,v = .int i/\i.natAbs<10 ^ 60
theorem Wd.flat{v:V}(h:Wd v):nK v=true:=by
  rcases h with ⟨x,rfl,_⟩ | ⟨i,rfl,_⟩<;>rfl
def Cd(xs ys:List V):Bool:=(List.range (min xs.length ys.length)).all (fun i=>match xs[i]?,ys[i]? with | some x,some y=>p7 x y | _,_=>true)&&xs.length == ys.length
theorem cV.vC{K:aF}{H:Hp}{n:Nat}{a b:ah}{xs ys:List V}(hx:bx K H a xs)(hy:bx K H b ys)(fx:∀x∈xs,nK x=true)(fy:∀x∈ys,nK x=true):cV K H (n+1) (.ref a) (.ref b) (Cd xs ys):=by
  refine cV.tup _ hx hy fun i x y e1 e2=>?_
  rw[e1,e2];exact cV.flat (fx x (bC e1)) (fy y (bC e2))
theorem JY{xs:List V}(h:∀x∈xs,nK x=true):Cd xs xs=true:=by
  unfold Cd;rw[qY,Bool.and_true,iE];intro i hi;rw[Nat.min_self] at hi;have hi:=d7.mp hi;rw[aV hi];exact JW (h _ (jB hi))
theorem cV.vD{K:aF}{H:Hp}{n:Nat}{a b:ah}{xs:List V}(hx:aH K H a xs)(hy:aH K H b xs)(h:∀x∈xs,cV K H n x x true):cV K H (n+1) (.ref a) (.ref b) true:=by
  have:=cV.lst (n:=n) (fun _=>true) hx hy rfl fun i x y e1 e2=>by
    rw[e1] at e2;cases e2;exact h x (bC e1)
  rw[show(List.range xs.length).all (fun _=>true)=true from iE.mpr fun _ _=>rfl] at this;exact this
theorem ak.tup{K:aF}{H H':Hp}{a:ah}{xs:List V}(e:ak H H')(h:bx K H a xs):bx K H' a xs:=by
  rcases h with (h | ⟨o,h⟩) | h
  · exact .inl (.inl (e _ _ h))
  · exact .inl (.inr ⟨o,e _ _ h⟩)
  · exact .inr h
theorem ak.new{H:Hp}{D:ah}{o:HO}(h:H D=none):ak H (upd H D o):=fun b u e=>by rw[ze (zj e h)];exact e
theorem ak.upd{H H':Hp}{D:ah}{o:HO}(e:ak H H')(h:H D=none):ak H (upd H' D o):=fun b u q=>by
  rw[ze (zj q h)];exact e b u q
section
variable{X:Cx}(K:aF)(h:X.K=K)
include h
theorem lZ:Aw X (Dw K):=h▸Uj
theorem zr:Aw X (Dz K):=h▸Uk
theorem Vr:BX X (DA K):=h▸Ut
theorem NO:BX X (Dt K):=h▸Ue
theorem NP:jo X (binaryOp .Add) (Nd K):=h▸Ug
theorem JZ:jo X (compareOp .In) (Gv K false):=h▸Uu
theorem J0:jo X (compareOp .NotIn) (Gv K true):=h▸Uv
theorem J1(hu:X.A.units+9<cLine):jo X (compareOp .Eq) (D5 K):=h▸Vo hu
theorem sJ(hu:X.A.units+9<cLine):jo X (compareOp .NotEq) (D6 K):=h▸Vp hu
theorem Vs(hu:X.A.units+10<cLine):jo X (compareOp .NotIn) (D7 K true):=h▸Vq hu
theorem qI:om X (.builtin "len") (fun xs H Q=>∃p ys,xs = [.ref p]/\(aH K H p ys\/bx K H p ys)/\Q (.int ys.length) H):=h▸Uw
theorem NQ:om X (.type "list") (fun xs H Q=>∃p ys,xs = [.ref p]/\(aH K H p ys\/bx K H p ys)/\∀l,H l=none->Q (.ref l) (upd H l (.lst ys))):=h▸Ux
theorem Vt(hc:X.calm=true):om X (.builtin "all") (fun xs H Q=>∃(a:ah)(bs:List Bool),xs = [V.ref a]/\aH K H a (bs.map V.bl)/\Q (.bl (bs.all id)) H):=h▸Vh hc
variable{o e:Expr}{es:List Expr}{to:TE}{t:TA}{name:Str}{apos bO:Pos}{T id:String}{r:V->List V->Hp->VK->Prop}
theorem J2(pa:PlainAttrs T)(slot:Slot T name id)(Ay:typeOf (.builtin id)=pure (.type "method_descriptor"))(hm:Du X id r)(ho:PE X o to)
    (nM:attributeBase o name X.env (eval o X.env)=eval o X.env:=by rfl) (nN:(apos.endLine == bO.line)=true:=by rfl):PE X (.Call (.Attribute o name apos) [] [] bO) (DE K T r to):=h▸Uy pa slot Ay hm ho nM nN
theorem rE(pa:PlainAttrs T)(slot:Slot T name id)(Ay:typeOf (.builtin id)=pure (.type "method_descriptor"))(hm:Du X id r)(ho:PE X o to)(ha:PA X (e::es) t)
    (nM:attributeBase o name X.env (eval o X.env)=eval o X.env:=by rfl)
    (Az:((backTo bO (starEach (e::es) X.env)).all (fun x=>!x.1)&&(backToKw bO (keywordEach [] X.env)).all (fun x=>x.1.isSome)
      && decide ((e::es).length+([]:List Keyword).length+(if([]:List Keyword).isEmpty then 0 else 1)<30))=true:=by rfl)
    (nN:(apos.endLine == bO.line)=true:=by rfl) (hs:starEach (e::es) X.env=(false,eval e X.env)::starEach es X.env:=by rfl) (rB:(backTo bO (starEach es X.env)).any (·.1)=false:=by rfl) :
    PE X (.Call (.Attribute o name apos) (e::es) [] bO) (Nj K T r to t):=h▸Uz pa slot Ay hm ho ha nM Az nN hs rB
end
section
variable{X:Cx}{tg:Expr}(K:aF)(h:X.K=K)
include h
theorem jG{l:Expr}{tl:TE}(hl:PE X l tl):PI X tg l (ML K tl):=h▸S2 hl
theorem vE{es:List Expr}{k:Nat}{t:yW}{n:Nat}{pos:Pos}(hc:X.calm=true)(h':C5 X es t)
    (hn:(assignEach es X.env).length=n:=by rfl) (qk:(assignEach es X.env).findIdx? (·.1)=none:=by rfl):PG X (.Tuple es k pos) (C7 K n t):=h▸SR hc h' hn qk
end
theorem iM{A:Around}{k:Nat}(hr:cD k A):A.units+9<cLine:=jM (Nat.add_le_add_left (by decide:9<=64) _) hr.units
theorem J3{A:Around}{k:Nat}(hr:cD k A):A.units+10<cLine:=jM (Nat.add_le_add_left (by decide:10<=64) _) hr.units
theorem vF{c:TT}{t u:TS}{D:Ends}{σ:St}{H:Hp}(b:Bool)(ht:∀Q':Bool->Hp->Prop,(∀H',ak H H'->Q' b H')->c σ H Q')(hs:∀H',ak H H'->if b=true then t D σ H' else u D σ H'):uZ c t u D σ H:=ht _ hs
theorem Ce{c:TT}{t u:TS}{D:Ends}{σ:St}{H:Hp}(b:Bool)(ht:∀Q':Bool->Hp->Prop,Q' b H->c σ H Q')(hs:if b=true then t D σ H else u D σ H):uZ c t u D σ H:=ht _ hs
theorem cV.kG{K:aF}{H:Hp}{n:Nat}{a b:ah}{xs:List V}(hx:aH K H a xs)(hy:aH K H b []):cV K H (n+1) (.ref a) (.ref b) (decide (xs = [])):=by
  by_cases h:xs = []
  · subst h;exact cV.lst (fun _=>true) hx hy rfl fun i x y e _=>by simp at e
  · rw[bq h];exact cV.xZ hx hy fun z=>h (mX.mp z)
theorem D8{α:Type}{x:α}{xs:List α}:kB (x::xs) 0=some x:=by
  have:=tE (xs:=x::xs) (j:=0) (v:=x) rfl;exact this
theorem lP{n:Nat}(h:n<=1000):n<=sizeLine:=i7 (jr h)
open Builtin Builtin.Str
section
variable{X:Cx}{pins:aD}{σ:St}{H:Hp}{s:au}{h':Heap}
theorem Inv.ya{t':Nat}{ch:List ah}(I:Inv X pins σ H s)(k:∀b o,b ∉ ch->s.heap.get? b=some o->h'.get? b=some o)(hf:∀b∈ch,fX X pins H b):Inv X pins σ H { s with heap:=h',toks:=t' }:=by
  have CV:∀b u,H b=some u->b ∉ ch:=fun b u e z=>by rw[(hf b z).1] at e;cases e
  refine I.step (g':=s.gens) (d':=s.drawn) (ch:=ch) (fun b hb=>⟨(hf b hb).2.2.2.1,(hf b hb).2.1,(hf b hb).2.2.2.2.1,(hf b hb).2.2.2.2.2⟩) (fun b o _ _ hc e _=>k b o hc e) (fun b o _ _ hc e _=>⟨o.slots,k b o hc e⟩) (fun _ _ _ _ n=>n)
    (fun b o hc e=>⟨o,k b o hc e⟩) (fun _ _ e=>e) (fun _ _ _ e=>e) (fun b ps e=>⟨#[],by rw[e];simp⟩) (fun m hm=>?_) (fun b u e=>?_) I.bare
  · obtain⟨o,es,ep,ho,r⟩:=hm;exact⟨o,es,ep,k _ o (fun z=>(hf _ z).2.1 rfl) ho,r⟩
  · refine(I.aZ b u e).cP (fun c v hc q=>k c v ?_ q) (fun _ q=>q) fun _ _ q=>q
    rcases hc with z | z
    · rw[z];exact CV b u e
    · exact CV c _ z
end
open Sem (wp)
open Sem (wp)
def kH(h:Heap)(d:ah)(es:Array DictEntry)(ep:Nat):Prop:=∃o,h.get? d=some o/\o.ExactDict/\o.data = .dict es ep
theorem kH.at{h h':Heap}{d:ah}{es:Array DictEntry}{ep:Nat}(q:kH h d es ep)(k:∀o,h.get? d=some o->h'.get? d=some o):kH h' d es ep:=let ⟨o,ho,r⟩:=q;⟨o,k o ho,r⟩
theorem kH.typeIs{s:au}{d:ah}{es:Array DictEntry}{ep:Nat}(q:kH s.heap d es ep):s.TypeIs (.ref d) "dict":=let ⟨o,ho,c,_⟩:=q;⟨o,ho,c.1⟩
section
variable{prog:aU}{w:World}{A:Around}{E:az}{s:au}
theorem GJ{d:ah}{es:Array DictEntry}{ep:Nat}{Q:az}(hd:(d == sysModules)=false)(hm:kH s.heap d es ep)
    (hQ:Q (.ref s.heap.objs.size) { s with heap:=s.heap.push { cls:=.type "dict_keyiterator",data:=.fields #[.ref d,.int 0 0,.int es.size 0,.int ep 0] } }):wpAny (model prog w) A (pyIter (.ref d)) Q E s:=by
  obtain⟨o,ho,hc,Ea⟩:=id hm;have T:s.TypeIs (.ref d) "dict":=hm.typeIs;refine wpAny_pyIter_slot T F.slot_dict_iter (jA F.slot_dict_iter T F.entry_dict_iter ?_ (F.args_dict_iter_1 _));unfold Builtin.«dict.__iter__»;refine aj ?_;unfold Builtin.Dict.dictSlotNone;refine aj (wpAny_notOrdered_dict T ?_);show wpAny (model prog w) _ (pure (Value.ref d)) _ _ s;refine ay ?_;show wpAny (model prog w) _ (Builtin.Dict.showsAll d >>= _) _ _ s;unfold Builtin.Dict.showsAll;rw[ao (by rw[hd];exact bJ)];refine aj (ay (aj (lB ho Ea (aj (pJ ho Ea ?_)))));exact aj (eK (ay ⟨_,rfl,"dict_keyiterator",_,⟨_,bF _ rfl,rfl⟩,qd.lookup,hQ⟩))
theorem J4{it d:ah}{i ep:Nat}{es:Array DictEntry}{e:DictEntry}{Q:Option ai->au->Prop}(hit:s.heap.IsKeyIter it d i es.size ep)(hm:kH s.heap d es ep)(hx:es[i]? = some e)
    (hQ:∀h1,h1.IsKeyIter it d (i+1) es.size ep->Heap.SameBut it s.heap h1->Q (some e.key) { s with heap:=h1 }):wpAny (model prog w) A (pyNext (.ref it)) Q E s:=by
  obtain⟨o,ho,hc,hd⟩:=id hit;obtain⟨od,Eb,qh,Ec⟩:=id hm;obtain⟨dz,he⟩:=gJ.mp hx;subst he;unfold pyNext;refine aj (pK (mW (name:=Str.ofString "__next__") hit.typeIs qd (jA qd hit.typeIs F.entry_dict_keyiterator_next ?_ (F.args_dict_keyiterator_next_1 _))));refine aj (ay (aj (aj ?_)));refine aj (o4 hit.typeIs (ay (aj (wpAny_fieldsOf ho hd ?_))));have own:Builtin.Dict_items.ownsTuple "dict_keyiterator" = false:=by decide
  simp only[own,iS,c8];show wpAny (model prog w) _ (if(Value.ref d == Value.none)=true then _ else _) _ _ s;rw[ao (show ¬((Value.ref d == Value.none)=true) from bJ)];refine aj (ay (aj (lB Eb Ec ?_)));rw[ao (by simp)];refine aj (ay (aj (pJ Eb Ec ?_)));rw[ao (by simp)];refine ay ?_;simp only[show ¬((i:Int)<0) from by lia,c8,pF,gK dz];refine aj (aj (o4 hit.typeIs (ay (aj (wpAny_isOneOf_keyiter hit.typeIs ?_)))));show wpAny (model prog w) _ (setField (.ref it) 1 (rawInt ((i:Int)+1)) >>= _) _ _ s;refine aj (i0 ho hd (by simp) ?_);have nx:(s.heap.update it (Obj.mapFields (·.setIfInBounds 1 (rawInt ((i:Int)+1))))).IsKeyIter it d (i+1) es.size ep:=
    ⟨_,cX _ ho (j8 (jz hd _)),(Obj.cls_mapFields ..).trans hc,by rw[jz hd];simp[rawInt]⟩
  refine aj (dG (aj (wpAny_isOneOf_keyiter (s:={ s with heap:=s.heap.update it (Obj.mapFields (·.setIfInBounds 1 (rawInt ((i:Int)+1)))) }) nx.typeIs ?_)));show wpAny (model prog w) _ (pure es[i].key) _ _ _;exact ay (ay ⟨_,rfl,ay (hQ _ nx (Heap.SameBut.update ..))⟩)
theorem J5{it d:ah}{i ep:Nat}{es:Array DictEntry}{Q:Option ai->au->Prop}(hh:A.handled=none)(hit:s.heap.IsKeyIter it d i es.size ep)(hm:kH s.heap d es ep)(hx:es.size<=i)
    (hQ:∀h1,Heap.ExtBut it s.heap h1->Q none { s with heap:=h1 }):wpAny (model prog w) A (pyNext (.ref it)) Q E s:=by
  obtain⟨o,ho,hc,hd⟩:=id hit;obtain⟨od,Eb,qh,Ec⟩:=id hm;unfold pyNext;refine aj (pK (mW (name:=Str.ofString "__next__") hit.typeIs qd (jA qd hit.typeIs F.entry_dict_keyiterator_next ?_ (F.args_dict_keyiterator_next_1 _))));refine aj (ay (aj (aj ?_)));refine aj (o4 hit.typeIs (ay (aj (wpAny_fieldsOf ho hd ?_))));have own:Builtin.Dict_items.ownsTuple "dict_keyiterator" = false:=by decide
  simp only[own,iS,c8];show wpAny (model prog w) _ (if(Value.ref d == Value.none)=true then _ else _) _ _ s;rw[ao (show ¬((Value.ref d == Value.none)=true) from bJ)];refine aj (ay (aj (lB Eb Ec ?_)));rw[ao (by simp)];refine aj (ay (aj (pJ Eb Ec ?_)));rw[ao (by simp)];refine ay ?_;simp only[show ¬((i:Int)<0) from by lia,c8,pF,m8 hx];refine aj (aj (o4 hit.typeIs (ay ?_)));show wpAny (model prog w) _ (setField (.ref it) 0 .none >>= _) _ _ s;refine aj (i0 ho hd (by simp) ?_);show wpAny (model prog w) _ (newExc (.type "StopIteration") [] >>= _) _ _ _;refine aj ?_;simp only[newExc,newTuple];refine aj (eK (aj (m:=firstArgMember _ _) (lJ (a:=Value.none) (by first | rfl | (simp only[firstArgMember];rfl)) (eK ?_ (by size_fits)))) (by size_fits));simp only[raiseNew];refine aj (wpAny_handled ?_);rw[show A.in1.handled=none from hh];refine aj (ay (wpAny_throw ?_));exact aj (lD (T:="StopIteration") (b:=true) ⟨_,bF _ rfl,rfl⟩ isSubtype_stop (ay (hQ _ (((Heap.SameBut.update ..).extBut.push _).push _))))
theorem NR(hh:A.handled=none)(I d:ah)(mF:d≠I)(es:Array DictEntry)(ep:Nat) :
    Walks prog w A I [I,d] [I] es.size (fun i v=>∃e,es[i]? = some e/\v=e.key) (fun i h=>h.IsKeyIter I d i es.size ep/\kH h d es ep) where
  sub:=fun b hb=>by simp at hb;simp[hb]
  frame:=fun _ _ _ st hk=>⟨st.1.at fun o e=>hk I (by simp) o e,st.2.at fun o e=>hk d (by simp) o e⟩
  item:=fun i s Q E hi st hQ=>by
    have hx:es[i]? = some es[i]:=gK hi;exact J4 st.1 st.2 hx fun h1 qJ hs=>hQ _ h1 s.toks ⟨_,hx,rfl⟩ ⟨qJ,st.2.at fun o e=>(hs.2 d mF).trans e⟩ fun b o hb e=>(hs.2 b (fun h=>hb (by simp[h]))).trans e
  done:=fun s Q E st hQ=>J5 hh st.1 st.2 (aG _) fun h1 he=>hQ h1 s.toks fun b o hb e=>he b o (fun h=>hb (by simp[h])) e
  self:=fun _ _ _ _ st hQ=>wpAny_pyIter_keyiter st.1 hQ
theorem NS{d:ah}{Q:Bool->au->Prop}(T:s.TypeIs (.ref d) "dict")(hq:Q false s):wpAny (model prog w) A (Builtin.List.listLengthHint (.ref d)) Q E s:=by
  unfold Builtin.List.listLengthHint;refine aj (wpAny_specialOf T F.slot_dict_len.lookup ?_);have e:splitId "dict.__len__" = some ("dict","__len__"):=by kernel_rfl
  simp only[e];have sub:isSubtype (.type "dict") (.type "dict")=pure true:=by rw[jR];kernel_rfl
  exact aj (lD (T:="dict") (b:=true) T sub (aj (lI T (ay hq))))
theorem Vu{d:ah}{Q:Bool->au->Prop}(T:s.TypeIs (.ref d) "dict_values")(hq:Q false s):wpAny (model prog w) A (Builtin.List.listLengthHint (.ref d)) Q E s:=by
  unfold Builtin.List.listLengthHint;refine aj (wpAny_specialOf T F.slot_dict_values_len.lookup ?_);have e:splitId "dict_values.__len__" = some ("dict_values","__len__"):=by kernel_rfl
  simp only[e];have sub:isSubtype (.type "dict_values") (.type "dict_values")=pure true:=by rw[jR];kernel_rfl
  exact aj (lD (T:="dict_values") (b:=true) T sub (aj (lI T (ay hq))))
end
section
variable{prog:aU}{w:World}{A:Around}{s:au}{R:Result->au->Prop}{I:ah}{fp wr:List ah}{n:Nat}{P:Nat->ai->Prop}{St:Nat->Heap->Prop}
theorem NT(W:Walks prog w A.in1 I fp wr n P St)(hn:n<=sizeLine)(S:ah)(c:Nat)(qk:St 0 s.heap)(hS:S ∉ fp)(hl:s.heap.get? S=some { cls:=.type "list",data:=.seq #[] c })
    (hR:∀s1 acc c1,Moved (S::wr) (fun a b=>b=a) s s1->s1.heap.get? S=some { cls:=.type "list",dict:=none,data:=.seq acc c1,slots:=#[] }->ItemsOf P acc n->R (.ok (.ret .none)) s1) :
    wpAny (model prog w) A.in1 (rule "list.extend.makes-room" >>= fun _=>Builtin.List.listTouch (.ref S) >>= fun _=>again (.builtin "list.extend.loop" ⟨[.ref S,.ref I,.none],[]⟩))
      (fun fin s1=>match fin with | .done f=>R (.ok f) s1 | .again c1=>c1.quiet=true/\codeAny (model prog w) A c1 R s1) (fun e s1=>R (.error e) s1) s:=by
  refine aj (gv (aj ?_));show wpAny (model prog w) A.in1 (updateSeq S (·.push .none) >>= fun _=>updateSeq S (·.pop)) _ _ _;refine aj (gh hl rfl ?_);have l2:=cX (Obj.mapSeq (·.push Value.none)) hl rfl;refine gh (hz:=by seq_fits) l2 rfl ?_;have l3:=cX (Obj.mapSeq (·.pop)) l2 rfl;have oO:∀b o,b≠S->s.heap.get? b=some o->((s.heap.update S (Obj.mapSeq (·.push Value.none))).update S (Obj.mapSeq (·.pop))).get? b=some o:=fun b o hb e=>(cF _ _ (aE hb)).trans ((cF _ _ (aE hb)).trans e)
  refine ay ⟨fQ F.plain_extend_loop _,codeAny_extend_loopS W.toS hn _ hS _ n 0 _ _ _ rfl (dH _) (W.toS.frame 0 s _ s.toks qk (aG _) fun b hb o e=>oO b o (fun h=>hS (h▸hb)) e) l3 (ItemsOf.nil P) fun s1 acc c1 hm h1 h2=>?_⟩;have m0:Moved (S::wr) (fun(a b:Array GenState)=>b=a) s { s with heap:=(s.heap.update S (Obj.mapSeq (·.push Value.none))).update S (Obj.mapSeq (·.pop)) }:=⟨fun b o hb e=>oO b o (fun h=>hb (by simp[h])) e,rfl,rfl,rfl,aG _⟩;exact hR s1 acc c1 (Moved.trans (fun _ _ _ h1 h2=>h2.trans h1) m0 hm) h1 h2
end
section
variable{prog:aU}{w:World}{A:Around}{s:au}{R:Result->au->Prop}
theorem NU{S:ah}{x:ai}(hl:s.heap.get? S=some { cls:=.type "list",data:=.seq #[] })
    (h:wpAny (model prog w) A.in1 (Builtin.List.listExtendWith (.ref S) x .none) (fun fin s1=>match fin with | .done f=>R (.ok f) s1 | .again c1=>c1.quiet=true/\codeAny (model prog w) A c1 R s1) (fun e s1=>R (.error e) s1)
      { s with heap:=s.heap.update S (Obj.mapSeq (fun _=>(#[]:Array ai))) }) :
    wpAny (model prog w) A.in1 (Builtin.«list.__init__» ⟨[.ref S,x],[]⟩) (fun fin s1=>match fin with | .done f=>R (.ok f) s1 | .again c1=>c1.quiet=true/\codeAny (model prog w) A c1 R s1) (fun e s1=>R (.error e) s1) s:=by
  show wpAny (model prog w) A.in1 (do let Vv ←Builtin.List.listItems (.ref S);Builtin.List.listUpdate (.ref S) (fun _=>#[]);letGo Vv.toList.reverse;Builtin.List.listExtendWith (.ref S) x .none) _ _ s;refine aj ?_;unfold Builtin.List.listItems;refine aj (iG hl rfl (ay ?_));show wpAny (model prog w) A.in1 (updateSeq S (fun _=>#[]) >>= fun _=>letGo (#[]:Array ai).toList.reverse >>= fun _=>Builtin.List.listExtendWith (.ref S) x .none) _ _ s;exact aj (gh hl rfl (aj (gj h)))
end
section
variable{prog:aU}{w:World}{A:Around}{E:az}{s:au}
theorem NV{d:ah}{es:Array DictEntry}{ep:Nat}{Q:az}(hh:A.handled=none)(hd:(d == sysModules)=false)(hm:kH s.heap d es ep)(hn:es.size<=sizeLine)
    (hQ:∀h1 acc c tk,(∀b o,s.heap.get? b=some o->h1.get? b=some o)->h1.get? s.heap.objs.size=some { cls:=.type "list",dict:=none,data:=.seq acc c,slots:=#[] }->ItemsOf (fun i v=>∃e,es[i]? = some e/\v=e.key) acc es.size->
      Q (.ref s.heap.objs.size) { s with heap:=h1,toks:=tk }):wpAny (model prog w) A (call (.type "list") [.ref d]) Q E s:=by
  have dl:d<s.heap.objs.size:=by obtain⟨o,ho,_⟩:=hm;exact aJ ho
  refine callType_codes (Q₁:=fun obj s1=>obj = .ref s.heap.objs.size/\s1 = { s with heap:=s.heap.push { cls:=.type "list",data:=.seq #[] } }) F.called_list (F.typeCall_list_1 _) F.entry_list_init (code_list_new _ ⟨rfl,rfl⟩) fun obj s1 h1=>?_
  obtain⟨rfl,rfl⟩:=h1;have hS:(s.heap.push { cls:=.type "list",data:=.seq #[] }).get? s.heap.objs.size=some { cls:=.type "list",data:=.seq #[] }:=bF _ rfl;refine⟨⟨_,hS,rfl⟩,F.args_list_init_2 _ _,NU hS ?_⟩;have l2:=cX (Obj.mapSeq (fun _=>(#[]:Array ai))) hS rfl;have old:∀b o,s.heap.get? b=some o->((s.heap.push { cls:=.type "list",data:=.seq #[] }).update s.heap.objs.size (Obj.mapSeq (fun _=>(#[]:Array ai)))).get? b=some o:=fun b o e=>
    (cF _ _ (fun z=>dW _ (z▸aJ e))).trans (aY _ e)
  have wW:=hm.at (h':=(s.heap.push { cls:=.type "list",data:=.seq #[] }).update s.heap.objs.size (Obj.mapSeq (fun _=>(#[]:Array ai)))) fun o e=>old d o e
  have zu:((s.heap.push { cls:=.type "list",data:=.seq #[] }).update s.heap.objs.size (Obj.mapSeq (fun _=>(#[]:Array ai)))).objs.size=s.heap.objs.size+1:=by rw[Heap.size_update,fP]
  generalize (s.heap.push { cls:=.type "list",data:=.seq #[] }).update s.heap.objs.size (Obj.mapSeq (fun _=>(#[]:Array ai)))=g at l2 old wW zu;have T:({ s with heap:=g }:au).TypeIs (.ref d) "dict":=wW.typeIs;unfold Builtin.List.listExtendWith;refine aj (lI T ?_);have sr:Builtin.List.listSameRef (.ref s.heap.objs.size) (.ref d)=false:=by
    have:s.heap.objs.size≠d:=aE (aX dl);simp[Builtin.List.listSameRef,this]
  have t1:(Value.type "dict" == Value.type "list")=false:=by decide
  have t2:(Value.type "dict" == Value.type "tuple")=false:=by decide
  simp only[sr,t1,t2,Bool.or_false,iS,c8];refine aj (GJ (s:={ s with heap:=g }) hd wW ?_);have wX:=wW.at (h':=g.push { cls:=.type "dict_keyiterator",data:=.fields #[.ref d,.int 0 0,.int es.size 0,.int ep 0] }) fun o e=>aY _ e
  refine aj (dG (NS (s:={ s with heap:=g.push { cls:=.type "dict_keyiterator",data:=.fields #[.ref d,.int 0 0,.int es.size 0,.int ep 0] } }) wX.typeIs ?_));have dI:d≠g.objs.size:=by rw[zu];exact aX (iV dl)
  have SI:s.heap.objs.size ∉ [g.objs.size,d]:=by
    rw[zu];intro z;simp only[aO,gc,ie] at z;rcases z with z | z
    · exact absurd z (aX (iY _))
    · exact absurd z (aE (aX dl))
  refine NT (A:=A.in1) (s:={ s with heap:=g.push { cls:=.type "dict_keyiterator",data:=.fields #[.ref d,.int 0 0,.int es.size 0,.int ep 0] } }) (NR (A:=A.in1.in1) hh g.objs.size d dI es ep) hn _ _ ⟨⟨_,bF _ rfl,rfl,rfl⟩,wX⟩ SI (aY _ l2) fun s2 acc c Ed h2 h3=>?_
  obtain⟨hp,ge,dr,tk,os⟩:=s2;obtain⟨m1,m2,m3,m4,m5⟩:=Ed;obtain rfl:ge=s.gens:=m2;obtain rfl:dr=s.drawn:=m3;obtain rfl:os=s.os:=m4;refine⟨rfl,hQ hp acc c tk (fun b o e=>m1 b o ?_ (aY _ (old b o e))) h2 h3⟩;intro z;have bl:=aJ e;simp only[aO,gc,ie] at z;rcases z with z | z
  · exact absurd bl (by rw[z];exact dW _)
  · have z:b=g.objs.size:=z;rw[z,zu] at bl;exact absurd bl (ny (eV _))
theorem Vw{κ:Type}[DecidableEq κ]{knd:KeyKind prog w κ}{d v:ah}{kvs:List (κ×ai)}{Q:az}(hh:A.handled=none)(hv:s.heap.IsValuesView v d)(hm:s.heap.DictOf knd d kvs)(hn:kvs.length<=sizeLine)
    (hQ:∀h1 acc c tk,(∀b o,s.heap.get? b=some o->h1.get? b=some o)->h1.get? s.heap.objs.size=some { cls:=.type "list",dict:=none,data:=.seq acc c,slots:=#[] }->ItemsOf (fun i v=>∃k,kvs[i]? = some (k,v)) acc kvs.length->
      Q (.ref s.heap.objs.size) { s with heap:=h1,toks:=tk }):wpAny (model prog w) A (call (.type "list") [.ref v]) Q E s:=by
  obtain⟨ep,hm⟩:=hm.dictAt;have dl:d<s.heap.objs.size:=hm.lt_size;have vl:v<s.heap.objs.size:=by obtain⟨o,ho,_⟩:=hv;exact aJ ho
  refine callType_codes (Q₁:=fun obj s1=>obj = .ref s.heap.objs.size/\s1 = { s with heap:=s.heap.push { cls:=.type "list",data:=.seq #[] } }) F.called_list (F.typeCall_list_1 _) F.entry_list_init (code_list_new _ ⟨rfl,rfl⟩) fun obj s1 h1=>?_
  obtain⟨rfl,rfl⟩:=h1;have hS:(s.heap.push { cls:=.type "list",data:=.seq #[] }).get? s.heap.objs.size=some { cls:=.type "list",data:=.seq #[] }:=bF _ rfl;refine⟨⟨_,hS,rfl⟩,F.args_list_init_2 _ _,NU hS ?_⟩;have l2:=cX (Obj.mapSeq (fun _=>(#[]:Array ai))) hS rfl;have old:∀b o,s.heap.get? b=some o->((s.heap.push { cls:=.type "list",data:=.seq #[] }).update s.heap.objs.size (Obj.mapSeq (fun _=>(#[]:Array ai)))).get? b=some o:=fun b o e=>
    (cF _ _ (fun z=>dW _ (z▸aJ e))).trans (aY _ e)
  have wW:=hm.keep old;have AM:((s.heap.push { cls:=.type "list",data:=.seq #[] }).update s.heap.objs.size (Obj.mapSeq (fun _=>(#[]:Array ai)))).IsValuesView v d:=let ⟨o,ho,r⟩:=hv;⟨o,old v o ho,r⟩
  have zu:((s.heap.push { cls:=.type "list",data:=.seq #[] }).update s.heap.objs.size (Obj.mapSeq (fun _=>(#[]:Array ai)))).objs.size=s.heap.objs.size+1:=by rw[Heap.size_update,fP]
  generalize (s.heap.push { cls:=.type "list",data:=.seq #[] }).update s.heap.objs.size (Obj.mapSeq (fun _=>(#[]:Array ai)))=g at l2 old wW AM zu;have T:({ s with heap:=g }:au).TypeIs (.ref v) "dict_values":=AM.typeIs;unfold Builtin.List.listExtendWith;refine aj (lI T ?_);have sr:Builtin.List.listSameRef (.ref s.heap.objs.size) (.ref v)=false:=by
    have:s.heap.objs.size≠v:=aE (aX vl);simp[Builtin.List.listSameRef,this]
  have t1:(Value.type "dict_values" == Value.type "list")=false:=by decide
  have t2:(Value.type "dict_values" == Value.type "tuple")=false:=by decide
  simp only[sr,t1,t2,Bool.or_false,iS,c8];refine aj (wpAny_pyIter_values (s:={ s with heap:=g }) AM wW ?_);have wX:=wW.push { cls:=.type "dict_valueiterator",data:=.fields #[.ref d,.int 0 0,.int kvs.length 0,.int ep 0] };have Vx:(g.push { cls:=.type "dict_valueiterator",data:=.fields #[.ref d,.int 0 0,.int kvs.length 0,.int ep 0] }).IsValuesView v d:=let ⟨o,ho,r⟩:=AM;⟨o,aY _ ho,r⟩
  refine aj (dG (Vu (s:={ s with heap:=g.push { cls:=.type "dict_valueiterator",data:=.fields #[.ref d,.int 0 0,.int kvs.length 0,.int ep 0] } }) Vx.typeIs ?_));have dI:d≠g.objs.size:=by rw[zu];exact aX (iV dl)
  have SI:s.heap.objs.size ∉ [g.objs.size,d]:=by
    rw[zu];intro z;simp only[aO,gc,ie] at z;rcases z with z | z
    · exact absurd z (aX (iY _))
    · exact absurd z (aE (aX dl))
  refine NT (A:=A.in1) (s:={ s with heap:=g.push { cls:=.type "dict_valueiterator",data:=.fields #[.ref d,.int 0 0,.int kvs.length 0,.int ep 0] } }) (Walks.dictValues (A:=A.in1.in1) hh g.objs.size d dI kvs ep) hn _ _ ⟨⟨_,bF _ rfl,rfl,rfl⟩,wX⟩ SI (aY _ l2) fun s2 acc c Ed h2 h3=>?_
  obtain⟨hp,ge,dr,tk,os⟩:=s2;obtain⟨m1,m2,m3,m4,m5⟩:=Ed;obtain rfl:ge=s.gens:=m2;obtain rfl:dr=s.drawn:=m3;obtain rfl:os=s.os:=m4;refine⟨rfl,hQ hp acc c tk (fun b o e=>m1 b o ?_ (aY _ (old b o e))) h2 h3⟩;intro z;have bl:=aJ e;simp only[aO,gc,ie] at z;rcases z with z | z
  · exact absurd bl (by rw[z];exact dW _)
  · have z:b=g.objs.size:=z;rw[z,zu] at bl;exact absurd bl (ny (eV _))
end
theorem Vals.of_get:∀{xs:List V}{us:List ai},xs.length=us.length->(∀(i:Nat)x u,xs[i]? = some x->us[i]? = some u->RelV x u)->Vals xs us
  | [],[],_,_=>.nil
  | x::xs,u::us,hl,h=>.cons (h 0 x u rfl rfl) (Vals.of_get (by simpa using hl) fun i y v e1 e2=>h (i+1) y v (by simpa using e1) (by simpa using e2))
  | [],_::_,hl,_=>by simp at hl
  | _::_,[],hl,_=>by simp at hl
theorem NW{k:Key}{v:ai}(h:Aa k v=true):RelV (kV k) v:=by
  rcases wN h with ⟨i,t,rfl,rfl⟩ | ⟨x,t,rfl,rfl⟩
  · exact⟨t,rfl⟩
  · exact⟨t,rfl⟩
theorem Paired.get'{α β:Type}{F:α->β->Prop}:∀{l₁:List α}{l₂:List β}{i:Nat}{a:α},Paired F l₁ l₂->l₁[i]? = some a->∃b,l₂[i]? = some b/\F a b
  | _,_,_,_,.nil,e=>by simp at e
  | _,_,0,_,.cons r _,e=>by simp at e;subst e;exact⟨_,rfl,r⟩
  | _,_,i+1,a,.cons _ t,e=>by
    obtain⟨u,h1,h2⟩:=Paired.get' (i:=i) (a:=a) t (by simpa using e);exact⟨u,by simpa using h1,h2⟩
section
variable{X:Cx}
theorem J6{pins:aD}{σ:St}{H:Hp}{s:au}{Q:VK}{ys:List V}{h1:Heap}{acc:Array ai}{c tk:Nat}(I:Inv X pins σ H s)(kp:∀b o,s.heap.get? b=some o->h1.get? b=some o)
    (e:h1.get? s.heap.objs.size=some { cls:=.type "list",dict:=none,data:=.seq acc c,slots:=#[] }) (r:Vals ys acc.toList) (hz:ys.length<=sizeLine) (q:∀l,H l=none->Q (.ref l) (upd H l (.lst ys))):EP X pins σ Q (.ref s.heap.objs.size) { s with heap:=h1,toks:=tk }:=
  ⟨.ref s.heap.objs.size,_,I.laid (t':=tk) (o:=.lst ys) kp (aG _) ⟨hz,acc.toList,c,r,by simpa using e⟩,rfl,q _ (I.aZ.fresh (aG _))⟩
theorem GK(hc:X.calm=true):om X (.type "list") (fun xs H Q=>∃p kvs,xs = [V.ref p]/\H p=some (.dK kvs)/\∀l,H l=none->Q (.ref l) (upd H l (.lst (kvs.map fun kv=>kV kv.1)))):=by
  intro pins s σ H xs us Q I r h;obtain⟨p,kvs,rfl,hp,q⟩:=h;obtain⟨u,rfl,ru⟩:=pZ r;cases ru;obtain⟨z,hd,vs,rel,o,es,ep,e,ex,dt,kk,pr,nd⟩:=I.aZ p _ hp;have l1:kvs.length=vs.length:=Paired.length rel;have l2:es.size=vs.length:=by rw[←pr.length];simp
  refine NV (I.ok.hd hc) hd ⟨o,e,ex,dt⟩ (by lia) fun h1 acc c tk kp el it=>J6 I kp el (Vals.of_get ?_ fun i x v ex ev=>?_) (by rw[aq];exact z) q
  · have:=it.1;simp only[aq,iR];lia
  · rw[aN] at ex;cases ek:kvs[i]? with
    | none=>rw[ek] at ex;cases ex
    | some kv=>
      rw[ek] at ex;cases ex;obtain⟨en,tK,rfl⟩:=it.2 i v (by simpa using ev);obtain⟨w',hw,iO⟩:=Paired.get' rel ek;have:=(pr.get? (e:=en) (k:=w'.1) (v:=w'.2) (by simpa using tK) (by rw[hw])).1;have e1:kv.1=w'.1:=iO.1;show RelV (kV kv.1) en.key;rw[e1];exact NW this
abbrev Ef(H:Hp):List ah->List (List Key×V)->Prop:=Paired fun a kv=>H a=some (.tup (kv.1.map kV))
theorem J7{H:Hp}:∀{kvs:List (List Key×V)}{ys:List (List Key×ah×ai)},Paired (fun(p:List Key×V)(q:List Key×ah×ai)=>p.1=q.1/\H q.2.1=some (.tup (p.1.map kV))/\RelV p.2 q.2.2) kvs ys->Ef H (ys.map fun y=>y.2.1) kvs
  | _,_,.nil=>.nil
  | _,_,.cons r t=>.cons r.2.1 (J7 t)
theorem Vy(hc:X.calm=true):om X (.type "list") (fun xs H Q=>∃p kvs,xs = [V.ref p]/\H p=some (.dT kvs)/\∀l as,Ef H as kvs->H l=none->Q (.ref l) (upd H l (.lst (as.map V.ref)))):=by
  intro pins s σ H xs us Q I r h;obtain⟨p,kvs,rfl,hp,q⟩:=h;obtain⟨u,rfl,ru⟩:=pZ r;cases ru;obtain⟨z,hd,ys,rel,o,es,ep,e,ex,dt,he,nd⟩:=I.aZ p _ hp;have l1:kvs.length=ys.length:=Paired.length rel;have l2:es.size=ys.length:=by
    have:=bQ List.length he;simpa using this
  have kt:Ef H (ys.map fun y=>y.2.1) kvs:=J7 rel;refine NV (I.ok.hd hc) hd ⟨o,e,ex,dt⟩ (by lia) fun h1 acc c tk kp el it=>J6 (ys:=(ys.map fun y=>y.2.1).map V.ref) I kp el (Vals.of_get ?_ fun i x v ex ev=>?_) (by simp only[aq];lia) fun l hl=>q l _ kt hl
  · have:=it.1;simp only[aq,iR];lia
  · obtain⟨en,tK,rfl⟩:=it.2 i v (by simpa using ev);have tK:es.toList[i]? = some en:=by simpa using tK
    rw[he,aN] at tK;rw[cz,aN] at ex;cases ek:ys[i]? with
    | none=>rw[ek] at ex;cases ex
    | some y=>
      rw[ek] at ex tK;cases ex;cases tK;exact rfl
def yc(p d:ah):HO:=.ext fun h=>h.IsValuesView p d
theorem J8:Du X "dict.values" (fun x xs H Q=>∃d kvs,x=V.ref d/\xs = []/\H d=some (.dK kvs)/\∀p,H p=none->Q (.ref p) (upd H p (yc p d))):=by
  intro pins s σ H x xs v us Q I rx rs h;obtain⟨d,kvs,rfl,rfl,hd,q⟩:=h;cases rx;cases rs;obtain⟨z,hs,vs,rel,dd⟩:=I.aZ d _ hd;refine call_meetsIn PySem.F.slot_dict_values dd.typeIs PySem.F.entry_dict_values (PySem.F.args_dict_values_1 _) (meets_dict_values (nW X.prog X.w) d hs) ⟨⟨vs,dd⟩,?_⟩;refine⟨.ref s.heap.objs.size,_,I.laid (t':=s.toks) (a:=s.heap.objs.size) (o:=yc s.heap.objs.size d) (fun b u e=>aY _ e) (aG _) ⟨⟨_,bF _ rfl,rfl,rfl⟩,⟨_,bF _ rfl⟩,fun h1 h2 ⟨o,ho,r⟩ k=>⟨o,k o ho,r⟩⟩,rfl,q _ (I.aZ.fresh (aG _))⟩
theorem NX(hc:X.calm=true):om X (.type "list") (fun xs H Q=>∃p d kvs,xs = [V.ref p]/\H p=some (yc p d)/\H d=some (.dK kvs)/\∀l,H l=none->Q (.ref l) (upd H l (.lst (kvs.map (·.2))))):=by
  intro pins s σ H xs us Q I r h;obtain⟨p,d,kvs,rfl,hp,hd,q⟩:=h;obtain⟨u,rfl,ru⟩:=pZ r;cases ru;obtain⟨z,hs,vs,rel,dd⟩:=I.aZ d _ hd;obtain⟨hv,_,_⟩:=I.aZ p _ hp;have l1:kvs.length=vs.length:=Paired.length rel;refine Vw (I.ok.hd hc) hv dd (by lia) fun h1 acc c tk kp el it=>J6 I kp el (Vals.of_get ?_ fun i x v ex ev=>?_) (by rw[aq];exact z) q
  · have:=it.1;simp only[aq,iR];lia
  · rw[aN] at ex;cases ek:kvs[i]? with
    | none=>rw[ek] at ex;cases ex
    | some kv=>
      rw[ek] at ex;cases ex;obtain⟨k,hk⟩:=it.2 i v (by simpa using ev);obtain⟨w',hw,iO⟩:=Paired.get' rel ek;rw[hk] at hw;cases hw;exact iO.2
end
def pQ(K:aF)(C:ah)(qual m:Str)(st:Stmt)(ps:List Str):Prop:=
  ∃(f:ah)(fd:FuncData),DM K m qual st f fd/\Meth K C m f/\∀us:List ai,us.length=ps.length->bindArgs fd ⟨us,[]⟩=pure (ps.zip us)
theorem dY{K:aF}{C:ah}{qual m:Str}{st:Stmt}{ps:List Str}{f:ah}{oc kV dc pm cd ct:ai}{od an:Option ah}{sl:Array (Option ai)}
    (hb:∀(kV doc pm:ai)(an:Option ah)(bY ct:ai)(us:List ai),us.length=ps.length->bindArgs (PySem.W.fnOf m qual (AG st) (tG st) (zm st) .none kV doc pm an bY ct) ⟨us,[]⟩=pure (ps.zip us))
    (a:PySem.W.findIn K (.ref C) m=some (some (.ref f))) (l:K.lookup f=some ⟨oc,od,.func (PySem.W.fnOf m qual (AG st) (tG st) (zm st) .none kV dc pm an cd ct),sl⟩) (c:PySem.W.codeIn K cd qual=true) (k:PySem.W.keepIn K (.ref f)=true)
    (i:PySem.W.isFn K (.ref f)=true):pQ K C qual m st ps:=⟨f,_,Nz l c k,⟨a,i,k⟩,fun us hl=>hb kV dc pm an cd ct us hl⟩
def gS(P:aU)(w:World)(K:aF)(mg:Str->Option ai)(base:Heap)(C:ah)(m:Str)(ps:List Str)(k:Nat)(sp:Sp):Prop:=
  ∃(f:ah)(fd:FuncData),Meth K C m f/\(∀us:List ai,us.length=ps.length->bindArgs fd ⟨us,[]⟩=pure (ps.zip us))/\jq P w K mg base oN k f fd ps sp
section
variable{P:aU}{w:World}{K:aF}{mg:Str->Option ai}{base:Heap}
theorem pQ.has{C:ah}{qual m:Str}{st:Stmt}{N ps:List Str}{k:Nat}{sp:Sp}(D:pQ K C qual m st ps)(S:aC N ps (zm st))(len:∀vs H Q E,sp vs H Q E->vs.length=ps.length)
    (kr:∀(f:ah)(bY:ai)(A:Around)(outer:List Env)(s:au)(H:Hp)(vs:List V)(Q:VK)(E:XK),cD k (A.deeper (envOfC qual (zm st) s.heap.objs.size f bY))->sp vs H Q E->
      ∃t,pO (nI oN P w K mg base N qual (zm st) f bY A outer s H E).Ah (tG st) t/\t { nx:=fun _ H'=>Q .cu H',rt:=Q } (start N vs) H):gS P w K mg base C m ps (k+1) sp:=by
  obtain⟨f,fd,F,a,b⟩:=D;obtain⟨oc,od,kV,doc,pm,an,bY,ct,l9,e,lk,qh⟩:=id F.ex;exact⟨f,fd,a,b,F.ok S len (kr f)⟩
end
section
variable{X:Cx}{k:Nat}{ps:List Str}{sp:Sp}{C:ah}{m x:Str}{p pos apos:Pos}{o e:Expr}{es:List Expr}{t:TA}{ta:TE}
theorem rF{pl:Sem Bool}(F:gS X.prog X.w X.K X.mg X.base C m ps k sp)(c:tD X.K C)(hr:cD k X.A)(he:PE X o ta)(ha:PA X (e::es) t)
    (qk:starEach (e::es) X.env=(false,eval e X.env)::starEach es X.env:=by rfl) (iP:(backTo pos (starEach es X.env)).any (·.1)=false:=by rfl)
    (ht:eval (.Call (.Attribute o m apos) (e::es) [] pos) X.env=(do
      let ov ←eval o X.env
      standAt apos.atName
      let (f,first) ←holding [ov] (getMethod ov m pl)
      callWith pos f first (backTo pos (starEach (e::es) X.env)) (backToKw pos (keywordEach [] X.env))):=by rfl) :
    PE X (.Call (.Attribute o m apos) (e::es) [] pos) (Gn C m sp [] E0 ta t):=by
  obtain⟨f,fd,a,b,G⟩:=F;exact TU he c a G hr (.all b) .nil GC ha qk iP ht
theorem Vz{pl:Sem Bool}(F:gS X.prog X.w X.K X.mg X.base C m ps k sp)(c:tD X.K C)(hr:cD k X.A)(he:PE X o ta)
    (ht:eval (.Call (.Attribute o m apos) [] [] pos) X.env=(do
      let ov ←eval o X.env
      standAt apos.atName
      let (f,first) ←holding [ov] (getMethod ov m pl)
      callWith pos f first (backTo pos (starEach [] X.env)) (backToKw pos (keywordEach [] X.env))):=by rfl) :
    PE X (.Call (.Attribute o m apos) [] [] pos) (Gn C m sp [] E0 ta xK):=by
  obtain⟨f,fd,a,b,G⟩:=F;exact TV he c a G hr (.all b) .nil GC ht
end
section
variable{X:Cx}(K:aF)(h:X.K=K)
include h
end
def J9(n i:Nat)(p:Prop):Prop:=∃m',m'<n-i/\m'=n-(i+1)/\i+1<=n/\p
theorem mG{n i:Nat}{p:Prop}(h:i<n)(q:p):J9 n i p:=⟨n-(i+1),by lia,rfl,h,q⟩
theorem iy{α:Type}{xs:List α}{i:Nat}{x:α}(h:xs[i]? = some x):i<xs.length:=(bI.mp h).1
theorem qa{J:It}{xs:List V}{P:Hp->Prop}{own:List Str}{ix:List Nat}{g:TG}{tc:TT}{te:TE}{σ:St}{H1:Hp}{D:ah}{Q:VK}(F:Fix J xs P)
    (R:Nat->St->List V->Hp->Prop) (h0:R 0 (rC own ix σ) [] (upd H1 D (.lst [])))
    (hP:∀i aI ys H',R i aI ys H'->P H'/\H' D=some (.lst ys)/\ys.length<=i) (hz:xs.length<=sizeLine)
    (hs:∀i x aI ys H',xs[i]? = some x->R i aI ys H'->g x aI H' fun oh H3=>tc oh H3 fun b H4=>
      if b=true then te oh H4 fun y H5=>H5 D=some (.lst ys)/\J9 xs.length i (R (i+1) oh (ys++[y]) (upd H5 D (.lst (ys++[y])))) else H4 D=some (.lst ys)/\J9 xs.length i (R (i+1) oh ys H4))
    (hQ:∀aI ys H',R xs.length aI ys H'->Q (.ref D) H'):DS own ix J g tc te σ H1 D Q:=by
  refine⟨fun i m aI ys H'=>m=xs.length-i/\i<=xs.length/\R i aI ys H',⟨xs.length,by simp,dH _,h0⟩,?_⟩;rintro i m aI ys H' ⟨rfl,hi,r⟩;obtain⟨p1,p2,p3⟩:=hP i aI ys H' r;refine⟨p2,?_⟩
  by_cases dz:i<xs.length
  · refine .inr ⟨F.go i _ p1 dz,by lia,fun x H2 y=>?_⟩;obtain⟨e,y'⟩:=F.vc i _ x H2 p1 y;subst e;exact hs i x aI ys _ (y' dz) r
  · have e:i=xs.length:=by lia
    subst e;exact .inl ⟨F.stop _ _ p1 (aG _),hQ aI ys H' r⟩
end L2
namespace Dm
open PySem PySem.NumText
abbrev co(x:Str):List Nat:=x.cps.toList
theorem NY(x:Str):(co x).length=x.length:=by simp[Str.length]
theorem Ka{x y:Str}(h:co x=co y):x=y:=by
  cases x with
  | mk a=>cases y with
    | mk b=>
      have:a=b:=by
        have h:a.toList=b.toList:=h;exact Array.toList_inj.mp h
      rw[this]
theorem NZ(l:List Nat):co ⟨l.toArray⟩=l:=by simp[co]
def gB(n d:Nat):Option Int->Nat
  | none=>d
  | some i=>if i<0 then(max (i+(n:Int)) 0).toNat else min i.toNat n
theorem VA(l:List Nat)(i k:Nat):((List.range k).map fun m=>i+m).filterMap (fun j=>l[j]?)=(l.drop i).take k:=by
  induction k generalizing i with
  | zero=>simp
  | succ k ih=>
    rw[List.range_succ_eq_map,cE,cz];have e:((List.range k).map ((fun m=>i+m) ∘ Nat.succ))=(List.range k).map fun m=>(i+1)+m:=by
      apply fH;intro a _;simp only[Function.comp,Nat.succ_eq_add_one];lia
    rw[e,kX];simp only[Nat.add_zero];rw[ih (i+1)];cases h:l[i]? with
    | none=>
      have hl:l.length<=i:=List.getElem?_eq_none_iff.mp h;rw[List.drop_eq_nil_of_le hl,List.drop_eq_nil_of_le (by lia)];simp
    | some v=>
      obtain⟨hi,e⟩:=bI.mp h;rw[List.drop_eq_getElem_cons hi,List.take_succ_cons,e]
def GL(n:Nat)(d:Int):Option Int->Int
  | none=>d
  | some i=>max 0 (min (if i<0 then i+(n:Int) else i) n)
theorem N1(n d:Nat)(hd:d<=n)(o:Option Int):GL n d o=((gB n d o:Nat):Int):=by
  cases o with
  | none=>rfl
  | some i=>simp only[gB,GL];split<;>lia
theorem VB(n d:Nat)(hd:d<=n)(o:Option Int):gB n d o<=n:=by
  cases o with
  | none=>exact hd
  | some i=>simp only[gB];split<;>lia
theorem N2(lo hi:Option Int)(n:Nat):Builtin.Str.strSliceIndices lo hi 1 n=(List.range (gB n n hi-gB n 0 lo)).map fun m=>gB n 0 lo+m:=by
  have:Builtin.Str.strSliceIndices lo hi 1 n=sliceRange (GL n 0 lo) (GL n n hi) 1:=by
    cases lo<;>cases hi<;>rfl
  rw[this,show(0:Int)=((0:Nat):Int) from rfl,N1 n 0 (dH _),N1 n n (aG _)];unfold sliceRange;simp only[show(1:Int) > 0 by decide,if_true,Int.one_mul,Int.ediv_one];have ec:(if((gB n 0 lo:Nat):Int)<((gB n n hi:Nat):Int) then((gB n n hi:Nat):Int)-((gB n 0 lo:Nat):Int)+1-1 else 0).toNat=gB n n hi-gB n 0 lo:=by
    split<;>lia
  rw[ec];apply fH;intro a _;lia
theorem VC(x:Str)(lo hi:Option Int):co (Txt.slice x lo hi)=((co x).drop (gB x.length 0 lo)).take (gB x.length x.length hi-gB x.length 0 lo):=by
  have key:(Builtin.Str.strSliceIndices lo hi 1 x.length).filterMap (x.cps[·]?)=((co x).drop (gB x.length 0 lo)).take (gB x.length x.length hi-gB x.length 0 lo):=by
    rw[N2,←VA (co x)]
    congr 1
    funext j;simp[co]
  unfold Txt.slice;split
  · rename_i h;have hl:(Builtin.Str.strSliceIndices lo hi 1 x.length).length=x.length:=by
      simpa using h
    rw[N2,aq,iW] at hl;have h1:=VB x.length x.length (aG _) hi;have h2:gB x.length 0 lo=0\/x.length=0:=by lia
    have h3:=NY x;rcases h2 with h2 | h2
    · rw[hl,h2,List.drop_zero,m9 (by lia)]
    · have:co x = []:=mX.mp (by lia);rw[this];simp
  · rw[NZ];exact key
def dJ:Str:="abcdefghijklmnopqrstuvwxyz0123456789-"
def N3(l:List Nat)(sg:Str):Bool:=l.all fun c=>decide (c∈co sg)
def qK(x:Str):Bool:=decide (1<=x.length)&&decide (x.length<=12)&&N3 (co x) dJ
def dg(m:Nat):List Nat:=(Nat.toDigits 10 m).map Char.toNat
def zC(ns:List Int)(i:Int):Int:=ns.getD i.toNat 0
def pt(c k m:Int):Int:=(c%99991+17) * (48271+7919 * k)%65537 * (k+3)%8191%m
theorem qq(c k m:Int)(h:0<m):0<=pt c k m/\pt c k m<m:=⟨lH _ (by lia),kZ _ h⟩
def vG(one at':Int)(k j:Nat):Int:=if(j:Int)=at' then pt one ((j:Int)+2) 37+k else pt one ((j:Int)+2) 37
def qL(one at':Int)(k j:Nat):Nat:=(co dJ).getD (vG one at' k j%37).toNat 0
def sL(one at':Int)(k size:Nat):List Nat:=(List.range size).map (qL one at' k)
theorem VD:(co dJ).length=37:=by decide +kernel
theorem VE:(co dJ).Nodup:=by decide +kernel
theorem tM(z:Int):0<=z%37/\(z%37).toNat<(co dJ).length:=by
  have h1:=lH z (show(37:Int)≠0 by decide);have h2:=kZ z (show(0:Int)<37 by decide);rw[VD];lia
theorem VF(one at':Int)(k j:Nat):qL one at' k j∈co dJ:=by
  unfold qL;have h:=(tM (vG one at' k j)).2;rw[cW,aV h];exact jB h
theorem VG{i j:Nat}(hi:i<(co dJ).length)(hj:j<(co dJ).length)(h:(co dJ).getD i 0=(co dJ).getD j 0):i=j:=by
  rw[cW,cW,aV hi,aV hj] at h;have h:(co dJ)[i]=(co dJ)[j]:=h;exact(List.getElem_inj VE).mp h
theorem AN(one at':Int)(k size:Nat):(sL one at' k size).length=size:=by unfold sL;simp
theorem N4{one at':Int}{k size j:Nat}(h:j<size):(sL one at' k size)[j]? = some (qL one at' k j):=by
  unfold sL;rw[aN,List.getElem?_range h];rfl
def oQ(l:List Nat):Str:=⟨l.toArray⟩
theorem wY(l:List Nat):co (oQ l)=l:=NZ l
theorem N5{l m:List Nat}(h:oQ l=oQ m):l=m:=by
  have:=bQ co h
  rwa [wY,wY] at this
theorem N6{x:Str}(h1:1<=(co x).length)(h2:(co x).length<=12)(h3:∀c∈co x,c∈co dJ):qK x=true:=by
  rw[NY] at h1 h2;unfold qK;rw[aP h1,aP h2];show N3 (co x) dJ=true;exact iE.mpr fun c hc=>aP (h3 c hc)
theorem N7{one at':Int}{k size c:Nat}(h:c∈sL one at' k size):c∈co dJ:=by
  obtain⟨j,_,rfl⟩:=aK.mp h;exact VF ..
theorem GN{f:Nat->Str}{n:Nat}(h:∀i j,i<n->j<n->f i=f j->i=j):((List.range n).map f).Nodup:=by
  unfold List.Nodup;rw[List.pairwise_map];refine List.Pairwise.imp_of_mem (R:=(·≠·)) (fun{a b}ha hb mj e=>?_) List.nodup_range;exact mj (h a b (d7.mp ha) (d7.mp hb) e)
theorem VH:(Str.ofString "" : Str)=oQ []:=by decide +kernel
theorem N8(l m:List Nat):oQ l++oQ m=oQ (l++m):=by
  apply Ka;show(l.toArray++m.toArray).toList=(l++m).toArray.toList;simp
theorem GO(l:List Nat):(oQ l).length=l.length:=by show l.toArray.size=_;simp
theorem VI(l:List Nat)(z:Int)(h0:0<=z)(h1:z<=l.length):Txt.slice (oQ l) none (some z)=oQ (l.take z.toNat):=by
  apply Ka;rw[VC,wY,wY,GO];simp only[gB];rw[ao (by lia),List.drop_zero,Nat.sub_zero]
  congr 1
  lia
end Dm
namespace Dm
open PySem PySem.NumText L2
def Eg:List Str:=["over","cuts","fills","same"]
def qM(z:Int):Prop:=z.natAbs<10 ^ 60
inductive jH(us:List Str):List V->Prop where
  | plain {kd x y:Str}(hk:kd∈Eg) (hx:x∈us) (hy:y∈us):jH us [.str kd,.str x,.str y]
  | after {x y:Str}{n:Int}(hx:x∈us) (hy:y∈us) (h0:0<=n) (h1:qM n):jH us [.str "after",.str x,.str y,.int n]
theorem jH.mono{us kI:List Str}{ws:List V}(h:jH us ws)(s:∀x∈us,x∈kI):jH kI ws:=by
  cases h with
  | plain hk hx hy=>exact .plain hk (s _ hx) (s _ hy)
  | after hx hy h0 h1=>exact .after (s _ hx) (s _ hy) h0 h1
theorem VJ{x:Str}(h:qK x=true):x.length<=12:=by
  unfold qK at h;simp only[gb,decide_eq_true_eq] at h;exact h.1.2
theorem VL:∀k∈Eg,k.length<=100:=by decide +kernel
theorem jH.words{us:List Str}{ws:List V}(h:jH us ws)(hu:∀x∈us,qK x=true):(∀v∈ws,Wd v)/\ws.length<=5/\∃x r,ws = .str x::r:=by
  have nm:∀x∈us,Wd (.str x):=fun x hx=>.inl ⟨x,rfl,bH (VJ (hu x hx)) (by decide)⟩
  cases h with
  | plain hk hx hy=>
    refine⟨fun v hv=>?_,by simp,_,_,rfl⟩;simp only[aO,gc,ie] at hv;rcases hv with rfl | rfl | rfl
    · exact .inl ⟨_,rfl,VL _ hk⟩
    · exact nm _ hx
    · exact nm _ hy
  | after hx hy h0 h1=>
    refine⟨fun v hv=>?_,by simp,_,_,rfl⟩;simp only[aO,gc,ie] at hv;rcases hv with rfl | rfl | rfl | rfl
    · exact .inl ⟨_,rfl,by decide +kernel⟩
    · exact nm _ hx
    · exact nm _ hy
    · exact .inr ⟨_,rfl,h1⟩
abbrev bU(H:Hp):List ah->List (List V)->Prop:=Paired fun a ws=>H a=some (.tup ws)
theorem bU.same{H H':Hp}(s:ak H H'):∀{as:List ah}{jU:List (List V)},bU H as jU->bU H' as jU
  | _,_,.nil=>.nil
  | _,_,.cons h t=>.cons (s _ _ h) (bU.same s t)
theorem bU.get{H:Hp}:∀{as:List ah}{jU:List (List V)}{a:ah},bU H as jU->a∈as->∃ws∈jU,H a=some (.tup ws)
  | _,_,_,.cons h t,ha=>by
    rcases aO.mp ha with ha | ha
    · subst ha;exact⟨_,e8 ..,h⟩
    · obtain⟨ws,hw,e⟩:=bU.get t ha;exact⟨ws,bE _ hw,e⟩
theorem bU.snoc{H:Hp}{a:ah}{ws:List V}{as:List ah}{jU:List (List V)}(t:bU H as jU)(h:H a=some (.tup ws)):bU H (as++[a]) (jU++[ws]):=Paired.snoc t h
theorem bU.cP{H H':Hp}(s:∀b xs,H b=some (.tup xs)->H' b=some (.tup xs)):∀{as:List ah}{jU:List (List V)},bU H as jU->bU H' as jU
  | _,_,.nil=>.nil
  | _,_,.cons h t=>.cons (s _ _ h) (bU.cP s t)
theorem lQ{H:Hp}{p:ah}{xs ys:List V}(h:H p=some (.lst xs)):∀b zs,H b=some (.tup zs)->upd H p (.lst ys) b=some (.tup zs):=fun b zs e=>by
  rw[ze (jE e h (by intro z;cases z))];exact e
theorem vH{xs:List Str}(nd:xs.Nodup)(k:Nat)(h:k<xs.length):xs[k] ∉ xs.take k:=by
  intro z;obtain⟨j,hj,e⟩:=mT.mp z;rw[List.getElem_take] at e;rw[bw] at hj;have:=(List.getElem_inj nd).mp e;lia
theorem VM{x y:V}(hx:Wd x)(hy:Wd y):p7 x y=decide (x=y):=by
  rcases hx with ⟨a,rfl,_⟩ | ⟨a,rfl,_⟩<;>rcases hy with ⟨b,rfl,_⟩ | ⟨b,rfl,_⟩
  · show(a == b)=_
    by_cases h:a=b
    · subst h;simp
    · rw[bq (fun z=>h (V.str.inj z))];exact f9.mpr h
  · exact(bq (fun z=>nomatch z)).symm
  · exact(bq (fun z=>nomatch z)).symm
  · show(a == b)=_
    by_cases h:a=b
    · subst h;simp
    · rw[bq (fun z=>h (V.int.inj z))];exact f9.mpr h
theorem VN{xs ys:List V}(hx:∀v∈xs,Wd v)(hy:∀v∈ys,Wd v):Cd xs ys=decide (xs=ys):=by
  by_cases h:xs=ys
  · subst h;rw[JY fun x q=>(hx x q).flat,aP rfl]
  · rw[bq h];rw[←Bool.not_eq_true];intro q;unfold Cd at q;rw[gb] at q;obtain⟨q1,q2⟩:=q;have q2:xs.length=ys.length:=by simpa using q2
    apply h;apply List.ext_getElem q2;intro i h1 h2;have:=iE.mp q1 i (d7.mpr (by lia));rw[aV h1,aV h2] at this;have e:p7 xs[i] ys[i]=true:=this;rw[VM (hx _ (jB h1)) (hy _ (jB h2))] at e;exact bG e
theorem bU.len{H:Hp}{as:List ah}{jU:List (List V)}(t:bU H as jU):as.length=jU.length:=Paired.length t
theorem bU.any{H:Hp}{as:List ah}{jU:List (List V)}{ws:List V}(t:bU H as jU):∀(e:V->Bool),(∀a vs,vs∈jU->H a=some (.tup vs)->e (.ref a)=decide (vs=ws))->(as.map V.ref).any e=decide (ws∈jU):=by
  intro e he
  induction t with
  | nil=>simp
  | @cons a vs as jU h t ih=>
    rw[cE,g9,he a vs (e8 ..) h,ih fun b us q r=>he b us (bE _ q) r]
    by_cases q:vs=ws
    · subst q;simp
    · rw[bq q,Bool.false_or];have:ws∈vs::jU↔ws∈jU:=by
        rw[aO];constructor
        · rintro(z | z)
          · exact absurd z.symm q
          · exact z
        · exact .inr
      exact iZ.mpr this.symm
def AO(H:Hp)(ws:List V):V->Bool
  | .ref a=>match H a with
    | some (.tup vs)=>decide (vs=ws)
    | _=>false
  | _=>false
theorem N9{H:Hp}{ws vs:List V}{a:ah}(h:H a=some (.tup vs)):AO H ws (.ref a)=decide (vs=ws):=by
  show(match H a with | some (.tup vs)=>decide (vs=ws) | _=>false)=_;rw[h]
theorem bU.Kc{H:Hp}{as:List ah}{jU:List (List V)}{ws:List V}(t:bU H as jU):(as.map V.ref).any (AO H ws)=decide (ws∈jU):=t.any _ fun _ _ _ h=>N9 h
theorem bU.VO{K:aF}{H:Hp}{n:Nat}{as:List ah}{jU:List (List V)}{ws:List V}{p:ah}(t:bU H as jU)(hw:∀vs∈jU,∀v∈vs,Wd v)(hp:H p=some (.tup ws))(hv:∀v∈ws,Wd v) :
    ∀z∈as.map V.ref,cV K H (n+1) z (.ref p) (AO H ws z):=by
  intro z hz;obtain⟨a,ha,rfl⟩:=aK.mp hz;obtain⟨vs,Oa,e⟩:=t.get ha;rw[N9 e,←VN (hw vs Oa) hv];exact cV.vC (bx.of e) (bx.of hp) (fun x q=>(hw vs Oa x q).flat) fun x q=>(hv x q).flat
theorem Cf{α:Type}{H:Hp}{g:α->List V}{aA:List ah}{ps:List α}{i:Nat}{x:V}(t:bU H aA (ps.map g))(hx:(aA.map V.ref)[i]? = some x) :
    ∃q p,x = .ref q/\ps[i]? = some p/\aA[i]? = some q/\H q=some (.tup (g p)):=by
  rw[aN] at hx;cases e:aA[i]? with
  | none=>rw[e] at hx;cases hx
  | some q=>
    rw[e] at hx;cases hx;obtain⟨ws,h1,h2⟩:=Paired.get' t e;rw[aN] at h1;cases e':ps[i]? with
    | none=>rw[e'] at h1;cases h1
    | some p=>
      rw[e'] at h1;cases h1;exact⟨q,p,rfl,rfl,rfl,h2⟩
theorem Ob{α:Type}{p:α->Prop}{xs:List α}{i:Nat}{x:α}(hx:xs[i]? = some x)(h:∀y∈xs.take i,p y)(hp:p x):∀y∈xs.take (i+1),p y:=by
  intro y hy;rw[aS,hx,bz] at hy;rcases hy with hy | hy
  · exact h y hy
  · simp at hy;subst hy;exact hp
theorem VP{u v:V}{i:Int}(h0:0<=i)(h1:i<2):∃z,kB [u,v] i=some z/\(z=u\/z=v):=by
  have h:i=0\/i=1:=by lia
  rcases h with rfl | rfl
  · exact⟨u,rfl,.inl rfl⟩
  · exact⟨v,rfl,.inr rfl⟩
structure aT where
  k:Str
  a:Str
  b:Str
  g:Option Int
def aW(t:aT):List V:=.str t.k :: .str t.a :: .str t.b::(match t.g with
  | some n=>[V.int n]
  | none=>[])
def iz:Str:="same"
structure mH(us:List Str)(t:aT):Prop where
  ok:jH us (aW t)
  a:t.a∈us
  b:t.b∈us
theorem Kd(t:aT):kB (aW t) 0=some (.str t.k):=D8
theorem GP(t:aT):kB (aW t) 1=some (.str t.a):=tE (xs:=aW t) (j:=1) rfl
theorem GQ(t:aT):kB (aW t) 2=some (.str t.b):=tE (xs:=aW t) (j:=2) rfl
theorem GR{x y:Str}(h1:¬co x<co y)(h2:¬co y<co x):x=y:=by
  rw[nD] at h1 h2;exact Ka (List.le_antisymm h2 h1)
theorem Eh{x y:Str}(h1:co x<co y)(h2:co y<co x):False:=gO _ (nC h1 h2)
theorem Ke{y m f:List Nat}(h1:y<m)(h2:¬f<m):y<f:=by
  exact fG fun z=>h2 (List.lt_of_le_of_lt (nD.mp z) h1)
def nQ(x y:Str):Str:=if co y<co x then y else x
theorem VQ(x y:Str):nQ x y=x\/nQ x y=y:=by unfold nQ;split<;>simp
theorem VR(x y:Str):¬co x<co (nQ x y):=by
  unfold nQ;split
  · next h=>exact fun z=>Eh h z
  · exact gO _
theorem VS(x y:Str):¬co y<co (nQ x y):=by
  unfold nQ;split
  · exact gO _
  · next h=>exact h
def Nb(ts:List aT)(y z:Str):Prop:=∃t∈ts,t.k=iz/\((t.a=y/\t.b=z)\/(t.b=y/\t.a=z))
inductive Cn(ts:List aT):Str->Str->Prop where
  | refl (x:Str):Cn ts x x
  | step {x y z:Str}(h:Cn ts x y) (n:Nb ts y z):Cn ts x z
theorem Nb.symm{ts:List aT}{y z:Str}(h:Nb ts y z):Nb ts z y:=by
  obtain⟨t,ht,hk,h⟩:=h;exact⟨t,ht,hk,h.elim (fun q=>.inr ⟨q.2,q.1⟩) fun q=>.inl ⟨q.2,q.1⟩⟩
theorem Cn.trans{ts:List aT}{x y z:Str}(h:Cn ts x y)(h2:Cn ts y z):Cn ts x z:=by
  induction h2 with
  | refl=>exact h
  | step _ n ih=>exact ih.step n
theorem Cn.one{ts:List aT}{y z:Str}(n:Nb ts y z):Cn ts y z:=(Cn.refl y).step n
theorem Cn.symm{ts:List aT}{x y:Str}(h:Cn ts x y):Cn ts y x:=by
  induction h with
  | refl=>exact .refl _
  | step _ n ih=>exact(Cn.one n.symm).trans ih
theorem Nb.mono{ts cU:List aT}{y z:Str}(h:Nb ts y z)(s:∀t∈ts,t∈cU):Nb cU y z:=by
  obtain⟨t,ht,r⟩:=h;exact⟨t,s t ht,r⟩
theorem Cn.mono{ts cU:List aT}{y z:Str}(h:Cn ts y z)(s:∀t∈ts,t∈cU):Cn cU y z:=by
  induction h with
  | refl=>exact .refl _
  | step _ n ih=>exact ih.step (n.mono s)
theorem Nb.mem{us:List Str}{ts:List aT}{y z:Str}(h:Nb ts y z)(ht:∀t∈ts,t.a∈us/\t.b∈us):z∈us:=by
  obtain⟨t,h1,_,h2⟩:=h;rcases h2 with ⟨_,rfl⟩ | ⟨_,rfl⟩
  · exact(ht t h1).2
  · exact(ht t h1).1
theorem Cn.mem{us:List Str}{ts:List aT}{y z:Str}(h:Cn ts y z)(hy:y∈us)(ht:∀t∈ts,t.a∈us/\t.b∈us):z∈us:=by
  cases h with
  | refl=>exact hy
  | step _ n=>exact n.mem ht
def jn(cL:Str->Str)(f s:Str):Str->Str:=fun x=>if cL x=f\/cL x=s then nQ f s else cL x
def yd(cL:Str->Str)(t:aT):Str->Str:=if t.k=iz then jn cL (cL t.a) (cL t.b) else cL
def aR(ts:List aT):Str->Str:=ts.foldl yd id
structure Good(ts:List aT)(cL:Str->Str):Prop where
  to:∀x,Cn ts x (cL x)
  eq:∀x y,Cn ts x y->cL x=cL y
  le:∀x y,Cn ts x y->¬co y<co (cL x)
theorem VT:Good [] id:=by
  have h:∀x y,Cn [] x y->x=y:=by
    intro x y c
    induction c with
    | refl=>rfl
    | step _ n _=>obtain⟨t,ht,_⟩:=n;cases ht
  exact⟨fun x=>.refl x,h,fun x y c=>by rw[h x y c];exact gO _⟩
theorem VU{ts:List aT}{cL:Str->Str}{t:aT}(g:Good ts cL):Good (ts++[t]) (yd cL t):=by
  have sub:∀u∈ts,u∈ts++[t]:=fun u hu=>dF _ hu
  by_cases hk:t.k=iz
  · unfold yd;rw[av hk];have nt:Nb (ts++[t]) t.a t.b:=⟨t,by simp,hk,.inl ⟨rfl,rfl⟩⟩;have ca:∀x,cL x=cL t.a->Cn (ts++[t]) x t.a:=fun x e=>by
      have h1:=(g.to x).mono sub;have h2:=(g.to t.a).mono sub;rw[e] at h1;exact h1.trans h2.symm
    have cb:∀x,cL x=cL t.b->Cn (ts++[t]) x t.b:=fun x e=>by
      have h1:=(g.to x).mono sub;have h2:=(g.to t.b).mono sub;rw[e] at h1;exact h1.trans h2.symm
    have la:Cn (ts++[t]) t.a (cL t.a):=(g.to t.a).mono sub;have lb:Cn (ts++[t]) t.b (cL t.b):=(g.to t.b).mono sub;have to:∀x,Cn (ts++[t]) x (jn cL (cL t.a) (cL t.b) x):=by
      intro x;unfold jn;split
      · next h=>
        have hx:Cn (ts++[t]) x t.a:=h.elim (ca x) fun e=>(cb x e).trans (Cn.one nt.symm)
        rcases VQ (cL t.a) (cL t.b) with e | e
        · rw[e];exact hx.trans la
        · rw[e];exact(hx.trans (Cn.one nt)).trans lb
      · exact(g.to x).mono sub
    have ja:jn cL (cL t.a) (cL t.b) t.a=nQ (cL t.a) (cL t.b):=av (.inl rfl);have jb:jn cL (cL t.a) (cL t.b) t.b=nQ (cL t.a) (cL t.b):=av (.inr rfl);have eq:∀x y,Cn (ts++[t]) x y->jn cL (cL t.a) (cL t.b) x=jn cL (cL t.a) (cL t.b) y:=by
      intro x y c
      induction c with
      | refl=>rfl
      | @step y z _ n ih=>
        rw[ih];obtain⟨u,hu,GS,h⟩:=n;rcases bz.mp hu with hu | hu
        · have:cL y=cL z:=g.eq y z (Cn.one ⟨u,hu,GS,h⟩);unfold jn;rw[this]
        · have hu:u=t:=by simpa using hu
          subst hu;rcases h with ⟨rfl,rfl⟩ | ⟨rfl,rfl⟩
          · rw[ja,jb]
          · rw[ja,jb]
    refine⟨to,eq,fun x y c=>?_⟩;rw[eq x y c];have old:=g.le y y (.refl y);unfold jn;split
    · next h=>
      rcases h with e | e
      · intro z;rw[e] at old;exact old (Ke z (VR _ _))
      · intro z;rw[e] at old;exact old (Ke z (VS _ _))
    · exact old
  · unfold yd;rw[ao hk];have back:∀x y,Cn (ts++[t]) x y->Cn ts x y:=by
      intro x y c
      induction c with
      | refl=>exact .refl _
      | step _ n ih=>
        obtain⟨u,hu,GS,h⟩:=n;rcases bz.mp hu with hu | hu
        · exact ih.step ⟨u,hu,GS,h⟩
        · have hu:u=t:=by simpa using hu
          subst hu;exact absurd GS hk
    exact⟨fun x=>(g.to x).mono sub,fun x y c=>g.eq x y (back x y c),fun x y c=>g.le x y (back x y c)⟩
theorem Oc:∀(Od ts:List aT)(cL:Str->Str),Good ts cL->Good (ts++Od) (Od.foldl yd cL)
  | [],ts,cL,g=>by rw[fL];exact g
  | t::r,ts,cL,g=>by
    have:=Oc r (ts++[t]) (yd cL t) (VU g);rw[lC] at this;exact this
theorem zD(ts:List aT):Good ts (aR ts):=Oc ts [] id VT
theorem Oe{ts:List aT}{i:Nat}{t:aT}(h:ts[i]? = some t):aR (ts.take (i+1))=yd (aR (ts.take i)) t:=by
  unfold aR;rw[aS,h,zZ];rfl
theorem VV{ts:List aT}{x m:Str}(h1:Cn ts x m)(h2:∀y,Cn ts x y->¬co y<co m):m=aR ts x:=
  GR ((zD ts).le x m h1) (h2 _ ((zD ts).to x))
theorem Of{us:List Str}{ts:List aT}{x:Str}(hx:x∈us)(ht:∀t∈ts,t.a∈us/\t.b∈us):aR ts x∈us:=((zD ts).to x).mem hx ht
def dN(us:List Str)(cL:Str->Str):List (Key×V):=us.map fun x=>(Sum.inr x,V.str (cL x))
theorem AQ{us:List Str}{cL:Str->Str}{x:Str}(h:x∈us):cT (dN us cL) (Sum.inr x)=some (.str (cL x)):=by
  induction us with
  | nil=>cases h
  | cons y r ih=>
    unfold dN;rw[cE]
    by_cases e:y=x
    · subst e;exact AA rfl
    · have hx:x∈r:=by
        rcases aO.mp h with h | h
        · exact absurd h.symm e
        · exact h
      have:=ih hx;unfold cT at this ⊢;rw[List.find?_cons_of_neg (by simpa using e)];exact this
theorem VW{us:List Str}{cL:Str->Str}{x y:Str}(h:x∈us):putK (dN us cL) (Sum.inr x) (.str y)=dN us (fun z=>if z=x then y else cL z):=by
  have ha:((dN us cL).any fun kv=>decide (kv.1=(Sum.inr x:Key)))=true:=by
    rw[jC];exact⟨(Sum.inr x,V.str (cL x)),aK.mpr ⟨x,h,rfl⟩,aP rfl⟩
  unfold putK;rw[av ha];unfold dN;rw[cz];apply fH;intro z _;show(if(Sum.inr z:Key)=Sum.inr x then(Sum.inr z,V.str y) else(Sum.inr z,V.str (cL z)))=_
  by_cases e:z=x
  · subst e;simp
  · rw[ao (fun q=>e (gq q))];show _=(Sum.inr z,V.str (if z=x then y else cL z));rw[ao e]
theorem VX{us:List Str}{x:Str}(h:x ∉ us):putK (dN us id) (Sum.inr x) (.str x)=dN (us++[x]) id:=by
  have ha:¬((dN us id).any fun kv=>decide (kv.1=(Sum.inr x:Key)))=true:=by
    rw[jC];rintro⟨kv,h1,h2⟩;obtain⟨z,hz,rfl⟩:=aK.mp h1;have h2:z=x:=gq (bG h2);subst h2;exact h hz
  unfold putK;rw[ao ha];unfold dN;rw[aL];rfl
theorem GU{us:List Str}{f g:Str->Str}(h:∀x∈us,f x=g x):dN us f=dN us g:=by
  unfold dN;apply fH;intro x hx;rw[h x hx]
theorem Og(us:List Str)(f:Str->Str):(dN us f).length=us.length:=aq _
theorem VY(us:List Str)(f:Str->Str):((dN us f).map fun kv=>kV kv.1)=us.map V.str:=by
  unfold dN;rw[cz];rfl
theorem uR{us rs:List Str}(hn:rs.Nodup)(hs:∀x∈rs,x∈us):rs.length<=us.length:=by
  induction rs generalizing us with
  | nil=>simp
  | cons a r ih=>
    rw[fM] at hn;have ha:=hs a (by simp);have h2:∀x∈r,x∈us.erase a:=fun x hx=>by
      refine(List.mem_erase_of_ne (fun z=>by subst z;exact hn.1 hx)).mpr (hs x (bE _ hx))
    have:=ih hn.2 h2;rw[o7 ha] at this;have hp:0<us.length:=qT ha;rw[fK];lia
def AR(l:List Str):Prop:=l.Pairwise (fun a b=>¬co b<co a)
theorem Oh:∀{a b:List Str},a.Perm b->AR a->AR b->a=b
  | [],b,p,_,_=>by rw[List.nil_perm.mp p]
  | x::r,[],p,_,_=>by have:=p.length_eq;cases this
  | x::r,y::r',p,ha,hb=>by
    have hx:x∈y::r':=p.mem_iff.mp (by simp);have hy:y∈x::r:=p.mem_iff.mpr (by simp);have e:x=y:=by
      rcases aO.mp hx with h | h
      · exact h
      · rcases aO.mp hy with h2 | h2
        · exact h2.symm
        · exact GR ((iD.mp hb).1 x h) ((iD.mp ha).1 y h2)
    subst e;rw[Oh (List.Perm.cons_inv p) (iD.mp ha).2 (iD.mp hb).2]
def tN(x:Str):List Str->List Str
  | []=>[x]
  | y::r=>if co y<co x then y::tN x r else x::y::r
def aM:List Str->List Str
  | []=>[]
  | x::r=>tN x (aM r)
theorem Kf(x:Str):∀l,(tN x l).Perm (x::l)
  | []=>.refl _
  | y::r=>by
    unfold tN;split
    · exact((Kf x r).cons y).trans (.swap x y r)
    · exact .refl _
theorem Cg:∀l,(aM l).Perm l
  | []=>.refl _
  | x::r=>(Kf x (aM r)).trans ((Cg r).cons x)
theorem Oi(x:Str):∀l,AR l->AR (tN x l)
  | [],_=>List.pairwise_singleton ..
  | y::r,h=>by
    unfold tN;obtain⟨h1,h2⟩:=iD.mp h;split
    · next c=>
      refine iD.mpr ⟨fun z hz=>?_,Oi x r h2⟩;rcases aO.mp ((Kf x r).mem_iff.mp hz) with e | hz
      · subst e;exact fun q=>Eh q c
      · exact h1 z hz
    · next c=>
      refine iD.mpr ⟨fun z hz=>?_,h⟩;rcases aO.mp hz with e | hz
      · subst e;exact c
      · intro q;exact h1 z hz (Ke q c)
theorem GV:∀l,AR (aM l)
  | []=>.nil
  | x::r=>Oi x (aM r) (GV r)
theorem Ci{ms us:List Str}(p:ms.Perm us)(h:AR ms):ms=aM us:=Oh (p.trans (Cg us).symm) h (GV us)
theorem Oj{us vs:List Str}(p:us.Perm vs):aM us=aM vs:=Ci ((Cg us).trans p) (GV us)
theorem Kg{us:List Str}(h:us.Nodup):(aM us).Nodup:=(Cg us).nodup_iff.mpr h
theorem kJ{us:List Str}{x:Str}:x∈aM us↔x∈us:=(Cg us).mem_iff
theorem Kh(us:List Str):(aM us).length=us.length:=(Cg us).length_eq
theorem GW{us:List Str}(h:us.Nodup):(aM us).Pairwise (fun a b=>co a<co b):=by
  have h1:=GV us;have h2:=Kg h;refine(h1.and h2).imp fun{a b}aQ=>?_
  obtain⟨p,q⟩:=aQ;exact fG fun k=>q (GR k p)
theorem VZ{ss:List Str}(h:ss.Pairwise (fun a b=>co a<co b)){i j:Nat}{x y:Str}(hx:ss[i]? = some x)(hy:ss[j]? = some y)(hl:co x<co y):i<j:=by
  obtain⟨hi,ex⟩:=bI.mp hx;obtain⟨hj,ey⟩:=bI.mp hy;rcases jN i j with c | c | c
  · exact c
  · subst c;rw[ex] at ey;subst ey;exact absurd hl (gO _)
  · have:=(jx.mp h) j i hj hi c;rw[ex,ey] at this;exact(Eh hl this).elim
def dV(ks:List Str)(f:Str->V):List (Key×V):=ks.map fun x=>(Sum.inr x,f x)
theorem pR{ks:List Str}{f:Str->V}{x:Str}(h:x∈ks):cT (dV ks f) (Sum.inr x)=some (f x):=by
  induction ks with
  | nil=>cases h
  | cons y r ih=>
    unfold dV;rw[cE]
    by_cases e:y=x
    · subst e;exact AA rfl
    · have hx:x∈r:=by
        rcases aO.mp h with h | h
        · exact absurd h.symm e
        · exact h
      have:=ih hx;unfold cT at this ⊢;rw[List.find?_cons_of_neg (by simpa using e)];exact this
theorem AS{ks:List Str}{f:Str->V}{x:Str}(h:x ∉ ks):cT (dV ks f) (Sum.inr x)=none:=by
  unfold cT;rw[List.find?_eq_none.mpr]
  · rfl
  · intro kv GX;obtain⟨z,hz,rfl⟩:=aK.mp GX;intro e;have e:z=x:=gq (bG e);subst e;exact h hz
theorem GY{ks:List Str}{f:Str->V}{x:Str}{v:V}(h:x∈ks):putK (dV ks f) (Sum.inr x) v=dV ks (fun z=>if z=x then v else f z):=by
  have ha:((dV ks f).any fun kv=>decide (kv.1=(Sum.inr x:Key)))=true:=by
    rw[jC];exact⟨(Sum.inr x,f x),aK.mpr ⟨x,h,rfl⟩,aP rfl⟩
  unfold putK;rw[av ha];unfold dV;rw[cz];apply fH;intro z _;show(if(Sum.inr z:Key)=Sum.inr x then(Sum.inr z,v) else(Sum.inr z,f z))=(Sum.inr z,if z=x then v else f z)
  by_cases e:z=x
  · subst e;simp
  · rw[ao (fun q=>e (gq q)),ao e]
theorem wZ{ks:List Str}{f:Str->V}{x:Str}{v:V}(h:x ∉ ks):putK (dV ks f) (Sum.inr x) v=dV (ks++[x]) (fun z=>if z=x then v else f z):=by
  have ha:¬((dV ks f).any fun kv=>decide (kv.1=(Sum.inr x:Key)))=true:=by
    rw[jC];rintro⟨kv,h1,h2⟩;obtain⟨z,hz,rfl⟩:=aK.mp h1;have h2:z=x:=gq (bG h2);subst h2;exact h hz
  unfold putK;rw[ao ha];unfold dV;rw[aL]
  congr 1
  · apply fH;intro z hz;have:¬z=x:=fun e=>h (e▸hz)
    show _=(Sum.inr z,if z=x then v else f z);rw[ao this]
  · show[(Sum.inr x,v)] = [(Sum.inr x,if x=x then v else f x)];rw[av rfl]
theorem tO{ks:List Str}{f g:Str->V}(h:∀x∈ks,f x=g x):dV ks f=dV ks g:=by
  unfold dV;apply fH;intro x hx;rw[h x hx]
theorem jV(ks:List Str)(f:Str->V):(dV ks f).length=ks.length:=aq _
theorem GZ(ks:List Str)(f:Str->V):((dV ks f).map fun kv=>kV kv.1)=ks.map V.str:=by
  unfold dV;rw[cz];rfl
theorem V0(ks:List Str)(f:Str->V):((dV ks f).map (·.2))=ks.map f:=by
  unfold dV;rw[cz];rfl
def zn(ts:List aT)(ss:List Str):List Str:=ss.filter fun x=>decide (aR ts x=x)
def pS(ts:List aT)(ss:List Str)(k:Str):List Str:=ss.filter fun x=>decide (aR ts x=k)
def qb(us:List Str)(ts:List aT):List (List Str):=(zn ts (aM us)).map (pS ts (aM us))
theorem Ol{ts:List aT}{ss:List Str}{i:Nat}{u:Str}(h:ss[i]? = some u):zn ts (ss.take (i+1))=zn ts (ss.take i)++(if aR ts u=u then[u] else[]):=by
  unfold zn;rw[aS,h,lW]
  by_cases c:aR ts u=u
  · rw[av c];simp[c]
  · rw[ao c];simp[c]
theorem Kl{ts:List aT}{ss:List Str}{i:Nat}{u k:Str}(h:ss[i]? = some u):pS ts (ss.take (i+1)) k=pS ts (ss.take i) k++(if aR ts u=k then[u] else[]):=by
  unfold pS;rw[aS,h,lW]
  by_cases c:aR ts u=k
  · rw[av c];simp[c]
  · rw[ao c];simp[c]
theorem Om(ts:List aT)(x:Str):aR ts (aR ts x)=aR ts x:=((zD ts).eq x _ ((zD ts).to x)).symm
theorem Km(ts:List aT)(x:Str):¬co x<co (aR ts x):=(zD ts).le x x (.refl x)
theorem V1{us:List Str}{ts:List aT}(nd:us.Nodup)(ht:∀t∈ts,t.a∈us/\t.b∈us){i:Nat}{u:Str}(h:(aM us)[i]? = some u)(mF:aR ts u≠u):aR ts u∈zn ts ((aM us).take i):=by
  have hu:u∈us:=kJ.mp (bC h);have hl:aR ts u∈aM us:=kJ.mpr (Of hu ht);obtain⟨j,hj,ej⟩:=mT.mp hl;have V2:(aM us)[j]? = some (aR ts u):=by rw[aV hj,ej]
  have dz:co (aR ts u)<co u:=fG fun k=>mF (GR k (Km ts u))
  have qF:=VZ (GW nd) V2 h dz;unfold zn;rw[cy];refine⟨?_,aP (Om ts u)⟩;rw[uX];exact⟨j,by lia,ej⟩
theorem V3{us:List Str}{ts:List aT}(nd:us.Nodup){i:Nat}{u:Str}(h:(aM us)[i]? = some u):u ∉ zn ts ((aM us).take i)/\(aR ts u=u->pS ts ((aM us).take i) u = []):=by
  have hi:=(bI.mp h).1;have eu:=(bI.mp h).2;have dz:∀x∈(aM us).take i,co x<co u:=by
    intro x hx;obtain⟨j,hj,ej⟩:=uX.mp hx;have:=(jx.mp (GW nd)) j i (by lia) hi (by lia);rw[ej,eu] at this;exact this
  refine⟨fun z=>?_,fun e=>?_⟩
  · have:=dz u (cy.mp z).1;exact gO _ this
  · unfold pS;rw[qU];intro x hx c;have c:aR ts x=u:=bG c;have:=Km ts x;rw[c] at this;exact this (dz x hx)
section
variable{us:List Str}{ts:List aT}
theorem qt{k:Str}:k∈zn ts (aM us)↔k∈us/\aR ts k=k:=by
  unfold zn;rw[cy,kJ,gM]
theorem vJ(nd:us.Nodup):(zn ts (aM us)).Nodup:=(Kg nd).sublist (jL ..)
theorem Oo(nd:us.Nodup):(zn ts (aM us)).Pairwise (fun a b=>co a<co b):=(GW nd).sublist (jL ..)
theorem V4(nd:us.Nodup)(k:Str):(pS ts (aM us) k).Pairwise (fun a b=>co a<co b):=(GW nd).sublist (jL ..)
theorem sM{k y:Str}:y∈pS ts (aM us) k↔y∈us/\aR ts y=k:=by
  unfold pS;rw[cy,kJ,gM]
theorem Ei(ht:∀t∈ts,t.a∈us/\t.b∈us){x:Str}(hx:x∈us):aR ts x∈zn ts (aM us):=qt.mpr ⟨Of hx ht,Om ts x⟩
theorem Oq(nd:us.Nodup){k:Str}(hk:k∈zn ts (aM us)):∃r,pS ts (aM us) k=k::r:=by
  obtain⟨h1,h2⟩:=qt.mp hk;have hm:k∈pS ts (aM us) k:=sM.mpr ⟨h1,h2⟩;have hp:=V4 (ts:=ts) nd k;cases e:pS ts (aM us) k with
  | nil=>rw[e] at hm;cases hm
  | cons x r=>
    rw[e] at hm hp;rcases aO.mp hm with z | z
    · rw[z];exact⟨r,rfl⟩
    · have h3:=(iD.mp hp).1 k z;have hx:x∈pS ts (aM us) k:=by rw[e];simp
      have h4:=Km ts x;rw[(sM.mp hx).2] at h4;exact absurd h3 h4
theorem Kn(nd:us.Nodup):(qb us ts).length<=us.length:=by
  unfold qb;rw[aq];have:=e7 (fun x=>decide (aR ts x=x)) (aM us);rw[Kh] at this;exact this
end
structure bN where
  n:Str
  u:Str
  lo:Int
  hi:Int
def cZ(f:bN):List V:=[.str f.n,.str f.u,.int f.lo,.int f.hi]
structure Cj(us:List Str)(f:bN):Prop where
  n:qK f.n=true
  u:f.u∈us
  le:f.lo<=f.hi
  lo:qM f.lo
  hi:qM f.hi
theorem mH.mono{us kI:List Str}{t:aT}(h:mH us t)(s:∀x∈us,x∈kI):mH kI t:=⟨h.ok.mono s,s _ h.a,s _ h.b⟩
theorem Cj.mono{us kI:List Str}{f:bN}(h:Cj us f)(s:∀x∈us,x∈kI):Cj kI f:=⟨h.n,s _ h.u,h.le,h.lo,h.hi⟩
theorem Ko{t u:aT}(h:aW t=aW u):t=u:=by
  obtain⟨k,a,b,g⟩:=t;obtain⟨k',a',b',g'⟩:=u;unfold aW at h;simp only[List.cons.injEq,V.str.injEq] at h;obtain⟨rfl,rfl,rfl,h⟩:=h;cases g with
  | none=>
    cases g' with
    | none=>rfl
    | some n=>simp at h
  | some n=>
    cases g' with
    | none=>simp at h
    | some n'=>
      simp at h;rw[h]
abbrev Ln:=Str->List (Str×ah)
def dj(ts:List aT)(z:List (aT×ah)):Ln:=fun k=>(z.filter fun p=>decide (p.1.k≠iz/\aR ts p.1.a=k)).map fun p=>(aR ts p.1.b,p.2)
theorem Ot{ts:List aT}{z:List (aT×ah)}{i:Nat}{t:aT}{r:ah}{k:Str}(h:z[i]? = some (t,r)):dj ts (z.take (i+1)) k=dj ts (z.take i) k++(if t.k≠iz/\aR ts t.a=k then[(aR ts t.b,r)] else[]):=by
  unfold dj;rw[aS,h,lW,aL]
  by_cases c:t.k≠iz/\aR ts t.a=k
  · rw[av c];simp[c.1,c.2]
  · rw[ao c]
    congr 1
    have:((some (t,r)).toList.filter fun p=>decide (p.1.k≠iz/\aR ts p.1.a=k)) = []:=by
      rw[qU];intro p hp;have:p=(t,r):=by simpa using hp
      subst this;intro e;exact c (bG e)
    rw[this];rfl
theorem kK{ts:List aT}{z:List (aT×ah)}{k l:Str}{r:ah}:(l,r)∈dj ts z k↔∃t,(t,r)∈z/\t.k≠iz/\aR ts t.a=k/\aR ts t.b=l:=by
  unfold dj;rw[aK];constructor
  · rintro⟨⟨t,r'⟩,h,e⟩;rw[cy,gM] at h;simp only[Prod.mk.injEq] at e;obtain⟨e1,e2⟩:=e;subst e2;exact⟨t,h.1,h.2.1,h.2.2,e1⟩
  · rintro⟨t,h1,h2,h3,h4⟩;refine⟨(t,r),?_,by simp[h4]⟩;rw[cy,gM];exact⟨h1,h2,h3⟩
theorem G0{ts:List aT}{z:List (aT×ah)}{k:Str}:(dj ts z k).length<=z.length:=by
  unfold dj;rw[aq];exact e7 _ _
inductive Wk(ln:Ln)(s:Str):List ah->Str->Prop
  | nil:Wk ln s [] s
  | snoc {rs:List ah}{m l:Str}{r:ah}(w:Wk ln s rs m) (h:(l,r)∈ln m):Wk ln s (rs++[r]) l
def Rc(ln:Ln)(s:Str)(n:Nat)(v:Str):Prop:=∃rs,Wk ln s rs v/\rs.length=n
theorem Rc.zero{ln:Ln}{s v:Str}(h:Rc ln s 0 v):v=s:=by
  obtain⟨rs,w,e⟩:=h;cases w with
  | nil=>rfl
  | snoc w h=>simp at e
theorem Rc.succ{ln:Ln}{s v:Str}{n:Nat}(h:Rc ln s (n+1) v):∃u r,Rc ln s n u/\(v,r)∈ln u:=by
  obtain⟨rs,w,e⟩:=h;cases w with
  | nil=>simp at e
  | snoc w h=>exact⟨_,_,⟨_,w,by simpa using e⟩,h⟩
theorem Rc.step{ln:Ln}{s v u:Str}{n:Nat}{r:ah}(h:Rc ln s n u)(e:(v,r)∈ln u):Rc ln s (n+1) v:=by
  obtain⟨rs,w,q⟩:=h;exact⟨_,w.snoc e,by simp[q]⟩
structure Bf(ln:Ln)(s:Str)(d:Nat)(M ns:List Str):Prop where
  met:∀v∈M,∃j,1<=j/\j<=d/\Rc ln s j v
  no:∀j,1<=j->j<=d->¬Rc ln s j s
  all:∀v,Rc ln s d v->(∀j,1<=j->j<d->¬Rc ln s j v)->v∈ns
theorem Bf.zero{ln:Ln}{s:Str}:Bf ln s 0 [] [s]:=
  ⟨fun v h=>(gc h).elim,fun j h1 h2=>by lia,fun v h _=>by rw[h.zero];simp⟩
theorem Bf.succ{ln:Ln}{s:Str}{d:Nat}{M ns ms:List Str}(b:Bf ln s d M ns)(hm:∀v∈ms,Rc ln s (d+1) v)(hs:∀u∈ns,∀v r,(v,r)∈ln u->v≠s/\v∈M++ms):Bf ln s (d+1) (M++ms) ms:=by
  refine⟨fun v h=>?_,fun j h1 h2 q=>?_,fun v h hj=>?_⟩
  · rcases bz.mp h with h | h
    · obtain⟨j,a,c,e⟩:=b.met v h;exact⟨j,a,by lia,e⟩
    · exact⟨d+1,by lia,by lia,hm v h⟩
  · by_cases c:j<=d
    · exact b.no j h1 c q
    · have e:j=d+1:=by lia
      subst e;obtain⟨u,r,hu,he⟩:=q.succ
      by_cases c2:∃j,1<=j/\j<d/\Rc ln s j u
      · obtain⟨j,a1,a2,a3⟩:=c2;exact b.no (j+1) (by lia) (by lia) (a3.step he)
      · exact(hs u (b.all u hu fun j a1 a2 a3=>c2 ⟨j,a1,a2,a3⟩) s r he).1 rfl
  · obtain⟨u,r,hu,he⟩:=h.succ;have c7:u∈ns:=b.all u hu fun j a1 a2 a3=>hj (j+1) (by lia) (by lia) (a3.step he)
    rcases bz.mp (hs u c7 v r he).2 with h | h
    · obtain⟨j,a1,a2,a3⟩:=b.met v h;exact absurd a3 (hj j a1 (by lia))
    · exact h
theorem Bf.done{ln:Ln}{s:Str}{d:Nat}{M:List Str}(b:Bf ln s d M []):∀j,1<=j->¬Rc ln s j s:=by
  have low:∀j v,1<=j->Rc ln s j v->∃j',1<=j'/\j'<=d/\Rc ln s j' v/\j'<max d 1:=by
    intro j
    induction j with
    | zero=>intro v h;lia
    | succ j ih=>
      intro v _ h;have Ej:Rc ln s d v->∃j',1<=j'/\j'<=d/\Rc ln s j' v/\j'<max d 1:=fun q=>by
        by_cases c:∃j,1<=j/\j<d/\Rc ln s j v
        · obtain⟨i,a1,a2,a3⟩:=c;exact⟨i,a1,by lia,a3,by lia⟩
        · exact nomatch b.all v q fun i a1 a2 a3=>c ⟨i,a1,a2,a3⟩
      by_cases c1:j+1<d
      · exact⟨j+1,by lia,by lia,h,by lia⟩
      · by_cases c2:j+1=d
        · exact Ej (c2▸h)
        · obtain⟨u,r,hu,he⟩:=h.succ
          by_cases c3:j=0
          · have:d=0:=by lia
            subst this;subst c3;exact(nomatch b.all s ⟨[],.nil,rfl⟩ fun i a1 a2 a3=>by lia)
          · obtain⟨j',a1,a2,a3,a4⟩:=ih u (by lia) hu
            by_cases c4:j'+1=d
            · exact Ej (c4▸a3.step he)
            · exact⟨j'+1,by lia,by lia,a3.step he,by lia⟩
  intro j h q;obtain⟨j',a1,a2,a3,_⟩:=low j s h q;exact b.no j' a1 a2 a3
structure Bn(H:Hp)(pd:ah)(ob:Obj)(keys:List Str)(ln:Ln)(ad:Str->ah)(bs:Str->List ah):Prop where
  d:H pd=some (.dw ob (.dK (dV keys fun k=>.ref (ad k))))
  l:∀k∈keys,H (ad k)=some (.lst ((bs k).map V.ref))
  e:∀k∈keys,Paired (fun b(p:Str×ah)=>H b=some (.tup [.str p.1,.ref p.2])) (bs k) (ln k)
theorem Bn.same{H H':Hp}{pd:ah}{ob:Obj}{keys:List Str}{ln:Ln}{ad:Str->ah}{bs:Str->List ah}(b:Bn H pd ob keys ln ad bs)(s:ak H H'):Bn H' pd ob keys ln ad bs:=
  ⟨s _ _ b.d,fun k hk=>s _ _ (b.l k hk),fun k hk=>Paired.gy (b.e k hk) fun _ _ h=>s _ _ h⟩
theorem tP{α:Type}{F:ah->α->Prop}{as:List ah}{ps:List α}{i:Nat}{x:V}(t:Paired F as ps)(hx:(as.map V.ref)[i]? = some x):∃q p,x = .ref q/\ps[i]? = some p/\as[i]? = some q/\F q p:=by
  rw[aN] at hx;cases e:as[i]? with
  | none=>rw[e] at hx;cases hx
  | some q=>
    rw[e] at hx;cases hx;obtain⟨p,h1,h2⟩:=Paired.get' t e;exact⟨q,p,rfl,h1,rfl,h2⟩
def Ou(H:Hp)(b:ah)(e:Str×List ah):Prop:=∃q,H b=some (.tup [.str e.1,.ref q])/\H q=some (.lst (e.2.map V.ref))
def Kp(pl:ah)(H:Hp)(b:ah)(e:Str×List ah):Prop:=∃q,q≠pl/\H b=some (.tup [.str e.1,.ref q])/\H q=some (.lst (e.2.map V.ref))
def iH:Str->V:=fun _=>.bl true
theorem Kq{M:List Str}{v:Str}(h:v ∉ M):putK (dV M iH) (Sum.inr v) (.bl true)=dV (M++[v]) iH:=by
  rw[wZ h];refine tO fun z _=>?_
  unfold iH;split<;>rfl
structure vK(Hw H':Hp)(pm pl:ah)(ln:Ln)(s:Str)(keys M:List Str)(d:Nat)(ml:List ah)(fs:List (Str×List ah)):Prop where
  kp:∀b o,b≠pm->Hw b=some o->H' b=some o
  m:H' pm=some (.dK (dV (M++fs.map Prod.fst) iH))
  l:H' pl=some (.lst (ml.map V.ref))
  w:Paired (Kp pl H') ml fs
  ok:∀e∈fs,Wk ln s e.2 e.1/\e.2.length=d+1/\e.1∈keys
  nd:(M++fs.map Prod.fst).Nodup
section
variable{Hw H':Hp}{pm pl:ah}{ln:Ln}{s:Str}{keys M:List Str}{d:Nat}{ml:List ah}{fs:List (Str×List ah)}
theorem vK.add(g:vK Hw H' pm pl ln s keys M d ml fs)(hw:Hw pl=none)(zE:pl≠pm){v:Str}{rs:List ah}(hv:v ∉ M++fs.map Prod.fst){H2:Hp}(s2:ak (upd H' pm (.dK (dV (M++fs.map Prod.fst++[v]) iH))) H2){q b:ah}
    (hq:H2 q=some (.lst (rs.map V.ref))) (nq:q≠pl) (hb:H2 b=some (.tup [.str v,.ref q])) (ok:Wk ln s rs v/\rs.length=d+1/\v∈keys) :
    vK Hw (upd H2 pl (.lst (ml.map V.ref++[.ref b]))) pm pl ln s keys M d (ml++[b]) (fs++[(v,rs)]):=by
  have l2:H2 pl=some (.lst (ml.map V.ref)):=s2 _ _ (by rw[ze zE];exact g.l);have xB:∀b vs,H2 b=some (.tup vs)->b≠pl:=fun b vs e z=>by rw[z,l2] at e;cases e
  refine⟨fun c o n e=>?_,?_,?_,?_,fun e he=>?_,?_⟩
  · rw[ze (zj e hw)];exact s2 _ _ (by rw[ze n];exact g.kp c o n e)
  · rw[ze (aE zE),aL,←lC];exact s2 _ _ zb
  · rw[zb,aL];rfl
  · refine Paired.snoc (Paired.gy g.w fun c e h=>?_) ?_
    · obtain⟨q',n',h1,h2⟩:=h;have zF:=s2 _ _ (show upd H' pm (.dK (dV (M++fs.map Prod.fst++[v]) iH)) c=_ by rw[ze (fun z=>by rw[z,g.m] at h1;cases h1)];exact h1);have V5:=s2 _ _ (show upd H' pm (.dK (dV (M++fs.map Prod.fst++[v]) iH)) q'=_ by rw[ze (fun z=>by rw[z,g.m] at h2;cases h2)];exact h2);exact⟨q',n',by rw[ze (xB _ _ zF)];exact zF,by rw[ze n'];exact V5⟩
    · exact⟨q,nq,by rw[ze (xB _ _ hb)];exact hb,by rw[ze nq];exact hq⟩
  · rcases bz.mp he with he | he
    · exact g.ok e he
    · have:e=(v,rs):=by simpa using he
      subst this;exact ok
  · rw[aL,←lC];rw[iU];refine⟨g.nd,by simp,fun a ha c hc e=>?_⟩;have hc:c=v:=by simpa using hc
    subst hc;subst e;exact hv ha
end
theorem Bn.get{H:Hp}{pd:ah}{ob:Obj}{keys:List Str}{ln:Ln}{ad:Str->ah}{bs:Str->List ah}(b:Bn H pd ob keys ln ad bs){k:Str}(hk:k∈keys):ck H pd (.str k) (some (.ref (ad k))):=by
  have:ck H pd (kV (Sum.inr k)) (cT (dV keys fun k=>.ref (ad k)) (Sum.inr k)):=.inl ⟨_,_,.inr ⟨ob,b.d⟩,rfl,rfl⟩
  rwa [pR hk] at this
def Ov(ln:Ln)(s:Str)(rs:List ah):Prop:=(rs = []/\∀j,1<=j->¬Rc ln s j s)\/(rs≠[]/\Wk ln s rs s/\∀j,1<=j->j<rs.length->¬Rc ln s j s)
def qc(ln:Ln)(keys:List Str)(rs:List ah):Prop:=(rs = []/\∀s∈keys,∀j,1<=j->¬Rc ln s j s)\/(rs≠[]/\(∃s∈keys,Wk ln s rs s)/\∀s∈keys,∀j,1<=j->j<rs.length->¬Rc ln s j s)
theorem qc.nil{ln:Ln}:qc ln [] []:=.inl ⟨rfl,fun s h=>(gc h).elim⟩
theorem qc.step{ln:Ln}{keys:List Str}{u:Str}{rs xs:List ah}(h:qc ln keys rs)(g:Ov ln u xs):qc ln (keys++[u]) (if xs≠[]/\(rs = []\/xs.length<rs.length) then xs else rs):=by
  have mem:∀{s:Str},s∈keys++[u]->s∈keys\/s=u:=fun h=>by simpa using h
  have low:∀{n:Nat},n<=xs.length\/xs = []->∀j,1<=j->j<n->¬Rc ln u j u:=fun hn j h1 h2=>by
    rcases g with ⟨e,g⟩ | ⟨e,_,g⟩
    · exact g j h1
    · exact g j h1 (by rcases hn with hn | hn;lia;exact absurd hn e)
  by_cases c:xs≠[]/\(rs = []\/xs.length<rs.length)
  · rw[av c];rcases g with ⟨e,_⟩ | ⟨_,g1,g2⟩
    · exact absurd e c.1
    · refine .inr ⟨c.1,⟨u,by simp,g1⟩,fun s hs j h1 h2=>?_⟩;rcases mem hs with hs | rfl
      · rcases h with ⟨_,h⟩ | ⟨hn,_,h⟩
        · exact h s hs j h1
        · rcases c.2 with z | z
          · exact absurd z hn
          · exact h s hs j h1 (by lia)
      · exact g2 j h1 h2
  · rw[ao c];rcases h with ⟨e,h⟩ | ⟨hn,⟨s,hs,hw⟩,h⟩
    · have ex:xs = []:=fG fun z=>c ⟨z,.inl e⟩
      refine .inl ⟨e,fun s hs j h1=>?_⟩;rcases mem hs with hs | rfl
      · exact h s hs j h1
      · rcases g with ⟨_,g⟩ | ⟨z,_⟩
        · exact g j h1
        · exact absurd ex z
    · refine .inr ⟨hn,⟨s,dF _ hs,hw⟩,fun s hs j h1 h2=>?_⟩;rcases mem hs with hs | rfl
      · exact h s hs j h1 h2
      · refine low (n:=rs.length) ?_ j h1 h2
        by_cases z:xs = []
        · exact .inr z
        · exact .inl (nv fun q=>c ⟨z,.inr q⟩)
theorem G9{us:List Str}{ts:List aT}{aA:List ah}(ht:∀t∈ts,t.a∈us/\t.b∈us):∀k∈zn ts (aM us),∀l r,(l,r)∈dj ts (ts.zip aA) k->l∈zn ts (aM us):=by
  intro k _ l r h;obtain⟨t,h1,_,_,rfl⟩:=kK.mp h;exact Ei ht (ht t (jD h1).1).2
theorem AU{ks:List Str}{f:Str->V}{i:Nat}{k:Key}{v:V}(h:(dV ks f)[i]? = some (k,v)):∃u,ks[i]? = some u/\k=Sum.inr u/\v=f u:=by
  unfold dV at h;rw[aN] at h;cases e:ks[i]? with
  | none=>rw[e] at h;cases h
  | some u=>
    rw[e] at h;cases h;exact⟨u,rfl,rfl,rfl⟩
abbrev Lk:=List (Str×Str)
theorem Wk.seq{ln:Ln}{s t:Str}{rs:List ah}(w:Wk ln s rs t):∃vs:Nat->Str,vs 0=s/\vs rs.length=t/\∀i,i<rs.length->∃r,rs[i]? = some r/\(vs (i+1),r)∈ln (vs i):=by
  induction w with
  | nil=>exact⟨fun _=>s,rfl,rfl,fun i h=>by simp at h⟩
  | @snoc rs m l r w h ih=>
    obtain⟨vs,h0,h1,h2⟩:=ih;refine⟨fun i=>if i=rs.length+1 then l else vs i,?_,?_,fun i hi=>?_⟩
    · dsimp only;rw[ao (by lia)];exact h0
    · dsimp only;rw[av (by simp)]
    · dsimp only;rw[cG] at hi;have hi:i<rs.length+1:=hi
      by_cases c:i=rs.length
      · subst c;rw[av rfl,ao (by lia),h1];exact⟨r,by simp,h⟩
      · obtain⟨r',e,q⟩:=h2 i (by lia);rw[ao (by lia),ao (by lia)];exact⟨r',by rw[mR (by lia)];exact e,q⟩
def rG(ts:List aT):Lk:=(ts.filter fun t=>decide (t.k≠iz)).map fun t=>(aR ts t.a,aR ts t.b)
theorem V6{ts:List aT}{x y:Str}:(x,y)∈rG ts↔∃t∈ts,t.k≠iz/\aR ts t.a=x/\aR ts t.b=y:=by
  unfold rG;rw[aK];constructor
  · rintro⟨t,h,e⟩;rw[cy,gM] at h;simp only[Prod.mk.injEq] at e;exact⟨t,h.1,h.2,e⟩
  · rintro⟨t,h1,h2,h3,h4⟩;exact⟨t,by rw[cy,gM];exact⟨h1,h2⟩,by rw[h3,h4]⟩
theorem V7{ts:List aT}{aA:List ah}(hl:aA.length=ts.length){x y:Str}:(x,y)∈rG ts↔∃r,(y,r)∈dj ts (ts.zip aA) x:=by
  rw[V6];constructor
  · rintro⟨t,h1,h2,h3,h4⟩;obtain⟨i,hi,e⟩:=mT.mp h1;refine⟨aA[i]'(by lia),kK.mpr ⟨t,?_,h2,h3,h4⟩⟩;rw[mT];exact⟨i,by rw[fO];lia,by rw[List.getElem_zip,e]⟩
  · rintro⟨r,h⟩;obtain⟨t,h1,h2,h3,h4⟩:=kK.mp h;exact⟨t,(jD h1).1,h2,h3,h4⟩
theorem V8{ln:Ln}{F:List Str}(hn:F≠[])(h:∀x∈F,∃y∈F,∃r,(y,r)∈ln x):∃s∈F,∃j,1<=j/\Rc ln s j s:=by
  obtain⟨x0,h0⟩:=List.exists_mem_of_ne_nil F hn;have hf:∃f:Str->Str,∀x∈F,f x∈F/\∃r,(f x,r)∈ln x:=by
    refine⟨fun x=>if c:x∈F then(h x c).choose else x,fun x hx=>?_⟩;dsimp only;rw[dif_pos hx];exact(h x hx).choose_spec
  obtain⟨f,hf⟩:=hf
  let x:Nat->Str:=fun n=>Nat.rec x0 (fun _ y=>f y) n
  have hx:∀n,x n∈F:=by
    intro n
    induction n with
    | zero=>exact h0
    | succ n ih=>exact(hf _ ih).1
  have go:∀i d,Rc ln (x i) d (x (i+d)):=by
    intro i d
    induction d with
    | zero=>exact⟨[],.nil,rfl⟩
    | succ d ih=>
      obtain⟨r,e⟩:=(hf _ (hx (i+d))).2;exact ih.step e
  have rep:∃i j,i<j/\x i=x j:=by
    refine o6 fun hn=>?_
    have nd:((List.range (F.length+1)).map x).Nodup:=GN fun i j _ _ e=>by
      rcases jN i j with c | c | c
      · exact absurd ⟨i,j,c,e⟩ hn
      · exact c
      · exact absurd ⟨j,i,c,e.symm⟩ hn
    have:=uR nd (us:=F) fun y hy=>by
      obtain⟨i,_,rfl⟩:=aK.mp hy;exact hx i
    simp at this;lia
  obtain⟨i,j,qF,e⟩:=rep;refine⟨x i,hx i,j-i,by lia,?_⟩;have:=go i (j-i)
  rwa [show i+(j-i)=j by lia,←e] at this
structure oz(K:aF)(H:Hp)(p pu pt:ah)(x y:V)(us:List Str)(aA:List ah)(ts:List aT):Prop where
  p:bx K H p [x,.ref pu,.ref pt,y]
  u:aH K H pu (us.map V.str)
  t:aH K H pt (aA.map V.ref)
  tt:bU H aA (ts.map aW)
  nd:us.Nodup
  ul:us.length<64
  tl:ts.length<=900
  ok:∀t∈ts,mH us t
section
variable{K:aF}{H H':Hp}{p pu pt:ah}{x y:V}{us:List Str}{aA:List ah}{ts:List aT}
theorem oz.same(h:oz K H p pu pt x y us aA ts)(s:ak H H'):oz K H' p pu pt x y us aA ts:=⟨s.tup h.p,s.seq h.u,s.seq h.t,h.tt.same s,h.nd,h.ul,h.tl,h.ok⟩
theorem oz.ends(h:oz K H p pu pt x y us aA ts):∀t∈ts,t.a∈us/\t.b∈us:=fun t ht=>⟨(h.ok t ht).a,(h.ok t ht).b⟩
theorem oz.len(h:oz K H p pu pt x y us aA ts):aA.length=ts.length:=by have:=h.tt.len;rw[aq] at this;exact this
theorem oz.mq(h:oz K H p pu pt x y us aA ts):(zn ts (aM us)).length<=63:=by
  have:=Kn (us:=us) (ts:=ts) h.nd;have:=h.ul;unfold qb at *;rw[aq] at *;lia
end
def Hf:Str:="after"
def fE(t:aT):Int:=t.g.getD 0
theorem mH.after{us:List Str}{t:aT}(h:mH us t)(e:t.k=Hf):kB (aW t) 3=some (.int (fE t)):=by
  have h:=h.ok;obtain⟨k,a,b,g⟩:=t;cases g with
  | some n=>exact tE (xs:=aW ⟨k,a,b,some n⟩) (j:=3) rfl
  | none=>
    exfalso;unfold aW at h;simp only at h e;subst e;cases h with
    | plain hk hx hy=>revert hk;decide
theorem mH.plain{us:List Str}{t:aT}(h:mH us t)(e:t.k≠Hf):fE t=0:=by
  have h:=h.ok;obtain⟨k,a,b,g⟩:=t;cases g with
  | none=>rfl
  | some n=>
    exfalso;unfold aW at h;simp only at h e;generalize ew:([V.str k,V.str a,V.str b,V.int n]:List V)=ws at h;cases h with
    | plain hk hx hy=>simp at ew
    | after hx hy h0 h1=>
      simp only[List.cons.injEq,V.str.injEq] at ew;exact e ew.1
theorem qc.ir{ln:Ln}{keys:List Str}{rs:List ah}(h:qc ln keys rs):rs≠[]↔∃s∈keys,∃j,1<=j/\Rc ln s j s:=by
  rcases h with ⟨e,h⟩ | ⟨e,⟨s,hs,w⟩,_⟩
  · exact⟨fun z=>absurd e z,fun⟨s,hs,j,hj,r⟩=>absurd r (h s hs j hj)⟩
  · exact⟨fun _=>⟨s,hs,_,fJ.mpr e,_,w,rfl⟩,fun _=>e⟩
def ju(ln:Ln)(keys:List Str):Prop:=∀s∈keys,∀j,1<=j->¬Rc ln s j s
def uS(M:List Str)(L:List (Str×ah)):Bool:=L.all fun p=>decide (p.1∈M)
def tQ(ln:Ln)(keys M:List Str):List Str:=keys.filter fun x=>decide (x ∉ M)&&uS M (ln x)
theorem V9{M:List Str}{L:List (Str×ah)}:uS M L=true↔∀l r,(l,r)∈L->l∈M:=by
  unfold uS;rw[iE];constructor
  · intro h l r hm;exact bG (h (l,r) hm)
  · intro h p hp;exact aP (h p.1 p.2 hp)
theorem jj{ln:Ln}{keys M:List Str}{x:Str}:x∈tQ ln keys M↔x∈keys/\x ∉ M/\∀l r,(l,r)∈ln x->l∈M:=by
  unfold tQ;rw[cy,gb,gM,V9]
theorem Wa{ln:Ln}{keys M:List Str}(cl:∀k∈keys,∀l r,(l,r)∈ln k->l∈keys)(nr:ju ln keys)(hx:∃x∈keys,x ∉ M):tQ ln keys M≠[]:=by
  intro z;obtain⟨x,h1,h2⟩:=hx;obtain⟨s,hs,j,hj,r⟩:=V8 (ln:=ln) (F:=keys.filter fun x=>decide (x ∉ M)) (List.ne_nil_of_mem (cy.mpr ⟨h1,aP h2⟩)) fun y hy=>by
    rw[cy,gM] at hy;refine o6 fun hn=>?_
    have:y∈tQ ln keys M:=jj.mpr ⟨hy.1,hy.2,fun l r hl=>fG fun q=>hn ⟨l,cy.mpr ⟨cl y hy.1 l r hl,aP q⟩,r,hl⟩⟩;rw[z] at this;cases this
  exact nr s (cy.mp hs).1 j hj r
structure Ord(ln:Ln)(keys os:List Str):Prop where
  nd:os.Nodup
  sub:∀x∈os,x∈keys
  low:∀(i:Nat)o,os[i]? = some o->∀l r,(l,r)∈ln o->l∈os.take i
  least:∀(i:Nat)o,os[i]? = some o->∀x∈keys,x ∉ os.take i->(∀l r,(l,r)∈ln x->l∈os.take i)->¬co x<co o
theorem Ord.nil{ln:Ln}{keys:List Str}:Ord ln keys []:=⟨by simp,by simp,by simp,by simp⟩
theorem Ord.snoc{ln:Ln}{keys os:List Str}{u:Str}{r:List Str}(h:Ord ln keys os)(kl:keys.Pairwise (fun a b=>co a<co b))(hu:tQ ln keys os=u::r):Ord ln keys (os++[u]):=by
  have hm:u∈tQ ln keys os:=by rw[hu];simp
  obtain⟨m1,m2,m3⟩:=jj.mp hm;have at':∀(i:Nat)o,(os++[u])[i]? = some o->(i<os.length/\os[i]? = some o/\(os++[u]).take i=os.take i)\/(i=os.length/\o=u/\(os++[u]).take i=os):=by
    intro i o e
    by_cases c:i<os.length
    · rw[mR c] at e;exact .inl ⟨c,e,by rw[List.take_append_of_le_length (by lia)]⟩
    · have hi:=(bI.mp e).1;rw[cG] at hi;have hi:i<os.length+1:=hi;have:i=os.length:=by lia
      subst this;simp at e;exact .inr ⟨rfl,e.symm,by simp⟩
  refine⟨?_,fun x hx=>?_,fun i o e l r' hl=>?_,fun i o e x hx hn hl=>?_⟩
  · rw[iU];refine⟨h.nd,by simp,fun a ha b hb e=>?_⟩;have hb:b=u:=by simpa using hb
    subst hb;subst e;exact m2 ha
  · rcases bz.mp hx with hx | hx
    · exact h.sub x hx
    · have:x=u:=by simpa using hx
      rw[this];exact m1
  · rcases at' i o e with ⟨c,e',et⟩ | ⟨c,rfl,et⟩
    · rw[et];exact h.low i o e' l r' hl
    · rw[et];exact m3 l r' hl
  · rcases at' i o e with ⟨c,e',et⟩ | ⟨c,rfl,et⟩
    · rw[et] at hn hl;exact h.least i o e' x hx hn hl
    · rw[et] at hn hl;have Hg:x∈tQ ln keys os:=jj.mpr ⟨hx,hn,hl⟩;have pw:(tQ ln keys os).Pairwise (fun a b=>co a<co b):=kl.sublist (jL ..);rw[hu] at Hg pw;rcases aO.mp Hg with rfl | Hg
      · exact gO _
      · exact fun z=>Eh z ((iD.mp pw).1 x Hg)
theorem Ord.perm{ln:Ln}{keys os:List Str}(h:Ord ln keys os)(kn:keys.Nodup)(hl:os.length=keys.length):os.Perm keys:=by
  rw[List.perm_ext_iff_of_nodup h.nd kn];intro x;refine⟨h.sub x,fun hx=>?_⟩;refine fG fun hn=>?_
  have:=uR (us:=keys) (rs:=x::os) (fM.mpr ⟨hn,h.nd⟩) fun y hy=>by
    rcases aO.mp hy with rfl | hy
    · exact hx
    · exact h.sub y hy
  rw[fK] at this;lia
theorem Kr{K:aF}{H:Hp}{n:Nat}{xs:List Str}:∀x∈xs.map V.str,cV K H n x x true:=fun x hx=>by
  obtain⟨z,_,rfl⟩:=aK.mp hx;have:=cV.flat (K:=K) (H:=H) (n:=n) (x:=.str z) (y:=.str z) rfl rfl
  rwa [show p7 (.str z) (.str z)=true from by simp[p7]] at this
end Dm
namespace L2
open PySem PySem.Spec PyProof.Rows
theorem Wb{prog:aU}{w:World}{A:Around}{P:Nat->ai->Prop}(val:Nat->Str)(Ek:∀i v,P i v->∃t,v=Value.str (val i) t) :
    CmpOf prog w A .Lt P (fun i j=>decide ((val i).cps.toList<(val j).cps.toList)):=fun i j vi vj s Q E hi hj h=>by
  obtain⟨t,rfl⟩:=Ek i vi hi;obtain⟨u,rfl⟩:=Ek j vj hj;exact richCompare_gives (op:=.Lt) (typeIs_str s _ t) (typeIs_str s _ u) PySem.F.slot_str_lt PySem.F.entry_str_lt (PySem.F.args_str_lt_2 _ _) (gives_str_lt _ _ t u) (fun x=>nomatch x) h
theorem Wc{prog:aU}{w:World}{A:Around}{E:az}{s:au}{a b:Str}{t u:Tok}{Q:az}(hh:A.handled=none)
    (h:∀h' tk,(∀c o,s.heap.get? c=some o->h'.get? c=some o)->Q (if b.cps.toList<a.cps.toList then .str b u else .str a t) { s with heap:=h',toks:=tk }) :
    wpAny (model prog w) A (call (.builtin "min") [.str a t,.str b u]) Q E s:=by
  have hT:(s.heap.push { cls:=.type "tuple",data:=.seq #[.str a t,.str b u] }).IsTuple s.heap.objs.size #[.str a t,.str b u]:=⟨_,bF _ rfl,rfl,0,rfl⟩;refine call_min_two (wpAny_pyIter_tuple hT ?_);have hsz:(s.heap.push { cls:=.type "tuple",data:=.seq #[.str a t,.str b u] }).objs.size=s.heap.objs.size+1:=fP ..;refine⟨_,[_,s.heap.objs.size],[_],_,_,_,_,rfl,Walks.tuple (A:=A.in1) hh _ s.heap.objs.size (by rw[hsz];exact aX (iY _)) #[.str a t,.str b u],
    ⟨⟨_,bF _ rfl,rfl,rfl⟩,hT.push _⟩,fun c hc=>?_,(by show 0<2;decide),Wb (fun i=>if i=0 then a else b) (fun i v e=>?_),fun v h' tk hP hk=>?_⟩
  · show c<((s.heap.push _).push _).objs.size;rw[fP,hsz];rcases aO.mp hc with rfl | hc
    · rw[hsz];exact iY _
    · rcases aO.mp hc with rfl | hc
      · exact iV (iY _)
      · cases hc
  · match i,e with
    | 0,e=>cases e;exact⟨t,rfl⟩
    | 1,e=>cases e;exact⟨u,rfl⟩
    | i+2,e=>simp at e
  · have hold:∀c o,s.heap.get? c=some o->h'.get? c=some o:=fun c o e=>by
      refine hk c o (fun hm=>?_) (aY _ (aY _ e));rcases aO.mp hm with e1 | hm
      · have:=aJ e;rw[e1,hsz] at this;exact dW _ (Nat.lt_of_succ_lt this)
      · cases hm
    have:=h h' tk hold;have hv:v=if b.cps.toList<a.cps.toList then Value.str b u else Value.str a t:=by
      have qH:(#[Value.str a t,Value.str b u])[argBest (fun i j=>decide ((if i=0 then a else b).cps.toList<(if j=0 then a else b).cps.toList)) 1]? = some v:=hP
      by_cases Hh:b.cps.toList<a.cps.toList
      · have e:argBest (fun i j=>decide ((if i=0 then a else b).cps.toList<(if j=0 then a else b).cps.toList)) 1=1:=by simp[argBest,Hh]
        rw[e] at qH;rw[av Hh];exact(bW qH).symm
      · have e:argBest (fun i j=>decide ((if i=0 then a else b).cps.toList<(if j=0 then a else b).cps.toList)) 1=0:=by simp[argBest,Hh]
        rw[e] at qH;rw[ao Hh];exact(bW qH).symm
    rw[hv];exact this
theorem Ow:∀(r:List Str)(x:Str),risingS x r=true->(x::r).Pairwise (fun a b=>¬b.cps.toList<a.cps.toList)
  | [],x,_=>List.pairwise_singleton ..
  | y::r,x,h=>by
    unfold risingS at h;rw[gb] at h;have ih:=Ow r y h.2;have h1:¬y.cps.toList<x.cps.toList:=by
      intro z;have:ltCps y.cps.toList x.cps.toList=true:=by rw[ltCps_eq];exact aP z
      rw[this] at h;simp at h
    refine iD.mpr ⟨fun b hb=>?_,ih⟩;rcases aO.mp hb with rfl | hb
    · exact h1
    · intro z;have h2:=(iD.mp ih).1 b hb;rw[nD] at h1 h2;exact absurd z (nD.mpr (List.le_trans h1 h2))
theorem We{ss:List Str}(h:sortedS ss=true):ss.Pairwise (fun a b=>¬b.cps.toList<a.cps.toList):=by
  cases ss with
  | nil=>exact .nil
  | cons x r=>exact Ow r x h
section
variable{X:Cx}
theorem Wf(hc:X.calm=true):om X (.builtin "min") (fun xs H Q=>∃i j,xs = [.str i,.str j]/\Q (.str (if j.cps.toList<i.cps.toList then j else i)) H):=by
  intro pins s σ H xs us Q I r h;obtain⟨i,j,rfl,q⟩:=h;obtain⟨u,w',rfl,⟨t,rfl⟩,⟨t',rfl⟩⟩:=As r;refine Wc (I.ok.hd hc) fun h' tk k=>⟨_,H,I.kept k,?_,q⟩
  by_cases hj:j.cps.toList<i.cps.toList
  · rw[av hj,av hj];exact⟨_,rfl⟩
  · rw[ao hj,ao hj];exact⟨_,rfl⟩
theorem Hi{K:aF}(h:X.K=K):om X (.builtin "sorted") (fun xs H Q=>∃(a:ah)(ns:List Str),xs = [V.ref a]/\aH K H a (ns.map V.str)/\ns.length<64/\
    ∀(p:ah)(ms:List Str),H p=none->ms.Perm ns->ms.Pairwise (fun a b=>¬b.cps.toList<a.cps.toList)->Q (.ref p) (upd H p (.lst (ms.map V.str)))):=by
  subst h;intro pins s σ H xs us Q I r h;obtain⟨a,ns,rfl,ha,hn,q⟩:=h;obtain⟨u,rfl,ru⟩:=pZ r;cases ru;obtain⟨its,rv,pl,hz⟩:=I.list ha;have hl:=rv.length;rw[aq] at hl;refine PyProof.Rows.sorted_strs pl.isList (NI rv) (by lia) fun out ms a1 a2 a3=>?_
  obtain⟨e,he⟩:=PyProof.Rows.sortedAll_at s.heap its out;have BL:H (s.heap.objs.size+1)=none:=I.aZ.fresh (eV _);have hm:ms.length=ns.length:=a2.length_eq;have hs:sizeLine=16777216:=d8;have vs:∀{us:List ai}{ys:List Str},StrsAre us ys->Vals (ys.map V.str) us:=by
    intro us ys h
    induction h with
    | nil=>exact .nil
    | cons x t _ ih=>exact .cons ⟨t,rfl⟩ ih
  refine⟨.ref (s.heap.objs.size+1),_,I.laid (t':=s.toks) (a:=s.heap.objs.size+1) (o:=.lst (ms.map V.str)) (fun b o eb=>PyProof.Rows.sortedAll_old eb) (eV _) ⟨?_,out.toList,e,vs a1,?_⟩,rfl,q _ ms BL a2 (We a3)⟩
  · rw[aq];lia
  · rw[he]
theorem Ox{α β:Type}{F:α->β->Prop}:∀(n:Nat){l₁:List α}{l₂:List β},Paired F l₁ l₂->Paired F (l₁.drop n) (l₂.drop n)
  | 0,_,_,r=>r
  | n+1,_,_,.nil=>.nil
  | n+1,_,_,.cons _ t=>Ox n t
theorem Wg:DF X "list.insert" (fun x vs H Q=>∃(l:ah)(xs:List V)(i:Int)(y:V),x = .ref l/\vs = [.int i,y]/\H l=some (.lst xs)/\0<=i/\i<=xs.length/\xs.length<sizeLine/\
    Q .cu (upd H l (.lst (xs.take i.toNat++y::xs.drop i.toNat)))):=by
  intro pins s σ H x vs v us Q I rx rv h;obtain⟨l,xs,i,y,rfl,rfl,hH,h0,h1,hz,q⟩:=h;cases rx;obtain⟨_,u,rfl,⟨t,rfl⟩,ru⟩:=As rv;obtain⟨z,its,n,r,hl,e⟩:=I.tF hH;have hs:sizeLine=16777216:=d8;refine call_meets PySem.F.slot_list_insert ⟨_,e,rfl⟩ PySem.F.entry_list_insert (PySem.F.args_list_insert_3 _ _ _) (PySem.AutoSeq1.list_insert_list_int_val_1 l its.toArray n i t u ?_ (by rw[br];lia)) ⟨e,?_⟩
  · unfold Builtin.List.listFitsIndex;rw[aP (by lia),aP (by lia)];decide
  · refine⟨.cu,_,I.xR (its':=its.take i.toNat++u::its.drop i.toNat) hH e ?_ ((r.take _).append (.cons ru (Ox _ r))) ?_,rfl,q⟩
    · show(its.toArray.extract 0 (if i<0 then(i+(its.toArray.size:Int)).toNat else min i.toNat its.toArray.size)).push u++its.toArray.extract (if i<0 then(i+(its.toArray.size:Int)).toNat else min i.toNat its.toArray.size)=_;rw[ao (by lia),br,Nat.min_eq_left (by lia)];exact PySem.W.kl_ins_eq its i.toNat u
    · rw[cG,fK,bw,pG];lia
end
end L2
namespace HT
open PySem PySem.Spec PyProof.Rows PySem.Calls
end HT
namespace L2
open PySem PySem.Spec PyProof.Rows
section
variable{X:Cx}{pins:aD}{σ:St}{H:Hp}{s:au}{a:ah}{u r:ai}{A:Around}{E:az}
theorem Wh{kvs:List (Key×V)}{k:Key}{z:V}{Q:az}(I:Inv X pins σ H s)(e:H a=some (.dK kvs))(ry:RelV (kV k) u)(rz:RelV z r)(hl:kvs.length<sizeLine)
    (h1:∀v,cT kvs k=some v->∀w' s',Inv X pins σ H s'->RelV v w'->Q w' s') (h2:cT kvs k=none->∀s',Inv X pins σ (upd H a (.dK (putK kvs k z))) s'->Q r s') :
    wpAny (model X.prog X.w) A (call (.builtin "dict.setdefault") [.ref a,u,r]) Q E s:=by
  obtain⟨hz,hd,vs,rel,dd⟩:=DH I.aZ e;refine call_meetsIn PySem.F.slot_dict_setdefault dd.typeIs PySem.F.entry_dict_setdefault (PySem.F.args_dict_setdefault_3 _ _ _) (kt_meets_setdefault (nW X.prog X.w) a (yZ ry) hd r)
    ⟨vs,dd,by rw[←rel.length];exact hz,fun v hv=>?_,fun hn h' p8 hs=>?_⟩
  · cases l:cT kvs k with
    | some v0=>
      obtain⟨w',hw,iO⟩:=gQ.some_of (v:=v0) (o:=valueAt vs k) (by rw[←l];exact rel.val k);rw[hw] at hv;cases hv;exact h1 v0 l _ _ (I.tok _) iO
    | none=>
      have hn:valueAt vs k=none:=gQ.none_of (by have:=rel.val k;rw[l] at this;exact this);rw[hn] at hv;cases hv
  · cases l:cT kvs k with
    | some v0=>
      obtain⟨w',hw,iO⟩:=gQ.some_of (v:=v0) (o:=valueAt vs k) (by rw[←l];exact rel.val k);rw[hw] at hn;cases hn
    | none=>
      have nY:(putK kvs k z).length<=sizeLine:=by have:=Gx kvs k z;lia
      have he:∃q,h'.get? a=some q:=let ⟨q,_,_,hq,_⟩:=p8;⟨q,hq⟩
      exact h2 l _ (AD I (by rw[e];exact True.intro) hs he (DI nY hd (rel.put k rz) p8))
end
def Wi(td ty tx:TE):TE:=fun σ H Q=>td σ H fun x H1=>∃a,x = .ref a/\Gz H1 a/\ty σ H1 fun y H2=>tx σ H2 fun z H3=>∃kvs k,H3 a=some (.dK kvs)/\y=kV k/\kvs.length<sizeLine/\
  (∀v,cT kvs k=some v->Q v H3)/\(cT kvs k=none->Q z (upd H3 a (.dK (putK kvs k z))))
theorem Wj{X:Cx}{o e f:Expr}{apos bO:Pos}{td ty tx:TE}(ho:PE X o td)(he:PE X e ty)(hf:PE X f tx)(m:M2 X o "setdefault" apos e f bO):PE X (.Call (.Attribute o "setdefault" apos) [e,f] [] bO) (Wi td ty tx):=by
  intro pins s σ H Q I h;refine wpAny_Call_method m.base m.Gy m.line PySem.F.plainAttrs_dict PySem.F.slot_dict_setdefault PySem.F.type_dict_setdefault (bK (ho pins s σ H _ I h) fun u s1 aQ=>?_);obtain⟨x,H1,I1,rx,a,ex,d,q1⟩:=aQ;subst ex;obtain rfl:u=Value.ref a:=rx;obtain⟨t1,t2,_⟩:=JB I1 d;refine⟨t1,t2,?_⟩;rw[m.trees];refine oJ rfl (kU (Calls.spliced_cons (bK (he pins s1 σ H1 _ I1 q1) fun iv s2 ⟨y,H2,I2,ry,q2⟩=>
    Calls.spliced_cons (bK (hf pins s2 σ H2 _ I2 q2) fun fv s3 ⟨z,H3,I3,rz,kvs,k,ea,ey,hl,q3,q4⟩=>Calls.spliced_nil ?_))))
  subst ey;exact Wh I3 ea ry rz hl (fun v l w' s4 I4 iO=>⟨v,H3,I4,iO,q3 v l⟩) fun l s4 I4=>⟨z,_,I4,rz,q4 l⟩
def dd(val:Nat->Str):Nat->List Str
  | 0=>[]
  | i+1=>if val i∈dd val i then dd val i else dd val i++[val i]
section
variable{prog:aU}{w:World}{A:Around}{s:au}{R:Result->au->Prop}{I:ah}{fp wr:List ah}{n:Nat}{P:Nat->ai->Prop}{St:Nat->Heap->Prop}
theorem Wl(W:Walks prog w A.in1 I fp wr n P St)(hn:n<=sizeLine)(S:ah)(c:Nat)(qk:St 0 s.heap)(hS:S ∉ fp)(hl:s.heap.get? S=some { cls:=.type "list",data:=.seq #[] c })(r:ai)
    (hR:∀s1 acc c1,Moved (S::wr) (fun a b=>b=a) s s1->s1.heap.get? S=some { cls:=.type "list",dict:=none,data:=.seq acc c1,slots:=#[] }->ItemsOf P acc n->R (.ok (.ret r)) s1) :
    wpAny (model prog w) A.in1 (rule "list.extend.makes-room" >>= fun _=>Builtin.List.listTouch (.ref S) >>= fun _=>again (.builtin "list.extend.loop" ⟨[.ref S,.ref I,r],[]⟩))
      (fun fin s1=>match fin with | .done f=>R (.ok f) s1 | .again c1=>c1.quiet=true/\codeAny (model prog w) A c1 R s1) (fun e s1=>R (.error e) s1) s:=by
  refine aj (gv (aj ?_));show wpAny (model prog w) A.in1 (updateSeq S (·.push .none) >>= fun _=>updateSeq S (·.pop)) _ _ _;refine aj (gh hl rfl ?_);have l2:=cX (Obj.mapSeq (·.push Value.none)) hl rfl;refine gh (hz:=by seq_fits) l2 rfl ?_;have l3:=cX (Obj.mapSeq (·.pop)) l2 rfl;have oO:∀b o,b≠S->s.heap.get? b=some o->((s.heap.update S (Obj.mapSeq (·.push Value.none))).update S (Obj.mapSeq (·.pop))).get? b=some o:=fun b o hb e=>(cF _ _ (aE hb)).trans ((cF _ _ (aE hb)).trans e)
  refine ay ⟨fQ PySem.F.plain_extend_loop _,codeAny_extend_loopS W.toS hn _ hS _ n 0 _ _ _ rfl (dH _) (W.toS.frame 0 s _ s.toks qk (aG _) fun b hb o e=>oO b o (fun h=>hS (h▸hb)) e) l3 (ItemsOf.nil P) fun s1 acc c1 hm h1 h2=>?_⟩;have m0:Moved (S::wr) (fun(a b:Array GenState)=>b=a) s { s with heap:=(s.heap.update S (Obj.mapSeq (·.push Value.none))).update S (Obj.mapSeq (·.pop)) }:=⟨fun b o hb e=>oO b o (fun h=>hb (by simp[h])) e,rfl,rfl,rfl,aG _⟩;exact hR s1 acc c1 (Moved.trans (fun _ _ _ h1 h2=>h2.trans h1) m0 hm) h1 h2
end
section
variable{prog:aU}{w:World}{A:Around}{E:az}{s:au}
theorem Wm{P:Nat->ai->Prop}{acc:Array ai}{n:Nat}(h:ItemsOf P acc n)(l:List ai)(hl:l.length=n)(hp:∀i v,P i v->l[i]? = some v):acc.toList=l:=by
  apply List.ext_getElem?;intro i
  by_cases hi:i<n
  · have hs:i<acc.size:=by rw[h.1];exact hi
    have e:acc[i]? = some acc[i]:=gK hs;rw[hp i _ (h.2 i _ e),kT,e]
  · have h1:acc.toList.length<=i:=by rw[iR,h.1];lia
    have h2:l.length<=i:=by lia
    rw[o9 h1,o9 h2]
end
theorem Ks{c:TT}{t u:TS}{D:Ends}{σ:St}{H:Hp}(P:St->Prop)(b:Bool)(ht:∀Q':Bool->Hp->Prop,Q' b H->c σ H Q')(h1:b=true->∃wQ,P wQ/\(D.nx wQ H->t D σ H))(h2:b=false->∃oj,P oj/\(D.nx oj H->u D σ H))
    (hn:∀aI,P aI->D.nx aI H):uZ c t u D σ H:=by
  refine Ce b ht ?_;cases b with
  | true=>
    obtain⟨wQ,p,h⟩:=h1 rfl;exact lO (h (hn _ p))
  | false=>
    obtain⟨oj,p,h⟩:=h2 rfl;exact fj (h (hn _ p))
def Ck(a:ah)(ob:Obj)(kvs:List (Key×V)):It:=
  ⟨fun i H=>H a=some (.dw ob (.dK kvs))/\i<kvs.length,fun i H x H'=>H'=H/\∃kv,kvs[i]? = some kv/\x=kV kv.1,fun i H=>H a=some (.dw ob (.dK kvs))/\kvs.length<=i⟩
theorem Wn{P:aU}{w:World}{K:aF}{tg:Expr}(a it:ah){ob:Obj}{kvs:List (Key×V)}{es:Array DictEntry}{ep:Nat}(hd:ob.data = .dict es ep)(hl:es.size=kvs.length):Turn P w K tg (Ck a ob kvs) [it] it (fun i h=>h.IsKeyIter it a i es.size ep) where
  mem:=by simp
  obj:=fun i h st b hb=>by
    have e:b=it:=by simpa using hb
    subst e;obtain⟨o,e,c,d⟩:=st;exact⟨o,e,fun v z=>by rw[d] at z;cases z⟩
  keep:=fun i h h' st k=>st.at fun o e=>k it (by simp) o e
  item:=by
    intro X hP hw hK hc i pins s σ H E I hf st hg;subst hP hw hK;obtain⟨hq,hx⟩:=hg;obtain⟨e0,z,hs,vs,rel,o,uM,sZ,e,ex,dt,kk,pr,nd⟩:=I.aZ a _ hq;rw[e0] at e;cases e;rw[hd] at dt;cases dt;have hi:i<es.size:=by lia
    have tK:es[i]? = some es[i]:=gK hi;obtain⟨f0,f1,f2,f3,f4,f5⟩:=hf it (by simp);refine J4 st ⟨ob,e0,ex,hd⟩ tK fun h' nG sb=>?_
    have I1:Inv X pins σ H { s with heap:=h' }:=I.turned (t':=s.toks) (fun b o hb e=>(sb.2 b hb).trans e) f0 f1 f3 f4 f5;obtain⟨oi,ei,ci,di⟩:=id nG;have ek:kvs[i]? = some kvs[i]:=aV hx;obtain⟨w',hw,iO⟩:=Paired.get' rel ek;have:=(pr.get? (e:=es[i]) (k:=w'.1) (v:=w'.2) (i:=i) (by rw[kT];exact tK) (by rw[hw])).1;have e1:kvs[i].1=w'.1:=iO.1;exact⟨_,rfl,BO (s:={ s with heap:=h' }) ei ci di (by decide) ⟨kV kvs[i].1,H,I1,by rw[e1];exact NW this,⟨rfl,_,ek,rfl⟩,nG,fun b hb=>(hf b hb).1⟩⟩
  done:=by
    intro X hP hw hK hc i pins s σ H E I hf st hg;subst hP hw hK;obtain⟨hq,hx⟩:=hg;obtain⟨e0,z,hs,vs,rel,o,uM,sZ,e,ex,dt,kk,pr,nd⟩:=I.aZ a _ hq;rw[e0] at e;cases e;obtain⟨f0,f1,f2,f3,f4,f5⟩:=hf it (by simp);exact J5 (I.ok.hd hc) st ⟨ob,e0,ex,hd⟩ (by lia) fun h' eb=>⟨rfl,I.turned (t':=s.toks) (fun b o hb e=>eb b o hb e) f0 f1 f3 f4 f5⟩
  self:=fun _ _ _ _ _ st h=>wpAny_pyIter_keyiter st h
section
variable{X:Cx}{tg:Expr}
def Wo(tl:TE):TI:=fun σ H R=>tl σ H fun x H1=>∃a ob kvs,x = .ref a/\H1 a=some (.dw ob (.dK kvs))/\R (Ck a ob kvs) H1
theorem w6{l:Expr}{tl:TE}(hl:PE X l tl):PI X tg l (Wo tl):=by
  intro pins s σ H R I h;refine bK (hl pins s σ H _ I h) fun v s1 aQ=>?_
  obtain⟨x,H1,I1,r1,q1⟩:=aQ;obtain⟨a,ob,kvs,e,hq,q⟩:=q1;subst e;cases r1;obtain⟨e0,z,hs,vs,rel,o,es,ep,e,ex,dt,kk,pr,nd⟩:=I1.aZ a _ hq;have e0':=e0;rw[e0] at e;cases e;have l1:kvs.length=vs.length:=Paired.length rel;have l2:es.size=vs.length:=by rw[←pr.length];simp
  refine GJ hs ⟨ob,e0,ex,dt⟩ ?_;refine⟨s1.heap.objs.size,[s1.heap.objs.size],_,_,H1,rfl,I1.kept (t':=s1.toks) fun b o e=>aY _ e,Wn a _ dt (l2.trans l1.symm),⟨_,bF _ rfl,rfl,rfl⟩,fun b hb=>?_,q⟩;have e:b=s1.heap.objs.size:=by simpa using hb
  subst e;exact I1.nF (aG _) (I1.aZ.fresh (aG _))
theorem AV{a:ah}{ob:Obj}{kvs:List (Key×V)}{g:TG}{tb:TS}{D:Ends}{σ:St}{H:Hp}(Pv:Nat->St->Hp->Prop)(h0:Pv 0 σ H)(hl:∀i σ H,i<=kvs.length->Pv i σ H->H a=some (.dw ob (.dK kvs)))
    (hs:∀i k v σ H,kvs[i]? = some (k,v)->Pv i σ H->g (kV k) σ H fun oj H2=>tb { D with nx:=Pv (i+1),ct:=Pv (i+1),bk:=D.nx } oj H2) (hd:∀σ H,Pv kvs.length σ H->D.nx σ H) :
    ∃W:Nat->Nat->St->Hp->Prop,(∃m,W 0 m σ H)/\∀i m σ H,W i m σ H->
      ((Ck a ob kvs).stop i H/\D.nx σ H)\/((Ck a ob kvs).go i H/\∃N:St->Hp->Prop,(∀aI H',N aI H'->∃m',m'<m/\W (i+1) m' aI H')/\∀x H',(Ck a ob kvs).vc i H x H'->g x σ H' fun oj H2=>tb { D with nx:=N,ct:=N,bk:=D.nx } oj H2):=by
  refine⟨fun i m σ H=>m=kvs.length-i/\i<=kvs.length/\Pv i σ H,⟨kvs.length,by simp,dH _,h0⟩,?_⟩;rintro i m σ H ⟨rfl,hi,p⟩;have q:=hl i σ H hi p
  by_cases dz:i<kvs.length
  · refine .inr ⟨⟨q,dz⟩,Pv (i+1),fun aI H' p'=>⟨kvs.length-(i+1),by lia,rfl,dz,p'⟩,fun x H' y=>?_⟩;obtain⟨e,kv,y,rfl⟩:=y;subst e;exact hs i kv.1 kv.2 σ _ y p
  · have e:i=kvs.length:=by lia
    subst e;exact .inl ⟨⟨q,aG _⟩,hd σ H p⟩
theorem Inv.frozen{pins:aD}{σ:St}{H:Hp}{s:au}{a:ah}{kvs:List (Key×V)}(I:Inv X pins σ H s)(h:H a=some (.dK kvs)):∃ob,Inv X pins σ (upd H a (.dw ob (.dK kvs))) s:=by
  obtain⟨o,e⟩:∃o,s.heap.get? a=some o:=by
    obtain⟨_,_,_,_,o,_,_,e,_⟩:=I.aZ a _ h;exact⟨o,e⟩
  have ok:=I.aZ a _ h;refine⟨o,I.write (e:=a) (h':=s.heap) (t':=s.toks) (by rw[h];trivial) (.inl rfl) (fun b u _ q=>q) ⟨o,e⟩ ⟨e,?_⟩⟩;obtain⟨z,hd,vs,r⟩:=ok;exact⟨z,hd,vs,r⟩
def Ku(ts:TS):TS:=fun D σ H=>ts D σ H\/∃a kvs,H a=some (.dK kvs)/\∀ob,ts D σ (upd H a (.dw ob (.dK kvs)))
theorem zG{st:Stmt}{ts:TS}(h:PS X st ts):PS X st (Ku ts):=by
  intro pins s σ H D I q;rcases q with q | ⟨a,kvs,ha,q⟩
  · exact h pins s σ H D I q
  · obtain⟨ob,I'⟩:=I.frozen ha;exact h pins s σ _ D I' (q ob)
end
def Kv(a:ah)(ob:Obj)(kvs:List (Key×V)):It:=
  ⟨fun i H=>H a=some (.dw ob (.dK kvs))/\i<kvs.length,fun i H x H'=>H'=H/\∃kv,kvs[i]? = some kv/\x=kv.2,fun i H=>H a=some (.dw ob (.dK kvs))/\kvs.length<=i⟩
theorem Wq{P:aU}{w:World}{K:aF}{tg:Expr}(a it:ah){ob:Obj}{kvs:List (Key×V)}{es:Array DictEntry}{ep:Nat}(hd:ob.data = .dict es ep):Turn P w K tg (Kv a ob kvs) [it] it (fun i h=>h.IsValIter it a i kvs.length ep) where
  mem:=by simp
  obj:=fun i h st b hb=>by
    have e:b=it:=by simpa using hb
    subst e;obtain⟨o,e,c,d⟩:=st;exact⟨o,e,fun v z=>by rw[d] at z;cases z⟩
  keep:=fun i h h' st k=>st.at fun o e=>k it (by simp) o e
  item:=by
    intro X hP hw hK hc i pins s σ H E I hf st hg;subst hP hw hK;obtain⟨hq,hx⟩:=hg;obtain⟨e0,z,hs,vs,rel,o,uM,sZ,e,ex,dt,kk,pr,nd⟩:=I.aZ a _ hq;rw[e0] at e;cases e;rw[hd] at dt;cases dt;have l1:kvs.length=vs.length:=Paired.length rel;obtain⟨f0,f1,f2,f3,f4,f5⟩:=hf it (by simp);have ek:kvs[i]? = some kvs[i]:=aV hx;obtain⟨w',hw,iO⟩:=Paired.get' rel ek;rw[l1] at st;refine wpAny_pyNext_values_item (k:=w'.1) (v:=w'.2) st (show s.heap.DictAt (nW X.prog X.w) a vs ep from⟨ob,es,e0,ex,hd,kk,pr,nd⟩) (by rw[hw]) fun h' nG sb=>?_
    have I1:Inv X pins σ H { s with heap:=h' }:=I.turned (t':=s.toks) (fun b o hb e=>(sb.2 b hb).trans e) f0 f1 f3 f4 f5;obtain⟨oi,ei,ci,di⟩:=id nG;exact⟨_,rfl,BO (s:={ s with heap:=h' }) ei ci di (by decide) ⟨kvs[i].2,H,I1,iO.2,⟨rfl,_,ek,rfl⟩,(by show h'.IsValIter it a (i+1) kvs.length ep;rw[l1];exact nG),fun b hb=>(hf b hb).1⟩⟩
  done:=by
    intro X hP hw hK hc i pins s σ H E I hf st hg;subst hP hw hK;obtain⟨hq,hx⟩:=hg;obtain⟨e0,z,hs,vs,rel,o,uM,sZ,e,ex,dt,kk,pr,nd⟩:=I.aZ a _ hq;rw[e0] at e;cases e;rw[hd] at dt;cases dt;have l1:kvs.length=vs.length:=Paired.length rel;obtain⟨f0,f1,f2,f3,f4,f5⟩:=hf it (by simp);rw[l1] at st;exact wpAny_pyNext_values_end (I.ok.hd hc) st (show s.heap.DictAt (nW X.prog X.w) a vs ep from⟨ob,es,e0,ex,hd,kk,pr,nd⟩) (o9 (by lia)) fun h' eb=>⟨rfl,I.turned (t':=s.toks) (fun b o hb e=>eb b o hb e) f0 f1 f3 f4 f5⟩
  self:=fun _ _ _ _ _ st h=>wpAny_pyIter_valiter st h
section
variable{X:Cx}{tg:Expr}
def Wr(tl:TE):TI:=fun σ H R=>tl σ H fun x H1=>∃p a kvs,x = .ref p/\H1 p=some (yc p a)/\H1 a=some (.dK kvs)/\∀ob,R (Kv a ob kvs) (upd H1 a (.dw ob (.dK kvs)))
theorem Ws{l:Expr}{tl:TE}(hl:PE X l tl):PI X tg l (Wr tl):=by
  intro pins s σ H R I h;refine bK (hl pins s σ H _ I h) fun v s1 aQ=>?_
  obtain⟨x,H1,I1,r1,q1⟩:=aQ;obtain⟨p,a,kvs,e,hv,hq,q⟩:=q1;subst e;cases r1;have Wt:p≠a:=fun z=>by rw[z,hq] at hv;cases hv
  obtain⟨ob,I2⟩:=I1.frozen hq;have q:=q ob;have AW:upd H1 a (.dw ob (.dK kvs)) a=some (.dw ob (.dK kvs)):=zb;have AM:upd H1 a (.dw ob (.dK kvs)) p=some (yc p a):=by rw[ze Wt];exact hv
  generalize upd H1 a (.dw ob (.dK kvs))=H2 at q I2 AW AM;obtain⟨e0,z,hs,vs,rel,o,es,ep,e,ex,dt,kk,pr,nd⟩:=I2.aZ a _ AW;rw[e0] at e;cases e;obtain⟨Wu,_,_⟩:=I2.aZ p _ AM;have l1:kvs.length=vs.length:=Paired.length rel;refine wpAny_pyIter_values Wu (show s1.heap.DictAt (nW X.prog X.w) a vs ep from⟨ob,es,e0,ex,dt,kk,pr,nd⟩) ?_;refine⟨s1.heap.objs.size,[s1.heap.objs.size],_,_,H2,rfl,I2.kept (t':=s1.toks) fun b o e=>aY _ e,Wq a _ dt,(by rw[l1];exact⟨_,bF _ rfl,rfl,rfl⟩),fun b hb=>?_,q⟩;have e:b=s1.heap.objs.size:=by simpa using hb
  subst e;exact I2.nF (aG _) (I2.aZ.fresh (aG _))
theorem Kw{a:ah}{ob:Obj}{kvs:List (Key×V)}:Fix (Ck a ob kvs) (kvs.map fun kv=>kV kv.1) (fun H=>H a=some (.dw ob (.dK kvs))):=
  ⟨fun i H h hi=>⟨h,by simpa using hi⟩,fun i H x H' h y=>⟨y.1,fun _=>by obtain⟨kv,h1,h2⟩:=y.2;rw[aN,h1,h2];rfl⟩,fun i H h hi=>⟨h,by simpa using hi⟩⟩
theorem Wv{a:ah}{ob:Obj}{kvs:List (Key×V)}:Fix (Kv a ob kvs) (kvs.map fun kv=>kv.2) (fun H=>H a=some (.dw ob (.dK kvs))):=
  ⟨fun i H h hi=>⟨h,by simpa using hi⟩,fun i H x H' h y=>⟨y.1,fun _=>by obtain⟨kv,h1,h2⟩:=y.2;rw[aN,h1,h2];rfl⟩,fun i H h hi=>⟨h,by simpa using hi⟩⟩
theorem Oz:om X (.builtin "len") (fun xs H Q=>∃a kvs,xs = [V.ref a]/\Rd H a (.dK kvs)/\Q (.int kvs.length) H):=by
  intro pins s σ H xs us Q I r h;obtain⟨a,kvs,rfl,ha,q⟩:=h;obtain⟨u,rfl,ru⟩:=pZ r;cases ru;exact Np I ha fun t s' I'=>⟨.int kvs.length,H,I',⟨t,rfl⟩,q⟩
end
section
variable{prog:aU}{w:World}{A:Around}{E:az}{s:au}
theorem Ww{S d:ah}{es:Array DictEntry}{ep:Nat}{c:Nat}{r:ai}{R:Result->au->Prop}(hh:A.handled=none)(hd:(d == sysModules)=false)(hm:kH s.heap d es ep)(hz:es.size<=sizeLine)
    (hS:s.heap.get? S=some { cls:=.type "list",data:=.seq #[] c }) (mF:S≠d)
    (hR:∀h1 acc c1 tk,(∀b o,b≠S->s.heap.get? b=some o->h1.get? b=some o)->h1.get? S=some { cls:=.type "list",dict:=none,data:=.seq acc c1,slots:=#[] }->acc.toList=es.toList.map (·.key)->R (.ok (.ret r)) { s with heap:=h1,toks:=tk }) :
    wpAny (model prog w) A.in1 (Builtin.List.listExtendWith (.ref S) (.ref d) r) (fun fin s1=>match fin with | .done f=>R (.ok f) s1 | .again c1=>c1.quiet=true/\codeAny (model prog w) A c1 R s1) (fun e s1=>R (.error e) s1) s:=by
  have dl:d<s.heap.objs.size:=by obtain⟨o,ho,_⟩:=hm;exact aJ ho
  have sl:S<s.heap.objs.size:=aJ hS;have T:s.TypeIs (.ref d) "dict":=hm.typeIs;unfold Builtin.List.listExtendWith;refine aj (lI T ?_);have sr:Builtin.List.listSameRef (.ref S) (.ref d)=false:=by simp[Builtin.List.listSameRef,mF]
  have t1:(Value.type "dict" == Value.type "list")=false:=by decide
  have t2:(Value.type "dict" == Value.type "tuple")=false:=by decide
  simp only[sr,t1,t2,Bool.or_false,iS,c8];refine aj (GJ hd hm ?_);have old:∀b o,s.heap.get? b=some o->(s.heap.push { cls:=.type "dict_keyiterator",data:=.fields #[.ref d,.int 0 0,.int es.size 0,.int ep 0] }).get? b=some o:=fun b o e=>aY _ e
  have wX:=hm.at (h':=s.heap.push { cls:=.type "dict_keyiterator",data:=.fields #[.ref d,.int 0 0,.int es.size 0,.int ep 0] }) fun o e=>old d o e
  refine aj (dG (NS (s:={ s with heap:=s.heap.push { cls:=.type "dict_keyiterator",data:=.fields #[.ref d,.int 0 0,.int es.size 0,.int ep 0] } }) wX.typeIs ?_));have SI:S ∉ [s.heap.objs.size,d]:=by
    simp only[aO,gc,ie];exact fun z=>z.elim (aX sl) mF
  refine Wl (A:=A) (s:={ s with heap:=s.heap.push { cls:=.type "dict_keyiterator",data:=.fields #[.ref d,.int 0 0,.int es.size 0,.int ep 0] } }) (NR (A:=A.in1) hh s.heap.objs.size d (aX dl) es ep) hz S c ⟨⟨_,bF _ rfl,rfl,rfl⟩,wX⟩ SI (old _ _ hS) r fun s1 acc c1 Ed h1 h2=>?_
  obtain⟨uT,ge,dr,tk,os⟩:=s1;obtain⟨m1,m2,m3,m4,m5⟩:=Ed;obtain rfl:ge=s.gens:=m2;obtain rfl:dr=s.drawn:=m3;obtain rfl:os=s.os:=m4;refine hR uT acc c1 tk (fun b o hb e=>m1 b o ?_ (old b o e)) h1 (Wm h2 (es.toList.map (·.key)) (by rw[aq,iR]) fun i v ⟨e,h3,h4⟩=>by rw[aN,kT,h3,h4];rfl);intro z;simp only[aO,gc,ie] at z;exact z.elim hb fun z=>absurd (aJ e) (by rw[z];exact dW _)
theorem Wx{d:ah}{es:Array DictEntry}{ep:Nat}{Q:List ai->au->Prop}(hh:A.handled=none)(hd:(d == sysModules)=false)(hm:kH s.heap d es ep)(hz:es.size<=sizeLine)
    (hQ:∀h1 tk,(∀b o,s.heap.get? b=some o->h1.get? b=some o)->s.heap.objs.size<h1.objs.size->Q (es.toList.map (·.key)) { s with heap:=h1,toks:=tk }):wpAny (model prog w) A (collect (.ref d)) Q E s:=by
  have dl:d<s.heap.objs.size:=by obtain⟨o,ho,_⟩:=hm;exact aJ ho
  unfold collect;refine aj (wpAny_runValue (iF PySem.F.entry_proto_collect ?_));rw[iQ PySem.F.plain_proto_collect _];show wpAny _ A.in1 (newList [] >>= fun l=>again (.builtin "list.__iadd__" ⟨[l,.ref d],[]⟩)) _ _ s;refine aj (eK ?_);refine ay ⟨fQ PySem.F.plain_list_iadd _,iF PySem.F.entry_list_iadd ?_⟩;rw[iQ PySem.F.plain_list_iadd _];show wpAny _ A.in1 (Builtin.List.listExtendWith (.ref s.heap.objs.size) (.ref d) (.ref s.heap.objs.size)) _ _ _;have hS:(s.heap.push { cls:=.type "list",data:=.seq ([]:List ai).toArray }).get? s.heap.objs.size=some { cls:=.type "list",data:=.seq #[] }:=bF _ rfl;have old:∀b o,s.heap.get? b=some o->(s.heap.push { cls:=.type "list",data:=.seq ([]:List ai).toArray }).get? b=some o:=fun b o e=>aY _ e
  have wW:=hm.at (h':=s.heap.push { cls:=.type "list",data:=.seq ([]:List ai).toArray }) (fun o e=>old d o e);refine Ww (prog:=prog) (A:=A) (r:=.ref s.heap.objs.size) (R:=fun r s'=>match r with
    | .ok (.ret v)=>wpAny (model prog w) A (match v with
      | .ref a=>do
        let o ←load a
        match o.data with
        | .seq xs _=>pure xs.toList
        | _=>unsupported "internal:collect"
      | _=>unsupported "internal:collect") Q E s'
    | .ok _=>False
    | .error e=>E e s') (s:={ s with heap:=s.heap.push { cls:=.type "list",data:=.seq ([]:List ai).toArray } }) hh hd wW hz hS (aE (aX dl)) fun h1 acc c1 tk k e p=>?_
  show wpAny _ A (load s.heap.objs.size >>= _) _ _ _;refine aj (wpAny_load e ?_);rw[←p] at hQ;exact ay (hQ h1 tk (fun b o eb=>k b o (fun z=>dW _ (z▸aJ eb)) (old b o eb)) (aJ e))
end
theorem OA{prog:aU}{w:World}{A:Around}{s:au}{a b:Int}{t u:Tok}{Q:az}{E:az}(q:Q (.bool (decide (a > b))) s):wpAny (model prog w) A (richCompare .Gt (.int a t) (.int b u)) Q E s:=
  CmpOf.ints_gt (P:=fun i v=>(i=0/\v = .int a t)\/(i=1/\v = .int b u)) (fun i=>if i=0 then a else b) (fun i v h=>by
    rcases h with ⟨rfl,rfl⟩ | ⟨rfl,rfl⟩
    · exact⟨t,rfl⟩
    · exact⟨u,rfl⟩) 0 1 _ _ s Q E (.inl ⟨rfl,rfl⟩) (.inr ⟨rfl,rfl⟩) q
section
variable{prog:aU}{w:World}{A:Around}{R:Result->au->Prop}
structure kL(h:Heap)(l it S:ah)(its:Array ai)(vb:ai)(j:Nat)(c:Nat):Prop where
  i:h.IsListIter it l j
  l:h.IsList l its
  s:h.get? S=some { cls:=.type "list",dict:=none,data:=.seq #[vb,vb] c,slots:=#[] }
theorem Wy{l it S:ah}{its:Array ai}{val:Nat->Int}{dv:ai}(hh:A.handled=none)(hv:∀i v,its[i]? = some v->∃t,v=Value.int (val i) t)(n1:S≠it)(n2:S≠l)(n3:l≠it) :
    ∀(k j b:Nat)(s:au)(vb:ai)(c:Nat),its.size-j=k->kL s.heap l it S its vb j c->its[b]? = some vb->(∀i,i<j->val i<=val b)->j<=its.size->
      (∀(v:ai)(b':Nat)(h':Heap)(tk:Nat),its[b']? = some v->(∀i,i<its.size->val i<=val b')->(∀d o,d≠it->d≠S->s.heap.get? d=some o->h'.get? d=some o)->R (.ok (.ret v)) { s with heap:=h',toks:=tk })->
      codeAny (model prog w) A (.builtin "max.loop" ⟨[.ref it,.none,.ref S],[("default",dv)]⟩) R s:=by
  have nm:(toString "max" ++ toString ".loop" : String) = "max.loop":=by decide
  intro k
  induction k with
  | zero=>
    intro j b s vb c hk M eb best hj q;refine iF lE ?_;rw[iQ gg _];show wpAny _ A.in1 (seqItems? (.ref S) >>= _) _ _ s;refine aj (iG M.s rfl (aj (gP (ng (A:=A.in1) hh M.i M.l (m8 (show its.size<=j by lia)) fun h' w9=>?_))));have s':=w9 S _ n1 M.s;refine aj (m:=updateSeq S (fun _=>#[])) ?_;refine gh s' rfl (aj (gj (ay ?_)));exact q vb b _ s.toks eb (fun i hi=>best i (by lia)) fun d o d1 d2 e=>by
      rw[cF _ _ (aE d2)];exact w9 d o d1 e
  | succ k ih=>
    intro j b s vb c hk M eb best hj q;have dz:j<its.size:=by lia
    have ej:its[j]? = some its[j]:=gK dz;obtain⟨t1,e1⟩:=hv j _ ej;obtain⟨t2,e2⟩:=hv b _ eb;refine iF lE ?_;rw[iQ gg _];show wpAny _ A.in1 (seqItems? (.ref S) >>= _) _ _ s;refine aj (iG M.s rfl (aj (gP (mS M.i M.l ej fun h' qJ sb=>?_))));have s':h'.get? S=_:=(sb.2 S n1).trans M.s;have l':h'.IsList l its:=by
      obtain⟨o,ho,r⟩:=M.l;exact⟨o,(sb.2 l n3).trans ho,r⟩
    rw[e1,e2];rw[e1] at ej;rw[e2] at s' eb;refine aj (ay ?_);refine aj (gP (dG (aj (OA (s:={ s with heap:=h' }) (t:=t1) (u:=t2) ?_))));refine aj (dG (j9 (aj (gj (ay ?_)))))
    by_cases c1:val j > val b
    · rw[aP c1,av rfl];refine aj (m:=updateSeq S (fun _=>#[Value.int (val j) t1,Value.int (val j) t1])) ?_;refine gh s' rfl (aj (gj ?_));rw[nm];have keep:∀d o,d≠S->h'.get? d=some o->(h'.update S (Obj.mapSeq fun _=>#[Value.int (val j) t1,Value.int (val j) t1])).get? d=some o:=fun d o d1 e=>(cF _ _ (aE d1)).trans e
      obtain⟨c',M'⟩:∃c',kL (h'.update S (Obj.mapSeq fun _=>#[Value.int (val j) t1,Value.int (val j) t1])) l it S its (Value.int (val j) t1) (j+1) c':=by
        refine⟨_,qJ.at fun o e=>keep it o (aE n1) e,?_,cX _ s' rfl⟩;obtain⟨o,ho,r⟩:=l';exact⟨o,keep l o (aE n2) ho,r⟩
      refine ay ⟨fQ gg _,ih (j+1) j _ _ _ (by lia) M' ej (fun i hi=>?_) dz fun v b' h2 tk ev hb kp=>?_⟩
      · by_cases c2:i=j
        · subst c2;exact ic _
        · have:=best i (by lia);lia
      · exact q v b' h2 tk ev hb fun d o d1 d2 e=>kp d o d1 d2 (keep d o d2 ((sb.2 d d1).trans e))
    · rw[bq c1,ao bJ];refine aj (gj ?_);rw[nm];refine ay ⟨fQ gg _,ih (j+1) b { s with heap:=h' } _ c (by lia) ⟨qJ,l',s'⟩ eb (fun i hi=>?_) dz fun v b' h2 tk ev hb kp=>?_⟩
      · by_cases c2:i=j
        · subst c2;lia
        · exact best i (by lia)
      · exact q v b' h2 tk ev hb fun d o d1 d2 e=>kp d o d1 d2 ((sb.2 d d1).trans e)
theorem Wz{l it S:ah}{its:Array ai}{val:Nat->Int}{dv:ai}{s:au}{c:Nat}(hh:A.handled=none)(hv:∀i v,its[i]? = some v->∃t,v=Value.int (val i) t)(n1:S≠it)(n2:S≠l)(n3:l≠it)
    (hi:s.heap.IsListIter it l 0) (hl:s.heap.IsList l its) (hS:s.heap.get? S=some { cls:=.type "list",dict:=none,data:=.seq #[] c,slots:=#[] })
    (q:∀(v:ai)(h':Heap)(tk:Nat),(its.size=0/\v=dv)\/(∃b,its[b]? = some v/\∀i,i<its.size->val i<=val b)->(∀d o,d≠it->d≠S->s.heap.get? d=some o->h'.get? d=some o)->R (.ok (.ret v)) { s with heap:=h',toks:=tk }) :
    codeAny (model prog w) A (.builtin "max.loop" ⟨[.ref it,.none,.ref S],[("default",dv)]⟩) R s:=by
  have nm:(toString "max" ++ toString ".loop" : String) = "max.loop":=by decide
  refine iF lE ?_;rw[iQ gg _];show wpAny _ A.in1 (seqItems? (.ref S) >>= _) _ _ s
  by_cases h0:its.size=0
  · refine aj (iG hS rfl (aj (gP (ng (A:=A.in1) hh hi hl (m8 (by lia)) fun h' w9=>?_))));refine aj (gv (ay ?_));exact q dv h' s.toks (.inl ⟨h0,rfl⟩) fun d o d1 _ e=>w9 d o d1 e
  · have ej:its[0]? = some its[0]:=gK (by lia);refine aj (iG hS rfl (aj (gP (mS hi hl ej fun h' qJ sb=>?_))));have s':h'.get? S=_:=(sb.2 S n1).trans hS;have l':h'.IsList l its:=by
      obtain⟨o,ho,r⟩:=hl;exact⟨o,(sb.2 l n3).trans ho,r⟩
    refine aj (ay ?_);refine aj (m:=updateSeq S (fun _=>#[its[0],its[0]])) ?_;refine gh s' rfl ?_;rw[nm];have keep:∀d o,d≠S->h'.get? d=some o->(h'.update S (Obj.mapSeq fun _=>#[its[0],its[0]])).get? d=some o:=fun d o d1 e=>(cF _ _ (aE d1)).trans e
    obtain⟨c',M'⟩:∃c',kL (h'.update S (Obj.mapSeq fun _=>#[its[0],its[0]])) l it S its its[0] 1 c':=by
      refine⟨_,qJ.at fun o e=>keep it o (aE n1) e,?_,cX _ s' rfl⟩;obtain⟨o,ho,r⟩:=l';exact⟨o,keep l o (aE n2) ho,r⟩
    refine ay ⟨fQ gg _,Wy hh hv n1 n2 n3 _ 1 0 _ _ _ rfl M' ej (fun i hi=>?_) (by lia) fun v b' h2 tk ev hb kp=>?_⟩
    · have:i=0:=by lia
      subst this;exact ic _
    · exact q v h2 tk (.inr ⟨b',ev,hb⟩) fun d o d1 d2 e=>kp d o d1 d2 (keep d o d2 ((sb.2 d d1).trans e))
end
section
variable{prog:aU}{w:World}{A:Around}{E:az}{s:au}
theorem WA(a d:ai):argsOk "max" ⟨[a],[("default",d)]⟩:=by unfold argsOk;kernel_rfl
theorem WB{l:ah}{its:Array ai}{val:Nat->Int}{dv:ai}{Q:az}(hh:A.handled=none)(hl:s.heap.IsList l its)(hv:∀i v,its[i]? = some v->∃t,v=Value.int (val i) t)
    (q:∀(v:ai)(h':Heap)(tk:Nat),(its.size=0/\v=dv)\/(∃b,its[b]? = some v/\∀i,i<its.size->val i<=val b)->(∀d o,s.heap.get? d=some o->h'.get? d=some o)->Q v { s with heap:=h',toks:=tk }) :
    wpAny (model prog w) A (call (.builtin "max") [.ref l] [("default",dv)]) Q E s:=by
  have nm:(toString "max" ++ toString ".loop" : String) = "max.loop":=by decide
  have dz:l<s.heap.objs.size:=by obtain⟨_,e,_⟩:=hl;exact aJ e
  have body:wpAny (model prog w) A.in1 (Builtin.«max» ⟨[.ref l],[("default",dv)]⟩) (fun fin s'=>match fin with
      | .done f=>(match (Except.ok f:Result) with | .ok (.ret v)=>Q v s' | .ok _=>False | .error e=>E e s')
      | .again c'=>c'.quiet=true/\codeAny (model prog w) A c' (fun r s'=>match r with | .ok (.ret v)=>Q v s' | .ok _=>False | .error e=>E e s') s') E s:=by
    show wpAny _ A.in1 (Builtin.Builtins.bindParams "max" ["key","default"] 0 ⟨[],[("default",dv)]⟩ >>= _) _ _ s;refine aj (lJ (show Builtin.Builtins.bindParams "max" ["key","default"] 0 ⟨[],[("default",dv)]⟩=pure [none,some dv] from rfl) ?_);refine aj (ay (aj (lA hl ?_)));refine aj (eK ?_);rw[nm];have zu:(s.heap.push { cls:=.type "list_iterator",data:=.fields #[.ref l,.int 0 0] }).objs.size=s.heap.objs.size+1:=fP ..;have lS:∀d o,s.heap.get? d=some o->(s.heap.push { cls:=.type "list_iterator",data:=.fields #[.ref l,.int 0 0] }).get? d=some o:=fun d o e=>aY _ e
    have hit:(s.heap.push { cls:=.type "list_iterator",data:=.fields #[.ref l,.int 0 0] }).IsListIter s.heap.objs.size l 0:=⟨_,bF _ rfl,rfl,rfl⟩;have qu:(s.heap.push { cls:=.type "list_iterator",data:=.fields #[.ref l,.int 0 0] }).IsList l its:=by
      obtain⟨o,ho,r⟩:=hl;exact⟨o,lS l o ho,r⟩
    generalize s.heap.push { cls:=.type "list_iterator",data:=.fields #[.ref l,.int 0 0] } = g at zu lS hit qu;have nY:(g.push { cls:=.type "list",data:=.seq ([]:List ai).toArray }).IsList l its:=by
      obtain⟨o,ho,r⟩:=qu;exact⟨o,aY _ ho,r⟩
    refine ay ⟨fQ gg _,Wz (it:=s.heap.objs.size) (S:=g.objs.size) hh hv ?_ ?_ ?_ (hit.at fun o e=>aY _ e) nY (bF _ rfl) fun v h' tk hb kp=>?_⟩
    · rw[zu];exact Nat.succ_ne_self _
    · rw[zu];exact aE (aX (iV dz))
    · exact aX dz
    · refine q v h' tk hb fun d o e=>kp d o (fun z=>?_) (fun z=>?_) (aY _ (lS d o e))
      · exact absurd (aJ e) (by rw[z];exact dW _)
      · exact absurd (aJ e) (by rw[z,zu];exact ny (eV _))
  refine gw (mU F.plain_max F.entry_max ?_);have ha:=WA (.ref l) dv;simp only[checkBuiltinCall,F.kind_max];cases sg:Manifest.signature? "max" with
  | none=>exact ay body
  | some g=>
    simp only[argsOk,sg] at ha;have ha:Bind.checkArgs "max" g ⟨[.ref l],[("default",dv)]⟩=pure ():=ha;show wpAny _ A.in1 (Bind.checkArgs "max" g ⟨[.ref l],[("default",dv)]⟩) _ _ s;rw[ha];exact ay body
end
def AX(ns:List Int)(d m:Int):Prop:=(ns = []/\m=d)\/(m∈ns/\∀y∈ns,y<=m)
def WC(K:aF)(d:Int)(te:TE):TE:=fun σ H Q=>te σ H fun x H1=>∃(p:ah)(ns:List Int),x = .ref p/\aH K H1 p (ns.map V.int)/\∀m,AX ns d m->Q (.int m) H1
section
variable{X:Cx}
theorem WD(K:aF)(hK:X.K=K)(d:Int){e:Expr}{te:TE}{p pos kpos bO:Pos}{j:Nat}(hc:X.calm=true)(hg:Gl X "max")(hm:X.mg "max" = none)(he:PE X e te)
    (hs:starEach [e] X.env = [(false,eval e X.env)]:=by rfl):PE X (.Call (.Name "max" p) [e] [⟨some "default",.Constant (.int d) j bO,kpos⟩] pos) (WC K d te):=by
  subst hK;intro pins s σ H Q I h;refine kY (C2 I hg hm boot_max ?_);refine PySem.W.callWith_of (P:=fun _=>True) (first:=[]) (by rw[hs];rfl) (fun h _=>⟨.machine,.inr (.inl rfl),fun _ _ _ _ _ q=>ay q⟩) (PyProof.Rows.evalArgs_kw2 rfl ?_ hs);refine bK (za he zd hs pos pins s σ H (fun vs H1=>match vs with | [x]=>∃(p:ah)(ns:List Int),x = .ref p/\aH X.K H1 p (ns.map V.int)/\∀m,AX ns d m->Q (.int m) H1 | _=>False) I h) fun us s1 aQ=>?_
  obtain⟨vs,H1,I1,r,q⟩:=aQ
  match vs,q with
  | [x],q=>
    obtain⟨l,ns,rfl,hl,q⟩:=q;obtain⟨u,rfl,ru⟩:=pZ r;cases ru;refine bK (T3 (nm:=some "default") (kpos:=kpos) (zi (i:=d) (j:=j) (pos:=bO)) TZ pos pins s1 σ H1 (fun zs H2=>zs = [.int d]/\H2=H1) I1 ⟨rfl,rfl⟩) fun ws s2 ⟨zs,H2,I2,rz,q2⟩=>⟨trivial,?_⟩
    obtain⟨rfl,rfl⟩:=q2;obtain⟨v,rfl,t,rfl⟩:=pZ rz;obtain⟨its,rv,pl,hz⟩:=I2.list hl;have len:=rv.length;rw[aq] at len;have hv:∀i v,its.toArray[i]? = some v->∃t,v=Value.int (ns.getD i 0) t:=by
      intro i v e;have e':its[i]? = some v:=by simpa using e
      have hi:i<ns.length:=by have:=(bI.mp e').1;lia
      obtain⟨w,e2,iO⟩:=rv.get (i:=i) (x:=.int ns[i]) (by simp[hi]);rw[e'] at e2;cases e2;have:ns.getD i 0=ns[i]:=by rw[cW,aV hi];rfl
      rw[this];exact iO
    refine WB (I2.ok.hd hc) pl.isList hv fun v h' tk hb kp=>?_
    have sz:its.toArray.size=ns.length:=by rw[br];exact len.symm
    rcases hb with ⟨h0,rfl⟩ | ⟨b,eb,hb⟩
    · refine⟨.int d,_,I2.kept kp,⟨t,rfl⟩,q d (.inl ⟨?_,rfl⟩)⟩;exact mX.mp (by lia)
    · obtain⟨t',rfl⟩:=hv b _ eb;have WE:b<ns.length:=by
        have:=(gJ.mp eb).1;lia
      have eg:∀i(hi:i<ns.length),ns.getD i 0=ns[i]:=fun i hi=>by rw[cW,aV hi];rfl
      refine⟨.int (ns.getD b 0),_,I2.kept kp,⟨t',rfl⟩,q _ (.inr ⟨?_,fun y hy=>?_⟩)⟩
      · rw[eg b WE];exact jB _
      · obtain⟨i,hi,rfl⟩:=mT.mp hy;have:=hb i (by lia)
        rwa [eg i hi] at this
end
end L2
namespace Dm
open PySem PySem.NumText L2
def iA(lv:Str->Nat)(j:Nat)(x:Str):Bool:=decide (lv x=j)
def qN(lv:Str->Nat)(L:List (Str×ah)):List Int:=L.map fun p=>(lv p.1:Int)+1
def pT(lv:Str->Nat)(u:Str)(m:Nat):Str->Nat:=fun x=>if x=u then m else lv x
structure Lv(ln:Ln)(M:List Str)(lv:Str->Nat)(n:Nat):Prop where
  cl:∀x∈M,∀l r,(l,r)∈ln x->l∈M
  mx:∀x∈M,AX (qN lv (ln x)) 0 (lv x)
  lt:∀x∈M,lv x<n
  all:∀j,j<n->∃x∈M,lv x=j
theorem Lv.nil{ln:Ln}{lv:Str->Nat}:Lv ln [] lv 0:=⟨by simp,by simp,by simp,by simp⟩
theorem Lv.mem{ln:Ln}{M M':List Str}{lv:Str->Nat}{n:Nat}(h:Lv ln M lv n)(e:∀x,x∈M↔x∈M'):Lv ln M' lv n:=
  ⟨fun x hx l r hl=>(e l).mp (h.cl x ((e x).mpr hx) l r hl),fun x hx=>h.mx x ((e x).mpr hx),fun x hx=>h.lt x ((e x).mpr hx),fun j hj=>by
    obtain⟨x,hx,z⟩:=h.all j hj;exact⟨x,(e x).mp hx,z⟩⟩
theorem Lv.next{ln:Ln}{M:List Str}{lv:Str->Nat}{n:Nat}{u:Str}(h:Lv ln M lv n)(hc:∀l r,(l,r)∈ln u->l∈M){m:Int}(hm:AX (qN lv (ln u)) 0 m):∃k:Nat,m=k/\k<=n:=by
  rcases hm with ⟨_,rfl⟩ | ⟨hm,_⟩
  · exact⟨0,rfl,by lia⟩
  · unfold qN at hm;rw[aK] at hm;obtain⟨⟨l,r⟩,hl,rfl⟩:=hm;have:=h.lt l (hc l r hl);exact⟨lv l+1,by simp,by lia⟩
theorem OB{lv rH:Str->Nat}{L:List (Str×ah)}(h:∀l r,(l,r)∈L->lv l=rH l):qN lv L=qN rH L:=by
  unfold qN;refine fH fun p hp=>?_
  rw[h p.1 p.2 hp]
theorem El{lv:Str->Nat}{u x:Str}{k:Nat}(h:x≠u):pT lv u k x=lv x:=by unfold pT;rw[ao h]
theorem Hj{lv:Str->Nat}{u:Str}{k:Nat}:pT lv u k u=k:=by unfold pT;rw[av rfl]
theorem Lv.step{ln:Ln}{M:List Str}{lv:Str->Nat}{n:Nat}{u:Str}(h:Lv ln M lv n)(hu:u ∉ M)(hc:∀l r,(l,r)∈ln u->l∈M){k:Nat}(hm:AX (qN lv (ln u)) 0 k)(hk:k<=n) :
    Lv ln (M++[u]) (pT lv u k) (if k=n then n+1 else n):=by
  have ne:∀x∈M,x≠u:=fun x hx z=>hu (z▸hx)
  have cg:∀x,(∀l r,(l,r)∈ln x->l∈M)->qN (pT lv u k) (ln x)=qN lv (ln x):=fun x hx=>OB fun l r hl=>El (ne l (hx l r hl))
  have sp:∀x,x∈M++[u]->x∈M\/x=u:=fun x hx=>by
    rcases bz.mp hx with h | h
    · exact .inl h
    · exact .inr (by simpa using h)
  refine⟨fun x hx l r hl=>?_,fun x hx=>?_,fun x hx=>?_,fun j hj=>?_⟩
  · rcases sp x hx with hx | rfl
    · exact dF _ (h.cl x hx l r hl)
    · exact dF _ (hc l r hl)
  · rcases sp x hx with hx | rfl
    · rw[cg x (h.cl x hx),El (ne x hx)];exact h.mx x hx
    · rw[cg x hc,Hj];exact hm
  · rcases sp x hx with hx | rfl
    · rw[El (ne x hx)];have:=h.lt x hx;split<;>lia
    · rw[Hj];split<;>lia
  · by_cases c:j<n
    · obtain⟨x,hx,e⟩:=h.all j c;exact⟨x,dF _ hx,by rw[El (ne x hx)];exact e⟩
    · refine⟨u,by simp,?_⟩;rw[Hj];split at hj<;>lia
theorem WG{M:List Str}{lv:Str->Nat}{u:Str}{k j:Nat}(hu:u ∉ M):(M++[u]).filter (iA (pT lv u k) j)=M.filter (iA lv j)++(if k=j then[u] else[]):=by
  rw[lW]
  congr 1
  · refine List.filter_congr fun x hx=>?_
    unfold iA;have ne:x≠u:=fun z=>hu (by rw[←z];exact hx)
    rw[El ne]
  · have e:iA (pT lv u k) j u=decide (k=j):=by unfold iA;rw[Hj]
    by_cases c:k=j
    · rw[av c,mY (by rw[e];exact aP c)];rfl
    · rw[ao c,mZ (by rw[e,bq c];exact bJ)];rfl
theorem WH{os keys:List Str}{p:Str->Bool}(pm:os.Perm keys)(kl:keys.Pairwise (fun a b=>co a<co b)):aM (os.filter p)=keys.filter p:=by
  refine(Ci (pm.filter p).symm ?_).symm;unfold AR;exact(kl.imp (fun h=>Eh h)).sublist (jL ..)
theorem WI{l:List ah}(h:l.Nodup){i j:Nat}{a:ah}(hi:l[i]? = some a)(hj:l[j]? = some a):i=j:=by
  obtain⟨h1,e1⟩:=bI.mp hi;obtain⟨h2,e2⟩:=bI.mp hj;have pw:=jx.mp h;rcases jN i j with c | c | c
  · exact absurd (e1.trans e2.symm) (pw i j h1 h2 c)
  · exact c
  · exact absurd (e2.trans e1.symm) (pw j i h2 h1 c)
end Dm
namespace L2
open PySem PySem.Spec PyProof.Rows
theorem WJ{c:TT}{t u:TS}{D:Ends}{σ:St}{H:Hp}(P:St->Hp->Prop)(b:Bool)(ht:∀Q':Bool->Hp->Prop,Q' b H->c σ H Q')(h1:b=true->(∀aI H',P aI H'->D.nx aI H')->t D σ H)(h2:b=false->(∀aI H',P aI H'->D.nx aI H')->u D σ H)
    (hn:∀aI H',P aI H'->D.nx aI H'):uZ c t u D σ H:=by
  refine Ce b ht ?_;cases b with
  | true=>exact lO (h1 rfl hn)
  | false=>exact fj (h2 rfl hn)
end L2
namespace Dm
open PySem PySem.NumText L2
theorem Lv.ye{ln:Ln}{M:List Str}{lv:Str->Nat}{n:Nat}(h:Lv ln M lv n){j:Nat}(hj:n<=j):M.filter (iA lv j) = []:=by
  rw[qU];intro x hx;have:=h.lt x hx;unfold iA;rw[gM];lia
theorem WK{ns OC:List Int}{d m m':Int}(h:AX ns d m)(h':AX OC d m')(e:∀y,y∈ns↔y∈OC):m=m':=by
  rcases h with ⟨h1,h2⟩ | ⟨h1,h2⟩
  · rcases h' with ⟨_,h4⟩ | ⟨h3,_⟩
    · rw[h2,h4]
    · have:=(e m').mpr h3;rw[h1] at this;cases this
  · rcases h' with ⟨h3,_⟩ | ⟨h3,h4⟩
    · have:=(e m).mp h1;rw[h3] at this;cases this
    · have a:=h2 m' ((e m').mpr h3);have b:=h4 m ((e m).mp h1);lia
end Dm
namespace L2
open PySem PySem.Spec PyProof.Rows
abbrev IS:=Int×Str
def iI(p q:IS):Bool:=if p.1=q.1 then decide (q.2.cps.toList<p.2.cps.toList) else decide (q.1<p.1)
theorem Hl(p:IS):iI p p=false:=by
  unfold iI;rw[av rfl];exact bq (gO _)
theorem WL{i b j:IS}(h1:iI i b=false)(h2:iI j b=true):iI i j=false:=by
  unfold iI at *
  by_cases c1:i.1=b.1
  · rw[av c1] at h1;have h1:=lX h1
    by_cases c2:j.1=b.1
    · rw[av c2] at h2;have h2:=bG h2;rw[av (c1.trans c2.symm)];exact bq fun z=>h1 (nC h2 z)
    · rw[ao c2] at h2;have h2:=bG h2;rw[ao (fun z=>c2 (z.symm.trans c1))];exact bq (by lia)
  · rw[ao c1] at h1;have h1:=lX h1
    by_cases c2:j.1=b.1
    · rw[ao (fun z=>c1 (z.trans c2))];exact bq (by lia)
    · rw[ao c2] at h2;have h2:=bG h2;rw[ao (by lia)];exact bq (by lia)
theorem Ho{p b:IS}(h:iI p b=false):p.1<=b.1:=by
  unfold iI at h
  by_cases c:p.1=b.1
  · lia
  · rw[ao c] at h;have:=lX h;lia
def eS(h:Heap)(v:ai)(p:IS):Prop:=∃a t u,v = .ref a/\IsTup h a #[.int p.1 t,.str p.2 u]
theorem eS.kept{h h':Heap}{v:ai}{p:IS}(t:eS h v p)(k:∀d o,(h.get? d=some o/\o.cls = .type "tuple")->h'.get? d=some o):eS h' v p:=by
  obtain⟨a,x,y,rfl,o,ho,hc,n,hd⟩:=t;exact⟨a,x,y,rfl,o,k a o ⟨ho,hc⟩,hc,n,hd⟩
section
variable{prog:aU}{w:World}{A:Around}{E:az}{s:au}
theorem WM{a b:Int}{t u:Tok}{Q:az}(q:Q (.bool (decide (a<b))) s):wpAny (model prog w) A (richCompare .Lt (.int a t) (.int b u)) Q E s:=
  CmpOf.ints_lt (P:=fun i v=>(i=0/\v = .int a t)\/(i=1/\v = .int b u)) (fun i=>if i=0 then a else b) (fun i v h=>by
    rcases h with ⟨rfl,rfl⟩ | ⟨rfl,rfl⟩
    · exact⟨t,rfl⟩
    · exact⟨u,rfl⟩) 0 1 _ _ s Q E (.inl ⟨rfl,rfl⟩) (.inr ⟨rfl,rfl⟩) q
theorem WN{v1 v2:ai}{p q:IS}{Q:az}(hu:A.units<cLine)(h1:eS s.heap v1 p)(h2:eS s.heap v2 q)(h:Q (.bool (iI p q)) s) :
    wpAny (model prog w) A (richCompare .Gt v1 v2) Q E s:=by
  obtain⟨a,t1,u1,rfl,oa,AY,Em,na,En⟩:=h1;obtain⟨b,t2,u2,rfl,ob,AZ,Eo,nb,jT⟩:=h2;have ta:s.TypeIs (.ref a) "tuple":=⟨oa,AY,Em⟩;have tb:s.TypeIs (.ref b) "tuple":=⟨ob,AZ,Eo⟩;refine wpAny_richCompare_same_room (op:=.Gt) ta tb F.slot_tuple_gt (jA F.slot_tuple_gt ta F.entry_tuple_gt ?_ (F.args_tuple_gt_2 _ _)) hu;show wpAny _ _ (isInstance (.ref b) (.type "tuple") >>= _) _ _ s;refine aj (lD tb isSubtype_tuple_tuple ?_);rw[ao (by decide)];refine aj (pD AY En (aj (pD AZ jT (aj ?_))));show wpAny _ _ (forIn [((Value.int p.1 t1,Value.int q.1 t2):ai×ai),(Value.str p.2 u1,Value.str q.2 u2)] _ _) _ _ s;rw[lG];refine aj (aj (wpAny_eqBool_int ?_))
  by_cases c:p.1=q.1
  · rw[show(p.1 == q.1)=true from gx.mpr c,ao (by decide)];refine ay ?_;show wpAny _ _ (forIn [((Value.str p.2 u1,Value.str q.2 u2):ai×ai)] _ _) _ _ s;rw[lG];refine aj (aj (nj ?_))
    by_cases c2:p.2=q.2
    · rw[aP c2,ao (by decide)];refine ay ?_;show wpAny _ _ (forIn ([]:List (ai×ai)) _ _) _ _ s;rw[List.forIn_nil];refine ay (ay ⟨_,rfl,(fun e=>nomatch e),?_⟩);have e:iI p q=false:=by
        unfold iI;rw[av c,c2];exact bq (gO _)
      rw[e] at h;exact h
    · rw[bq c2,av (by decide)];refine aj (gv (aj (PySem.P.gt_str ?_)));refine ay (ay (ay ⟨_,rfl,(fun e=>nomatch e),?_⟩));unfold iI at h;rw[av c] at h;exact h
  · rw[show(p.1 == q.1)=false from f9.mpr c,av (by decide)];refine aj (gv (aj (OA ?_)));refine ay (ay (ay ⟨_,rfl,(fun e=>nomatch e),?_⟩));unfold iI at h;rw[ao c] at h;exact h
theorem WO{v1 v2:ai}{p q:IS}{Q:az}(hu:A.units<cLine)(h1:eS s.heap v1 p)(h2:eS s.heap v2 q)(h:Q (.bool (iI q p)) s) :
    wpAny (model prog w) A (richCompare .Lt v1 v2) Q E s:=by
  obtain⟨a,t1,u1,rfl,oa,AY,Em,na,En⟩:=h1;obtain⟨b,t2,u2,rfl,ob,AZ,Eo,nb,jT⟩:=h2;have ta:s.TypeIs (.ref a) "tuple":=⟨oa,AY,Em⟩;have tb:s.TypeIs (.ref b) "tuple":=⟨ob,AZ,Eo⟩;refine wpAny_richCompare_same_room (op:=.Lt) ta tb F.slot_tuple_lt (jA F.slot_tuple_lt ta F.entry_tuple_lt ?_ (F.args_tuple_lt_2 _ _)) hu;show wpAny _ _ (isInstance (.ref b) (.type "tuple") >>= _) _ _ s;refine aj (lD tb isSubtype_tuple_tuple ?_);rw[ao (by decide)];refine aj (pD AY En (aj (pD AZ jT (aj ?_))));show wpAny _ _ (forIn [((Value.int p.1 t1,Value.int q.1 t2):ai×ai),(Value.str p.2 u1,Value.str q.2 u2)] _ _) _ _ s;rw[lG];refine aj (aj (wpAny_eqBool_int ?_))
  by_cases c:p.1=q.1
  · rw[show(p.1 == q.1)=true from gx.mpr c,ao (by decide)];refine ay ?_;show wpAny _ _ (forIn [((Value.str p.2 u1,Value.str q.2 u2):ai×ai)] _ _) _ _ s;rw[lG];refine aj (aj (nj ?_))
    by_cases c2:p.2=q.2
    · rw[aP c2,ao (by decide)];refine ay ?_;show wpAny _ _ (forIn ([]:List (ai×ai)) _ _) _ _ s;rw[List.forIn_nil];refine ay (ay ⟨_,rfl,(fun e=>nomatch e),?_⟩);have e:iI q p=false:=by
        unfold iI;rw[av c.symm,c2];exact bq (gO _)
      rw[e] at h;exact h
    · rw[bq c2,av (by decide)];refine aj (gv (aj (lt_str ?_)));refine ay (ay (ay ⟨_,rfl,(fun e=>nomatch e),?_⟩));unfold iI at h;rw[av c.symm] at h;exact h
  · rw[show(p.1 == q.1)=false from f9.mpr c,av (by decide)];refine aj (gv (aj (WM ?_)));refine ay (ay (ay ⟨_,rfl,(fun e=>nomatch e),?_⟩));unfold iI at h;rw[ao (aE c)] at h;exact h
end
theorem WQ{i b j:IS}(h1:iI b i=false)(h2:iI b j=true):iI j i=false:=by
  unfold iI at *
  by_cases c1:b.1=i.1
  · rw[av c1] at h1;have h1:=lX h1
    by_cases c2:b.1=j.1
    · rw[av c2] at h2;have h2:=bG h2;rw[av (c2.symm.trans c1)];exact bq fun z=>h1 (nC z h2)
    · rw[ao c2] at h2;have h2:=bG h2;rw[ao (fun z=>c2 (c1.trans z.symm))];exact bq (by lia)
  · rw[ao c1] at h1;have h1:=lX h1
    by_cases c2:b.1=j.1
    · rw[ao (fun z=>c1 (c2.trans z))];exact bq (by lia)
    · rw[ao c2] at h2;have h2:=bG h2;rw[ao (by lia)];exact bq (by lia)
theorem xg{α β:Type}{F:α->β->Prop}{as:List α}{bs:List β}(h:Paired F as bs):∀{i:Nat}{a:α}{b:β},as[i]? = some a->bs[i]? = some b->F a b:=by
  induction h with
  | nil=>intro i a b e _;simp at e
  | cons h _ ih=>
    intro i a b e1 e2;cases i with
    | zero=>simp at e1 e2;rw[←e1,←e2];exact h
    | succ i=>exact ih (by simpa using e1) (by simpa using e2)
section
variable{prog:aU}{w:World}{A:Around}{R:Result->au->Prop}
theorem WR{l it S:ah}{its:Array ai}{val:Nat->IS}(hh:A.handled=none)(hu:A.units+1<cLine)(n1:S≠it)(n2:S≠l)(n3:l≠it) :
    ∀(k j b:Nat)(s:au)(vb:ai)(c:Nat),its.size-j=k->kL s.heap l it S its vb j c->(∀i v,its[i]? = some v->eS s.heap v (val i))->its[b]? = some vb->(∀i,i<j->iI (val i) (val b)=false)->j<=its.size->
      (∀(v:ai)(b':Nat)(h':Heap)(tk:Nat),its[b']? = some v->(∀i,i<its.size->iI (val i) (val b')=false)->(∀d o,d≠it->d≠S->s.heap.get? d=some o->h'.get? d=some o)->R (.ok (.ret v)) { s with heap:=h',toks:=tk })->
      codeAny (model prog w) A (.builtin "max.loop" ⟨[.ref it,.none,.ref S],[]⟩) R s:=by
  have nm:(toString "max" ++ toString ".loop" : String) = "max.loop":=by decide
  intro k
  induction k with
  | zero=>
    intro j b s vb c hk M ht eb best hj q;refine iF lE ?_;rw[iQ gg _];show wpAny _ A.in1 (seqItems? (.ref S) >>= _) _ _ s;refine aj (iG M.s rfl (aj (gP (ng (A:=A.in1) hh M.i M.l (m8 (show its.size<=j by lia)) fun h' w9=>?_))));have s':=w9 S _ n1 M.s;refine aj (m:=updateSeq S (fun _=>#[])) ?_;refine gh s' rfl (aj (gj (ay ?_)));exact q vb b _ s.toks eb (fun i hi=>best i (by lia)) fun d o d1 d2 e=>by
      rw[cF _ _ (aE d2)];exact w9 d o d1 e
  | succ k ih=>
    intro j b s vb c hk M ht eb best hj q;have dz:j<its.size:=by lia
    have ej:its[j]? = some its[j]:=gK dz;refine iF lE ?_;rw[iQ gg _];show wpAny _ A.in1 (seqItems? (.ref S) >>= _) _ _ s;have ci:∀d o,s.heap.get? d=some o->o.cls = .type "tuple"->d≠it:=fun d o e z y=>by
      obtain⟨o',e',c',_⟩:=M.i;rw[y,e'] at e;cases e;rw[c'] at z;exact absurd z (by decide)
    have cS:∀d o,s.heap.get? d=some o->o.cls = .type "tuple"->d≠S:=fun d o e z y=>by
      have e':=M.s;rw[y,e'] at e;cases e;have z:Value.type "list" = Value.type "tuple":=z;exact absurd z (by decide)
    refine aj (iG M.s rfl (aj (gP (mS M.i M.l ej fun h' qJ sb=>?_))));have s':h'.get? S=_:=(sb.2 S n1).trans M.s;have l':h'.IsList l its:=by
      obtain⟨o,ho,r⟩:=M.l;exact⟨o,(sb.2 l n3).trans ho,r⟩
    have oR:∀i v,its[i]? = some v->eS h' v (val i):=fun i v e=>(ht i v e).kept fun d o z=>(sb.2 d (ci d o z.1 z.2)).trans z.1
    have tj:=oR j _ ej;have tb:=oR b _ eb;generalize its[j]=vj at ej tj;refine aj (ay ?_);refine aj (gP (dG (aj (WN (s:={ s with heap:=h' }) hu tj tb ?_))));refine aj (dG (j9 (aj (gj (ay ?_)))))
    by_cases c1:iI (val j) (val b)=true
    · rw[c1,av rfl];refine aj (m:=updateSeq S (fun _=>#[vj,vj])) ?_;refine gh s' rfl (aj (gj ?_));rw[nm];have keep:∀d o,d≠S->h'.get? d=some o->(h'.update S (Obj.mapSeq fun _=>#[vj,vj])).get? d=some o:=fun d o d1 e=>(cF _ _ (aE d1)).trans e
      obtain⟨c',M'⟩:∃c',kL (h'.update S (Obj.mapSeq fun _=>#[vj,vj])) l it S its vj (j+1) c':=by
        refine⟨_,qJ.at fun o e=>keep it o (aE n1) e,?_,cX _ s' rfl⟩;obtain⟨o,ho,r⟩:=l';exact⟨o,keep l o (aE n2) ho,r⟩
      refine ay ⟨fQ gg _,ih (j+1) j _ _ _ (by lia) M' (fun i v e=>?_) ej (fun i hi=>?_) dz fun v b' h2 tk ev hb kp=>?_⟩
      · refine(ht i v e).kept fun d o z=>keep d o (cS d o z.1 z.2) ((sb.2 d (ci d o z.1 z.2)).trans z.1)
      · by_cases c2:i=j
        · subst c2;exact Hl _
        · exact WL (best i (by lia)) c1
      · exact q v b' h2 tk ev hb fun d o d1 d2 e=>kp d o d1 d2 (keep d o d2 ((sb.2 d d1).trans e))
    · have c1:iI (val j) (val b)=false:=by simpa using c1
      rw[c1,ao bJ];refine aj (gj ?_);rw[nm];refine ay ⟨fQ gg _,ih (j+1) b { s with heap:=h' } _ c (by lia) ⟨qJ,l',s'⟩ oR eb (fun i hi=>?_) dz fun v b' h2 tk ev hb kp=>?_⟩
      · by_cases c2:i=j
        · subst c2;exact c1
        · exact best i (by lia)
      · exact q v b' h2 tk ev hb fun d o d1 d2 e=>kp d o d1 d2 ((sb.2 d d1).trans e)
theorem WS{l it S:ah}{its:Array ai}{val:Nat->IS}{s:au}{c:Nat}(hh:A.handled=none)(hu:A.units+1<cLine)(n1:S≠it)(n2:S≠l)(n3:l≠it)(kM:0<its.size)
    (hi:s.heap.IsListIter it l 0) (hl:s.heap.IsList l its) (hS:s.heap.get? S=some { cls:=.type "list",dict:=none,data:=.seq #[] c,slots:=#[] }) (ht:∀i v,its[i]? = some v->eS s.heap v (val i))
    (q:∀(v:ai)(b':Nat)(h':Heap)(tk:Nat),its[b']? = some v->(∀i,i<its.size->iI (val i) (val b')=false)->(∀d o,d≠it->d≠S->s.heap.get? d=some o->h'.get? d=some o)->R (.ok (.ret v)) { s with heap:=h',toks:=tk }) :
    codeAny (model prog w) A (.builtin "max.loop" ⟨[.ref it,.none,.ref S],[]⟩) R s:=by
  have nm:(toString "max" ++ toString ".loop" : String) = "max.loop":=by decide
  refine iF lE ?_;rw[iQ gg _];show wpAny _ A.in1 (seqItems? (.ref S) >>= _) _ _ s;have ci:∀d o,s.heap.get? d=some o->o.cls = .type "tuple"->d≠it:=fun d o e z y=>by
    obtain⟨o',e',c',_⟩:=hi;rw[y,e'] at e;cases e;rw[c'] at z;exact absurd z (by decide)
  have cS:∀d o,s.heap.get? d=some o->o.cls = .type "tuple"->d≠S:=fun d o e z y=>by
    rw[y,hS] at e;cases e;have z:Value.type "list" = Value.type "tuple":=z;exact absurd z (by decide)
  have ej:its[0]? = some its[0]:=gK kM;refine aj (iG hS rfl (aj (gP (mS hi hl ej fun h' qJ sb=>?_))));have s':h'.get? S=_:=(sb.2 S n1).trans hS;have l':h'.IsList l its:=by
    obtain⟨o,ho,r⟩:=hl;exact⟨o,(sb.2 l n3).trans ho,r⟩
  refine aj (ay ?_);refine aj (m:=updateSeq S (fun _=>#[its[0],its[0]])) ?_;refine gh s' rfl ?_;rw[nm];have keep:∀d o,d≠S->h'.get? d=some o->(h'.update S (Obj.mapSeq fun _=>#[its[0],its[0]])).get? d=some o:=fun d o d1 e=>(cF _ _ (aE d1)).trans e
  obtain⟨c',M'⟩:∃c',kL (h'.update S (Obj.mapSeq fun _=>#[its[0],its[0]])) l it S its its[0] 1 c':=by
    refine⟨_,qJ.at fun o e=>keep it o (aE n1) e,?_,cX _ s' rfl⟩;obtain⟨o,ho,r⟩:=l';exact⟨o,keep l o (aE n2) ho,r⟩
  refine ay ⟨fQ gg _,WR (val:=val) hh hu n1 n2 n3 _ 1 0 _ _ _ rfl M' (fun i v e=>?_) ej (fun i hi=>?_) (by lia) fun v b' h2 tk ev hb kp=>?_⟩
  · exact(ht i v e).kept fun d o z=>keep d o (cS d o z.1 z.2) ((sb.2 d (ci d o z.1 z.2)).trans z.1)
  · have:i=0:=by lia
    subst this;exact Hl _
  · exact q v b' h2 tk ev hb fun d o d1 d2 e=>kp d o d1 d2 (keep d o d2 ((sb.2 d d1).trans e))
end
section
variable{prog:aU}{w:World}{A:Around}{E:az}{s:au}
theorem WT{l:ah}{its:Array ai}{val:Nat->IS}{Q:az}(hh:A.handled=none)(hu:A.units+1<cLine)(hl:s.heap.IsList l its)(kM:0<its.size)(ht:∀i v,its[i]? = some v->eS s.heap v (val i))
    (q:∀(v:ai)(b':Nat)(h':Heap)(tk:Nat),its[b']? = some v->(∀i,i<its.size->iI (val i) (val b')=false)->(∀d o,s.heap.get? d=some o->h'.get? d=some o)->Q v { s with heap:=h',toks:=tk }) :
    wpAny (model prog w) A (call (.builtin "max") [.ref l]) Q E s:=by
  have nm:(toString "max" ++ toString ".loop" : String) = "max.loop":=by decide
  have dz:l<s.heap.objs.size:=by obtain⟨_,e,_⟩:=hl;exact aJ e
  have body:wpAny (model prog w) A.in1 (Builtin.«max» ⟨[.ref l],[]⟩) (fun fin s'=>match fin with
      | .done f=>(match (Except.ok f:Result) with | .ok (.ret v)=>Q v s' | .ok _=>False | .error e=>E e s')
      | .again c'=>c'.quiet=true/\codeAny (model prog w) A c' (fun r s'=>match r with | .ok (.ret v)=>Q v s' | .ok _=>False | .error e=>E e s') s') E s:=by
    show wpAny _ A.in1 (Builtin.Builtins.bindParams "max" ["key","default"] 0 ⟨[],[]⟩ >>= _) _ _ s;refine aj (lJ (show Builtin.Builtins.bindParams "max" ["key","default"] 0 ⟨[],[]⟩=pure [none,none] from rfl) ?_);refine aj (ay (aj (lA hl ?_)));refine aj (eK ?_);rw[nm];have zu:(s.heap.push { cls:=.type "list_iterator",data:=.fields #[.ref l,.int 0 0] }).objs.size=s.heap.objs.size+1:=fP ..;have lS:∀d o,s.heap.get? d=some o->(s.heap.push { cls:=.type "list_iterator",data:=.fields #[.ref l,.int 0 0] }).get? d=some o:=fun d o e=>aY _ e
    have hit:(s.heap.push { cls:=.type "list_iterator",data:=.fields #[.ref l,.int 0 0] }).IsListIter s.heap.objs.size l 0:=⟨_,bF _ rfl,rfl,rfl⟩;have qu:(s.heap.push { cls:=.type "list_iterator",data:=.fields #[.ref l,.int 0 0] }).IsList l its:=by
      obtain⟨o,ho,r⟩:=hl;exact⟨o,lS l o ho,r⟩
    generalize s.heap.push { cls:=.type "list_iterator",data:=.fields #[.ref l,.int 0 0] } = g at zu lS hit qu;have nY:(g.push { cls:=.type "list",data:=.seq ([]:List ai).toArray }).IsList l its:=by
      obtain⟨o,ho,r⟩:=qu;exact⟨o,aY _ ho,r⟩
    refine ay ⟨fQ gg _,WS (val:=val) (it:=s.heap.objs.size) (S:=g.objs.size) hh hu ?_ ?_ ?_ kM (hit.at fun o e=>aY _ e) nY (bF _ rfl) (fun i v e=>(ht i v e).kept fun d o z=>aY _ (lS d o z.1)) fun v b' h' tk eb hb kp=>?_⟩
    · rw[zu];exact Nat.succ_ne_self _
    · rw[zu];exact aE (aX (iV dz))
    · exact aX dz
    · refine q v b' h' tk eb hb fun d o e=>kp d o (fun z=>?_) (fun z=>?_) (aY _ (lS d o e))
      · exact absurd (aJ e) (by rw[z];exact dW _)
      · exact absurd (aJ e) (by rw[z,zu];exact ny (eV _))
  refine gw (mU F.plain_max F.entry_max ?_);have ha:=F.args_max1 (.ref l);simp only[checkBuiltinCall,F.kind_max];cases sg:Manifest.signature? "max" with
  | none=>exact ay body
  | some g=>
    simp only[argsOk,sg] at ha;have ha:Bind.checkArgs "max" g ⟨[.ref l],[]⟩=pure ():=ha;show wpAny _ A.in1 (Bind.checkArgs "max" g ⟨[.ref l],[]⟩) _ _ s;rw[ha];exact ay body
end
section
variable{X:Cx}
theorem WU{K:aF}(h:X.K=K)(hc:X.calm=true)(hu:X.A.units+1<cLine):om X (.builtin "max") (fun xs H Q=>∃(l:ah)(as:List ah)(ps:List IS),xs = [V.ref l]/\aH K H l (as.map V.ref)/\Paired (fun a(p:IS)=>bx K H a [.int p.1,.str p.2]) as ps/\ps≠[]/\
    ∀(j:Nat)a p,as[j]? = some a->ps[j]? = some p->(∀q∈ps,iI q p=false)->Q (.ref a) H):=by
  subst h;intro pins s σ H xs us Q I r h;obtain⟨l,as,ps,rfl,hl,pr,mF,q⟩:=h;obtain⟨u,rfl,ru⟩:=pZ r;cases ru;obtain⟨its,rv,pl,hz⟩:=I.list hl;have len:=rv.length;rw[aq] at len;have lp:as.length=ps.length:=Paired.length pr;have kM:0<ps.length:=fJ.mpr mF;have A0:∀(i:Nat)(v:ai),its.toArray[i]? = some v->∃(a:ah)(p:IS),as[i]? = some a/\ps[i]? = some p/\v=Value.ref a/\bx X.K H a [.int p.1,.str p.2]:=by
    intro i v e;have e':its[i]? = some v:=by simpa using e
    have hi:i<as.length:=by have:=(bI.mp e').1;lia
    have Ep:i<ps.length:=by lia
    obtain⟨u,e2,ru⟩:=rv.get (i:=i) (x:=V.ref as[i]) (by simp[hi]);rw[e'] at e2;cases e2;cases ru;exact⟨as[i],ps[i],aV hi,aV Ep,rfl,xg pr (aV hi) (aV Ep)⟩
  have ht:∀i v,its.toArray[i]? = some v->eS s.heap v (ps.getD i (0,"")):=by
    intro i v e;obtain⟨a,p,ea,ep,rfl,t⟩:=A0 i v e;obtain⟨ts,rt,it,_⟩:=I.tuple t;have e0:ps.getD i (0,"")=p:=by rw[cW,ep];rfl
    obtain⟨u1,u2,rfl,⟨t1,rfl⟩,⟨t2,rfl⟩⟩:=As rt;rw[e0];exact⟨a,t1,t2,rfl,it⟩
  refine WT (I.ok.hd hc) hu pl.isList (by rw[br];lia) ht fun v b h' tk eb hb kp=>?_
  obtain⟨a,p,ea,ep,rfl,t⟩:=A0 b v eb;refine⟨.ref a,H,I.kept kp,rfl,q b a p ea ep fun z hz=>?_⟩;obtain⟨i,hi⟩:=jy.mp hz;have dz:=(bI.mp hi).1;have:=hb i (by rw[br];lia);rw[cW,cW,hi,ep] at this;exact this
end
section
variable{prog:aU}{w:World}{A:Around}{R:Result->au->Prop}
theorem WV{l it S:ah}{its:Array ai}{val:Nat->IS}(hh:A.handled=none)(hu:A.units+1<cLine)(n1:S≠it)(n2:S≠l)(n3:l≠it) :
    ∀(k j b:Nat)(s:au)(vb:ai)(c:Nat),its.size-j=k->kL s.heap l it S its vb j c->(∀i v,its[i]? = some v->eS s.heap v (val i))->its[b]? = some vb->(∀i,i<j->iI (val b) (val i)=false)->j<=its.size->
      (∀(v:ai)(b':Nat)(h':Heap)(tk:Nat),its[b']? = some v->(∀i,i<its.size->iI (val b') (val i)=false)->(∀d o,d≠it->d≠S->s.heap.get? d=some o->h'.get? d=some o)->R (.ok (.ret v)) { s with heap:=h',toks:=tk })->
      codeAny (model prog w) A (.builtin "min.loop" ⟨[.ref it,.none,.ref S],[]⟩) R s:=by
  have nm:(toString "min" ++ toString ".loop" : String) = "min.loop":=by decide
  intro k
  induction k with
  | zero=>
    intro j b s vb c hk M ht eb best hj q;refine iF F.entry_min_loop ?_;rw[iQ jO _];show wpAny _ A.in1 (seqItems? (.ref S) >>= _) _ _ s;refine aj (iG M.s rfl (aj (gP (ng (A:=A.in1) hh M.i M.l (m8 (show its.size<=j by lia)) fun h' w9=>?_))));have s':=w9 S _ n1 M.s;refine aj (m:=updateSeq S (fun _=>#[])) ?_;refine gh s' rfl (aj (gj (ay ?_)));exact q vb b _ s.toks eb (fun i hi=>best i (by lia)) fun d o d1 d2 e=>by
      rw[cF _ _ (aE d2)];exact w9 d o d1 e
  | succ k ih=>
    intro j b s vb c hk M ht eb best hj q;have dz:j<its.size:=by lia
    have ej:its[j]? = some its[j]:=gK dz;refine iF F.entry_min_loop ?_;rw[iQ jO _];show wpAny _ A.in1 (seqItems? (.ref S) >>= _) _ _ s;have ci:∀d o,s.heap.get? d=some o->o.cls = .type "tuple"->d≠it:=fun d o e z y=>by
      obtain⟨o',e',c',_⟩:=M.i;rw[y,e'] at e;cases e;rw[c'] at z;exact absurd z (by decide)
    have cS:∀d o,s.heap.get? d=some o->o.cls = .type "tuple"->d≠S:=fun d o e z y=>by
      have e':=M.s;rw[y,e'] at e;cases e;have z:Value.type "list" = Value.type "tuple":=z;exact absurd z (by decide)
    refine aj (iG M.s rfl (aj (gP (mS M.i M.l ej fun h' qJ sb=>?_))));have s':h'.get? S=_:=(sb.2 S n1).trans M.s;have l':h'.IsList l its:=by
      obtain⟨o,ho,r⟩:=M.l;exact⟨o,(sb.2 l n3).trans ho,r⟩
    have oR:∀i v,its[i]? = some v->eS h' v (val i):=fun i v e=>(ht i v e).kept fun d o z=>(sb.2 d (ci d o z.1 z.2)).trans z.1
    have tj:=oR j _ ej;have tb:=oR b _ eb;generalize its[j]=vj at ej tj;refine aj (ay ?_);refine aj (gP (dG (aj (WO (s:={ s with heap:=h' }) hu tj tb ?_))));refine aj (dG (j9 (aj (gj (ay ?_)))))
    by_cases c1:iI (val b) (val j)=true
    · rw[c1,av rfl];refine aj (m:=updateSeq S (fun _=>#[vj,vj])) ?_;refine gh s' rfl (aj (gj ?_));rw[nm];have keep:∀d o,d≠S->h'.get? d=some o->(h'.update S (Obj.mapSeq fun _=>#[vj,vj])).get? d=some o:=fun d o d1 e=>(cF _ _ (aE d1)).trans e
      obtain⟨c',M'⟩:∃c',kL (h'.update S (Obj.mapSeq fun _=>#[vj,vj])) l it S its vj (j+1) c':=by
        refine⟨_,qJ.at fun o e=>keep it o (aE n1) e,?_,cX _ s' rfl⟩;obtain⟨o,ho,r⟩:=l';exact⟨o,keep l o (aE n2) ho,r⟩
      refine ay ⟨fQ jO _,ih (j+1) j _ _ _ (by lia) M' (fun i v e=>?_) ej (fun i hi=>?_) dz fun v b' h2 tk ev hb kp=>?_⟩
      · refine(ht i v e).kept fun d o z=>keep d o (cS d o z.1 z.2) ((sb.2 d (ci d o z.1 z.2)).trans z.1)
      · by_cases c2:i=j
        · subst c2;exact Hl _
        · exact WQ (best i (by lia)) c1
      · exact q v b' h2 tk ev hb fun d o d1 d2 e=>kp d o d1 d2 (keep d o d2 ((sb.2 d d1).trans e))
    · have c1:iI (val b) (val j)=false:=by simpa using c1
      rw[c1,ao bJ];refine aj (gj ?_);rw[nm];refine ay ⟨fQ jO _,ih (j+1) b { s with heap:=h' } _ c (by lia) ⟨qJ,l',s'⟩ oR eb (fun i hi=>?_) dz fun v b' h2 tk ev hb kp=>?_⟩
      · by_cases c2:i=j
        · subst c2;exact c1
        · exact best i (by lia)
      · exact q v b' h2 tk ev hb fun d o d1 d2 e=>kp d o d1 d2 ((sb.2 d d1).trans e)
theorem WW{l it S:ah}{its:Array ai}{val:Nat->IS}{s:au}{c:Nat}(hh:A.handled=none)(hu:A.units+1<cLine)(n1:S≠it)(n2:S≠l)(n3:l≠it)(kM:0<its.size)
    (hi:s.heap.IsListIter it l 0) (hl:s.heap.IsList l its) (hS:s.heap.get? S=some { cls:=.type "list",dict:=none,data:=.seq #[] c,slots:=#[] }) (ht:∀i v,its[i]? = some v->eS s.heap v (val i))
    (q:∀(v:ai)(b':Nat)(h':Heap)(tk:Nat),its[b']? = some v->(∀i,i<its.size->iI (val b') (val i)=false)->(∀d o,d≠it->d≠S->s.heap.get? d=some o->h'.get? d=some o)->R (.ok (.ret v)) { s with heap:=h',toks:=tk }) :
    codeAny (model prog w) A (.builtin "min.loop" ⟨[.ref it,.none,.ref S],[]⟩) R s:=by
  have nm:(toString "min" ++ toString ".loop" : String) = "min.loop":=by decide
  refine iF F.entry_min_loop ?_;rw[iQ jO _];show wpAny _ A.in1 (seqItems? (.ref S) >>= _) _ _ s;have ci:∀d o,s.heap.get? d=some o->o.cls = .type "tuple"->d≠it:=fun d o e z y=>by
    obtain⟨o',e',c',_⟩:=hi;rw[y,e'] at e;cases e;rw[c'] at z;exact absurd z (by decide)
  have cS:∀d o,s.heap.get? d=some o->o.cls = .type "tuple"->d≠S:=fun d o e z y=>by
    rw[y,hS] at e;cases e;have z:Value.type "list" = Value.type "tuple":=z;exact absurd z (by decide)
  have ej:its[0]? = some its[0]:=gK kM;refine aj (iG hS rfl (aj (gP (mS hi hl ej fun h' qJ sb=>?_))));have s':h'.get? S=_:=(sb.2 S n1).trans hS;have l':h'.IsList l its:=by
    obtain⟨o,ho,r⟩:=hl;exact⟨o,(sb.2 l n3).trans ho,r⟩
  refine aj (ay ?_);refine aj (m:=updateSeq S (fun _=>#[its[0],its[0]])) ?_;refine gh s' rfl ?_;rw[nm];have keep:∀d o,d≠S->h'.get? d=some o->(h'.update S (Obj.mapSeq fun _=>#[its[0],its[0]])).get? d=some o:=fun d o d1 e=>(cF _ _ (aE d1)).trans e
  obtain⟨c',M'⟩:∃c',kL (h'.update S (Obj.mapSeq fun _=>#[its[0],its[0]])) l it S its its[0] 1 c':=by
    refine⟨_,qJ.at fun o e=>keep it o (aE n1) e,?_,cX _ s' rfl⟩;obtain⟨o,ho,r⟩:=l';exact⟨o,keep l o (aE n2) ho,r⟩
  refine ay ⟨fQ jO _,WV (val:=val) hh hu n1 n2 n3 _ 1 0 _ _ _ rfl M' (fun i v e=>?_) ej (fun i hi=>?_) (by lia) fun v b' h2 tk ev hb kp=>?_⟩
  · exact(ht i v e).kept fun d o z=>keep d o (cS d o z.1 z.2) ((sb.2 d (ci d o z.1 z.2)).trans z.1)
  · have:i=0:=by lia
    subst this;exact Hl _
  · exact q v b' h2 tk ev hb fun d o d1 d2 e=>kp d o d1 d2 (keep d o d2 ((sb.2 d d1).trans e))
end
section
variable{prog:aU}{w:World}{A:Around}{E:az}{s:au}
theorem WX{l:ah}{its:Array ai}{val:Nat->IS}{Q:az}(hh:A.handled=none)(hu:A.units+1<cLine)(hl:s.heap.IsList l its)(kM:0<its.size)(ht:∀i v,its[i]? = some v->eS s.heap v (val i))
    (q:∀(v:ai)(b':Nat)(h':Heap)(tk:Nat),its[b']? = some v->(∀i,i<its.size->iI (val b') (val i)=false)->(∀d o,s.heap.get? d=some o->h'.get? d=some o)->Q v { s with heap:=h',toks:=tk }) :
    wpAny (model prog w) A (call (.builtin "min") [.ref l]) Q E s:=by
  have nm:(toString "min" ++ toString ".loop" : String) = "min.loop":=by decide
  have dz:l<s.heap.objs.size:=by obtain⟨_,e,_⟩:=hl;exact aJ e
  have body:wpAny (model prog w) A.in1 (Builtin.«min» ⟨[.ref l],[]⟩) (fun fin s'=>match fin with
      | .done f=>(match (Except.ok f:Result) with | .ok (.ret v)=>Q v s' | .ok _=>False | .error e=>E e s')
      | .again c'=>c'.quiet=true/\codeAny (model prog w) A c' (fun r s'=>match r with | .ok (.ret v)=>Q v s' | .ok _=>False | .error e=>E e s') s') E s:=by
    show wpAny _ A.in1 (Builtin.Builtins.bindParams "min" ["key","default"] 0 ⟨[],[]⟩ >>= _) _ _ s;refine aj (lJ (show Builtin.Builtins.bindParams "min" ["key","default"] 0 ⟨[],[]⟩=pure [none,none] from rfl) ?_);refine aj (ay (aj (lA hl ?_)));refine aj (eK ?_);rw[nm];have zu:(s.heap.push { cls:=.type "list_iterator",data:=.fields #[.ref l,.int 0 0] }).objs.size=s.heap.objs.size+1:=fP ..;have lS:∀d o,s.heap.get? d=some o->(s.heap.push { cls:=.type "list_iterator",data:=.fields #[.ref l,.int 0 0] }).get? d=some o:=fun d o e=>aY _ e
    have hit:(s.heap.push { cls:=.type "list_iterator",data:=.fields #[.ref l,.int 0 0] }).IsListIter s.heap.objs.size l 0:=⟨_,bF _ rfl,rfl,rfl⟩;have qu:(s.heap.push { cls:=.type "list_iterator",data:=.fields #[.ref l,.int 0 0] }).IsList l its:=by
      obtain⟨o,ho,r⟩:=hl;exact⟨o,lS l o ho,r⟩
    generalize s.heap.push { cls:=.type "list_iterator",data:=.fields #[.ref l,.int 0 0] } = g at zu lS hit qu;have nY:(g.push { cls:=.type "list",data:=.seq ([]:List ai).toArray }).IsList l its:=by
      obtain⟨o,ho,r⟩:=qu;exact⟨o,aY _ ho,r⟩
    refine ay ⟨fQ jO _,WW (val:=val) (it:=s.heap.objs.size) (S:=g.objs.size) hh hu ?_ ?_ ?_ kM (hit.at fun o e=>aY _ e) nY (bF _ rfl) (fun i v e=>(ht i v e).kept fun d o z=>aY _ (lS d o z.1)) fun v b' h' tk eb hb kp=>?_⟩
    · rw[zu];exact Nat.succ_ne_self _
    · rw[zu];exact aE (aX (iV dz))
    · exact aX dz
    · refine q v b' h' tk eb hb fun d o e=>kp d o (fun z=>?_) (fun z=>?_) (aY _ (lS d o e))
      · exact absurd (aJ e) (by rw[z];exact dW _)
      · exact absurd (aJ e) (by rw[z,zu];exact ny (eV _))
  refine gw (mU F.plain_min F.entry_min ?_);have ha:=F.args_min1 (.ref l);simp only[checkBuiltinCall,F.kind_min];cases sg:Manifest.signature? "min" with
  | none=>exact ay body
  | some g=>
    simp only[argsOk,sg] at ha;have ha:Bind.checkArgs "min" g ⟨[.ref l],[]⟩=pure ():=ha;show wpAny _ A.in1 (Bind.checkArgs "min" g ⟨[.ref l],[]⟩) _ _ s;rw[ha];exact ay body
end
section
variable{X:Cx}
theorem WY{K:aF}(h:X.K=K)(hc:X.calm=true)(hu:X.A.units+1<cLine):om X (.builtin "min") (fun xs H Q=>∃(l:ah)(as:List ah)(ps:List IS),xs = [V.ref l]/\aH K H l (as.map V.ref)/\Paired (fun a(p:IS)=>bx K H a [.int p.1,.str p.2]) as ps/\ps≠[]/\
    ∀(j:Nat)a p,as[j]? = some a->ps[j]? = some p->(∀q∈ps,iI p q=false)->Q (.ref a) H):=by
  subst h;intro pins s σ H xs us Q I r h;obtain⟨l,as,ps,rfl,hl,pr,mF,q⟩:=h;obtain⟨u,rfl,ru⟩:=pZ r;cases ru;obtain⟨its,rv,pl,hz⟩:=I.list hl;have len:=rv.length;rw[aq] at len;have lp:as.length=ps.length:=Paired.length pr;have kM:0<ps.length:=fJ.mpr mF;have A0:∀(i:Nat)(v:ai),its.toArray[i]? = some v->∃(a:ah)(p:IS),as[i]? = some a/\ps[i]? = some p/\v=Value.ref a/\bx X.K H a [.int p.1,.str p.2]:=by
    intro i v e;have e':its[i]? = some v:=by simpa using e
    have hi:i<as.length:=by have:=(bI.mp e').1;lia
    have Ep:i<ps.length:=by lia
    obtain⟨u,e2,ru⟩:=rv.get (i:=i) (x:=V.ref as[i]) (by simp[hi]);rw[e'] at e2;cases e2;cases ru;exact⟨as[i],ps[i],aV hi,aV Ep,rfl,xg pr (aV hi) (aV Ep)⟩
  have ht:∀i v,its.toArray[i]? = some v->eS s.heap v (ps.getD i (0,"")):=by
    intro i v e;obtain⟨a,p,ea,ep,rfl,t⟩:=A0 i v e;obtain⟨ts,rt,it,_⟩:=I.tuple t;have e0:ps.getD i (0,"")=p:=by rw[cW,ep];rfl
    obtain⟨u1,u2,rfl,⟨t1,rfl⟩,⟨t2,rfl⟩⟩:=As rt;rw[e0];exact⟨a,t1,t2,rfl,it⟩
  refine WX (I.ok.hd hc) hu pl.isList (by rw[br];lia) ht fun v b h' tk eb hb kp=>?_
  obtain⟨a,p,ea,ep,rfl,t⟩:=A0 b v eb;refine⟨.ref a,H,I.kept kp,rfl,q b a p ea ep fun z hz=>?_⟩;obtain⟨i,hi⟩:=jy.mp hz;have dz:=(bI.mp hi).1;have:=hb i (by rw[br];lia);rw[cW,cW,hi,ep] at this;exact this
end
end L2
namespace Dm
open PySem PySem.NumText L2
structure je(K:aF)(H:Hp)(p pm pu pt pf:ah)(lo hi:Int)(us:List Str)(aA:List ah)(ts:List aT)(af:List ah)(fs:List bN):Prop where
  iN:oz K H p pu pt (.ref pm) (.ref pf) us aA ts
  m:bx K H pm [.int lo,.int hi]
  f:aH K H pf (af.map V.ref)
  ft:bU H af (fs.map cZ)
  fu:∀f∈fs,f.u∈us
  fl:fs.length<=60
section
variable{K:aF}{H H':Hp}{p pm pu pt pf:ah}{lo hi:Int}{us:List Str}{aA:List ah}{ts:List aT}{af:List ah}{fs:List bN}
theorem je.same(h:je K H p pm pu pt pf lo hi us aA ts af fs)(s:ak H H'):je K H' p pm pu pt pf lo hi us aA ts af fs:=⟨h.iN.same s,s.tup h.m,s.seq h.f,h.ft.same s,h.fu,h.fl⟩
theorem je.fZ(h:je K H p pm pu pt pf lo hi us aA ts af fs):af.length=fs.length:=by have:=h.ft.len;rw[aq] at this;exact this
end
theorem OD(f:bN):kB (cZ f) 0=some (.str f.n):=rfl
theorem WZ(f:bN):kB (cZ f) 1=some (.str f.u):=rfl
theorem W0(f:bN):kB (cZ f) 2=some (.int f.lo):=rfl
theorem W2(f:bN):kB (cZ f) 3=some (.int f.hi):=rfl
abbrev Fz:=List (bN×ah)
def eX(ts:List aT)(z:Fz):Str->Fz:=fun k=>z.filter fun p=>decide (aR ts p.1.u=k)
theorem W4{ts:List aT}{z:Fz}{i:Nat}{f:bN}{r:ah}{k:Str}(h:z[i]? = some (f,r)):eX ts (z.take (i+1)) k=eX ts (z.take i) k++(if aR ts f.u=k then[(f,r)] else[]):=by
  unfold eX;rw[aS,h,lW]
  congr 1
  by_cases c:aR ts f.u=k
  · rw[av c];simp[c]
  · rw[ao c];simp[c]
theorem Ky{ts:List aT}{z:Fz}{k:Str}:(eX ts z k).length<=z.length:=e7 _ _
structure Fw(H:Hp)(pd:ah)(ob:Obj)(keys:List Str)(fw:Str->Fz)(ad:Str->ah):Prop where
  d:H pd=some (.dw ob (.dK (dV keys fun k=>.ref (ad k))))
  l:∀k∈keys,H (ad k)=some (.lst ((fw k).map fun p=>V.ref p.2))
theorem Fw.same{H H':Hp}{pd:ah}{ob:Obj}{keys:List Str}{fw:Str->Fz}{ad:Str->ah}(b:Fw H pd ob keys fw ad)(s:ak H H'):Fw H' pd ob keys fw ad:=
  ⟨s _ _ b.d,fun k hk=>s _ _ (b.l k hk)⟩
theorem sN{H:Hp}{pd:ah}{ob:Obj}{keys:List Str}{f:Str->V}(h:H pd=some (.dw ob (.dK (dV keys f)))){k:Str}(hk:k∈keys):ck H pd (.str k) (some (f k)):=by
  have:=pR (f:=f) hk;exact .inl ⟨_,Sum.inr k,.inr ⟨ob,h⟩,rfl,this.symm⟩
def xh(lo:Int)(L:Fz):List IS:=(lo,"")::L.map fun p=>(p.1.lo,p.1.n)
def xj(hi:Int)(L:Fz):List IS:=(hi,"")::L.map fun p=>(p.1.hi,p.1.n)
def yf(l:List IS)(m:IS):Prop:=m∈l/\∀q∈l,iI q m=false
def yg(l:List IS)(m:IS):Prop:=m∈l/\∀q∈l,iI m q=false
structure Bd(H:Hp)(pd:ah)(ob:Obj)(keys:List Str)(v:Str->IS)(ad:Str->ah):Prop where
  d:H pd=some (.dw ob (.dK (dV keys fun k=>.ref (ad k))))
  e:∀k∈keys,H (ad k)=some (.tup [.int (v k).1,.str (v k).2])
theorem Bd.same{H H':Hp}{pd:ah}{ob:Obj}{keys:List Str}{v:Str->IS}{ad:Str->ah}(b:Bd H pd ob keys v ad)(s:ak H H'):Bd H' pd ob keys v ad:=
  ⟨s _ _ b.d,fun k hk=>s _ _ (b.e k hk)⟩
theorem W6{lo:Int}{L:Fz}{m:IS}(h:yf (xh lo L) m)(y:Int):m.1<=y↔lo<=y/\∀p∈L,p.1.lo<=y:=by
  obtain⟨h1,h2⟩:=h;unfold xh at h1 h2;constructor
  · intro h;refine⟨?_,fun p hp=>?_⟩
    · have:=Ho (h2 (lo,"") (by simp));have:lo<=m.1:=this;lia
    · have:=Ho (h2 (p.1.lo,p.1.n) (bE _ (aK.mpr ⟨p,hp,rfl⟩)));have:p.1.lo<=m.1:=this;lia
  · rintro⟨a,b⟩;rcases aO.mp h1 with rfl | h1
    · exact a
    · obtain⟨p,hp,rfl⟩:=aK.mp h1;exact b p hp
theorem W7{hi:Int}{L:Fz}{m:IS}(h:yg (xj hi L) m)(y:Int):y<=m.1↔y<=hi/\∀p∈L,y<=p.1.hi:=by
  obtain⟨h1,h2⟩:=h;unfold xj at h1 h2;constructor
  · intro h;refine⟨?_,fun p hp=>?_⟩
    · have:=Ho (h2 (hi,"") (by simp));have:m.1<=hi:=this;lia
    · have:=Ho (h2 (p.1.hi,p.1.n) (bE _ (aK.mpr ⟨p,hp,rfl⟩)));have:m.1<=p.1.hi:=this;lia
  · rintro⟨a,b⟩;rcases aO.mp h1 with rfl | h1
    · exact a
    · obtain⟨p,hp,rfl⟩:=aK.mp h1;exact b p hp
def OE(i j:Int):Int:=if j > i then j else i
def OF(i j:Int):Int:=if j<i then j else i
def yh(ts:List aT)(fs:List bN)(lo:Int)(k:Str):Int:=fs.foldl (fun m f=>if aR ts f.u=k then OE m f.lo else m) lo
def Hq(ts:List aT)(fs:List bN)(hi:Int)(k:Str):Int:=fs.foldl (fun m f=>if aR ts f.u=k then OF m f.hi else m) hi
theorem OG{α β:Type}:∀{as:List α}{bs:List β},bs.length=as.length->∀a∈as,∃b,(a,b)∈as.zip bs
  | [],_,_,a,h=>by cases h
  | x::as,[],h,_,_=>by simp at h
  | x::as,y::bs,h,a,ha=>by
    rcases aO.mp ha with rfl | ha
    · exact⟨y,by simp⟩
    · obtain⟨b,hb⟩:=OG (as:=as) (bs:=bs) (by simpa using h) a ha;exact⟨b,by simp[hb]⟩
theorem Paired.mono{α β:Type}{F G:α->β->Prop}{as:List α}{bs:List β}(h:Paired F as bs)(k:∀a,∀b∈bs,F a b->G a b):Paired G as bs:=by
  induction h with
  | nil=>exact .nil
  | cons h _ ih=>exact .cons (k _ _ (by simp) h) (ih fun a b hb f=>k a b (bE _ hb) f)
end Dm
namespace L2
open PySem
theorem cV.vL{K:aF}{H:Hp}{n:Nat}{a b:ah}{xs ys:List V}(hx:aH K H a xs)(hy:aH K H b ys)(hl:xs.length=ys.length)(h:∀(i:Nat)x y,xs[i]? = some x->ys[i]? = some y->cV K H n x y true):cV K H (n+1) (.ref a) (.ref b) true:=by
  have:=cV.lst (n:=n) (fun _=>true) hx hy hl h;rw[iE.mpr fun _ _=>rfl] at this;exact this
end L2
namespace L2
open PySem PySem.W PyProof.Rows
def rJ(N:Nat)(lt:Nat->Nat->Bool):Nat->Nat->(Bool->au->Prop)->au->Prop:=fun i j C s=>i<N/\j<N/\i≠j/\C (lt i j) s
structure vM(N:Nat)(lt:Nat->Nat->Bool):Prop where
  irr:∀a,a<N->lt a a=false
  tr:∀a b c,a<N->b<N->c<N->lt a b=true->lt b c=true->lt a c=true
  Kz:∀a b,a<N->b<N->a≠b->lt a b=false->lt b a=true
structure Good(N:Nat)(p:Array Nat):Prop where
  sz:p.size=N
  lt:∀i,i<N->p.getD i 0<N
  inj:∀i j,i<N->j<N->p.getD i 0=p.getD j 0->i=j
def sO(lt:Nat->Nat->Bool)(p:Array Nat)(k:Nat):Prop:=∀i j,i<j->j<k->lt (p.getD i 0) (p.getD j 0)=true
def zH(lt:Nat->Nat->Bool)(p:Array Nat)(k:Nat):Prop:=∀i j,i<j->j<k->lt (p.getD j 0) (p.getD i 0)=true
section
variable{N:Nat}{lt:Nat->Nat->Bool}{s:au}
theorem sO.snoc(T:vM N lt){p:Array Nat}(G:Good N p){n:Nat}(h:sO lt p n)(hn:n<N)(h1:1<=n)(q:lt (p.getD (n-1) 0) (p.getD n 0)=true):sO lt p (n+1):=by
  intro i j qF hj
  by_cases c:j<n
  · exact h i j qF c
  · have:j=n:=by lia
    subst this
    by_cases c2:i=j-1
    · rw[c2];exact q
    · exact T.tr _ _ _ (G.lt i (by lia)) (G.lt (j-1) (by lia)) (G.lt j hn) (h i (j-1) (by lia) (by lia)) q
theorem zH.snoc(T:vM N lt){p:Array Nat}(G:Good N p){n:Nat}(h:zH lt p n)(hn:n<N)(h1:1<=n)(q:lt (p.getD n 0) (p.getD (n-1) 0)=true):zH lt p (n+1):=by
  intro i j qF hj
  by_cases c:j<n
  · exact h i j qF c
  · have:j=n:=by lia
    subst this
    by_cases c2:i=j-1
    · rw[c2];exact q
    · exact T.tr _ _ _ (G.lt j hn) (G.lt (j-1) (by lia)) (G.lt i (by lia)) q (h i (j-1) (by lia) (by lia))
theorem KA(T:vM N lt){p:Array Nat}(G:Good N p){Q:Nat->au->Prop}:∀(f n:Nat),1<=n->n+f<=N->sO lt p n->(∀m,n<=m->m<=n+f->sO lt p m->(m<n+f->lt (p.getD m 0) (p.getD (m-1) 0)=true)->Q m s)->(kas_asc p f n).kasWp (rJ N lt) Q s
  | 0,n,_,_,a,k=>k n (aG _) (aG _) a (fun z=>absurd z (dW _))
  | f+1,n,h1,hn,a,k=>by
    refine⟨G.lt n (by lia),G.lt (n-1) (by lia),fun z=>by have:=G.inj n (n-1) (by lia) (by lia) z;lia,?_⟩;cases c:lt (p.getD n 0) (p.getD (n-1) 0) with
    | true=>
      dsimp only;rw[av rfl];exact k n (aG _) (by lia) a fun _=>c
    | false=>
      dsimp only;rw[ao (by simp)];have ne:p.getD n 0≠p.getD (n-1) 0:=fun z=>by have:=G.inj n (n-1) (by lia) (by lia) z;lia
      have q:=T.Kz _ _ (G.lt n (by lia)) (G.lt (n-1) (by lia)) ne c;refine KA T G f (n+1) (by lia) (by lia) (a.snoc T G (by lia) h1 q) fun m m1 m2 am hm=>k m (by lia) (by lia) am fun z=>hm (by lia)
theorem OH(T:vM N lt){p:Array Nat}(G:Good N p){Q:Array Nat×Nat×Nat->au->Prop}:∀(f n:Nat),1<=n->n+f<=N->zH lt p n->(∀m,n<=m->m<=n+f->zH lt p m->Q (p,m,0) s)->(kas_desc f p n 0).kasWp (rJ N lt) Q s
  | 0,n,_,_,a,k=>k n (aG _) (aG _) a
  | f+1,n,h1,hn,a,k=>by
    refine⟨G.lt n (by lia),G.lt (n-1) (by lia),fun z=>by have:=G.inj n (n-1) (by lia) (by lia) z;lia,?_⟩;cases c:lt (p.getD n 0) (p.getD (n-1) 0) with
    | true=>
      dsimp only;rw[av rfl,ao (by lia)];exact OH T G f (n+1) (by lia) (by lia) (a.snoc T G (by lia) h1 c) fun m m1 m2 am=>k m (by lia) (by lia) am
    | false=>
      dsimp only;rw[ao (by simp)];have ne:p.getD n 0≠p.getD (n-1) 0:=fun z=>by have:=G.inj n (n-1) (by lia) (by lia) z;lia
      have q:=T.Kz _ _ (G.lt n (by lia)) (G.lt (n-1) (by lia)) ne c;refine⟨G.lt (n-1) (by lia),G.lt n (by lia),aE ne,?_⟩;rw[q];dsimp only;rw[av rfl];exact k n (aG _) (by lia) a
theorem Er{p:Array Nat}{i:Nat}{q:Array Nat}{j:Nat}(h:p[i]? = q[j]?):p.getD i 0=q.getD j 0:=by
  rw[o5,o5,h]
theorem Et{p:Array Nat}{j:Nat}(hj:j<=p.size)(k:Nat):(kas_rev p 0 j).getD k 0=if k<j then p.getD (j-1-k) 0 else p.getD k 0:=by
  have e:=getElem?_mirror_all (xs:=p) (i:=0) hj k;unfold kas_rev
  by_cases c:k<j
  · rw[av c];rw[av ⟨dH _,c⟩] at e;rw[Nat.zero_add] at e;exact Er e
  · rw[ao c];rw[ao (fun z=>c z.2)] at e;exact Er e
theorem Good.rev{p:Array Nat}(G:Good N p){j:Nat}(hj:j<=N):Good N (kas_rev p 0 j):=by
  have hz:j<=p.size:=by rw[G.sz];exact hj
  refine⟨by rw[kas_rev_size];exact G.sz,fun i hi=>?_,fun a b ha hb e=>?_⟩
  · rw[Et hz];split
    · exact G.lt _ (by lia)
    · exact G.lt _ hi
  · rw[Et hz,Et hz] at e
    by_cases c1:a<j<;>by_cases c2:b<j
    · rw[av c1,av c2] at e;have:=G.inj _ _ (by lia) (by lia) e;lia
    · rw[av c1,ao c2] at e;have:=G.inj _ _ (by lia) (by lia) e;lia
    · rw[ao c1,av c2] at e;have:=G.inj _ _ (by lia) (by lia) e;lia
    · rw[ao c1,ao c2] at e;exact G.inj _ _ (by lia) (by lia) e
theorem zH.rev{p:Array Nat}(G:Good N p){j:Nat}(hj:j<=N)(h:zH lt p j):sO lt (kas_rev p 0 j) j:=by
  have hz:j<=p.size:=by rw[G.sz];exact hj
  intro a b mj hb;rw[Et hz,Et hz,av (by lia),av hb];exact h _ _ (by lia) (by lia)
theorem W8(T:vM N lt){p:Array Nat}(G:Good N p)(h2:2<=N){Q:Nat×Array Nat->au->Prop}(k:∀m p',1<=m->m<=N->Good N p'->sO lt p' m->Q (m,p') s):(kas_count N p).kasWp (rJ N lt) Q s:=by
  unfold kas_count;rw[nB];refine KA T G (N-1) 1 (aG _) (by lia) (fun i j a b=>by lia) fun n n1 n2 an hn=>?_
  by_cases c:n=N
  · rw[av (by rw[c];simp)];exact k n p n1 (by lia) G an
  · rw[ao (by simpa using c)]
    by_cases c2:n > 1
    · rw[av c2];refine⟨G.lt 0 (by lia),G.lt (n-1) (by lia),fun z=>by have:=G.inj 0 (n-1) (by lia) (by lia) z;lia,?_⟩;rw[an 0 (n-1) (by lia) (by lia)];dsimp only;rw[av rfl];exact k n p n1 (by lia) G an
    · rw[ao c2];have e1:n=1:=by lia
      subst e1;have W9:=hn (by lia);unfold kas_descPart;rw[nB];have d2:zH lt p (1+1):=fun i j qF hj=>by
        have:i=0:=by lia
        have:j=1:=by lia
        subst i j;exact W9
      refine OH T G (N-(1+1)) (1+1) (by lia) (by lia) d2 fun m m1 m2 dm=>?_
      show KasT.kasWp _ (if(0:Nat) > 0 then _ else kas_tail3 m N p) _ _;rw[ao (by lia)];unfold kas_tail3;rw[nB];refine KA T (G.rev (j:=m) (by lia)) (N-m) m (by lia) (by lia) (dm.rev G (by lia)) fun r r1 r2 ar _=>?_
      exact k r _ (by lia) (by lia) (G.rev (by lia)) ar
theorem KC(T:vM N lt){p:Array Nat}(G:Good N p){k:Nat}(hk:k<N){Q:Nat->au->Prop}:∀(f l r:Nat),l<=r->r<=k->r-l<=f->(∀i,i<l->lt (p.getD i 0) (p.getD k 0)=true)->(∀i,r<=i->i<k->lt (p.getD k 0) (p.getD i 0)=true)->sO lt p k->
      (∀m,m<=k->(∀i,i<m->lt (p.getD i 0) (p.getD k 0)=true)->(∀i,m<=i->i<k->lt (p.getD k 0) (p.getD i 0)=true)->Q m s)->(kas_place p k f l r).kasWp (rJ N lt) Q s
  | 0,l,r,h1,h2,h3,a,b,_,q=>q l (by lia) a fun i hi gT=>b i (by lia) gT
  | f+1,l,r,h1,h2,h3,a,b,as,q=>by
    unfold kas_place
    by_cases c:l≥r
    · rw[av c];exact q l (by lia) a fun i hi gT=>b i (by lia) gT
    · rw[ao c];have hm:(l+r) / 2<r:=by lia
      have hl:l<=(l+r) / 2:=by lia
      generalize (l+r) / 2=m at hm hl;refine⟨G.lt k hk,G.lt m (by lia),fun z=>by have:=G.inj k m hk (by lia) z;lia,?_⟩;cases e:lt (p.getD k 0) (p.getD m 0) with
      | true=>
        dsimp only;rw[av rfl];refine KC T G hk f l m hl (by lia) (by lia) a (fun i hi OI=>?_) as q
        by_cases c3:i=m
        · rw[c3];exact e
        · exact T.tr _ _ _ (G.lt k hk) (G.lt m (by lia)) (G.lt i (by lia)) e (as m i (by lia) OI)
      | false=>
        dsimp only;rw[ao (by simp)];have ne:p.getD k 0≠p.getD m 0:=fun z=>by have:=G.inj k m hk (by lia) z;lia
        have e2:=T.Kz _ _ (G.lt k hk) (G.lt m (by lia)) ne e;refine KC T G hk f (m+1) r (by lia) h2 (by lia) (fun i hi=>?_) b as q
        by_cases c3:i=m
        · rw[c3];exact e2
        · exact T.tr _ _ _ (G.lt i (by lia)) (G.lt m (by lia)) (G.lt k hk) (as i m (by lia) (by lia)) e2
theorem KD{p:Array Nat}{k d:Nat}(hk:k<p.size)(hd:d<=k)(j:Nat):(bubble p k d).getD j 0=if j=k-d then p.getD k 0 else if k-d<j/\j<=k then p.getD (j-1) 0 else p.getD j 0:=by
  have e:=getElem?_bubble hk d hd j
  by_cases c1:j=k-d
  · rw[av c1] at e ⊢;exact Er e
  · rw[ao c1] at e ⊢
    by_cases c2:k-d<j/\j<=k
    · rw[av c2] at e ⊢;exact Er e
    · rw[ao c2] at e ⊢;exact Er e
def rK(k d j:Nat):Nat:=if j=k-d then k else if k-d<j/\j<=k then j-1 else j
theorem KG{p:Array Nat}{k d:Nat}(hk:k<p.size)(hd:d<=k)(j:Nat):(bubble p k d).getD j 0=p.getD (rK k d j) 0:=by
  rw[KD hk hd];unfold rK
  by_cases c1:j=k-d
  · rw[av c1,av c1]
  · rw[ao c1,ao c1]
    by_cases c2:k-d<j/\j<=k
    · rw[av c2,av c2]
    · rw[ao c2,ao c2]
theorem KH{N k d j:Nat}(hk:k<N)(hj:j<N):rK k d j<N:=by
  unfold rK;split
  · exact hk
  · split<;>lia
theorem Xa{k d a b:Nat}(hd:d<=k)(e:rK k d a=rK k d b):a=b:=by
  unfold rK at e;split at e<;>split at e<;>(try split at e)<;>(try split at e)<;>lia
theorem Good.Xb{p:Array Nat}(G:Good N p){k d:Nat}(hk:k<N)(hd:d<=k):Good N (bubble p k d):=by
  have hz:k<p.size:=by rw[G.sz];exact hk
  refine⟨by rw[bubble_size];exact G.sz,fun i hi=>?_,fun a b ha hb e=>?_⟩
  · rw[KG hz hd];exact G.lt _ (KH hk hi)
  · rw[KG hz hd,KG hz hd] at e;exact Xa hd (G.inj _ _ (KH hk ha) (KH hk hb) e)
theorem OJ(T:vM N lt){Q:Array Nat->au->Prop}:∀(f:Nat)(p:Array Nat)(k:Nat),Good N p->1<=k->k+f=N->sO lt p k->(∀p',Good N p'->sO lt p' N->Q p' s)->(kas_bin f p k).kasWp (rJ N lt) Q s
  | 0,p,k,G,h1,hk,a,q=>q p G (by rw[←hk];exact a)
  | f+1,p,k,G,h1,hk,a,q=>by
    unfold kas_bin;rw[nB];have KI:k<N:=by lia
    refine KC T G KI k 0 k (dH _) (aG _) (by lia) (fun i hi=>by lia) (fun i hi OI=>by lia) a fun m hm lo hi=>?_
    have hz:k<p.size:=by rw[G.sz];exact KI
    have hd:k-m<=k:=by lia
    refine OJ T f _ (k+1) (G.Xb KI hd) (by lia) (by lia) (fun i j qF hj=>?_) q;rw[KD hz hd,KD hz hd];have em:k-(k-m)=m:=by lia
    rw[em]
    by_cases c1:i=m
    · rw[av c1,ao (by lia),av ⟨by lia,by lia⟩];exact hi (j-1) (by lia) (by lia)
    · rw[ao c1]
      by_cases c2:j=m
      · rw[av c2,ao (by lia)];exact lo i (by lia)
      · rw[ao c2]
        by_cases c3:m<i/\i<=k
        · rw[av c3,av ⟨by lia,by lia⟩];exact a _ _ (by lia) (by lia)
        · rw[ao c3]
          by_cases c4:m<j/\j<=k
          · rw[av c4];exact a _ _ (by lia) (by lia)
          · rw[ao c4];exact a _ _ (by lia) (by lia)
theorem OL:Good N (List.toArray (List.range N)):=by
  have e:∀i,i<N->(List.toArray (List.range N)).getD i 0=i:=fun i hi=>by
    rw[o5];simp[hi]
  refine⟨by simp,fun i hi=>by rw[e i hi];exact hi,fun i j hi hj z=>by rw[e i hi,e j hj] at z;exact z⟩
theorem Xc(T:vM N lt)(h2:2<=N){Q:Array Nat->au->Prop}(q:∀p,Good N p->sO lt p N->Q p s):(kas_sort N).kasWp (rJ N lt) Q s:=by
  unfold kas_sort;rw[nB];refine W8 T OL h2 fun m p m1 m2 G a=>?_
  dsimp only
  by_cases c:m<N
  · rw[av c];have e:max m 1=m:=by lia
    rw[e];exact OJ T (N-m) p m G m1 (by lia) a q
  · rw[ao c];have e:m=N:=by lia
    subst e;exact q p G a
end
theorem OM{α:Type}{cmp Eu:Nat->Nat->(Bool->au->Prop)->au->Prop}{s:au}{Q:α->au->Prop}(h:∀i j(C:Bool->au->Prop),cmp i j (fun b s'=>s'=s/\C b s) s->Eu i j C s)(m:∀i j(C C':Bool->au->Prop),(∀b,C b s->C' b s)->cmp i j C s->cmp i j (fun b s'=>s'=s/\C' b s) s):∀(t:KasT α),t.kasWp cmp Q s->t.kasWp Eu Q s
  | .ret a,q=>q
  | .ask i j k,q=>h i j _ (m i j (fun b s'=>(k b).kasWp cmp Q s') _ (fun b z=>OM h m (k b) z) q)
section
variable{prog:aU}{w:World}{A:Around}{E:az}{s:au}
def qv(h:Heap)(d:ah)(us:List ai):Heap:=((h.update d (Obj.mapSeq fun _=>#[])).push (seqObj "tuple" us.toArray 0)).push (seqObj "list" #[] 0)
theorem Xd{h:Heap}{d b:ah}{us:List ai}{o:Obj}(n:b≠d)(e:h.get? b=some o):(qv h d us).get? b=some o:=by
  unfold qv;refine aY _ (aY _ ?_);rw[cF _ _ (aE n)];exact e
def Hr(us:List ai)(lt:Nat->Nat->Bool)(out:List ai):Prop:=∃p:Array Nat,Good us.length p/\sO lt p us.length/\out=p.toList.map fun i=>us.getD i Value.none
theorem Xe{d:ah}{us:List ai}{n:Nat}{κ:SortKind}{lt:Nat->Nat->Bool}{P:PySem.Fin->au->Prop}(T:vM us.length lt)(hd:s.heap.get? d=some (seqObj "list" us.toArray n))(small:us.length<64)
    (kind:2<=us.length->∀(Q:SortKind->au->Prop)(E':az),Q κ { s with heap:=qv s.heap d us }->wpAny (model prog w) A (keyKind' us.toArray) Q E' { s with heap:=qv s.heap d us })
    (less:∀i j,i<us.length->j<us.length->i≠j->∀(Q:Bool->au->Prop),Q (lt i j) { s with heap:=qv s.heap d us }->wpAny (model prog w) A (keyLt' κ (us.getD i Value.none) (us.getD j Value.none)) Q (fun _ _=>False) { s with heap:=qv s.heap d us })
    (fin:∀out:List ai,out.length=us.length->Hr us lt out->P (.done (.ret .none)) { s with heap:=sortedHeap s.heap d us out.toArray }) :
    wpAny (model prog w) A (Builtin.«list.sort» ⟨[.ref d],[]⟩) P E s:=by
  rw[list_sort_plain];have dl:d<s.heap.objs.size:=aJ hd;refine aj (listItems_at hd rfl (aj (listUpdate_at hd rfl ?_)));obtain⟨n1,mJ⟩:∃n1,(s.heap.update d (Obj.mapSeq fun _=>#[])).get? d=some (seqObj "list" #[] n1):=⟨_,get?_update_seq hd (fun _=>#[])⟩;refine aj (seqEpoch_at mJ rfl (aj (wpAny_newTuple (aj (wpAny_newList (dG ?_))))));have jv:(qv s.heap d us).get? d=some (seqObj "list" #[] n1):=aY _ (aY _ mJ);show wpAny (model prog w) A _ P E { s with heap:=qv s.heap d us };dsimp only;have zl:us.toArray.size=us.length:=by simp
  by_cases c:us.toArray.size<2
  · rw[av c,av c];refine aj (ay ?_);rw[StateT.run_pure];refine aj (ay ?_);dsimp only;have ez:(us.toArray.zip us.toArray).map (·.2)=us.toArray:=by
      apply Array.ext';simp[List.map_snd_zip]
    refine aj (seqEpoch_at jv rfl (aj (listUpdate_at jv rfl ?_ (hsz2:=by rw[Array.size_map];show(us.toArray.zip us.toArray).size<=_;rw[d8];simp;lia))));simp only[bne_self_eq_false,iS,c8];have go:=fin us rfl ⟨_,OL,fun i j a b=>by lia,by
      apply List.ext_getElem?;intro i
      by_cases hi:i<us.length
      · simp[hi]
      · simp[nv hi]⟩
    refine ay ?_;have e2:(arrOf (SortSt.mk' general' (us.toArray.zip us.toArray) #[] 7 none)).map (·.2)=us.toArray:=ez;rw[e2];exact go
  · rw[ao c,ao c];have two:2<=us.length:=by lia
    refine aj (kind two _ _ ?_);refine aj (cA (kat_run (E:=E) (ks:=us) (vs:=us) (G:=fun p s'=>s' = { s with heap:=qv s.heap d us }/\Good us.length p/\sO lt p us.length) (Q:=fun nG s'=>s' = { s with heap:=qv s.heap d us }/\failedOf nG=none/\∃p,Good us.length p/\sO lt p us.length/\arrOf nG=p.map (kas_item (us.toArray.zip us.toArray))) rfl two small (fun p nG s' _ e1 e2 g=>⟨g.1,e2,p,g.2.1,g.2.2,e1⟩) ?_) (fun r s' q=>?_) fun _ _ z=>z)
    · refine OM (cmp:=rJ us.length lt) (fun i j C h=>?_) (fun i j C C' h q=>⟨q.1,q.2.1,q.2.2.1,rfl,h _ q.2.2.2⟩) _ (Xc T two fun p g a=>⟨rfl,g,a⟩);obtain⟨h1,h2,Xf,_,h3⟩:=h;exact less i j h1 h2 Xf _ h3
    · obtain⟨⟨⟩,nG⟩:=r;obtain⟨rfl,nf,p,g,a,ea⟩:=q;dsimp only at ea nf ⊢;have eo:(arrOf nG).map (·.2)=(p.toList.map fun i=>us.getD i Value.none).toArray:=by
        rw[ea];apply Array.ext';simp only[Array.toList_map,cz];refine fH fun i _=>?_
        show(kas_item (us.toArray.zip us.toArray) i).2=_;rw[kat_item rfl]
      have el:(p.toList.map fun i=>us.getD i Value.none).length=us.length:=by rw[aq,iR,g.sz]
      refine aj (seqEpoch_at jv rfl (aj (listUpdate_at jv rfl ?_ (hsz2:=by rw[eo];show(p.toList.map fun i=>us.getD i Value.none).toArray.size<=_;rw[br,el,d8];lia))));rw[nf];simp only[bne_self_eq_false,iS,c8];have go:=fin _ el ⟨p,g,a,rfl⟩;unfold sortedHeap at go;rw[←eo] at go;exact ay go
theorem Xg{l:ah}{us:List ai}{κ:SortKind}{lt:Nat->Nat->Bool}{Q:az}(T:vM us.length lt)(small:us.length<64)
    (col:∀(E':az)(Q':List ai->au->Prop),(∀h1 tk,(∀b o,s.heap.get? b=some o->h1.get? b=some o)->s.heap.objs.size<h1.objs.size->Q' us { s with heap:=h1,toks:=tk })->wpAny (model prog w) A.in1 (collect (.ref l)) Q' E' s)
    (kind:2<=us.length->∀(s':au),(∀b o,s.heap.get? b=some o->s'.heap.get? b=some o)->∀{A':Around}{E':az}{Q':SortKind->au->Prop},Q' κ s'->wpAny (model prog w) A' (keyKind' us.toArray) Q' E' s')
    (less:∀i j,i<us.length->j<us.length->i≠j->∀(s':au),(∀b o,s.heap.get? b=some o->s'.heap.get? b=some o)->∀{Q':Bool->au->Prop},Q' (lt i j) s'->wpAny (model prog w) A.in1.in1 (keyLt' κ (us.getD i Value.none) (us.getD j Value.none)) Q' (fun _ _=>False) s')
    (fin:∀(D:ah)(out:List ai)(h':Heap)(tk c:Nat),out.length=us.length->Hr us lt out->(∀b o,s.heap.get? b=some o->h'.get? b=some o)->s.heap.objs.size<=D->h'.get? D=some (seqObj "list" out.toArray c)->Q (.ref D) { s with heap:=h',toks:=tk }) :
    wpAny (model prog w) A (call (.builtin "sorted") [.ref l]) Q E s:=by
  refine Calls.call_function_entry kind_sorted plain_sorted entry_sorted (args_sorted1 _) ?_;show wpAny _ _ (Builtin.«sorted» ⟨[.ref l],[]⟩) _ _ _;unfold Builtin.«sorted»;refine aj (m:=checkCount "sorted" 1 1 _) (ay (aj (col _ _ fun h1 tk k1 z1=>aj (wpAny_newList ?_ (by rw[d8];lia)))));have hd:(h1.push (seqObj "list" us.toArray 0)).get? h1.objs.size=some (seqObj "list" us.toArray 0):=bF _ rfl;show wpAny _ _ _ _ _ { s with heap:=h1.push (seqObj "list" us.toArray 0),toks:=tk };have k2:∀b o,s.heap.get? b=some o->(h1.push (seqObj "list" us.toArray 0)).get? b=some o:=fun b o e=>aY _ (k1 b o e)
  have nb:∀b o,s.heap.get? b=some o->b≠h1.objs.size:=fun b o e=>aX (aJ (k1 b o e))
  generalize h1.push (seqObj "list" us.toArray 0)=g at hd k2;have kp:∀b o,s.heap.get? b=some o->(qv g h1.objs.size us).get? b=some o:=fun b o e=>Xd (nb b o e) (k2 b o e)
  have kd:2<=us.length->∀(Q':SortKind->au->Prop)(E':az),Q' κ { s with heap:=qv g h1.objs.size us,toks:=tk }->wpAny (model prog w) A.in1.in1 (keyKind' us.toArray) Q' E' { s with heap:=qv g h1.objs.size us,toks:=tk }:=fun two Q' E' q=>kind two { s with heap:=qv g h1.objs.size us,toks:=tk } kp q
  have ls:∀i j,i<us.length->j<us.length->i≠j->∀(Q':Bool->au->Prop),Q' (lt i j) { s with heap:=qv g h1.objs.size us,toks:=tk }->wpAny (model prog w) A.in1.in1 (keyLt' κ (us.getD i Value.none) (us.getD j Value.none)) Q' (fun _ _=>False) { s with heap:=qv g h1.objs.size us,toks:=tk }:=fun i j a b n Q' q=>less i j a b n { s with heap:=qv g h1.objs.size us,toks:=tk } kp q
  refine aj (dG (jA slot_list_sort ⟨_,hd,rfl⟩ entry_list_sort (Xe (s:={ s with heap:=g,toks:=tk }) T hd small kd ls fun out lo po=>⟨_,rfl,?_⟩) (args_list_sort _)));obtain⟨c,hc⟩:=sortedHeap_at (out:=out.toArray) hd;refine ay ⟨_,rfl,fin h1.objs.size out _ tk c lo po (fun b o e=>?_) (i7 z1) hc⟩;have e2:=k2 b o e;rw[sortedHeap_old (nb b o e) (aJ e2)];exact e2
end
theorem ON:∀{rs us:List Nat},rs.Nodup->(∀x∈rs,x∈us)->rs.length<=us.length
  | [],us,_,_=>dH _
  | a::r,us,hn,hs=>by
    rw[fM] at hn;have ha:=hs a (by simp);have:=ON (rs:=r) (us:=us.erase a) hn.2 fun x hx=>by
      have:x≠a:=fun z=>hn.1 (z▸hx)
      exact(List.mem_erase_of_ne this).mpr (hs x (bE _ hx))
    rw[o7 ha] at this;have:=qT ha;rw[fK];lia
abbrev SS:=Str×Str
def iB(p q:SS):Bool:=if p.1=q.1 then decide (p.2.cps.toList<q.2.cps.toList) else decide (p.1.cps.toList<q.1.cps.toList)
theorem Xh{a b:Str}(h:a.cps.toList=b.cps.toList):a=b:=by
  obtain⟨x⟩:=a;obtain⟨y⟩:=b;have:x=y:=Array.toList_inj.mp h;rw[this]
theorem KJ{a b:Str}(h:a≠b)(n:¬a.cps.toList<b.cps.toList):b.cps.toList<a.cps.toList:=by
  rcases List.le_iff_lt_or_eq.mp (nD.mp n) with z | z
  · exact z
  · exact absurd (Xh z.symm) h
theorem Hs(p:SS):iB p p=false:=by
  unfold iB;rw[av rfl];exact bq (gO _)
theorem OO{a b c:SS}(h1:iB a b=true)(h2:iB b c=true):iB a c=true:=by
  unfold iB at *
  by_cases c1:a.1=b.1
  · rw[av c1] at h1
    by_cases c2:b.1=c.1
    · rw[av c2] at h2;rw[av (c1.trans c2)];exact aP (nC (bG h1) (bG h2))
    · rw[ao c2] at h2;rw[ao (fun z=>c2 (c1.symm.trans z)),c1];exact h2
  · rw[ao c1] at h1
    by_cases c2:b.1=c.1
    · rw[ao (fun z=>c1 (z.trans c2.symm)),←c2];exact h1
    · rw[ao c2] at h2;have h3:=nC (bG h1) (bG h2);rw[ao (fun z=>by rw[z] at h3;exact gO _ h3)];exact aP h3
theorem Xi{a b:SS}(ne:a≠b)(h:iB a b=false):iB b a=true:=by
  unfold iB at *
  by_cases c1:a.1=b.1
  · rw[av c1] at h;rw[av c1.symm];exact aP (KJ (fun z=>ne (Prod.ext c1 z)) (lX h))
  · rw[ao c1] at h;rw[ao (aE c1)];exact aP (KJ c1 (lX h))
theorem Xj{ps:List SS}(nd:ps.Nodup):vM ps.length fun i j=>iB (ps.getD i ("","")) (ps.getD j ("","")):=by
  have e:∀i(h:i<ps.length),ps.getD i ("","")=ps[i]:=fun i h=>by rw[cW,aV h];rfl
  refine⟨fun a _=>Hs _,fun a b c _ _ _ h1 h2=>OO h1 h2,fun a b ha hb n h=>Xi (fun z=>n ?_) h⟩;rw[e a ha,e b hb] at z;have pw:=jx.mp nd;rcases jN a b with c | c | c
  · exact absurd z (pw a b ha hb c)
  · exact c
  · exact absurd z.symm (pw b a hb ha c)
theorem Xk{us out:List ai}{lt:Nat->Nat->Bool}{α:Type}(xs:List α)(d:α)(h:Hr us lt out)(hl:us.length=xs.length):∃ys:List α,ys.Perm xs/\ys.length=out.length/\(∀i:Nat,i<ys.length->∃j,j<xs.length/\out[i]? = us[j]?/\ys[i]? = xs[j]?)/\
    ∀i j(hi:i<ys.length)(hj:j<ys.length),i<j->∃a b,a<xs.length/\b<xs.length/\ys[i]? = xs[a]?/\ys[j]? = xs[b]?/\lt a b=true:=by
  obtain⟨p,G,A,rfl⟩:=h;rw[hl] at G A;have pl:p.toList.length=xs.length:=by rw[iR,G.sz]
  have pg:∀i(h:i<xs.length),p.toList[i]? = some (p.getD i 0):=fun i h=>by
    have hi:i<p.size:=by rw[G.sz];exact h
    rw[kT,gK hi,o5,gK hi];rfl
  have pr:p.toList.Perm (List.range xs.length):=by
    rw[List.perm_ext_iff_of_nodup ?_ List.nodup_range]
    · intro a;rw[d7];constructor
      · intro h;obtain⟨i,hi⟩:=jy.mp h;have gz:=(bI.mp hi).1;rw[pg i (by lia)] at hi;cases hi;exact G.lt i (by lia)
      · intro h;have inj:p.toList.Nodup:=by
          rw[uW,jx];intro i j hi hj qF z;have e1:=pg i (by lia);have e2:=pg j (by lia);rw[aV hi] at e1;rw[aV hj] at e2;have:=G.inj i j (by lia) (by lia) ((bW e1).symm.trans (z.trans (bW e2)));lia
        have sub:∀x∈p.toList,x∈List.range xs.length:=fun x hx=>by
          obtain⟨i,hi⟩:=jy.mp hx;have gz:=(bI.mp hi).1;rw[pg i (by lia)] at hi;cases hi;exact d7.mpr (G.lt i (by lia))
        refine fG fun n=>?_
        have:(p.toList).length<=((List.range xs.length).erase a).length:=by
          refine ON inj fun x hx=>?_
          rw[List.Nodup.mem_erase_iff List.nodup_range];exact⟨fun z=>n (z▸hx),sub x hx⟩
        rw[o7 (d7.mpr h),iW,pl] at this;lia
    · rw[uW,jx];intro i j hi hj qF z;have e1:=pg i (by lia);have e2:=pg j (by lia);rw[aV hi] at e1;rw[aV hj] at e2;have:=G.inj i j (by lia) (by lia) ((bW e1).symm.trans (z.trans (bW e2)));lia
  have ex:xs=(List.range xs.length).map fun i=>xs.getD i d:=by
    apply List.ext_getElem?;intro i
    by_cases hi:i<xs.length
    · simp[hi]
    · simp[nv hi]
  refine⟨p.toList.map fun i=>xs.getD i d,?_,by rw[aq,aq],fun i hi=>?_,fun i j hi hj qF=>?_⟩
  · have:=pr.map fun i=>xs.getD i d
    rw[←ex] at this;exact this
  · rw[aq] at hi;have dz:=G.lt i (by lia);refine⟨p.getD i 0,dz,?_,?_⟩
    · rw[aN,pg i (by lia)];show some (us.getD _ _)=_;rw[cW,aV (show p.getD i 0<us.length by lia)];rfl
    · rw[aN,pg i (by lia)];show some (xs.getD _ _)=_;rw[cW,aV dz];rfl
  · rw[aq] at hi hj;have h1:=G.lt i (by lia);have h2:=G.lt j (by lia);refine⟨p.getD i 0,p.getD j 0,h1,h2,?_,?_,A i j qF (by lia)⟩
    · rw[aN,pg i (by lia)];show some (xs.getD _ _)=_;rw[cW,aV h1];rfl
    · rw[aN,pg j (by lia)];show some (xs.getD _ _)=_;rw[cW,aV h2];rfl
section
variable{prog:aU}{w:World}{A:Around}{E:az}{s:au}
def l5(h:Heap)(v:ai)(p:SS):Prop:=∃a t u,v = .ref a/\IsTup h a #[.str p.1 t,.str p.2 u]
theorem l5.kept{h h':Heap}{v:ai}{p:SS}(t:l5 h v p)(k:∀b o,h.get? b=some o->h'.get? b=some o):l5 h' v p:=by
  obtain⟨a,x,y,rfl,o,ho,hc,n,hd⟩:=t;exact⟨a,x,y,rfl,o,k a o ho,hc,n,hd⟩
theorem Xl{v1 v2:ai}{p q:SS}{Q:Bool->au->Prop}(h1:l5 s.heap v1 p)(h2:l5 s.heap v2 q)(h:Q (iB p q) s):wpAny (model prog w) A (keyLt' (tuples' true) v1 v2) Q (fun _ _=>False) s:=by
  obtain⟨a,t1,u1,rfl,oa,AY,_,na,En⟩:=h1;obtain⟨b,t2,u2,rfl,ob,AZ,_,nb,jT⟩:=h2;refine kat_lt AY En AZ jT ?_;show KatLex prog w A true false Q [(Value.str p.1 t1,Value.str q.1 t2),(Value.str p.2 u1,Value.str q.2 u2)] 0 s;refine kat_cons (nj ?_);unfold iB at h
  by_cases c:p.1=q.1
  · rw[aP c];rw[av c] at h;refine kat_yes (kat_cons (nj ?_))
    by_cases c2:p.2=q.2
    · rw[aP c2];refine kat_yes (kat_nil ?_);rw[c2,bq (gO _)] at h;exact h
    · rw[bq c2];refine kat_no ?_;show wpAny _ _ (oneLt' false (Value.str p.2 u1) (Value.str q.2 u2)) _ _ _;exact kat_one _ _ (lt_str h)
  · rw[bq c];rw[ao c] at h;refine kat_no ?_;show wpAny _ _ (oneLt' true (Value.str p.1 t1) (Value.str q.1 t2)) _ _ _;exact oneLt_str h
theorem Xm{vs:List ai}{ps:List SS}{Q:SortKind->au->Prop}(h:Paired (l5 s.heap) vs ps)(mF:0<ps.length)(q:Q (tuples' true) s):wpAny (model prog w) A (keyKind' vs.toArray) Q E s:=by
  obtain⟨fs,kt,hl,hf⟩:∃fs,KatTups s.heap vs fs/\fs.length=ps.length/\∀v∈fs,∃x t,v=Value.str x t:=by
    clear mF
    induction h with
    | nil=>exact⟨[],.nil,rfl,by simp⟩
    | cons h _ ih=>
      obtain⟨fs,k,l,f⟩:=ih;obtain⟨a,t,u,rfl,o,ho,hc,n,hd⟩:=h;refine⟨_::fs,.cons ho hc hd rfl k,by simp[l],fun v hv=>?_⟩;rcases aO.mp hv with rfl | hv
      · exact⟨_,_,rfl⟩
      · exact f v hv
  refine kat_kind (T:=.type "str") kt (by lia) (fun v hv=>?_) rfl q;obtain⟨x,t,rfl⟩:=hf v hv;exact Looks.now
end
theorem Ew{α β:Type}{F:α->β->Prop}:∀{as:List α}{bs:List β},as.length=bs.length->(∀(i:Nat)a b,as[i]? = some a->bs[i]? = some b->F a b)->Paired F as bs
  | [],[],_,_=>.nil
  | [],_::_,h,_=>by simp at h
  | _::_,[],h,_=>by simp at h
  | a::as,b::bs,h,k=>.cons (k 0 a b rfl rfl) (Ew (by simpa using h) fun i a b e1 e2=>k (i+1) a b (by simpa using e1) (by simpa using e2))
theorem Xn{us out:List ai}{lt:Nat->Nat->Bool}{α:Type}(as:List ah)(xs:List α)(d:α)(hv:Vals (as.map V.ref) us)(h:Hr us lt out)(la:as.length=xs.length) :
    ∃(bs:List ah)(ys:List α),Vals (bs.map V.ref) out/\bs.length=ys.length/\ys.Perm xs/\(∀(i:Nat)b y,bs[i]? = some b->ys[i]? = some y->∃j:Nat,as[j]? = some b/\xs[j]? = some y)/\ys.Pairwise (fun y z=>∃(a b:Nat),xs[a]? = some y/\xs[b]? = some z/\lt a b=true):=by
  have lu:us.length=(as.zip xs).length:=by
    have:=hv.length;rw[aq] at this;rw[fO];lia
  obtain⟨zs,pm,lz,at',up⟩:=Xk (as.zip xs) (0,d) h lu;have sn:(as.zip xs).map Prod.snd=xs:=List.map_snd_zip (by lia);refine⟨zs.map Prod.fst,zs.map Prod.snd,?_,by rw[aq,aq],by have:=pm.map Prod.snd;rwa [sn] at this,fun i b y e1 e2=>?_,?_⟩
  · refine Ew (by rw[aq,aq,lz]) fun i x v e1 e2=>?_
    rw[aN,aN] at e1;cases ez:zs[i]? with
    | none=>rw[ez] at e1;cases e1
    | some z=>
      rw[ez] at e1;cases e1;obtain⟨j,hj,o1,o2⟩:=at' i (bI.mp ez).1;rw[ez] at o2;rw[e2] at o1;obtain⟨h1,h2⟩:=j6.mp o2.symm;obtain⟨v',e3,r⟩:=hv.get (i:=j) (x:=V.ref z.1) (by rw[aN,h1];rfl);rw[←o1] at e3;cases e3;exact r
  · rw[aN] at e1 e2;cases ez:zs[i]? with
    | none=>rw[ez] at e1;cases e1
    | some z=>
      rw[ez] at e1 e2;cases e1;cases e2;obtain⟨j,hj,_,o2⟩:=at' i (bI.mp ez).1;rw[ez] at o2;exact⟨j,j6.mp o2.symm⟩
  · rw[jx];intro i j hi hj qF;rw[aq] at hi hj;obtain⟨a,b,ha,hb,e1,e2,l⟩:=up i j hi hj qF;refine⟨a,b,?_,?_,l⟩
    · rw[aV hi] at e1;have:=(j6.mp e1.symm).2;rw[List.getElem_map];exact this
    · rw[aV hj] at e2;have:=(j6.mp e2.symm).2;rw[List.getElem_map];exact this
section
variable{X:Cx}
theorem Inv.Ex{pins:aD}{σ:St}{H:Hp}{s:au}{K:aF}(hK:X.K=K)(I:Inv X pins σ H s){a:ah}{p:SS}(t:bx K H a [.str p.1,.str p.2]):l5 s.heap (.ref a) p:=by
  subst hK;obtain⟨ts,rt,it,_⟩:=I.tuple t;obtain⟨u1,u2,rfl,⟨t1,rfl⟩,⟨t2,rfl⟩⟩:=As rt;exact⟨a,t1,t2,rfl,it⟩
end
end L2
namespace L2
open PySem PySem.Spec PyProof.Rows
section
variable{X:Cx}
theorem Xo:DF X "dict.update" (fun x vs H Q=>∃(d o:ah)(kvs more:List (Key×V)),x = .ref d/\vs = [.ref o]/\d≠o/\H d=some (.dK kvs)/\Rd H o (.dK more)/\kvs.length+more.length<=1000/\Q .cu (upd H d (.dK (Ca kvs more)))):=by
  intro pins s σ H x vs v us Q I rx rv h;obtain⟨d,o,kvs,more,rfl,rfl,ne,hd,ho,hz,q⟩:=h;cases rx;obtain⟨u,rfl,ru⟩:=pZ rv;cases ru;obtain⟨z1,y1,Xp,r1,d1⟩:=DH I.aZ hd;obtain⟨z2,y2,Xq,r2,d2⟩:=wV I.aZ ho;have hs:sizeLine=16777216:=d8;refine call_meetsIn PySem.F.slot_dict_update d1.typeIs PySem.F.entry_dict_update (PySem.F.args_dict_update_2 _ _) (meets_dict_update (nW X.prog X.w) d o ne y2) ⟨Xp,Xq,d1,d2,by rw[←r1.length,←r2.length];lia,fun h' p8 _ sb=>?_⟩;have he:∃q,h'.get? d=some q:=let ⟨q,_,_,hq,_⟩:=p8;⟨q,hq⟩
  have ml:=Nr more kvs;exact⟨.cu,_,AD (t':=s.toks) I (by rw[hd];exact True.intro) sb he (DI (by lia) y1 (KV.merge r2 r1) p8),rfl,q⟩
theorem KL(K:aF)(hK:X.K=K)(hc:X.calm=true):om X (.builtin "any") (fun xs H Q=>∃(a:ah)(bs:List Bool),xs = [V.ref a]/\aH K H a (bs.map V.bl)/\Q (.bl (bs.any id)) H):=by
  subst hK;intro pins s σ H xs us Q I r h;obtain⟨a,bs,rfl,ha,q⟩:=h;obtain⟨u,rfl,ru⟩:=pZ r;cases ru;obtain⟨its,rv,pl,hz⟩:=I.list ha;have e:its=bs.map Value.bool:=JT rv;subst e;have hl:=pl.isList;have dz:a<s.heap.objs.size:=by obtain⟨_,e,_⟩:=hl;exact aJ e
  refine call_any_walk (lA hl ?_);refine⟨s.heap.objs.size,[s.heap.objs.size,a],[s.heap.objs.size],(bs.map Value.bool).toArray.size,_,_,fun i=>(bs[i]?).getD false,rfl,Walks.list (A:=X.A.in1) (I.ok.hd hc) _ a (aX dz) (bs.map Value.bool).toArray,
    ⟨⟨_,bF _ rfl,rfl,rfl⟩,hl.push _⟩,fun i v s' Q' E' hP hQ=>?_,fun h' tk hk=>?_⟩
  · have qH:(bs.map Value.bool)[i]? = some v:=by simpa using hP
    rw[aN] at qH;cases e:bs[i]? with
    | none=>rw[e] at qH;cases qH
    | some b=>
      rw[e] at qH;cases qH;simp only[e,pH] at hQ;exact j9 hQ
  · have e:((List.range (bs.map Value.bool).toArray.size).any fun i=>(bs[i]?).getD false)=bs.any id:=by
      rw[jQ,jC,jC];have z:(bs.map Value.bool).toArray.size=bs.length:=by simp
      rw[z];constructor
      · rintro⟨i,hi,h⟩;have hi:=d7.mp hi;rw[aV hi] at h;exact⟨bs[i],jB hi,h⟩
      · rintro⟨b,hb,h⟩;obtain⟨i,hi,rfl⟩:=mT.mp hb;refine⟨i,d7.mpr hi,?_⟩;rw[aV hi];exact h
    rw[e];refine⟨.bl (bs.any id),H,I.kept fun b o q'=>?_,rfl,q⟩;have hb:=aJ q';exact hk b o (fun z=>absurd (iT.mp z) (aX hb)) (aY _ q')
inductive rL(ts:TS)(D:Ends)(σ:St):Hp->Prop
  | go {H:Hp}(h:ts D σ H):rL ts D σ H
  | dw {H:Hp}(a:ah) (kvs:List (Key×V)) (ha:H a=some (.dK kvs)) (k:∀ob,rL ts D σ (upd H a (.dw ob (.dK kvs)))):rL ts D σ H
def Xr(ts:TS):TS:=fun D σ H=>rL ts D σ H
theorem Xs{st:Stmt}{ts:TS}(h:PS X st ts):PS X st (Xr ts):=by
  intro pins s σ H D I q;have go:∀{H:Hp},rL ts D σ H->Inv X pins σ H s->wpAny (model X.prog X.w) X.A (exec st X.env) (SP X pins D) X.xe s:=fun q=>by
    induction q with
    | go q=>intro I;exact h pins s σ _ D I q
    | dw a kvs ha k ih=>
      intro I;obtain⟨ob,I'⟩:=I.frozen ha;exact ih ob I'
  exact go q I
theorem Xu{K:aF}(hK:X.K=K)(hc:X.calm=true):om X (.builtin "sorted") (fun xs H Q=>∃(p:ah)(kvs:List (List Key×V))(ps:List SS),xs = [V.ref p]/\Rd H p (.dT kvs)/\(kvs.map fun kv=>kv.1)=ps.map (fun q=>[Sum.inr q.1,Sum.inr q.2])/\ps.Nodup/\ps.length<64/\
    ∀(D:ah)(bs:List ah)(qs:List SS),H D=none->Paired (fun a(p:SS)=>H a=some (.tup [.str p.1,.str p.2])) bs qs->qs.Perm ps->qs.Pairwise (fun a b=>iB a b=true)->Q (.ref D) (upd H D (.lst (bs.map V.ref)))):=by
  subst hK;intro pins s σ H xs us Q I r h;obtain⟨p,kvs,ps,rfl,hp,hk,nd,h64,q⟩:=h;obtain⟨u,rfl,ru⟩:=pZ r;cases ru;obtain⟨z,hd,xs,rel,o,es,ep,h1,h2,h3,h4,h5⟩:=(show cI X.prog X.w H s.heap p (.dT kvs) from Jy I.aZ hp);have lkx:kvs.length=xs.length:=Paired.length rel;have lkp:kvs.length=ps.length:=by have:=bQ List.length hk;simpa using this
  have les:es.size=xs.length:=by
    have:=bQ List.length h4;rw[iR,aq] at this;exact this
  have Ey:es.toList.map (·.key)=xs.map fun x=>Value.ref x.2.1:=by
    rw[h4,cz];rfl
  have OP:∀i,i<ps.length->∃x,xs[i]? = some x/\∃q,ps[i]? = some q/\H x.2.1=some (.tup [.str q.1,.str q.2]):=fun i hi=>by
    have hx:i<xs.length:=by lia
    have GX:i<kvs.length:=by lia
    refine⟨xs[i],aV hx,ps[i],aV hi,?_⟩;have f:=xg rel (aV GX) (aV hx);have e:(kvs.map fun kv=>kv.1)[i]? = some [Sum.inr ps[i].1,Sum.inr ps[i].2]:=by rw[hk,aN,aV hi];rfl
    rw[aN,aV GX] at e;have e:kvs[i].1 = [Sum.inr ps[i].1,Sum.inr ps[i].2]:=bW e;have:=f.2.1;rw[e] at this;exact this
  have rv:Vals ((xs.map fun x=>x.2.1).map V.ref) (xs.map fun x=>Value.ref x.2.1):=Ew (by simp) fun i a b e1 e2=>by
    rw[aN,aN] at e1;rw[aN] at e2;cases ex:xs[i]? with
    | none=>rw[ex] at e1;cases e1
    | some x=>
      rw[ex] at e1 e2;cases e1;cases e2;rfl
  have hT:Paired (l5 s.heap) (xs.map fun x=>Value.ref x.2.1) ps:=Ew (by rw[aq];lia) fun i v p e1 e2=>by
    obtain⟨x,ex,q',eq,hx⟩:=OP i (by have:=(bI.mp e2).1;exact this);rw[aN,ex] at e1;cases e1;rw[e2] at eq;cases eq;exact I.Ex rfl (bx.of hx)
  have li:(xs.map fun x=>Value.ref x.2.1).length=ps.length:=by rw[aq];lia
  have T:=Xj nd;rw[←li] at T;have gd:∀i(h:i<ps.length),ps[i]? = some (ps.getD i ("","")):=fun i h=>by rw[cW,aV h];rfl
  have gi:∀i(h:i<(xs.map fun x=>Value.ref x.2.1).length),(xs.map fun x=>Value.ref x.2.1)[i]? = some ((xs.map fun x=>Value.ref x.2.1).getD i Value.none):=fun i h=>by rw[cW,aV h];rfl
  have col:∀(E':az)(Q':List ai->au->Prop),(∀h1 tk,(∀b o,s.heap.get? b=some o->h1.get? b=some o)->s.heap.objs.size<h1.objs.size->Q' (xs.map fun x=>Value.ref x.2.1) { s with heap:=h1,toks:=tk })->wpAny (model X.prog X.w) X.A.in1 (collect (.ref p)) Q' E' s:=fun E' Q' q'=>by
    refine Wx (A:=X.A.in1) (I.ok.hd hc) hd ⟨o,h1,h2,h3⟩ (by rw[d8];lia) fun h1 tk k sz=>?_
    rw[Ey];exact q' h1 tk k sz
  refine Xg (κ:=tuples' true) T (by lia) col (fun two s' kp _ _ Q' q'=>Xm (Paired.gy hT fun v p t=>t.kept kp) (by lia) q') (fun i j hi hj n s' kp Q' q'=>Xl ((xg hT (gi i hi) (gd i (by lia))).kept kp) ((xg hT (gi j hj) (gd j (by lia))).kept kp) q') fun D out h' tk c lo po kp hD hg=>?_
  obtain⟨bs,ys,vb,lb,pm,ab,up⟩:=Xn (xs.map fun x=>x.2.1) ps ("","") rv po (by rw[aq];lia);have hn:H D=none:=I.aZ.fresh hD;refine⟨.ref D,_,I.laid (t':=tk) (h':=h') (a:=D) (o:=.lst (bs.map V.ref)) kp hD ⟨?_,out,c,vb,by rw[hg]⟩,rfl,q D bs ys hn ?_ pm (up.imp fun⟨a,b,e1,e2,l⟩=>?_)⟩
  · rw[aq,lb,pm.length_eq,d8];lia
  · refine Ew lb fun i b y e1 e2=>?_
    obtain⟨j,g1,g2⟩:=ab i b y e1 e2;obtain⟨x,ex,q',eq,hx⟩:=OP j (by exact(bI.mp g2).1);rw[aN,ex] at g1;cases g1;rw[g2] at eq;cases eq;exact hx
  · rw[cW,cW,e1,e2] at l;exact l
end
end L2
namespace Dm
open PySem PySem.NumText L2
theorem Rc.refl{ln:Ln}{s:Str}:Rc ln s 0 s:=⟨[],.nil,rfl⟩
theorem OQ{ln:Ln}{s:Str}:∀{n:Nat}{v:Str},Rc ln s (n+1) v->∃l r,(l,r)∈ln s/\Rc ln l n v
  | 0,v,h=>by
    obtain⟨u,r,h1,h2⟩:=h.succ;have:=h1.zero;subst this;exact⟨v,r,h2,Rc.refl⟩
  | n+1,v,h=>by
    obtain⟨u,r,h1,h2⟩:=h.succ;obtain⟨l,r',h3,h4⟩:=OQ h1;exact⟨l,r',h3,h4.step h2⟩
theorem OR{ln:Ln}{s l:Str}{r:ah}(h:(l,r)∈ln s):∀{n:Nat}{v:Str},Rc ln l n v->Rc ln s (n+1) v
  | 0,v,q=>by
    have:=q.zero;subst this;exact Rc.refl.step h
  | n+1,v,q=>by
    obtain⟨u,r',h1,h2⟩:=q.succ;exact(OR h h1).step h2
def lT(ln:Ln)(x y:Str):Prop:=∃j,1<=j/\Rc ln x j y
theorem yi{ln:Ln}{x y:Str}:lT ln x y↔∃l r,(l,r)∈ln x/\(l=y\/lT ln l y):=by
  constructor
  · rintro⟨j,h1,h⟩;obtain⟨n,rfl⟩:∃n,j=n+1:=⟨j-1,by lia⟩;obtain⟨l,r,h2,h3⟩:=OQ h;refine⟨l,r,h2,?_⟩;cases n with
    | zero=>exact .inl h3.zero.symm
    | succ n=>exact .inr ⟨n+1,by lia,h3⟩
  · rintro⟨l,r,h,rfl | ⟨j,h1,h2⟩⟩
    · exact⟨1,by lia,Rc.refl.step h⟩
    · exact⟨j+1,by lia,OR h h2⟩
theorem Rc.inKeys{ln:Ln}{keys:List Str}(cl:∀k∈keys,∀l r,(l,r)∈ln k->l∈keys){x:Str}(hx:x∈keys):∀{j:Nat}{y:Str},Rc ln x j y->y∈keys
  | 0,y,h=>by have:=h.zero;subst this;exact hx
  | j+1,y,h=>by
    obtain⟨u,r,h1,h2⟩:=h.succ;exact cl u (Rc.inKeys cl hx h1) y r h2
def f6{α:Type}[DecidableEq α](M:List α)(x:α):List α:=if x∈M then M else M++[x]
theorem KN{α:Type}[DecidableEq α]{M:List α}{x y:α}:y∈f6 M x↔y∈M\/y=x:=by
  unfold f6;split
  · next h=>
    constructor
    · exact .inl
    · rintro(z | rfl)
      · exact z
      · exact h
  · rw[bz,iT]
theorem KO{α:Type}[DecidableEq α]{M:List α}{x:α}(h:M.Nodup):(f6 M x).Nodup:=by
  unfold f6;split
  · exact h
  · next n=>
    rw[iU];refine⟨h,by simp,fun a ha b hb e=>?_⟩;have:b=x:=by simpa using hb
    subst this;subst e;exact n ha
def Cm(M M2:List Str):List Str:=M2.foldl f6 M
theorem OS{y:Str}:∀{M2 M:List Str},y∈Cm M M2↔y∈M\/y∈M2
  | [],M=>by simp[Cm]
  | x::r,M=>by
    show y∈Cm (f6 M x) r↔_;rw[OS,KN,aO,or_assoc]
theorem OT:∀{M2 M:List Str},M.Nodup->(Cm M M2).Nodup
  | [],_,h=>h
  | x::r,M,h=>OT (M2:=r) (M:=f6 M x) (KO h)
theorem OU{M:List Str}{x:Str}:putK (dV M iH) (Sum.inr x) (.bl true)=dV (f6 M x) iH:=by
  unfold f6;split
  · next h=>
    rw[GY h];refine tO fun z _=>?_
    split<;>rfl
  · next h=>exact Kq h
theorem OV:∀{M2 M:List Str},Ca (dV M iH) (dV M2 iH)=dV (Cm M M2) iH
  | [],M=>rfl
  | x::r,M=>by
    show Ca (putK (dV M iH) (Sum.inr x) (.bl true)) (dV r iH)=_;rw[OU,OV];rfl
theorem OW{α:Type}[DecidableEq α]:∀{rs us:List α},rs.Nodup->(∀x∈rs,x∈us)->rs.length<=us.length
  | [],us,_,_=>dH _
  | a::r,us,hn,hs=>by
    rw[fM] at hn;have ha:=hs a (by simp);have:=OW (rs:=r) (us:=us.erase a) hn.2 fun x hx=>by
      have:x≠a:=fun z=>hn.1 (z▸hx)
      exact(List.mem_erase_of_ne this).mpr (hs x (bE _ hx))
    rw[o7 ha] at this;have:=qT ha;rw[fK];lia
structure Dp(H:Hp)(pd:ah)(ob:Obj)(os:List Str)(gm:Str->List Str)(ad:Str->ah)(obs:Str->Obj):Prop where
  d:H pd=some (.dw ob (.dK (dV os fun k=>.ref (ad k))))
  e:∀k∈os,H (ad k)=some (.dw (obs k) (.dK (dV (gm k) iH)))
theorem Dp.same{H H':Hp}{pd:ah}{ob:Obj}{os:List Str}{gm:Str->List Str}{ad:Str->ah}{obs:Str->Obj}(h:Dp H pd ob os gm ad obs)(s:ak H H'):Dp H' pd ob os gm ad obs:=⟨s _ _ h.d,fun k hk=>s _ _ (h.e k hk)⟩
theorem Xv{H:Hp}{a:ah}{ob:Obj}{M:List Str}(h:H a=some (.dw ob (.dK (dV M iH))))(y:Str):ck H a (.str y) (if y∈M then some (.bl true) else none):=by
  refine .inl ⟨_,Sum.inr y,.inr ⟨ob,h⟩,rfl,?_⟩
  by_cases c:y∈M
  · rw[av c,pR c];rfl
  · rw[ao c,AS c]
theorem OX{ts:TS}{D:Ends}{σ:St}{ad:Str->ah}{f:Str->List (Key×V)}:∀(L:List Str)(H:Hp),(∀k∈L,H (ad k)=some (.dK (f k)))->(∀k∈L,∀k'∈L,ad k=ad k'->k=k')->L.Nodup->
    (∀(H':Hp)(obs:Str->Obj),(∀k∈L,H' (ad k)=some (.dw (obs k) (.dK (f k))))->(∀b,(∀k∈L,b≠ad k)->H' b=H b)->rL ts D σ H')->rL ts D σ H
  | [],H,_,_,_,k=>k H (fun _=>default) (by simp) fun b _=>rfl
  | x::r,H,h,inj,nd,k=>by
    rw[fM] at nd;have ne:∀z∈r,ad z≠ad x:=fun z hz e=>nd.1 ((inj z (bE _ hz) x (by simp) e)▸hz)
    refine .dw (ad x) (f x) (h x (by simp)) fun ob=>?_
    refine OX r _ (fun z hz=>by rw[ze (ne z hz)];exact h z (bE _ hz)) (fun a ha b hb=>inj a (bE _ ha) b (bE _ hb)) nd.2 fun H' obs h1 h2=>?_
    refine k H' (fun z=>if z=x then ob else obs z) (fun z hz=>?_) fun b hb=>?_
    · by_cases c:z=x
      · subst c;rw[av rfl,h2 (ad z) fun w hw=>aE (ne w hw),zb]
      · rw[ao c];exact h1 z ((aO.mp hz).resolve_left c)
    · rw[h2 b fun w hw=>hb w (bE _ hw),ze (hb x (by simp))]
def Ht(ln:Ln)(keys:List Str)(p:SS):Prop:=p.1∈keys/\(∃r,(p.2,r)∈ln p.1)/\¬∃t,lT ln p.1 t/\lT ln t p.2
def dP(ps:List SS):List (List Key×V):=ps.map fun p=>([Sum.inr p.1,Sum.inr p.2],V.bl true)
theorem Xw(ps:List SS):((dP ps).map fun kv=>kv.1)=ps.map fun q=>[Sum.inr q.1,Sum.inr q.2]:=by unfold dP;rw[cz];rfl
theorem Xx{ps:List SS}{p:SS}:putK (dP ps) [Sum.inr p.1,Sum.inr p.2] (.bl true)=dP (f6 ps p):=by
  have inj:∀a b:SS,([Sum.inr a.1,Sum.inr a.2]:List Key) = [Sum.inr b.1,Sum.inr b.2]↔a=b:=fun a b=>by
    constructor
    · intro h;simp only[List.cons.injEq,Sum.inr.injEq,and_true] at h;exact Prod.ext h.1 h.2
    · rintro rfl;rfl
  have any:((dP ps).any fun kv=>decide (kv.1 = [Sum.inr p.1,Sum.inr p.2]))=decide (p∈ps):=by
    rw[jQ,jC,gM];unfold dP;constructor
    · rintro⟨x,hx,e⟩;obtain⟨q,hq,rfl⟩:=aK.mp hx;exact((inj q p).mp (bG e))▸hq
    · intro h;exact⟨_,aK.mpr ⟨p,h,rfl⟩,aP rfl⟩
  unfold putK f6;rw[any]
  by_cases c:p∈ps
  · rw[av (aP c),av c];unfold dP;rw[cz];refine fH fun q _=>?_
    show(if([Sum.inr q.1,Sum.inr q.2]:List Key) = [Sum.inr p.1,Sum.inr p.2] then _ else _)=_;split<;>rfl
  · rw[ao (by rw[bq c];exact bJ),ao c];unfold dP;rw[aL];rfl
theorem OY:∀{a b:List SS},a.Pairwise (fun x y=>iB x y=true)->b.Pairwise (fun x y=>iB x y=true)->(∀x,x∈a↔x∈b)->a=b
  | [],[],_,_,_=>rfl
  | [],y::b,_,_,h=>by have:=(h y).mpr (by simp);cases this
  | x::a,[],_,_,h=>by have:=(h x).mp (by simp);cases this
  | x::a,y::b,ha,hb,h=>by
    rw[iD] at ha hb;have KP:∀{p q:SS},iB p q=true->iB q p=true->False:=fun h1 h2=>by
      have:=OO h1 h2;rw[Hs] at this;cases this
    have e:x=y:=by
      rcases aO.mp ((h x).mp (by simp)) with z | z
      · exact z
      · rcases aO.mp ((h y).mpr (by simp)) with w | w
        · exact w.symm
        · exact(KP (ha.1 y w) (hb.1 x z)).elim
    subst e;have:a=b:=OY ha.2 hb.2 fun z=>by
      have:=h z;rw[aO,aO] at this;constructor
      · intro hz;rcases this.mp (.inr hz) with rfl | w
        · have:=ha.1 z hz;rw[Hs] at this;cases this
        · exact w
      · intro hz;rcases this.mpr (.inr hz) with rfl | w
        · have:=hb.1 z hz;rw[Hs] at this;cases this
        · exact w
    rw[this]
def OZ(p:SS):List V:=[.str p.1,.str p.2]
theorem KQ(p:SS):∀v∈OZ p,nK v=true:=fun v hv=>by
  unfold OZ at hv;simp at hv;rcases hv with rfl | rfl<;>rfl
theorem Xy{K:aF}{H:Hp}{n:Nat}{D E:ah}{as bs:List ah}{ps:List SS}(hD:aH K H D (as.map V.ref))(hE:aH K H E (bs.map V.ref))(ta:Paired (fun a(p:SS)=>bx K H a [.str p.1,.str p.2]) as ps)(tb:Paired (fun a(p:SS)=>bx K H a [.str p.1,.str p.2]) bs ps):cV K H (n+1+1) (.ref D) (.ref E) true:=by
  have l1:=Paired.length ta;have l2:=Paired.length tb;refine cV.vL hD hE (by rw[aq,aq];lia) fun i x y e1 e2=>?_
  obtain⟨a,p,rfl,hp,_,ha⟩:=tP ta e1;obtain⟨b,q,rfl,hq,_,hb⟩:=tP tb e2;rw[hp] at hq;cases hq;have:=cV.vC (n:=n) ha hb (KQ p) (KQ p);have e:Cd [V.str p.1,V.str p.2] [V.str p.1,V.str p.2]=true:=JY (KQ p);rw[e] at this;exact this
theorem O7{ts cU:List aT}(h:∀y z,Nb ts y z↔Nb cU y z){x y:Str}(c:Cn ts x y):Cn cU x y:=by
  induction c with
  | refl=>exact .refl _
  | step _ n ih=>exact ih.step ((h _ _).mp n)
theorem Ez{ts cU:List aT}(h:∀y z,Nb ts y z↔Nb cU y z):aR ts=aR cU:=by
  funext x;exact VV (O7 h ((zD ts).to x)) fun y c=>(zD ts).le x y (O7 (fun a b=>(h a b).symm) c)
def O8(x:Str):List Str:=(Txt.split x " ").filter fun y=>!decide (y = "")
def O9:List Str->Bool
  | []=>true
  | y::_=>Txt.startswith y ";"
theorem Co(x:Str)(ks:List Str):xQ (.str x) (ks.map V.str)=decide (x∈ks):=by
  unfold xQ
  induction ks with
  | nil=>rfl
  | cons k r ih=>
    rw[cE,g9,ih];show((k == x)||decide (x∈r))=_
    by_cases h:k=x
    · subst h;simp
    · rw[f9.mpr h,Bool.false_or];exact iZ.mpr ⟨fun z=>bE _ z,fun z=>(aO.mp z).resolve_left fun e=>h e.symm⟩
def kW:V->Key
  | .str x=>.inr x
  | .int i=>.inl i
  | _=>.inl 0
theorem Xz{v:V}(h:Wd v):kV (kW v)=v:=by
  rcases h with ⟨x,rfl,_⟩ | ⟨i,rfl,_⟩<;>rfl
theorem EA{ws:List V}(h:∀v∈ws,Wd v):(ws.map kW).map kV=ws:=by
  rw[cz];refine(fH fun v hv=>?_).trans (List.map_id' ws);exact Xz (h v hv)
theorem KR{ws vs:List V}(h1:∀v∈ws,Wd v)(h2:∀v∈vs,Wd v)(e:ws.map kW=vs.map kW):ws=vs:=by
  rw[←EA h1,←EA h2,e]
theorem Cp{κ:Type}[DecidableEq κ]{kvs:List (κ×V)}{k:κ}(h:k ∉ kvs.map (·.1)):cT kvs k=none:=by
  unfold cT;rw[Option.map_eq_none_iff,List.find?_eq_none];intro x hx e;exact h (aK.mpr ⟨x,hx,by simpa using e⟩)
theorem KS{κ:Type}[DecidableEq κ]{kvs:List (κ×V)}{k:κ}(h:k∈kvs.map (·.1)):(cT kvs k).isSome=true:=by
  rw[←Gw,jC];obtain⟨x,hx,e⟩:=aK.mp h;exact⟨x,hx,aP e⟩
theorem EB:¬(("frame" : Str) = "units"):=by decide +kernel
theorem EC:¬(("frame" : Str) = "ties"):=by decide +kernel
theorem ED:¬(("frame" : Str) = "finds"):=by decide +kernel
theorem EE:¬(("units" : Str) = "ties"):=by decide +kernel
theorem EF:¬(("units" : Str) = "finds"):=by decide +kernel
theorem EG:¬(("ties" : Str) = "finds"):=by decide +kernel
def nR(fv:V)(du dt df:ah):List (Str×V):=[("frame",fv),("units",.ref du),("ties",.ref dt),("finds",.ref df)]
theorem XA(fv:V)(du dt df:ah):bX "finds" (.ref df) (bX "ties" (.ref dt) (bX "units" (.ref du) (bX "frame" fv [])))=nR fv du dt df:=by
  show bX "finds" (.ref df) (bX "ties" (.ref dt) (if("frame" : Str) = "units" then _ else _))=_;rw[ao EB];show bX "finds" (.ref df) (if("frame" : Str) = "ties" then _ else(("frame" : Str),fv)::(if("units" : Str) = "ties" then _ else _))=_;rw[ao EC,ao EE];show(if("frame" : Str) = "finds" then _ else(("frame" : Str),fv)::(if("units" : Str) = "finds" then _ else(("units" : Str),V.ref du)::(if("ties" : Str) = "finds" then _ else _)))=_;rw[ao ED,ao EF,ao EG];rfl
theorem Hu{k x:Str}{v:V}{r:List (Str×V)}(h:k=x):List.lookup k ((x,v)::r)=some v:=by subst h;simp
theorem xm{k x:Str}{v:V}{r:List (Str×V)}(h:¬k=x):List.lookup k ((x,v)::r)=List.lookup k r:=by
  rw[List.lookup_cons,f9.mpr h]
theorem XC(fv:V)(du dt df:ah):(nR fv du dt df).lookup ("frame" : Str)=some fv:=Hu rfl
theorem EH(fv:V)(du dt df:ah):(nR fv du dt df).lookup ("units" : Str)=some (.ref du):=by
  unfold nR;rw[xm (fun z=>EB z.symm),Hu rfl]
theorem Cq(fv:V)(du dt df:ah):(nR fv du dt df).lookup ("ties" : Str)=some (.ref dt):=by
  unfold nR;rw[xm (fun z=>EC z.symm),xm (fun z=>EE z.symm),Hu rfl]
theorem zI(fv:V)(du dt df:ah):(nR fv du dt df).lookup ("finds" : Str)=some (.ref df):=by
  unfold nR;rw[xm (fun z=>ED z.symm),xm (fun z=>EF z.symm),xm (fun z=>EG z.symm),Hu rfl]
theorem qO(fv:V)(du dt df:ah){m:Str}(h:m ∉ (["frame","units","ties","finds"]:List Str)):(nR fv du dt df).lookup m=none:=by
  simp only[aO,gc,ie,not_or] at h;unfold nR;rw[xm h.1,xm h.2.1,xm h.2.2.1,xm h.2.2.2];rfl
def dU(us:List Str):List (Key×V):=us.map fun x=>(Sum.inr x,V.bl true)
def jW(ts:List (List V)):List (List Key×V):=ts.map fun ws=>(ws.map kW,V.bl true)
theorem rM{us:List Str}{x:Str}:(Sum.inr x:Key)∈(dU us).map (·.1)↔x∈us:=by
  unfold dU;rw[cz];constructor
  · intro h;obtain⟨y,hy,e⟩:=aK.mp h;cases e;exact hy
  · intro h;exact aK.mpr ⟨x,h,rfl⟩
theorem XD{us:List Str}{x:Str}(h:x ∉ us):putK (dU us) (Sum.inr x:Key) (.bl true)=dU (us++[x]):=by
  rw[Jw _ (Cp fun z=>h (rM.mp z))];unfold dU;rw[aL];rfl
theorem KU{ts:List (List V)}{ws:List V}(h1:∀vs∈ts,∀v∈vs,Wd v)(h2:∀v∈ws,Wd v):ws.map kW∈(jW ts).map (·.1)↔ws∈ts:=by
  unfold jW;rw[cz];constructor
  · intro h;obtain⟨y,hy,e⟩:=aK.mp h;rw[←KR (h1 y hy) h2 e];exact hy
  · intro h;exact aK.mpr ⟨ws,h,rfl⟩
theorem XE{ts:List (List V)}{ws:List V}(h1:∀vs∈ts,∀v∈vs,Wd v)(h2:∀v∈ws,Wd v)(h:ws ∉ ts):putK (jW ts) (ws.map kW) (.bl true)=jW (ts++[ws]):=by
  rw[Jw _ (Cp fun z=>h ((KU h1 h2).mp z))];unfold jW;rw[aL];rfl
structure A3(y:Str):Prop where
  pass:O9 (O8 y)=true
  feed:10 ∉ co y
  len:y.length<=900
instance (y:Str):Decidable (A3 y):=decidable_of_iff (O9 (O8 y)=true/\10 ∉ co y/\y.length<=900) ⟨fun h=>⟨h.1,h.2.1,h.2.2⟩,fun h=>⟨h.pass,h.feed,h.len⟩⟩
theorem XF{one at':Int}{k k' size:Nat}(h0:0<=at')(h1:at'<size)(hk:k<37)(gT:k'<37)(h:sL one at' k size=sL one at' k' size):k=k':=by
  have hj:at'.toNat<size:=by lia
  have e1:=N4 (one:=one) (at':=at') (k:=k) hj;have e2:=N4 (one:=one) (at':=at') (k:=k') hj;rw[h,e2] at e1;have e:qL one at' k' at'.toNat=qL one at' k at'.toNat:=bW e1;unfold qL at e;have q:=VG (tM _).2 (tM _).2 e;have a1:=(tM (vG one at' k' at'.toNat)).1;have a2:=(tM (vG one at' k at'.toNat)).1;have q2:vG one at' k' at'.toNat%37=vG one at' k at'.toNat%37:=by lia
  unfold vG at q2;rw[av (pB h0),av (pB h0)] at q2;lia
def Hv(n:Nat)(one at':Int)(size:Nat):List Str:=(List.range n).map fun k=>oQ (sL one at' k size)
def EI(n:Nat)(one at':Int)(size:Nat):List Str:=(List.range n).map fun k=>oQ ((sL one at' 0 size).take (size-k))
theorem XG{n:Nat}{one at':Int}{size:Nat}(hn:n<=37)(h0:0<=at')(h1:at'<size)(h2:1<=size)(h3:size<=12):(Hv n one at' size).Nodup/\(∀x∈Hv n one at' size,qK x=true)/\(Hv n one at' size).length=n:=by
  refine⟨GN fun i j hi hj e=>XF h0 h1 (by lia) (by lia) (N5 e),fun x hx=>?_,by unfold Hv;simp⟩;obtain⟨k,_,rfl⟩:=aK.mp hx;exact N6 (by rw[wY,AN];exact h2) (by rw[wY,AN];exact h3) fun c hc=>by rw[wY] at hc;exact N7 hc
theorem XH{n:Nat}{one at':Int}{size:Nat}(h2:n<=size)(h3:size<=12):(EI n one at' size).Nodup/\(∀x∈EI n one at' size,qK x=true)/\(EI n one at' size).length=n:=by
  refine⟨GN fun i j hi hj e=>?_,fun x hx=>?_,by unfold EI;simp⟩
  · have e:=bQ List.length (N5 e);rw[bw,bw,AN] at e;lia
  · obtain⟨k,hk,rfl⟩:=aK.mp hx;have hk:=d7.mp hk;refine N6 ?_ ?_ fun c hc=>?_
    · rw[wY,bw,AN];lia
    · rw[wY,bw,AN];lia
    · rw[wY] at hc;exact N7 (nh hc)
theorem Lv.uniq{ln:Ln}{M:List Str}{lv rH:Str->Nat}{n n':Nat}(h:Lv ln M lv n)(h':Lv ln M rH n'):∀(k:Nat)(x:Str),x∈M->lv x=k->rH x=k:=by
  intro k
  induction k using Nat.strongRecOn with
  | _ k ih=>
    intro x hx e;have key:∀l r,(l,r)∈ln x->lv l=rH l:=fun l r hl=>by
      have hm:=h.mx x hx;have mem:((lv l:Int)+1)∈qN lv (ln x):=aK.mpr ⟨(l,r),hl,rfl⟩;have dz:lv l<k:=by
        rcases hm with ⟨h1,_⟩ | ⟨_,h2⟩
        · rw[h1] at mem;cases mem
        · have:=h2 _ mem;lia
      exact(ih (lv l) dz l (h.cl x hx l r hl) rfl).symm
    have e2:=OB key;have a:=h.mx x hx;have b:=h'.mx x hx;rw[e2] at a;have:=WK a b fun y=>Iff.rfl
    lia
theorem Lv.EJ{ln:Ln}{M:List Str}{lv rH:Str->Nat}{n n':Nat}(h:Lv ln M lv n)(h':Lv ln M rH n'):n=n':=by
  have go:∀{lv rH:Str->Nat}{n n':Nat},Lv ln M lv n->Lv ln M rH n'->n<=n':=fun{lv rH n n'}h h'=>by
    cases n with
    | zero=>exact dH _
    | succ n=>
      obtain⟨x,hx,e⟩:=h.all n (by lia);have:=h.uniq h' n x hx e;have:=h'.lt x hx;lia
  exact Nat.le_antisymm (go h h') (go h' h)
end Dm
namespace L2
open PySem PySem.Spec PyProof.Rows
structure eY(bm:List ai):Prop where
  v:bm.contains (.type "ValueError")=true
  b:bm.contains (.type "BaseException")=true
  a:bm.contains (.type "AttributeError")=false
  n:bm.contains (.type "NameError")=false
def oA(h:Heap)(C:ah)(bm:List ai):Prop:=∃nm q N bs A4 sn sub ab col dd k0 k1 k2 k3 k5,h.get? C=some (excClassObj nm q C N bs bm A4 sn sub ab col dd k0 k1 k2 k3 k5 "ValueError.__new__")
theorem EK{C:ah}{bm:List ai}{T:String}{b:Bool}(h:bm.contains (.type T)=b):(Value.ref C::bm).contains (.type T)=b:=by
  rw[List.contains_cons,h];rfl
section
variable{prog:aU}{w:World}{A:Around}{h:Heap}{g:Array GenState}{d:Drawn}{t:Nat}{os:OsState}{C:ah}{bm:List ai}
theorem XI{R:Result->au->Prop}(U:eY bm)(x:oA h C bm){us:List ai}(hz:us.length<=sizeLine)
    (k:R (.ok (.ret (.ref (h.objs.size+1)))) { heap:=(h.push { cls:=.type "tuple",data:=.seq us.toArray }).push { cls:=.ref C,data:=.fields #[.ref h.objs.size,.none,.none,.none,.bool false,.none] },gens:=g,drawn:=d,toks:=t,os:=os }) :
    codeAny (model prog w) A (.builtin "ValueError.__new__" ⟨.ref C::us,[]⟩) R { heap:=h,gens:=g,drawn:=d,toks:=t,os:=os }:=by
  obtain⟨a1,a2,a3,a4,a5,a6,a7,a8,a9,b1,b2,b3,b4,b5,b6,e⟩:=x;have F:=PySem.F.excBase_ValueError;have f1:=F.ends;have c1:=EK (C:=C) U.v;have c2:=EK (C:=C) U.a;have c3:=EK (C:=C) U.n;refine codeAny_builtinAt F.entry ?_;unfold Builtin.«BaseException.__new__»;refine PySem.wpAt_bind (show PySem.wpAt (model prog w) _ _ (stack >>= _) _ _ _ from PySem.wpAt_bind (PySem.wpAt_stack fun p below=>PySem.wpAt_of_wpAny ?_))
  wp_walk
  refine PySem.wpAt_of_wpAny ?_;rw[F.owner]
  repeat (first
    | with_reducible refine wpAny_madeHere_exc F.canon e ?_
    | with_reducible refine iX e ?_
    | (with_reducible refine pC e ?_
       first | rw[c1] | rw[c2] | rw[c3])
    | wp_step)
  show R _ _;rw[fP];exact k
theorem XJ{M:Model}{E:az}(U:eY bm)(x:oA h C bm){us:List ai}{Q:Unit->au->Prop}(k:Q () { heap:=h,gens:=g,drawn:=d,toks:=t,os:=os }) :
    wpAny M A (checkBuiltinCall "ValueError.__new__" ⟨.ref C::us,[]⟩) Q E { heap:=h,gens:=g,drawn:=d,toks:=t,os:=os }:=by
  obtain⟨a1,a2,a3,a4,a5,a6,a7,a8,a9,b1,b2,b3,b4,b5,b6,e⟩:=x;exact wpAny_check_new_subU PySem.F.excBase_ValueError U.v .base e k
theorem XM{E:az}{vI:ai}{us:List ai}{Q:Fin->au->Prop}(U:eY bm)(x:oA h C bm)(hz:us.length<=sizeLine)
    (lk:PySem.W.Looks (model prog w) h (typeLookup (.ref C) "__init__") (some (vI))) (bd:∀self,PySem.W.Looks (model prog w) h (bindSpecial (vI) self) (vI,[self]))
    (k:∀h' e,h.objs.size<=e->Heap.MadeExcOf h h' e (.ref C) us->wpAny (model prog w) A (call (vI) (.ref e::us)) (fun r s'=>r = .none/\Q (.done (.ret (.ref e))) s') E { heap:=h',gens:=g,drawn:=d,toks:=t,os:=os }) :
    wpAny (model prog w) A (Builtin.«type.__call__» ⟨.ref C::us,[]⟩) Q E { heap:=h,gens:=g,drawn:=d,toks:=t,os:=os }:=by
  have x':=x;obtain⟨a1,a2,a3,a4,a5,a6,a7,a8,a9,b1,b2,b3,b4,b5,b6,e⟩:=x';have F:=PySem.F.excBase_ValueError
  repeat (first | with_reducible refine iX e ?_ | with_reducible refine wpAny_madeBy_exc e ?_ | wp_step)
  refine codeAny_call_builtin_code (Code.quiet_builtin _ F.quiet) (XJ U x ?_);refine XI U x hz ?_;show wpAny (model prog w) _ _ _ _ _;have kp:∀b o,h.get? b=some o->((h.push { cls:=.type "tuple",data:=.seq us.toArray }).push { cls:=.ref C,data:=.fields #[.ref h.objs.size,.none,.none,.none,.bool false,.none] }).get? b=some o:=
    fun b o q=>aY _ (aY _ q)
  have A5:((h.push { cls:=.type "tuple",data:=.seq us.toArray }).push { cls:=.ref C,data:=.fields #[.ref h.objs.size,.none,.none,.none,.bool false,.none] }).get? (h.objs.size+1) =
      some { cls:=.ref C,data:=.fields #[.ref h.objs.size,.none,.none,.none,.bool false,.none] }:=by heap_get
  have ht:((h.push { cls:=.type "tuple",data:=.seq us.toArray }).push { cls:=.ref C,data:=.fields #[.ref h.objs.size,.none,.none,.none,.bool false,.none] }).get? h.objs.size =
      some { cls:=.type "tuple",data:=.seq us.toArray }:=aY _ (Heap.get?_push_at rfl rfl)
  have made:Heap.MadeExcOf h ((h.push { cls:=.type "tuple",data:=.seq us.toArray }).push { cls:=.ref C,data:=.fields #[.ref h.objs.size,.none,.none,.none,.bool false,.none] }) (h.objs.size+1) (.ref C) us:=
    ⟨kp,lV (eV _),h.objs.size,A5,lV (aG _),ht⟩
  have go:=k _ _ (eV _) made;have e1:=kp _ _ e;have Pa:=lk.keeps kp;have Pb:=fun self=>(bd self).keeps kp
  generalize (h.push { cls:=.type "tuple",data:=.seq us.toArray }).push { cls:=.ref C,data:=.fields #[.ref h.objs.size,.none,.none,.none,.bool false,.none] } = h1 at A5 go e1 Pa Pb;have cC:(Value.ref C::bm).contains (.ref C)=true:=by simp
  unfold isInstance
  repeat (first | with_reducible refine iX A5 ?_ | (with_reducible refine pC e1 ?_;rw[cC]) | wp_step)
  show wpAny (model prog w) _ (typeLookup (.ref C) _) _ _ _;refine Pa.at (dG (aj ((Pb _).at ?_)));refine aj (cA go (fun r s' hr=>?_) fun _ _ z=>z);obtain⟨rfl,q⟩:=hr
  wp_walk
  exact q
theorem XN{E:az}{vI:ai}{us:List ai}{Q:az}(U:eY bm)(x:oA h C bm)(hz:us.length<=sizeLine)
    (lk:PySem.W.Looks (model prog w) h (typeLookup (.ref C) "__init__") (some (vI))) (bd:∀self,PySem.W.Looks (model prog w) h (bindSpecial (vI) self) (vI,[self]))
    (k:∀h' e,h.objs.size<=e->Heap.MadeExcOf h h' e (.ref C) us->wpAny (model prog w) (A.under (.builtin "type.__call__" ⟨.ref C::us,[]⟩)) (call (vI) (.ref e::us)) (fun r s'=>r = .none/\Q (.ref e) s') E { heap:=h',gens:=g,drawn:=d,toks:=t,os:=os }) :
    wpAny (model prog w) A (call (.ref C) us) Q E { heap:=h,gens:=g,drawn:=d,toks:=t,os:=os }:=by
  have x':=x;obtain⟨a1,a2,a3,a4,a5,a6,a7,a8,a9,b1,b2,b3,b4,b5,b6,e⟩:=x';have f1:=tc_lookup;have f2:=tc_bind (.ref C);have hT:({ heap:=h,gens:=g,drawn:=d,toks:=t,os:=os }:au).TypeIs (.ref C) "type":=⟨_,e,rfl⟩;refine gw (codeAny_of_tree (show wpAny (model prog w) _ (callAny (.ref C) _) _ _ _ from ?_))
  repeat (any_goals (first | assumption | with_reducible refine iX e ?_ | wp_step))
  refine⟨rfl,codeAny_call_builtin_at (Code.quiet_builtin _ (by decide +kernel)) entry_typeCall (wpAny_check_type_call_sub e (XM U x hz lk bd fun h' e' hs hm=>?_))⟩;exact k h' e' hs hm
end
section
variable{prog:aU}{w:World}{A:Around}{E:az}{s:au}{env:Env}{bm:List ai}
theorem XO{y:Sem ai}{Q:Flow->au->Prop}(U:eY bm)(hh:A.handled=none)
    (k:wpAny (model prog w) A y (fun v s1=>∃e C oe vs,v = .ref e/\oA s1.heap C bm/\s1.heap.get? e=some oe/\oe.cls = .ref C/\oe.data = .fields vs/\vs[1]? = some .none/\E (.ref e) s1) E s) :
    wpAny (model prog w) A (raiseStmt env (some y) none) Q E s:=by
  unfold raiseStmt;refine aj (cA k (fun v s1 k1=>?_) fun _ _ z=>z);obtain⟨e,C,oe,vs,rfl,⟨a1,a2,a3,a4,a5,a6,a7,a8,a9,b1,b2,b3,b4,b5,b6,o⟩,he,hc,hd,h1,hE⟩:=k1;have cB:=EK (C:=C) U.b;obtain⟨hp,g,d,tk,os⟩:=s1
  repeat (first
    | (with_reducible refine iX he ?_;rw[hc])
    | with_reducible refine iX o ?_
    | (with_reducible refine pC o ?_;rw[cB])
    | wp_step)
  rw[hd];refine ay ?_;rw[h1];refine ay ?_;rw[ao (by decide)];exact ay (wpAny_raiseNew_none hh hE)
theorem XQ{x:Str}{C:ah}{vI:ai}{np bO pos:Pos}{a:PySem.Expr}{as:List PySem.Expr}{Q:Flow->au->Prop}(U:eY bm)(hh:A.handled=none)
    (qk:starEach (a::as) env=(false,eval a env)::starEach as env) (iP:(backTo bO (starEach as env)).any (·.1)=false)
    (k:wpAny (model prog w) A (eval (.Name x np) env) (fun f s1=>f = .ref C/\wpAny (model prog w) A (spliced (backTo bO (starEach (a::as) env)))
      (fun us s2=>us.length<=sizeLine/\oA s2.heap C bm/\PySem.W.Looks (model prog w) s2.heap (typeLookup (.ref C) "__init__") (some (vI))/\(∀self,PySem.W.Looks (model prog w) s2.heap (bindSpecial (vI) self) (vI,[self]))/\
        ∀h' e,s2.heap.objs.size<=e->Heap.MadeExcOf s2.heap h' e (.ref C) us->wpAny (model prog w) (A.under (.builtin "type.__call__" ⟨.ref C::us,[]⟩)) (call (vI) (.ref e::us))
          (fun r s3=>r = .none/\∃oe vs,oA s3.heap C bm/\s3.heap.get? e=some oe/\oe.cls = .ref C/\oe.data = .fields vs/\vs[1]? = some .none/\E (.ref e) s3) E { s2 with heap:=h' }) E s1) E s) :
    wpAny (model prog w) A (exec (.Raise (some (.Call (.Name x np) (a::as) [] bO)) none pos) env) Q E s:=by
  rw[arm_exec_Raise];simp only[evalOpt,Option.map];refine aj (i6 (XO U hh (aj (cA (wpAny_Call_ofName (cA k (fun f s1 k1=>?_) fun _ _ z=>z)) (fun v s3 k3=>aj (i6 (ay k3))) fun _ _ z=>z))));obtain⟨rfl,k1⟩:=k1;unfold callWith;have any:(backTo bO (starEach (a::as) env)).any (·.1)=false:=by
    rw[qk];show(false||(backTo bO (starEach as env)).any (·.1))=false;rw[iP];rfl
  rw[qk] at k1 ⊢;refine aj (dG (kU (cA k1 (fun us s2 k2=>aj (i6 ?_)) fun _ _ z=>z)));obtain⟨hz,xo,lk,bd,go⟩:=k2;obtain⟨hp,g,d,tk,os⟩:=s2;rw[qk] at any;simp only[any];have XR:=xo;obtain⟨a1,a2,a3,a4,a5,a6,a7,a8,a9,b1,b2,b3,b4,b5,b6,o⟩:=XR;refine aj (wpAny_keeperOf_exc o ?_);refine aj (XN U xo hz lk bd fun h' e hs hm=>cA (go h' e hs hm) (fun r s3 q=>?_) fun _ _ z=>z);obtain⟨r0,oe,vs,q⟩:=q;exact⟨r0,aj (dG (wpAny_point (ay ⟨e,C,oe,vs,rfl,q⟩)))⟩
end
theorem Pc{o:Obj}{vs:Array ai}(h:o.data = .fields vs)(f:Array ai->Array ai):Obj.mapFields f o = { o with data:=.fields (f vs) }:=by
  obtain⟨c,d,dt,sl⟩:=o;cases h;rfl
structure vN(fs:List ah)(e T:ah)(xs:List ah)(oe:Obj)(vs:Array ai)(h h':Heap):Prop where
  keep:∀b o,b≠e->b ∉ fs->b ∉ xs->h.get? b=some o->h'.get? b=some o
  slot:∀b o,b∈fs->h.get? b=some o->∃sl,h'.get? b=some { o with slots:=sl }
  new:h.get? T=none
  exc:h'.get? e=some { oe with data:=.fields (vs.setIfInBounds 1 (.ref T)) }
  ent:∃oT ts,h'.get? T=some oT/\oT.data = .fields ts/\ts[3]? = some .none
section
variable{M:Model}{A:Around}{E:az}{s:au}
theorem gU{base:Heap}{env:Env}{outer:List Env}{L e:ah}{oe:Obj}{vs:Array ai}{head:ai}{nx:Bool}{Q:Unit->au->Prop}
    (iu:A.frames=some (env::outer)) (hl:s.heap.FunFrames base (env::outer)) (hf:env.frame=some L) (he:s.heap.get? e=some oe) (hd:oe.data = .fields vs) (hz:1<vs.size)
    (k:∀h',vN (jh (env::outer)) e s.heap.objs.size [] oe vs s.heap h'->Q () { s with heap:=h' }) :
    wpAny M A (do let a ←frameOf env;let pl ←entryPlaceOf L nx;let b ←EntryCells.newEntry head a .none (rawInt L) .none pl;setField (.ref e) 1 b) (fun _ s'=>wpAny M A (setFlight (.ref e) none) Q E s') E s:=by
  have nf:∀b∈jh (env::outer),∃o,s.heap.get? b=some o/\∀us,o.data≠.fields us:=fun b hb=>(hl.mem hb).2
  have ne:e ∉ jh (env::outer):=fun hm=>by
    obtain⟨o,ho,hn⟩:=nf e hm;rw[he] at ho;cases ho;exact hn vs hd
  refine aj (wpAny_frameOf_fun iu hl hf fun h1 s1=>?_);obtain⟨z1,k1,u1⟩:=s1;refine aj (wpAny_entryPlaceOf fun pl iP=>?_);unfold EntryCells.newEntry newFields;refine aj (eK ?_ (iP.sizeOk5 _ _ _ _ _));have e1:h1.get? e=some oe:=(k1 e ne).trans he;generalize hN:({ cls:=.type "traceback",dict:=none,data:=.fields ([head,.ref L,.none,rawInt L,.none]++(if pl.isEmpty then List.replicate 6 Value.none else pl)).toArray }:Obj)=N;have dN:N.data = .fields ([head,.ref L,.none,rawInt L,.none]++(if pl.isEmpty then List.replicate 6 Value.none else pl)).toArray:=by rw[←hN]
  generalize l6:([head,.ref L,.none,rawInt L,.none]++(if pl.isEmpty then List.replicate 6 Value.none else pl)).toArray=ts at dN;have zt:3<ts.size:=by rw[←l6];simp
  have fN:N.isFreed=false:=j8 dN;have e2:=aY (h:=h1) N e1;refine i0 e2 hd hz ?_;have Te:h1.objs.size≠e:=jS (aJ e1);have e3:=cX (Obj.mapFields (·.setIfInBounds 1 (Value.ref h1.objs.size))) e2 (j8 (jz hd _));rw[Pc hd] at e3;have t3:=(cF (h1.push N) (Obj.mapFields (·.setIfInBounds 1 (Value.ref h1.objs.size))) (aE Te)).trans (bF h1 fN);unfold setFlight;refine aj (eU e3 rfl (x:=.ref h1.objs.size) (by simp[hz]) ?_);rw[av (show(Value.ref h1.objs.size != Value.none)=true from by simp)];refine i0 t3 dN zt (k _ ?_);have t4:=cX (Obj.mapFields (·.setIfInBounds 3 ((none:Option ah).elim Value.none fun f=>rawInt f))) t3 (j8 (jz dN _));have oO:∀b o,b≠e->h1.get? b=some o->(((h1.push N).update e (Obj.mapFields (·.setIfInBounds 1 (Value.ref h1.objs.size)))).update h1.objs.size (Obj.mapFields (·.setIfInBounds 3 ((none:Option ah).elim Value.none fun f=>rawInt f)))).get? b=some o:=fun b o hb q=>by
    rw[cF _ _ (jS (aJ q)),cF _ _ (aE hb)];exact aY _ q
  refine⟨fun b o hb hn _ q=>oO b o hb ((k1 b hn).trans q),fun b o hb q=>?_,lV (aG _),?_,?_⟩
  · obtain⟨sl,q1⟩:=u1 b o q;exact⟨sl,oO b _ (fun z=>ne (z▸hb)) q1⟩
  · rw[cF _ _ Te,e3,z1]
  · rw[←z1];exact⟨_,_,t4,jz dN _,by simp[zt]⟩
theorem XS{base:Heap}{env:Env}{outer:List Env}{L e:ah}{oe:Obj}{vs:Array ai}{Q:Unit->au->Prop}
    (iu:A.frames=some (env::outer)) (hl:s.heap.FunFrames base (env::outer)) (hf:env.frame=some L) (he:s.heap.get? e=some oe) (hd:oe.data = .fields vs) (h1:vs[1]? = some .none)
    (k:∀h',vN (jh (env::outer)) e s.heap.objs.size [] oe vs s.heap h'->Q () { s with heap:=h' }):wpAny M A (leaving env (.ref e)) Q E s:=by
  unfold leaving noteFrame;simp only[hf];refine aj (aj (eU he hd h1 ?_));rw[ao (by decide)];exact gU iu hl hf he hd (gJ.mp h1).1 k
theorem XT{base:Heap}{env:Env}{outer:List Env}{L e T:ah}{oe oT:Obj}{vs ts:Array ai}{Q:Unit->au->Prop}
    (iu:A.frames=some (env::outer)) (hl:s.heap.FunFrames base (env::outer)) (hf:env.frame=some L) (he:s.heap.get? e=some oe) (hd:oe.data = .fields vs) (h1:vs[1]? = some (.ref T))
    (hT:s.heap.get? T=some oT) (dT:oT.data = .fields ts) (h3:ts[3]? = some .none) (ne:T≠e)
    (k:∀h',vN (jh (env::outer)) e s.heap.objs.size [T] oe vs s.heap h'->Q () { s with heap:=h' }):wpAny M A (leaving env (.ref e)) Q E s:=by
  unfold leaving noteFrame;simp only[hf];refine aj (aj (eU he hd h1 ?_));rw[av (show(Value.ref T != Value.none)=true from by simp)];refine aj (eU hT dT h3 ?_);rw[ao (show ¬((Value.none == rawInt L)=true) from by simp[rawInt])];have z3:=(gJ.mp h3).1;refine aj (i0 hT dT z3 ?_);have oO:∀b,b≠T->(s.heap.update T (Obj.mapFields (·.setIfInBounds 3 Value.none))).get? b=s.heap.get? b:=fun b hb=>cF _ _ (aE hb)
  have self:=cX (Obj.mapFields (·.setIfInBounds 3 Value.none)) hT (j8 (jz dT _));have nf:T ∉ jh (env::outer):=fun hm=>by
    obtain⟨_,o,ho,hn⟩:=hl.mem hm;rw[hT] at ho;cases ho;exact hn ts dT
  have sz:(s.heap.update T (Obj.mapFields (·.setIfInBounds 3 Value.none))).objs.size=s.heap.objs.size:=Heap.size_after_update ..;refine gU (s:={ s with heap:=s.heap.update T (Obj.mapFields (·.setIfInBounds 3 Value.none)) }) iu (hl.of_keeps fun b o hb hn=>⟨o,(oO b fun z=>?_).trans hb,rfl⟩) hf ((oO e ne.symm).trans he) hd (gJ.mp h1).1 fun h' G=>?_
  · subst z;rw[hT] at hb;cases hb;exact hn ts dT
  · have e1:(s.heap.update T (Obj.mapFields (·.setIfInBounds 3 Value.none))).objs.size=s.heap.objs.size:=sz;have G:=G;dsimp only at G;rw[e1] at G;refine k h' ⟨fun b o hb hn hx q=>G.keep b o hb hn (by simp) ((oO b fun z=>hx (by simp[z])).trans q),fun b o hb q=>G.slot b o hb ((oO b fun z=>nf (z▸hb)).trans q),lV (aG _),G.exc,G.ent⟩
end
def Pd(H:Hp)(h0 h:Heap)(e:ah)(cls:ai)(dc:Option ah):Prop:=
  ∃(oe:Obj)(vs:Array ai)(T:ah)(oT:Obj)(ts:Array ai),h.get? e=some oe/\oe.cls=cls/\oe.dict=dc/\oe.data = .fields vs/\vs[1]? = some (.ref T)/\T≠e/\h.get? T=some oT/\oT.data = .fields ts/\ts[3]? = some .none/\
    H e=none/\H T=none/\h0.objs.size<=e/\h0.objs.size<=T
def XU(H:Hp)(h0 h:Heap)(e:ah)(cls:ai)(dc:Option ah):Prop:=
  ∃(oe:Obj)(vs:Array ai),h.get? e=some oe/\oe.cls=cls/\oe.dict=dc/\oe.data = .fields vs/\vs[1]? = some .none/\H e=none/\h0.objs.size<=e
def yj(P:aU)(w:World):qG:=fun outer H s E u s'=>∃(e:ah)(cls:ai)(dc:Option ah)(H':Hp),u = .ref e/\s'.os=s.os/\AllBare s'.gens/\Un (jh outer) [] H H' s.heap s'.heap/\jF P w H' s'.heap/\
  Pd H' s.heap s'.heap e cls dc/\E cls dc H'
def oB(X:Cx)(E:XK):Prop:=X.xe=(fun u s'=>wpAny (model X.prog X.w) X.A (leaving X.env u) (fun _ wU=>yj X.prog X.w X.outer X.nE X.cY E u wU) (fun u' wU=>yj X.prog X.w X.outer X.nE X.cY E u' wU) s')/\
  X.stack=X.env::X.outer/\X.env.frame=some X.env.locals/\X.ex = []
theorem jk{P:aU}{w:World}{K:aF}{mg:Str->Option ai}{base:Heap}{N:List Str}{qual:Str}{scope:Scope}{f:ah}{cd:ai}{A:Around}{outer:List Env}{s:au}{H:Hp}{E:XK} :
    oB (nI (yj P w) P w K mg base N qual scope f cd A outer s H E) E:=⟨rfl,rfl,rfl,rfl⟩
section
variable{X:Cx}{pins:aD}{σ:St}{H:Hp}{s:au}{E:XK}{e:ah}{cls:ai}{dc:Option ah}
theorem Pe{h':Heap}{T:ah}{xs:List ah}{oe:Obj}{vs:Array ai}(I:Inv X pins σ H s)(x:oB X E)(G:vN (jh (X.env::X.outer)) e T xs oe vs s.heap h')(hc:oe.cls=cls)(vO:oe.dict=dc)(hz:1<vs.size)
    (He:H e=none) (nz:X.cY.heap.objs.size<=e) (Pf:∀b∈xs,H b=none/\X.cY.heap.objs.size<=b) (yk:T≠e) (hsz:s.heap.objs.size<=T) (hE:E cls dc H) :
    yj X.prog X.w X.outer X.nE X.cY E (.ref e) { s with heap:=h' }:=by
  obtain⟨x1,x2,x3,x4⟩:=x;have ne:X.cY.heap.get? e=none:=lV nz;have hx:∀b∈xs,H b=none/\X.cY.heap.get? b=none:=fun b hb=>⟨(Pf b hb).1,lV (Pf b hb).2⟩
  have nL:∀b o,X.cY.heap.get? b=some o->b≠X.env.locals:=fun b o q z=>absurd (aJ q) (Nat.not_lt.mpr (z▸I.ok.above))
  have fr:∀b,b∈jh (X.env::X.outer)->b=X.env.locals\/b∈jh X.outer:=fun b hb=>by
    unfold jh at hb;rw[kX,x3] at hb;exact aO.mp hb
  have XW:∀b,b∈jh X.outer->b∈jh (X.env::X.outer):=fun b hb=>by
    unfold jh;rw[kX,x3];exact bE _ hb
  have yl:∀b o,X.cY.heap.get? b=some o->b≠e/\b ∉ xs:=fun b o q=>⟨fun z=>(by rw[z,ne] at q;cases q),fun z=>(by rw[(hx b z).2] at q;cases q)⟩
  have HT:H T=none:=I.aZ.fresh hsz;have sf:∀b∈jh (X.env::X.outer),H b=none:=by
    have:=I.ki;rw[x2] at this;exact this
  refine⟨e,cls,dc,H,rfl,I.os,I.bare,?_,?_,?_,hE⟩
  · refine⟨fun b o q n nf _=>?_,fun b o q n nf _=>?_,fun b o q n _=>I.base.free b o q n (by rw[x4];simp),fun b o q _=>?_,I.base.l7,I.base.kg,I.base.l8⟩
    · exact G.keep b o (yl b o q).1 (fun z=>(fr b z).elim (nL b o q) nf) (yl b o q).2 (I.base.keep b o q n nf (by rw[x4];simp))
    · obtain⟨sl,z⟩:=I.base.slot b o q n nf (by rw[x4];simp);obtain⟨IC,z'⟩:=G.slot b _ (XW b nf) z;exact⟨IC,z'⟩
    · obtain⟨o',z⟩:=I.base.there b o q (by rw[x4];simp)
      by_cases hb:b∈jh (X.env::X.outer)
      · obtain⟨sl,z'⟩:=G.slot b _ hb z;exact⟨_,z'⟩
      · exact⟨_,G.keep b _ (yl b o q).1 hb (yl b o q).2 z⟩
  · intro a o q;refine(I.aZ a o q).cP (fun b u hb z=>?_) (fun _ z=>z) fun _ _ z=>z
    have Hb:H b≠none:=by
      rcases hb with z | z
      · rw[z,q];simp
      · rw[z];simp
    exact G.keep b u (fun z=>Hb (z▸He)) (fun z=>Hb (sf b z)) (fun z=>Hb (hx b z).1) z
  · obtain⟨oT,ts,t1,t2,t3⟩:=G.ent;refine⟨_,_,T,oT,ts,G.exc,hc,vO,rfl,by simp[hz],yk,t1,t2,t3,He,HT,nz,bH I.sz hsz⟩
theorem XX(I:Inv X pins σ H s)(x:oB X E)(r:XU H X.cY.heap s.heap e cls dc)(hE:E cls dc H):X.xe (.ref e) s:=by
  obtain⟨oe,vs,he,hc,vO,hd,h1,He,ne⟩:=r;have x':=x;obtain⟨x1,x2,x3,x4⟩:=x';rw[x1];have fr:=I.ok.frames;have st:=I.stack;rw[x2] at fr st;exact XS fr st x3 he hd h1 fun h' G=>Pe I x G hc vO (gJ.mp h1).1 He ne (fun b hb=>absurd hb (by simp)) (jS (aJ he)) (aG _) hE
theorem XY(I:Inv X pins σ H s)(x:oB X E)(r:Pd H X.cY.heap s.heap e cls dc)(hE:E cls dc H):X.xe (.ref e) s:=by
  obtain⟨oe,vs,T,oT,ts,he,hc,vO,hd,h1,yk,hT,dT,h3,He,HT,ne,nT⟩:=r;have x':=x;obtain⟨x1,x2,x3,x4⟩:=x';rw[x1];have fr:=I.ok.frames;have st:=I.stack;rw[x2] at fr st;refine XT fr st x3 he hd h1 hT dT h3 yk fun h' G=>Pe I x G hc vO (gJ.mp h1).1 He ne (fun b hb=>?_) (jS (aJ he)) (aG _) hE
  rw[iT] at hb;subst hb;exact⟨HT,nT⟩
theorem XZ(x:oB X E):xN (yj X.prog X.w) X E:=by
  intro pins σ H s u s' I h;obtain⟨e,cls,dc,H',rfl,os,bare,un,aZ,fl,hE⟩:=h;have I':=I.qg os un aZ bare (ch:=[]) (fun b z=>absurd z (by simp));obtain⟨oe,vs,T,oT,ts,he,hc,vO,hd,h1,yk,hT,dT,h3,He,HT,ne,nT⟩:=fl;exact XY I' x ⟨oe,vs,T,oT,ts,he,hc,vO,hd,h1,yk,hT,dT,h3,He,HT,bH I.sz ne,bH I.sz nT⟩ hE
theorem oB.own(x:oB X E):PassesOwn (model X.prog X.w) X.A X.env X.xe:=by
  rw[x.1];exact PassesOwn.leaving
end
def lU(P:aU)(w:World)(K:aF)(mg:Str->Option ai)(base:Heap)(x:Str)(ps:List Str)(k:Nat)(sp:Sp):Prop:=
  ∃(f:ah)(fd:FuncData),mg x=some (.ref f)/\PySem.W.keepIn K (.ref f)=true/\(∃oc od l9,K.lookup f=some ⟨oc,od,.func fd,l9⟩)/\(∀us:List ai,us.length=ps.length->bindArgs fd ⟨us,[]⟩=pure (ps.zip us))/\jq P w K mg base (yj P w) k f fd ps sp
section
variable{P:aU}{w:World}{K:aF}{mg:Str->Option ai}{base:Heap}
theorem Df.ym{x:Str}{st:Stmt}{N ps:List Str}{k:Nat}{sp:Sp}(D:Df K mg x st ps)(S:aC N ps (zm st))(len:∀vs H Q E,sp vs H Q E->vs.length=ps.length)
    (body:∀(f:ah)(bY:ai)(A:Around)(outer:List Env)(s:au)(H:Hp)(vs:List V)(Q:VK)(E:XK),cD k (A.deeper (envOfC x (zm st) s.heap.objs.size f bY))->sp vs H Q E->
      ∃t,pO (nI (yj P w) P w K mg base N x (zm st) f bY A outer s H E) (tG st) t/\t { nx:=fun _ H'=>Q .cu H',rt:=Q } (start N vs) H):lU P w K mg base x ps (k+1) sp:=by
  obtain⟨f,fd,F,a,b⟩:=D;obtain⟨oc,od,kV,doc,pm,an,bY,ct,l9,e,lk,qh⟩:=id F.ex;subst e;exact⟨f,_,a,F.kp,⟨oc,od,l9,lk⟩,b,M6 lk qh S len (body f bY)⟩
end
section
variable{X:Cx}{k:Nat}{ps:List Str}{sp:Sp}{E:XK}{C:ah}{m x:Str}{p pos apos:Pos}{o e:Expr}{es:List Expr}{t:TA}{ta:TE}
theorem KW(F:lU X.prog X.w X.K X.mg X.base x ps k sp)(xe:oB X E)(hr:cD k X.A)(hg:Gl X x)(ha:PA X (e::es) t)(jT:(x == ("__debug__" : Str))=false:=by decide)
    (he:starEach (e::es) X.env=(false,eval e X.env)::starEach es X.env:=by rfl) (iP:(backTo pos (starEach es X.env)).any (·.1)=false:=by rfl):PE X (.Call (.Name x p) (e::es) [] pos) (Gm sp [] E t):=by
  obtain⟨f,fd,a,kp,_,b,G⟩:=F;exact MX G hr hg a kp (.all b) .nil (XZ xe) ha jT he iP
end
section
variable{prog:aU}{w:World}{A:Around}{E:az}{h:Heap}{g:Array GenState}{d:Drawn}{t:Nat}{os:OsState}{C:ah}{bm:List ai}
theorem X0{M:Model}{Q:Unit->au->Prop}{e:ah}{oe:Obj}{us:List ai}(U:eY bm)(x:oA h C bm)(he:h.get? e=some oe)(hc:oe.cls = .ref C)(k:Q () { heap:=h,gens:=g,drawn:=d,toks:=t,os:=os }) :
    wpAny M A (checkBuiltinCall "ValueError.__init__" ⟨.ref e::us,[]⟩) Q E { heap:=h,gens:=g,drawn:=d,toks:=t,os:=os }:=by
  obtain⟨a1,a2,a3,a4,a5,a6,a7,a8,a9,b1,b2,b3,b4,b5,b6,o⟩:=x;have F:=PySem.F.excBase_ValueError;have c1:=EK (C:=C) U.v;have hs:=F.noStar;simp only[checkBuiltinCall,F.initKind,F.initSplit,F.initRow]
  repeat (first
    | (with_reducible refine iX he ?_;rw[hc])
    | with_reducible refine iX o ?_
    | (with_reducible refine pC o ?_;rw[c1])
    | wp_step)
  refine wpAny_onRaise ?_;have st:∀(a b:String)(n:Nat),Bind.check ⟨.positional,"*","ValueError",.self,[⟨"args",.varPos,false⟩]⟩ a b n (List.map (fun x=>x.fst) ({ pos:=Value.ref e::us }:Args).kw)=pure ():=fun a b n=>check_star_args _ _ _ _ _ _
  rw[st];exact ay k
theorem X3{Q:az}{e t0:ah}{oe:Obj}{vs:Array ai}{us:List ai}(U:eY bm)(x:oA h C bm)(hz:us.length<=sizeLine)(he:h.get? e=some oe)(hc:oe.cls = .ref C)(hd:oe.data = .fields vs)(h0:vs[0]? = some (.ref t0))
    (k:∀h',(∀b o,b≠e->h.get? b=some o->h'.get? b=some o)->h'.get? e=some { oe with data:=.fields (vs.setIfInBounds 0 (.ref h.objs.size)) }->Q .none { heap:=h',gens:=g,drawn:=d,toks:=t,os:=os }) :
    wpAny (model prog w) A (call (.builtin "ValueError.__init__") (.ref e::us)) Q E { heap:=h,gens:=g,drawn:=d,toks:=t,os:=os }:=by
  have F:=PySem.F.excBase_ValueError;refine gw (mU F.init.plain F.initEntry (X0 U x he hc ?_));unfold Builtin.«BaseException.__init__»
  wp_walk
  rw[hd];refine ay ?_;rw[h0];refine ay (aj ?_);have Hx:=aY (h:=h) { cls:=.type "tuple",data:=.seq us.toArray } he;have z0:=(gJ.mp h0).1;refine i0 Hx hd z0 ?_;have e3:=cX (Obj.mapFields (·.setIfInBounds 0 (Value.ref h.objs.size))) Hx (j8 (jz hd _));rw[Pc hd] at e3;have go:=k _ (fun b o hb q=>(cF _ _ (aE hb)).trans (aY _ q)) e3
  wp_walk
  exact go
end
def xq:List ai->Bool
  | [.type a,.type b,.type c,.type d]=>a == "ValueError" && (b == "Exception" && (c == "BaseException" && d == "object"))
  | .ref _::r=>xq r
  | _=>false
theorem Pg:∀{l:List ai},xq l=true->l = [.type "ValueError",.type "Exception",.type "BaseException",.type "object"]\/∃c r,l = .ref c::r/\xq r=true
  | [.type a,.type b,.type c,.type d],e=>by
    simp only[xq,gb,gx] at e;obtain⟨rfl,rfl,rfl,rfl⟩:=e;exact .inl rfl
  | .ref c::r,e=>.inr ⟨c,r,rfl,by unfold xq at e;exact e⟩
theorem Ph(self:ai):∀{l:List ai},xq l=true->refuseLoop self "__setattr__" l=pure ()
  | [],e=>by cases e
  | v::r,e=>by
    rcases Pg e with h | ⟨c,r',h,e'⟩
    · rw[h];exact PySem.F.store_ValueError.passes self
    · cases h;rw[refuseLoop_ref];exact Ph self e'
theorem Pj:∀{l:List ai},xq l=true->l.contains (.type "object")=true
  | [],e=>by cases e
  | v::r,e=>by
    rcases Pg e with h | ⟨c,r',h,e'⟩
    · rw[h];decide +kernel
    · cases h;rw[List.contains_cons,Pj e',Bool.or_true]
def KY(K:aF)(C:ah):Bool:=(PySem.W.clsIn K C).any fun cd=>xq cd.mro
structure tR(K:aF)(C:ah):Prop where
  hd:PySem.W.hasDictIn K C=true
  po:KY K C=true
  sa:PySem.W.findIn K (.ref C) "__setattr__" = some (some (.builtin "object.__setattr__"))
section
variable{prog:aU}{w:World}{A:Around}{E:az}{R:Result->au->Prop}{s:au}{K:aF}{x C:ah}{name:Str}{v:ai}
theorem X4{ox:Obj}{od:Option Obj}{tk:Tok}{r:Option ai}(X:K.In s.heap)(I:PySem.W.InstAt s.heap x ox C od)(hp:(PySem.W.clsIn K C).any (fun cd=>xq cd.mro)=true)(ht:PySem.W.takerIn K C name=some r)
    (h:∀b,wpAny (model prog w) A.in1 (match r with | some a=>Builtin.ObjectAttr.setByDescriptor a (.ref x) v | none=>Builtin.ObjectAttr.storeInOwnDict (.ref x) (.ref C) (.str name tk) name v b)
      (fun fin s'=>match fin with | .done f=>R (.ok f) s' | .again c'=>c'.quiet=true/\codeAny (model prog w) A c' R s') (fun e s'=>R (.error e) s') s) :
    codeAny (model prog w) A (.call (.builtin "object.__setattr__") ⟨[.ref x,.str name tk,v],[]⟩) R s:=by
  have SF:=PySem.F.store_object;obtain⟨cd,hc,ho⟩:=PySem.W.any_some hp;have ne:cd.mro.isEmpty=false:=by cases q:cd.mro with | nil=>rw[q] at ho;cases ho | cons _ _=>rfl
  have sub:PySem.W.Looks (model prog w) s.heap (isInstance (.ref x) (.type "object")) true:=I.type.andThen (PySem.W.looks_mroIn X (by unfold PySem.W.mroIn;rw[hc,Option.bind_some,ao (by rw[ne];decide),Pj ho]));refine mU SF.slot.plain SF.entry (@PySem.W.check_slot (model prog w) _ _ s "object.__setattr__" "object" "__setattr__" (.ref x) [.str name tk,v] [] _ SF.kind SF.split sub (SF.args (.ref x) (.str name tk) v) ?_);obtain⟨attr,ha,hr⟩:=Option.bind_eq_some_iff.mp ht;have hm:PySem.W.Looks (model prog w) s.heap (mroOf (.ref C)) cd.mro:=(PySem.W.looks_clsIn X hc).andThen .now;have L3:PySem.W.Looks (model prog w) s.heap (Builtin.ObjectAttr.storeTaker? attr) r:=by
    cases attr with
    | none=>cases hr;exact .now
    | some a=>
      obtain⟨b,hb,rfl⟩:=Option.map_eq_some_iff.mp hr;refine(PySem.W.looks_takesIn X hb).andThen ?_;cases b<;>exact .now
  rw[PySem.W.osa_eq,refuse_eq];refine aj (aj (I.type.here (aj (hm.here ?_))));rw[Ph _ ho];refine ay (aj (I.type.here (aj ((PySem.W.looks_findIn X ha).here (aj (L3.here ?_))))));exact h _
theorem KZ{oe:Obj}{vs:Array ai}{Q:Unit->au->Prop}(X:K.In s.heap)(he:s.heap.get? x=some oe)(zB:oe.cls = .ref C)(K0:oe.dict=none)(A6:oe.data = .fields vs)(c:tR K C)(ht:PySem.W.takerIn K C name=some none)
    (h:∀h' tk,(∀b o,b≠x->s.heap.get? b=some o->h'.get? b=some o)->h'.get? x=some { oe with dict:=some s.heap.objs.size }->h'.Ns1 s.heap.objs.size (fun y=>if y=name then some v else none)->Q () { s with heap:=h',toks:=tk }) :
    wpAny (model prog w) A (setAttr (.ref x) name v) Q E s:=by
  have J:PySem.W.InstAt s.heap x oe C none:=⟨he,zB,by unfold PySem.W.notCls;rw[A6],by rw[K0];trivial⟩;refine PySem.W.set_plain X J c.sa (X4 (s:={ s with toks:=s.toks+1 }) (r:=none) X J c.po ht fun b=>?_);obtain⟨cd,hc,pY⟩:=PySem.W.any_some c.hd;obtain⟨oc,od,odt,l9⟩:=oe;dsimp only at zB K0 A6;subst zB K0 A6;refine aj (ay (aj (aj (wpAny_loadPart he (aj (PySem.W.Looks.here (s:={ s with toks:=s.toks+1 }) (PySem.W.looks_clsIn X hc) ?_))))));rw[pY];have zJ:(s.heap.push { cls:=.type "dict",data:=.dict #[] }).get? x=some { cls:=Value.ref C,data:=Data.fields vs,slots:=l9 }:=aY _ he;have Pk:x≠s.heap.objs.size:=aX (aJ he);rw[ao (by decide)];show wpAny (model prog w) _ (if(!true || !typeHasDict (Value.ref C))=true then pure none else _) _ _ _;rw[ao (by simp[typeHasDict])];refine aj (wpAny_alloc' ?_);refine aj (wpAny_update' zJ ?_);refine ay ?_;have X5:((s.heap.push { cls:=.type "dict",data:=.dict #[] }).update x fun o=>{ cls:=o.cls,dict:=some s.heap.objs.size,data:=o.data,slots:=o.slots }).get? s.heap.objs.size
      = some { cls:=.type "dict",data:=.dict #[] }:=
    (Heap.get?_update_ne _ _ _ _ Pk.symm).trans (Heap.get?_push_at rfl rfl)
  have X6:((s.heap.push { cls:=.type "dict",data:=.dict #[] }).update x fun o=>{ cls:=o.cls,dict:=some s.heap.objs.size,data:=o.data,slots:=o.slots }).Ns s.heap.objs.size (fun _=>none):=
    ⟨_,#[],_,X5,rfl,fun e he=>absurd he (by simp),fun _=>rfl⟩
  show wpAny _ _ (Builtin.ObjectAttr.storeInDict s.heap.objs.size (.str name s.toks) name v) _ _ _;unfold Builtin.ObjectAttr.storeInDict Builtin.ObjectAttr.newKeyGuard;refine aj (ay (aj (wpAny_nsSet1 (Heap.Ns1.of_empty X6) fun h' BL hs=>?_)));obtain⟨oD,Tw,Tz,Jd,Je,Jf⟩:=BL.count (Within.cons name v Within.nil);refine aj (wpAny_lookBehind Jd (by rw[Je];exact pastItsLine_dict (bH Jf (by rw[fK,List.length_nil,d8];lia))) ?_);refine ay (h h' _ (fun b o hb q=>?_) ?_ BL)
  · exact(hs.2 b (aX (aJ q))).trans ((Heap.get?_update_ne _ _ _ _ hb).trans (aY _ q))
  · exact(hs.2 x Pk).trans (cX _ zJ rfl)
end
def gC(e C:ah)(dc:Option ah):HO:=.ext fun h=>∃oe vs t0,h.get? e=some oe/\oe.cls = .ref C/\oe.dict=dc/\oe.data = .fields vs/\vs[0]? = some (.ref t0)/\vs[1]? = some .none
section
variable{X:Cx}{pins:aD}{σ:St}{H:Hp}{s:au}{a C:ah}{dc:Option ah}{f:Str}{A:Around}{E:az}
theorem K1{P:aU}{w:World}{h:Heap}{oe:Obj}{vs:Array ai}{t0:ah}(h1:h.get? a=some oe)(h2:oe.cls = .ref C)(h3:oe.dict=dc)(h4:oe.data = .fields vs)(h5:vs[0]? = some (.ref t0))(h6:vs[1]? = some .none):cI P w H h a (gC a C dc):=
  ⟨⟨oe,vs,t0,h1,h2,h3,h4,h5,h6⟩,⟨oe,h1⟩,fun g1 g2 ⟨X7,Hy,X8,q1,q2⟩ k=>⟨X7,Hy,X8,k _ q1,q2⟩⟩
theorem Yb{y:V}{u:ai}{Q:Unit->au->Prop}(I:Inv X pins σ H s)(e:H a=some (gC a C none))(c:tR X.K C)(n:cJ X.K C f)(ry:RelV y u)
    (h:∀d s',H d=none->Inv X pins σ (upd (upd H d (.xd [(f,y)])) a (gC a C (some d))) s'->Q () s'):wpAny (model X.prog X.w) A (setAttr (.ref a) f u) Q E s:=by
  obtain⟨⟨oe,vs,t0,h1,h2,h3,h4,h5,h6⟩,_,_⟩:=(show cI X.prog X.w H s.heap a (gC a C none) from I.aZ a _ e);refine KZ I.lY h1 h2 h3 h4 c n.yY fun h' tk k hx GA=>?_
  have hd:=I.aZ.fresh (aG s.heap.objs.size);have mF:s.heap.objs.size≠a:=jS (aJ h1);have fr:oe.isFreed=false:=j8 h4;have u1:(h'.update a fun _=>oe).get? a=some oe:=cX _ hx fr;have u2:∀b,b≠a->(h'.update a fun _=>oe).get? b=h'.get? b:=fun b hb=>cF _ _ (aE hb)
  have I1:=I.laid (a:=s.heap.objs.size) (o:=.xd [(f,y)]) (h':=h'.update a fun _=>oe) (t':=tk) (fun b o q=>by
    by_cases hb:b=a
    · subst hb;rw[h1] at q;cases q;exact u1
    · rw[u2 b hb];exact k b o hb q) (aG _) ⟨_,GA.at fun o q=>by rw[u2 _ mF];exact q,fun g=>by
        by_cases hg:g=f
        · rw[av hg];subst hg;rw[List.lookup_cons,qY];exact ry
        · rw[ao hg,List.lookup_cons,f9.mpr hg];exact True.intro⟩
  have I2:=I1.write (x:=a) (e:=a) (o:=gC a C (some s.heap.objs.size)) (h':=h') (t':=tk) (by rw[ze mF.symm,e];exact True.intro) (.inl rfl) (fun b o hb q=>by rw[u2 b hb] at q;exact q) ⟨_,hx⟩ (K1 hx h2 rfl h4 h5 h6);exact h _ _ hd I2
end
structure zK(K:aF)(D:ah):Prop where
  rd:PySem.W.readsIn K D (.type "type")=true
  ga:PySem.W.specialIn K (.ref D) "__getattribute__" = some (some (.builtin "type.__getattribute__"))
  fc:PySem.W.findCls K (.ref D) (.type "type") "__init__" = some (.val (.builtin "ValueError.__init__"))
def oS(K:aF)(C:ah)(bm:List ai):Prop:=∃nm q N bs A4 sn sub ab col dd k0 k1 k2 k3 k5,K.lookup C=some (excClassObj nm q C N bs bm A4 sn sub ab col dd k0 k1 k2 k3 k5 "ValueError.__new__")
theorem oS.in{K:aF}{C:ah}{bm:List ai}{h:Heap}(x:oS K C bm)(X:K.In h):oA h C bm:=by
  obtain⟨a1,a2,a3,a4,a5,a6,a7,a8,a9,b1,b2,b3,b4,b5,b6,e⟩:=x;exact⟨a1,a2,a3,a4,a5,a6,a7,a8,a9,b1,b2,b3,b4,b5,b6,X _ _ e⟩
def Yc(K:aF)(t:TA):TE:=fun σ H Q=>t σ H fun xs H1=>∃a C dc bm rest,xs = .ref a::rest/\H1 a=some (gC a C dc)/\oS K C bm/\eY bm/\rest.length<=sizeLine/\Q .cu H1
def Yd(K:aF)(ta tv:TE)(f:Str):TS:=fun D σ H=>tv σ H fun y H1=>ta σ H1 fun x H2=>∃a C,x = .ref a/\H2 a=some (gC a C none)/\tR K C/\cJ K C f/\
  ∀d,H2 d=none->D.nx σ (upd (upd H2 d (.xd [(f,y)])) a (gC a C (some d)))
theorem Ye{H:Hp}{a:ah}{o:HO}(h:H a=some o):upd H a o=H:=by
  funext b;unfold upd
  by_cases e:b=a
  · rw[av e,e,h]
  · rw[ao e]
section
variable{X:Cx}{o e value:Expr}{es:List Expr}{x f:Str}{p pos pos' apos:Pos}{ta tv:TE}{t:TA}{D:ah}
theorem Pn(ha:PE X o ta)(hv:PE X value tv)(hs:swapsWith value (some (.Attribute o f pos')) pos.line X.env=pure false):PS X (.Assign [.Attribute o f pos'] value pos) (Yd X.K ta tv f):=by
  intro pins s σ H D I h;refine plainObj_wpAny_Assign_Attribute (bK (hv pins s σ H _ I h) fun u s1 ⟨y,H1,I1,ry,q⟩=>bK (ha pins s1 σ H1 _ I1 q) fun ov s2 aQ=>?_) hs;obtain⟨x,H2,I2,rx,a,C,ex,ea,c,n,q2⟩:=aQ;subst ex;obtain rfl:ov=Value.ref a:=rx;exact Yb I2 ea c n ry fun d s3 hd I3=>⟨σ,_,I3,q2 d hd⟩
theorem Yg{pins:aD}{s:au}{σ:St}{H:Hp}{a C:ah}{dc:Option ah}{bm:List ai}{us:List ai}{Q:VK}(I:Inv X pins σ H s)(e:H a=some (gC a C dc))(xo:oS X.K C bm)(U:eY bm)(hz:us.length<=sizeLine)(q:Q .cu H) :
    wpAny (model X.prog X.w) X.A (call (.builtin "ValueError.__init__") (.ref a::us)) (EP X pins σ Q) X.xe s:=by
  obtain⟨⟨oe,vs,t0,h1,h2,h3,h4,h5,h6⟩,_,_⟩:=(show cI X.prog X.w H s.heap a (gC a C dc) from I.aZ a _ e);obtain⟨hp,g,d,tk,os⟩:=s;refine X3 U (xo.in I.lY) hz h1 h2 h4 h5 fun h' k hx=>?_
  have z0:=(gJ.mp h5).1;have I2:=I.write (x:=a) (e:=a) (o:=gC a C dc) (h':=h') (t':=tk) (by rw[e];exact True.intro) (.inl rfl) (fun b o hb z=>k b o hb z) ⟨_,hx⟩ (K1 (t0:=hp.objs.size) hx h2 h3 rfl (by simp[z0]) (by rw[Array.getElem?_setIfInBounds_ne (by decide)];exact h6));rw[Ye e] at I2;exact⟨.cu,H,I2,rfl,q⟩
theorem Po{pl:Sem Bool}(hg:Gl X x)(hm:X.mg x=some (.ref D))(b:zK X.K D)(ha:PA X (e::es) t)(jT:(x == ("__debug__" : Str))=false:=by decide)
    (qk:starEach (e::es) X.env=(false,eval e X.env)::starEach es X.env:=by rfl) (iP:(backTo pos (starEach es X.env)).any (·.1)=false:=by rfl)
    (ht:eval (.Call (.Attribute (.Name x p) "__init__" apos) (e::es) [] pos) X.env=(do
      let ov ←eval (.Name x p) X.env
      standAt apos.atName
      let (f,first) ←holding [ov] (getMethod ov "__init__" pl)
      callWith pos f first (backTo pos (starEach (e::es) X.env)) (backToKw pos (keywordEach [] X.env))):=by rfl) :
    PE X (.Call (.Attribute (.Name x p) "__init__" apos) (e::es) [] pos) (Yc X.K t):=by
  intro pins s σ H Q I h;refine PySem.W.methodCall_KW (pl:=pl) (BN I hg hm ?_ jT) ht;refine PySem.W.method_cls I.lY b.ga (PySem.W.cls_value I.lY b.rd b.fc (by decide +kernel) ?_);have hA:=ha pos pins _ σ H _ (I.tok (s.toks+1)) h;rw[qk] at hA ⊢;refine oJ (by show(false||(backTo pos (starEach es X.env)).any (·.1))=false;rw[iP]<;>rfl) (kU ?_);refine bK hA fun us s2 aQ=>?_
  obtain⟨vs,H2,I2,r2,a,C,dc,bm,rest,ev,ea,xo,U,hz,q⟩:=aQ;subst ev;cases r2 with
  | cons r1 r2=>
    cases r1;exact Yg I2 ea xo U (by rw[←r2.length];exact hz) q
end
def del(H:Hp)(e:ah):Hp:=fun b=>if b=e then none else H b
theorem K2{H:Hp}{e:ah}:del H e e=none:=by unfold del;rw[av rfl]
theorem A7{H:Hp}{e b:ah}(h:b≠e):del H e b=H b:=by unfold del;rw[ao h]
structure Yh(K:aF)(C f:ah)(bm:List ai):Prop where
  obj:oS K C bm
  un:eY bm
  init:PySem.W.findIn K (.ref C) "__init__" = some (some (.ref f))
  fn:PySem.W.isFn K (.ref f)=true
section
variable{X:Cx}{pins:aD}{σ:St}{H:Hp}{s:au}
theorem Inv.drop{e:ah}{φ:Heap->Prop}(I:Inv X pins σ H s)(he:H e=some (.ext φ)):Inv X pins σ (del H e) s:=by
  refine I.un (h':=s.heap) (t':=s.toks) ⟨fun _ _ q _ _ _=>q,fun b o q _ _ _=>⟨o.slots,q⟩,fun b o _ n _=>?_,fun b o q _=>⟨o,q⟩,fun b xs q=>?_,fun b o u q=>?_,fun b ps q=>⟨#[],?_⟩⟩ fun a o q=>?_
  · by_cases z:b=e
    · rw[z];exact K2
    · rw[A7 z];exact n
  · rw[A7 (fun z=>by rw[z,he] at q;cases q)];exact q
  · rw[A7 (fun z=>by rw[z,he] at q;cases q)];exact q
  · rw[A7 (fun z=>by rw[z,he] at q;cases q),Array.append_empty];exact q
  · have na:a≠e:=fun z=>by rw[z,K2] at q;cases q
    rw[A7 na] at q;refine(I.aZ a o q).cP (fun _ _ _ z=>z) (fun b z=>?_) fun b xs z=>?_
    · rw[A7 (fun w=>by rw[w,he] at z;cases z)];exact z
    · rw[A7 (fun w=>by rw[w,he] at z;cases z)];exact z
end
def Pp(C:ah)(sp:Sp)(kq:List V)(E E1:XK)(t:TA):TS:=fun _ σ H=>t σ H fun vs H1=>∀e,H1 e=none->sp (.ref e::(vs++kq)) (upd H1 e (gC e C none)) (fun v H2=>v = .cu/\∃dc,H2 e=some (gC e C dc)/\E (.ref C) dc (del H2 e)) E1
section
variable{X:Cx}{CX:qG}{k:Nat}{f C:ah}{fd:FuncData}{ps:List Str}{sp:Sp}{kq:List V}{ds:List ai}{E E1:XK}{x:Str}{p pos bO:Pos}{e:Expr}{es:List Expr}{t:TA}{bm:List ai}
theorem Yi(M:Yh X.K C f bm)(F:jq X.prog X.w X.K X.mg X.base CX k f fd ps sp)(hr:cD (k+1) X.A)(xe:oB X E)(hx:xN CX X E1)(hg:Gl X x)(hm:X.mg x=some (.ref C))(hb:Binds X.K fd ps ds)(hd:Vals kq ds)(A8:ps.length<=1000)(ha:PA X (e::es) t)
    (jT:(x == ("__debug__" : Str))=false:=by decide) (he:starEach (e::es) X.env=(false,eval e X.env)::starEach es X.env:=by rfl) (iP:(backTo bO (starEach es X.env)).any (·.1)=false:=by rfl) :
    PS X (.Raise (some (.Call (.Name x p) (e::es) [] bO)) none pos) (Pp C sp kq E E1 t):=by
  intro pins s σ H D I h;refine XQ (vI:=.ref f) M.un hr.hd he iP (BN I hg hm ⟨rfl,bK (ha bO pins s σ H _ I h) fun us s2 aQ=>?_⟩ jT);obtain⟨vs,H1,I1,r,q⟩:=aQ;have fr:∀a,s2.heap.objs.size<=a->H1 a=none:=fun a h=>I1.aZ.fresh h
  have q0:=q _ (fr _ (aG _));have l0:=F.len _ _ _ _ q0;rw[fK,cG] at l0;have rl:=r.length;refine⟨by rw[d8];lia,M.obj.in I1.lY,PySem.W.looks_findIn I1.lY M.init,fun self=>PySem.W.bind_fn I1.lY self (gx.mp M.fn),fun h' ex hs Pq=>?_⟩;have hq:=q ex (fr ex hs);obtain⟨t0,h1,_,_⟩:=Pq.there;have I2:=I1.laid (a:=ex) (o:=gC ex C none) (h':=h') (t':=s2.toks) Pq.keeps hs (K1 h1 rfl rfl rfl rfl rfl);have r2:Vals (V.ref ex::(vs++kq)) (Value.ref ex::(us++ds)):=.cons rfl (r.append hd);have hl:(Value.ref ex::us++ds).length=ps.length:=by
    have e:=r2.length;rw[F.len _ _ _ _ hq] at e;exact e.symm
  refine gw (ia (F.run _ X.stack _ _ ⟨Value.ref ex::us,[]⟩ (Value.ref ex::(us++ds)) _ _ E1 (hr.make C us []) (I2.xM.make C us []) (hb _ (Value.ref ex::us) I2.lY hl) r2 hq) fun r s' vg=>?_);cases r with
  | error e=>exact hx pins σ _ _ e s' I2 vg
  | ok fl=>
    cases fl with
    | ret u=>
      obtain⟨v,H',I3,rv,ev,dc,EL,hE⟩:=I2.after vg;subst ev;obtain⟨⟨oe,ws,t1,g1,g2,g3,g4,g5,g6⟩,_,_⟩:=(show cI X.prog X.w H' s'.heap ex (gC ex C dc) from I3.aZ ex _ EL);have I4:=I3.drop EL;exact⟨rv,oe,ws,M.obj.in I3.lY,g1,g2,g4,g6,XX I4 xe ⟨oe,ws,g1,g2,g3,g4,g6,K2,bH I1.sz hs⟩ hE⟩
    | next=>exact False.elim vg
    | brk=>exact False.elim vg
    | cont=>exact False.elim vg
end
section
variable{M:Model}{A:Around}{E:az}{s:au}
theorem Yj{base:Heap}{env:Env}{outer:List Env}{L e T:ah}{oe oT:Obj}{vs ts:Array ai}{Q:Unit->au->Prop}
    (iu:A.frames=some (env::outer)) (hl:s.heap.FunFrames base (env::outer)) (hf:env.frame=some L) (he:s.heap.get? e=some oe) (hd:oe.data = .fields vs) (h1:vs[1]? = some (.ref T))
    (hT:s.heap.get? T=some oT) (dT:oT.data = .fields ts) (h3:ts[3]? = some .none) (ne:T≠e)
    (k:∀h',vN (jh (env::outer)) e s.heap.objs.size [T] oe vs s.heap h'->Q () { s with heap:=h' }) :
    wpAny M A (noteFrame (.ref e) env) (fun _ s'=>wpAny M A (setFlight (.ref e) none) Q E s') E s:=by
  unfold noteFrame;simp only[hf];refine aj (eU he hd h1 ?_);rw[av (show(Value.ref T != Value.none)=true from by simp)];refine aj (eU hT dT h3 ?_);rw[ao (show ¬((Value.none == rawInt L)=true) from by simp[rawInt])];have z3:=(gJ.mp h3).1;refine aj (i0 hT dT z3 ?_);have oO:∀b,b≠T->(s.heap.update T (Obj.mapFields (·.setIfInBounds 3 Value.none))).get? b=s.heap.get? b:=fun b hb=>cF _ _ (aE hb)
  have self:=cX (Obj.mapFields (·.setIfInBounds 3 Value.none)) hT (j8 (jz dT _));have nf:T ∉ jh (env::outer):=fun hm=>by
    obtain⟨_,o,ho,hn⟩:=hl.mem hm;rw[hT] at ho;cases ho;exact hn ts dT
  have sz:(s.heap.update T (Obj.mapFields (·.setIfInBounds 3 Value.none))).objs.size=s.heap.objs.size:=Heap.size_after_update ..;refine gU (s:={ s with heap:=s.heap.update T (Obj.mapFields (·.setIfInBounds 3 Value.none)) }) iu (hl.of_keeps fun b o hb hn=>⟨o,(oO b fun z=>?_).trans hb,rfl⟩) hf ((oO e ne.symm).trans he) hd (gJ.mp h1).1 fun h' G=>?_
  · subst z;rw[hT] at hb;cases hb;exact hn ts dT
  · have e1:(s.heap.update T (Obj.mapFields (·.setIfInBounds 3 Value.none))).objs.size=s.heap.objs.size:=sz;have G:=G;dsimp only at G;rw[e1] at G;refine k h' ⟨fun b o hb hn hx q=>G.keep b o hb hn (by simp) ((oO b fun z=>hx (by simp[z])).trans q),fun b o hb q=>G.slot b o hb ((oO b fun z=>nf (z▸hb)).trans q),lV (aG _),G.exc,G.ent⟩
end
def Met(X:Cx)(pins:aD)(H:Hp)(h:Heap)(e:ah)(cls:ai)(dc:Option ah):Prop:=
  ∃(oe:Obj)(vs:Array ai)(T:ah)(oT:Obj)(ts:Array ai),h.get? e=some oe/\oe.cls=cls/\oe.dict=dc/\oe.data = .fields vs/\vs[1]? = some (.ref T)/\T≠e/\h.get? T=some oT/\oT.data = .fields ts/\ts[3]? = some .none/\fX X pins H e/\fX X pins H T
section
variable{X:Cx}{pins:aD}{σ:St}{H:Hp}{s:au}{E:XK}
theorem Yk{Q:Unit->au->Prop}{E':az}{u:ai}{s':au}(I:Inv X pins σ H s)(x2:X.stack=X.env::X.outer)(x3:X.env.frame=some X.env.locals)(h:yj X.prog X.w X.stack H s E u s')
    (k:∀e cls dc H' h',u = .ref e->Inv X pins σ H' { s' with heap:=h' }->Met X pins H' h' e cls dc->E cls dc H'->Q () { s' with heap:=h' }) :
    wpAny (model X.prog X.w) X.A (noteFrame u X.env) (fun _ s1=>wpAny (model X.prog X.w) X.A (setFlight u none) Q E' s1) E' s':=by
  obtain⟨e,cls,dc,H',rfl,os,bare,un,aZ,fl,hE⟩:=h;have I':=I.qg os un aZ bare (ch:=[]) (fun b z=>absurd z (by simp));obtain⟨oe,vs,T,oT,ts,he,hc,vO,hd,h1,yk,hT,dT,h3,He,HT,ne,nT⟩:=fl;have fr:=I'.ok.frames;have st:=I'.stack;rw[x2] at fr st;refine Yj fr st x3 he hd h1 hT dT h3 yk fun h' G=>?_
  have F1:fX X pins H' e:=I.nF ne He;have F2:fX X pins H' T:=I.nF nT HT;have sf:∀b∈jh (X.env::X.outer),H' b=none:=by
    have:=I'.ki;rw[x2] at this;exact this
  have U:Un (jh X.stack) [e,T] H' H' s'.heap h':=by
    rw[x2];refine⟨fun b o q n nf nx=>G.keep b o (fun z=>nx (by simp[z])) nf (fun z=>nx (by rw[iT.mp z];simp)) q,fun b o q n hb nx=>G.slot b o hb q,fun b o q n _=>n,fun b o q nx=>?_,fun _ _ z=>z,fun _ _ _ z=>z,fun _ ps z=>⟨#[],by rw[Array.append_empty];exact z⟩⟩
    by_cases hb:b∈jh (X.env::X.outer)
    · obtain⟨sl,z⟩:=G.slot b o hb q;exact⟨_,z⟩
    · exact⟨o,G.keep b o (fun z=>nx (by simp[z])) hb (fun z=>nx (by rw[iT.mp z];simp)) q⟩
  have AF:jF X.prog X.w H' h':=fun a o q=>by
    refine(aZ a o q).cP (fun b u hb z=>?_) (fun _ z=>z) fun _ _ z=>z
    have Hb:H' b≠none:=by
      rcases hb with z | z
      · rw[z,q];simp
      · rw[z];simp
    exact G.keep b u (fun z=>Hb (z▸He)) (fun z=>Hb (sf b z)) (fun z=>Hb (by rw[iT.mp z];exact HT)) z
  have I2:Inv X pins σ H' { s' with heap:=h' }:=I'.qg (s':={ s' with heap:=h' }) (ch:=[e,T]) rfl U AF I'.bare fun b hb=>by
    have F:fX X pins H' b:=by
      rcases aO.mp hb with z | z
      · rw[z];exact F1
      · rw[iT.mp z];exact F2
    exact⟨F.2.2.2.1,F.2.1,F.2.2.2.2.1,F.2.2.2.2.2⟩
  obtain⟨Yl,cU,t1,t2,t3⟩:=G.ent;have Ym:s'.heap.objs.size≠e:=jS (aJ he);exact k e cls dc H' h' rfl I2 ⟨_,_,s'.heap.objs.size,Yl,cU,G.exc,hc,vO,rfl,by simp[(gJ.mp h1).1],Ym,t1,t2,t3,F1,I'.nF (aG _) (aZ.fresh (aG _))⟩ hE
end
structure pU(K:aF)(D:ah):Prop where
  nt:PySem.W.instIn K (.ref D) (.type "tuple")=some false
  ty:PySem.W.isClsIn K D=true
  ex:PySem.W.mroIn K D (.type "BaseException")=some true
section
variable{M:Model}{A:Around}{E:az}{s:au}{K:aF}{e C D:ah}{oe:Obj}{b:Bool}
theorem Yn{Q:Bool->au->Prop}(X:K.In s.heap)(he:s.heap.get? e=some oe)(hc:oe.cls = .ref C)(cd:pU K D)(hs:PySem.W.mroIn K C (.ref D)=some b)(h:Q b s):wpAny M A (excMatches (.ref e) (.ref D)) Q E s:=by
  have L1:=PySem.W.looks_instIn (M:=M) X cd.nt;have L3:=PySem.W.looks_mroIn (M:=M) X cd.ex;have L4:=PySem.W.looks_mroIn (M:=M) X hs;have L5:PySem.W.Looks M s.heap (typeOf (.ref e)) (.ref C):=hc▸(PySem.W.Looks.ld he).andThen .now;unfold excMatches;refine aj (L1.here ?_);dsimp only;rw[ao (by decide)];refine aj (ay ?_);simp only[lG,List.forIn_nil];have L6:PySem.W.Looks M s.heap (isExcClass (.ref D)) true:=by
    unfold isExcClass;refine PySem.W.Looks.andThen (a:=true) ?_ ?_
    · obtain⟨c,hc⟩:=qR.mp cd.ty;unfold PySem.W.clsIn at hc;split at hc
      · rename_i hk;exact(PySem.W.Looks.ld (part:=_) (X _ _ hk)).andThen .now
      · cases hc
    · exact L3
  refine aj (aj (aj (L6.here ?_)));rw[ao (by decide)];refine ay (ay (aj (L5.here (aj (aj (aj (L4.here ?_)))))));cases b with
  | true=>rw[av rfl];exact ay (ay (ay h))
  | false=>rw[ao (by decide)];exact ay (ay (ay h))
end
def Cx.sP(X:Cx)(pn:aD)(xe:az):Cx:={ X with pn:=pn,xe:=xe }
def Cx.mK(X:Cx)(v:ai)(xe:az):Cx:={ X with A:=X.A.mark (some v),calm:=false,xe:=xe }
structure Pr(X:Cx):Prop where
  st:X.stack=X.env::X.outer
  fr:X.env.frame=some X.env.locals
  ex:X.ex = []
def Pu(X:Cx)(Es:St->XK):Prop:=∀(pins:aD)(σ:St)(H:Hp)(s:au)(u:ai)(s':au),Inv X pins σ H s->yj X.prog X.w X.stack H s (Es σ) u s'->X.xe u s'
abbrev TH:=Ends->St->ah->Option ah->Hp->Prop
def PH(X:Cx)(hs:List ExceptHandler)(th:TH):Prop:=
  ∀(pins:aD)(s:au)(σ:St)(H:Hp)(D:Ends)(e C:ah)(dc:Option ah),Inv X pins σ H s->Met X pins H s.heap e (.ref C) dc->th D σ C dc H->wpAny (model X.prog X.w) X.A (handleBy (.ref e) X.env hs) (SP X pins D) X.xe s
def Yo:TH:=fun _ _ _ _ _=>False
def K3(K:aF)(Dc:ah)(ts:TS)(Hz:TH):TH:=fun D σ C dc H=>∃b,PySem.W.mroIn K C (.ref Dc)=some b/\
  if b=true then ts D σ H else Hz D σ C dc H
def K4(tb:(St->XK)->TS)(th:TH):TS:=fun D σ H=>tb (fun aI cls dc H'=>∃C,cls = .ref C/\th D aI C dc H') D σ H
def Yp(sp:Sp)(kq:List V)(Es:St->XK)(t:TA):TE:=fun σ H Q=>t σ H fun vs H1=>sp (vs++kq) H1 Q (Es σ)
section
variable{X:Cx}{pins:aD}{σ:St}{H:Hp}{s:au}
theorem Pw{v:ai}{xe:az}(I:Inv X pins σ H s):Inv (X.mK v xe) pins σ H s:=
  ⟨⟨I.ok.mod,I.ok.kind,I.ok.glob,I.ok.blt,I.ok.above,I.ok.inj,I.ok.has,I.ok.Ac,(fun z=>absurd z bJ),I.ok.frames,I.ok.BK,I.ok.Ad,I.ok.bs,I.ok.sX,I.ok.qe,I.ok.sY,I.ok.kh,I.ok.xC⟩,
    I.os,I.bare,I.base,I.loc,I.cell,I.free,I.e9,I.pin,I.aZ,I.len⟩
theorem HA{v:ai}{xe:az}(ok:X.Ok)(I:Inv (X.mK v xe) pins σ H s):Inv X pins σ H s:=⟨ok,I.os,I.bare,I.base,I.loc,I.cell,I.free,I.e9,I.pin,I.aZ,I.len⟩
theorem Yq{xe:az}(I:Inv X pins σ H s):Inv (X.sP (X.pn++pins) xe) [] σ H s:=
  ⟨⟨I.ok.mod,I.ok.kind,I.ok.glob,I.ok.blt,I.ok.above,I.ok.inj,I.ok.has,I.ok.Ac,I.ok.hd,I.ok.frames,I.ok.BK,I.ok.Ad,I.ok.bs,I.ok.sX,I.ok.qe,I.ok.sY,I.ok.kh,I.ok.xC⟩,
    I.os,I.bare,I.base,I.loc,I.cell,I.free,I.e9,fun p hp=>I.pin p ((bz.mp hp).elim id fun z=>absurd z (by simp)),I.aZ,I.len⟩
theorem EM{qf:aD}{xe:az}(ok:X.Ok)(I:Inv (X.sP (X.pn++pins) xe) qf σ H s):Inv X pins σ H s:=
  ⟨ok,I.os,I.bare,I.base,I.loc,I.cell,I.free,I.e9,fun p hp=>I.pin p (dF _ hp),I.aZ,I.len⟩
end
section
variable{X:Cx}{CX:qG}{k i:Nat}{f Dc:ah}{ps:List Str}{sp:Sp}{x n:Str}{p pos kM:Pos}{e:Expr}{es:List Expr}{t:TA}{Es:St->XK}{EN:Stmt}{zL body:List Stmt}{h₀:ExceptHandler}{rest hs:List ExceptHandler}{ts:TS}{Hz th:TH}{tb:(St->XK)->TS}
theorem Px(F:lU X.prog X.w X.K X.mg X.base x ps k sp)(xe:Pu X Es)(hr:cD k X.A)(hg:Gl X x)(ha:PA X (e::es) t)(jT:(x == ("__debug__" : Str))=false:=by decide)
    (he:starEach (e::es) X.env=(false,eval e X.env)::starEach es X.env:=by rfl) (iP:(backTo pos (starEach es X.env)).any (·.1)=false:=by rfl):PE X (.Call (.Name x p) (e::es) [] pos) (Yp sp [] Es t):=by
  obtain⟨f,fd,a,kp,_,b,G⟩:=F;intro pins s σ H Q I h;refine kY (BN I hg a ?_ jT);refine PySem.W.callWith_K (h₀:=X.base) I.ok.mod.BJ kp (bK (ha pos pins s σ H _ I h) fun us s1 ⟨vs,H1,I1,r,q⟩=>⟨I1.lY,?_⟩) he iP;have r2:Vals (vs++[]) (us++[]):=r.append .nil;have hl:(us++[]).length=ps.length:=by rw[←r2.length];exact G.len _ _ _ _ q
  refine gw (ia (G.run X.A X.stack s1 H1 ⟨us,[]⟩ (us++[]) (vs++[]) Q (Es σ) hr I1.xM ((Binds.all b) s1 us I1.lY hl) r2 q) fun r s' hq=>?_);cases r with
  | error e=>exact xe pins σ H1 s1 e s' I1 hq
  | ok fl=>
    cases fl with
    | ret u=>exact I1.after hq
    | next=>exact False.elim hq
    | brk=>exact False.elim hq
    | cont=>exact False.elim hq
theorem Py(x:Pr X)(hb:∀pn xe(Es:St->XK),Pu (X.sP pn xe) Es->pO (X.sP pn xe) body (tb Es))(hh:PH X (h₀::hs) th):PS X (.Try body (h₀::hs) [] [] pos) (K4 tb th):=by
  intro pins s σ H D I h;refine wpAny_Try_except ?_;refine cA (hb (X.pn++pins) (fun e bD=>wpAny (model X.prog X.w) X.A (noteFrame e X.env) (fun _ iL=>wpAny (model X.prog X.w) X.A (setFlight e none) (fun _ mh=>wpAny (model X.prog X.w) X.A (handleBy e X.env (h₀::hs)) (SP X pins D) X.xe mh) X.xe iL) X.xe bD)
    (fun aI cls dc H'=>∃C,cls = .ref C/\th D aI C dc H') (fun qf aI H' s' u wU I' Yr=>?_) [] s σ H D (Yq I) h) (fun fl s1 q=>?_) fun _ _ z=>z
  · refine Yk (EM I.ok I') x.st x.fr Yr fun e cls dc H2 h' hu I2 met hE=>?_
    subst hu;obtain⟨C,rfl,Ys⟩:=hE;exact hh pins _ aI H2 D e C dc I2 met Ys
  · cases fl with
    | next=>
      obtain⟨aI,H',J,q⟩:=q;exact nA ⟨aI,H',EM I.ok J,q⟩
    | brk=>
      obtain⟨aI,H',J,q⟩:=q;exact⟨aI,H',EM I.ok J,q⟩
    | cont=>
      obtain⟨aI,H',J,q⟩:=q;exact⟨aI,H',EM I.ok J,q⟩
    | ret u=>
      obtain⟨v,aI,H',J,r,q⟩:=q;exact⟨v,aI,H',EM I.ok J,r,q⟩
theorem Pz:PH X [] Yo:=fun _ _ _ _ _ _ _ _ _ _ h=>h.elim
theorem PB(xf:Pr X)(hg:Gl X x)(hm:X.mg x=some (.ref Dc))(cd:pU X.K Dc)
    (Yt:∀v xe,pO (X.mK v xe) (EN::zL) ts) (hr:PH X rest Hz) (jT:(x == ("__debug__" : Str))=false:=by decide) :
    PH X (.ExceptHandler (some (.Name x p)) none (EN::zL) kM::rest) (K3 X.K Dc ts Hz):=by
  intro pins s σ H D e C dc I met h;obtain⟨oe,vs,T,oT,Yu,he,hc,vO,hd,h1,yk,hT,dT,h3,F1,F2⟩:=met;obtain⟨b,hb,h⟩:=h;refine wpAny_handleBy_cons (codeAny_handlers_test (BN (X:=X.mK (.ref e) X.xe) (Pw I) hg hm ?_ jT)) (by intro q;cases q);refine Yn (K:=X.K) I.lY he hc cd hb ?_;cases b with
  | false=>
    rw[ao (by decide)] at h;exact hr pins s σ H D e C dc I ⟨oe,vs,T,oT,Yu,he,hc,vO,hd,h1,yk,hT,dT,h3,F1,F2⟩ h
  | true=>
    rw[av rfl] at h;refine codeAny_handlers_suite ?_;refine wpAny_setFlight_none he hd h1 hT dT (gJ.mp h3).1 ?_;have oO:∀b,b≠T->(s.heap.update T (Obj.mapFields (·.setIfInBounds 3 .none))).get? b=s.heap.get? b:=fun b hb=>cF _ _ (aE hb)
    have I1:Inv X pins σ H { s with heap:=s.heap.update T (Obj.mapFields (·.setIfInBounds 3 .none)) }:=I.ya (t':=s.toks) (ch:=[T]) (fun b o hb q=>by rw[oO b (fun z=>hb (by simp[z]))];exact q) fun b hb=>by rw[iT.mp hb];exact F2
    refine bK (Yt (.ref e) _ pins _ _ _ D (Pw I1) h) fun fl s3 q=>?_
    cases fl with
    | next=>
      obtain⟨aI,H',J,q⟩:=q;exact⟨_,H',HA I.ok J,q⟩
    | brk=>
      obtain⟨aI,H',J,q⟩:=q;exact⟨_,H',HA I.ok J,q⟩
    | cont=>
      obtain⟨aI,H',J,q⟩:=q;exact⟨_,H',HA I.ok J,q⟩
    | ret u=>
      obtain⟨v,aI,H',J,r,q⟩:=q;exact⟨v,_,H',HA I.ok J,r,q⟩
end
end L2
namespace L2
def EO(K:aF)(C:PySem.Addr):Prop:=∃bm,oS K C bm/\eY bm
end L2
namespace L2
open PySem
def HB(K:aF)(C:ah):Bool:=match K.lookup C with
  | some ⟨.type t,_,.cls cd,sl⟩=>t == "type" && ((match cd.mro with | .ref c::bm=>c == C&&(bm.contains (.type "ValueError")&&(bm.contains (.type "BaseException")&&(!bm.contains (.type "AttributeError") && !bm.contains (.type "NameError")))) | _=>false)&&(!cd.hasDel &&
      (match sl.toList with | [_,_,_,_,some (.builtin i),_]=>i == "ValueError.__new__" | _=>false)))
  | _=>false
theorem Yv{K:aF}{C:ah}(h:HB K C=true):EO K C:=by
  unfold HB at h;split at h
  · rename_i t dd cd sl hk;rw[gb,gb,gb] at h;obtain⟨h1,h2,h3,h4⟩:=h;split at h2
    · rename_i c bm hm;split at h4
      · rename_i k0 k1 k2 k3 i k5 hs;simp only[gb,gx,Bool.not_eq_true'] at h1 h2 h3 h4;obtain⟨rfl,a1,a2,a3,a4⟩:=h2;subst h1 h4;refine⟨bm,⟨cd.name,cd.qualname,cd.ns,cd.bases,cd.hasDict,cd.slotNames,cd.subclasses,cd.abstract,cd.collection,dd,k0,k1,k2,k3,k5,?_⟩,⟨a1,a2,a3,a4⟩⟩;rw[hk];obtain⟨x1,x2,x3,x4,x5,x6,x7,x8,x9,y1,y2⟩:=cd;dsimp only at hm h3;subst hm h3;obtain⟨l⟩:=sl;dsimp only at hs;subst hs;rfl
      · cases h4
    · cases h2
  · cases h
end L2
namespace L2
open PySem PySem.Spec PyProof.Rows
end L2
namespace L2
open PySem
def yo(C:ah)(o:Obj):Bool:=(match o with
  | ⟨.type t,_,.cls cd,sl⟩=>t == "type" && ((match cd.mro with | .ref c::bm=>c == C&&(bm.contains (.type "ValueError")&&(bm.contains (.type "BaseException")&&(!bm.contains (.type "AttributeError") && !bm.contains (.type "NameError")))) | _=>false)&&(!cd.hasDel &&
      (match sl.toList with | [_,_,_,_,some (.builtin i),_]=>i == "ValueError.__new__" | _=>false)))
  | _=>false)&&(match o.data with | .cls cd=>xq cd.mro | _=>false)
theorem PD{K:aF}{C:ah}{c0:ai}{dd:Option ah}{cd:ClassData}{sl:Array (Option ai)}(l:K.lookup C=some ⟨c0,dd,.cls cd,sl⟩)(h:yo C ⟨c0,dd,.cls cd,sl⟩=true):HB K C=true/\KY K C=true:=by
  unfold yo at h;rw[gb] at h;refine⟨?_,?_⟩
  · unfold HB;rw[l];cases c0<;>first | exact h.1 | (have:=h.1;cases this)
  · unfold KY PySem.W.clsIn;rw[l];exact h.2
theorem sQ{K:aF}{C:ah}{c0:ai}{dd:Option ah}{cd:ClassData}{sl:Array (Option ai)}(l:K.lookup C=some ⟨c0,dd,.cls cd,sl⟩)(h:yo C ⟨c0,dd,.cls cd,sl⟩=true)(h1:PySem.W.hasDictIn K C=true)
    (h2:PySem.W.findIn K (.ref C) "__setattr__" = some (some (.builtin "object.__setattr__"))):tR K C:=⟨h1,(PD l h).2,h2⟩
theorem vP{K:aF}{C:ah}{c0:ai}{dd:Option ah}{cd:ClassData}{sl:Array (Option ai)}(l:K.lookup C=some ⟨c0,dd,.cls cd,sl⟩)(h:yo C ⟨c0,dd,.cls cd,sl⟩=true):EO K C:=Yv (PD l h).1
end L2
namespace L2
open PySem PySem.Spec PyProof.Rows
section
variable{X:Cx}{k:Nat}{C:ah}{ps:List Str}{sp:Sp}{E:XK}{x:Str}{p pos bO:Pos}{e:Expr}{es:List Expr}{t:TA}
theorem PF(M:gS X.prog X.w X.K X.mg X.base C "__init__" ps k sp)(xo:EO X.K C)(hr:cD (k+1) X.A)(xe:oB X E)(hg:Gl X x)(hm:X.mg x=some (.ref C))(A8:ps.length<=1000)(ha:PA X (e::es) t)
    (jT:(x == ("__debug__" : Str))=false:=by decide) (he:starEach (e::es) X.env=(false,eval e X.env)::starEach es X.env:=by rfl) (iP:(backTo bO (starEach es X.env)).any (·.1)=false:=by rfl) :
    PS X (.Raise (some (.Call (.Name x p) (e::es) [] bO)) none pos) (Pp C sp [] E (fun _ _ _=>False) t):=by
  obtain⟨f,fd,m,b,F⟩:=M;obtain⟨bm,xo,U⟩:=xo;exact Yi ⟨xo,U,m.at_,m.fn⟩ F hr xe (fun _ _ _ _ _ _ _ z=>z.elim) hg hm (.all b) .nil A8 ha jT he iP
end
open Sem (wp)
namespace Rv
theorem slot_next:Slot "list_reverseiterator" "__next__" "list_reverseiterator.__next__":=
  .of (owner:="list_reverseiterator") (n:="__next__") (by rw[typeLookup_type,qW];kernel_rfl) (by decide +kernel) (by decide +kernel) (by decide +kernel)
    (by first | exact .inl (by decide +kernel) | exact .inr (by decide +kernel)) (by rw[jR];kernel_rfl)
theorem oU:Slot "list_reverseiterator" "__iter__" "list_reverseiterator.__iter__":=
  .of (owner:="list_reverseiterator") (n:="__iter__") (by rw[typeLookup_type,qW];kernel_rfl) (by decide +kernel) (by decide +kernel) (by decide +kernel)
    (by first | exact .inl (by decide +kernel) | exact .inr (by decide +kernel)) (by rw[jR];kernel_rfl)
theorem entry_next:entryFor table "list_reverseiterator.__next__" = some Builtin.«list_reverseiterator.__next__»:=entryFor_of_tree (by kernel_rfl)
theorem rN:entryFor table "list_reverseiterator.__iter__" = some Builtin.«dict_keyiterator.__iter__»:=
  entryFor_alias (id':="dict_keyiterator.__iter__") (by kernel_rfl) (by first | rfl | decide +kernel | (unfold String.splitOn;simp +decide [String.splitOnAux])) (by decide +kernel) (by kernel_rfl)
theorem owner:Manifest.owners.lookup (String.ofList ['r','o','t','a','r','e','t','i','e','s','r','e','v','e','r','_','t','s','i','l'].reverse)=some Manifest.sig_list_reverseiterator:=by kernel_rfl
theorem args_next(a:ai):argsOk "list_reverseiterator.__next__" ⟨[a],[]⟩:=by
  unfold argsOk;rw[signature?_of (id:="list_reverseiterator.__next__") (n:="__txen__".toList) (o:="rotaretiesrever_tsil".toList) (by kernel_rfl) owner]
  kernel_rfl
theorem tS(a:ai):argsOk "list_reverseiterator.__iter__" ⟨[a],[]⟩:=by
  unfold argsOk;rw[signature?_of (id:="list_reverseiterator.__iter__") (n:="__reti__".toList) (o:="rotaretiesrever_tsil".toList) (by kernel_rfl) owner]
  kernel_rfl
theorem mro_reversed:mroOf (.type "reversed")=pure [.type "reversed",.type "object"]:=by rw[mroOf_type];kernel_rfl
theorem Yw:typeLookup (.type "reversed") "__new__" = pure (some (.builtin "reversed.__new__")):=by rw[typeLookup_type,qW];kernel_rfl
theorem made:Bind.madeBy (.type "reversed")=pure (some "reversed.__new__"):=madeBy_type mro_reversed Yw (by decide +kernel)
theorem typeCall(a:ai):checkTypeCall "reversed" ⟨[a],[]⟩=pure ():=by kernel_rfl
theorem yp(a:ai):checkBuiltinCall "reversed.__new__" ⟨[.type "reversed",a],[]⟩=pure ():=by kernel_rfl
theorem gU:entryFor table "reversed.__new__" = some Builtin.«reversed.__new__»:=entryFor_of_tree (by kernel_rfl)
theorem A9:isSubtype (.type "list_reverseiterator") (.type "reversed")=pure false:=by rw[jR];kernel_rfl
theorem sub_self:isSubtype (.type "reversed") (.type "reversed")=pure true:=by rw[jR];kernel_rfl
theorem vQ:isSubtype (.type "dict") (.type "dict")=pure true:=by rw[jR];kernel_rfl
end Rv
def jf(h:Heap)(it l:ah)(j:Int):Prop:=∃o,h.get? it=some o/\o.cls = .type "list_reverseiterator"/\o.data = .fields #[.ref l,.int j 0]
theorem jf.typeIs{s:au}{it l:ah}{j:Int}(x:jf s.heap it l j):s.TypeIs (.ref it) "list_reverseiterator":=let ⟨o,ho,hc,_⟩:=x;⟨o,ho,hc⟩
theorem jf.at{h h':Heap}{it l:ah}{j:Int}(x:jf h it l j)(e:∀o,h.get? it=some o->h'.get? it=some o):jf h' it l j:=let ⟨o,ho,r⟩:=x;⟨o,e _ ho,r⟩
section
variable{prog:aU}{w:World}{A:Around}{E:az}{s:au}
theorem PJ{it l:ah}{j:Int}{Q:az}(hit:jf s.heap it l j)(h:Q (.ref it) s):wpAny (model prog w) A (pyIter (.ref it)) Q E s:=by
  refine wpAny_pyIter_slot hit.typeIs Rv.oU (jA Rv.oU hit.typeIs Rv.rN ?_ (Rv.tS _));show wpAny _ _ (ret (.ref it)) _ _ s;exact ay ⟨_,rfl,"list_reverseiterator",_,hit.typeIs,Rv.slot_next.lookup,h⟩
theorem Yx{it l:ah}{j:Nat}{items:Array ai}{x:ai}{Q:Option ai->au->Prop}(hit:jf s.heap it l (j:Int))(hl:s.heap.IsList l items)(hx:items[j]? = some x)
    (hQ:∀h',jf h' it l ((j:Int)-1)->Heap.SameBut it s.heap h'->Q (some x) { s with heap:=h' }):wpAny (model prog w) A (pyNext (.ref it)) Q E s:=by
  obtain⟨o,ho,hc,hd⟩:=id hit;obtain⟨ol,Yy,_,nl,Yz⟩:=hl;unfold pyNext;refine aj (pK (mW (name:=Str.ofString "__next__") hit.typeIs Rv.slot_next (jA Rv.slot_next hit.typeIs Rv.entry_next ?_ (Rv.args_next _))));show wpAny _ _ (field (.ref it) 1 >>= _) _ _ s;refine aj (eU ho hd (x:=.int j 0) rfl ?_);show wpAny _ _ (if(j:Int)<0 then _ else _) _ _ s;rw[ao (by lia)];show wpAny _ _ (field (.ref it) 0 >>= _) _ _ s;refine aj (eU ho hd (x:=.ref l) rfl ?_);refine aj (iG Yy Yz ?_);simp only[pF,hx];refine aj (i0 ho hd (by simp) (ay ⟨x,rfl,ay (hQ _ ?_ (Heap.SameBut.update ..))⟩));exact⟨_,cX _ ho (j8 (jz hd _)),(Obj.cls_mapFields ..).trans hc,by rw[jz hd];simp[rawInt]⟩
theorem YA{it l:ah}{j:Int}{Q:Option ai->au->Prop}(hh:A.handled=none)(hit:jf s.heap it l j)(hj:j<0)
    (hQ:∀h',(∀b o,s.heap.get? b=some o->h'.get? b=some o)->Q none { s with heap:=h' }):wpAny (model prog w) A (pyNext (.ref it)) Q E s:=by
  obtain⟨o,ho,hc,hd⟩:=id hit;unfold pyNext;refine aj (pK (mW (name:=Str.ofString "__next__") hit.typeIs Rv.slot_next (jA Rv.slot_next hit.typeIs Rv.entry_next ?_ (Rv.args_next _))));show wpAny _ _ (field (.ref it) 1 >>= _) _ _ s;refine aj (eU ho hd (x:=.int j 0) rfl ?_);show wpAny _ _ (if j<0 then _ else _) _ _ s;rw[av hj];refine aj (gv (aj ?_));show wpAny _ _ (newExc (.type "StopIteration") [] >>= _) _ _ _;refine aj ?_;simp only[newExc,newTuple];refine aj (eK ?_ (by size_fits));refine aj (m:=firstArgMember _ _) (lJ (a:=Value.none) (by first | rfl | (simp only[firstArgMember];rfl)) ?_);refine eK ?_ (by size_fits);simp only[raiseNew];refine aj (wpAny_handled ?_);rw[show A.in1.handled=none from hh];refine aj (ay (wpAny_throw ?_));refine aj (lD (T:="StopIteration") (b:=true) ⟨_,bF _ rfl,rfl⟩ isSubtype_stop ?_);exact ay (hQ _ fun b o e=>aY _ (aY _ e))
end
def Cr(K:aF)(a:ah)(xs:List V):It:=
  ⟨fun i H=>aH K H a xs/\i<xs.length,fun i H x H'=>H'=H/\xs.reverse[i]? = some x,fun i _=>xs.length<=i⟩
theorem YB{P:aU}{w:World}{K:aF}{tg:Expr}(a it:ah)(xs:List V):Turn P w K tg (Cr K a xs) [it] it (fun i h=>jf h it a ((xs.length:Int)-1-i)) where
  mem:=by simp
  obj:=fun i h st b hb=>by
    have e:b=it:=by simpa using hb
    subst e;obtain⟨o,e,c,d⟩:=st;exact⟨o,e,fun v z=>by rw[d] at z;cases z⟩
  keep:=fun i h h' st k=>st.at fun o e=>k it (by simp) o e
  item:=by
    intro X hP hw hK hc i pins s σ H E I hf st hg;subst hP hw hK;obtain⟨hq,hi⟩:=hg;obtain⟨its,rv,p,hz⟩:=I.list hq;have hx:xs[xs.length-1-i]? = some (xs[xs.length-1-i]'(by lia)):=aV _;obtain⟨u,hu,ru⟩:=rv.get hx;obtain⟨f0,f1,f2,f3,f4,f5⟩:=hf it (by simp);have ej:(xs.length:Int)-1-i=((xs.length-1-i:Nat):Int):=by lia
    rw[ej] at st;refine Yx st p.isList (x:=u) (by simpa using hu) fun h' nG sb=>?_
    have I1:Inv X pins σ H { s with heap:=h' }:=I.turned (t':=s.toks) (fun b o hb e=>(sb.2 b hb).trans e) f0 f1 f3 f4 f5;obtain⟨o,e,c,d⟩:=id nG;refine⟨u,rfl,BO (s:={ s with heap:=h' }) e c d (by decide) ⟨_,H,I1,ru,⟨rfl,?_⟩,?_,fun b hb=>(hf b hb).1⟩⟩
    · rw[List.getElem?_reverse hi];exact hx
    · show jf h' it a ((xs.length:Int)-1-(i+1:Nat));have:(xs.length:Int)-1-(i+1:Nat)=((xs.length-1-i:Nat):Int)-1:=by lia
      rw[this];exact nG
  done:=by
    intro X hP hw hK hc i pins s σ H E I hf st hg;subst hP hw hK;have hg:xs.length<=i:=hg;exact YA (I.ok.hd hc) st (by lia) fun h' eb=>⟨rfl,I.kept (t':=s.toks) eb⟩
  self:=fun _ _ _ _ _ st h=>PJ st h
def Cs(l:ah)(n:Nat):Obj:={ cls:=.type "list_reverseiterator",data:=.fields #[.ref l,rawInt ((n:Int)-1)] }
theorem YC(l:ah)(items:Array ai) :
    Meets (Builtin.«list.__reversed__» ⟨[.ref l],[]⟩) (fun _ R s=>s.heap.IsList l items/\R (.ok (.ret (.ref s.heap.objs.size))) { s with heap:=s.heap.push (Cs l items.size) }):=
  .of_wp fun prog w A R s h=>by
    obtain⟨hl,h⟩:=h;obtain⟨o,ho,hc,n,hd⟩:=hl
    wp_walk
    rw[hd]
    wp_walk
    exact⟨_,rfl,h⟩
theorem YD(l:ah)(items:Array ai) :
    Meets (Builtin.«reversed.__new__» ⟨[.type "reversed",.ref l],[]⟩) (fun _ R s=>s.heap.IsList l items/\R (.ok (.ret (.ref s.heap.objs.size))) { s with heap:=s.heap.push (Cs l items.size) }):=
  .of_wp fun prog w A R s h=>by
    obtain⟨hl,h⟩:=h;have hT:=hl.typeIs;have hk:=pA.lookup;have hb:=pA.bind (.ref l);have sub:=Rv.sub_self
    wp_walk
    refine ia (mU pA.plain F.entry_list_reversed (pA.check _ _ _ _ _ _ _ _ hT (F.args_list_reversed_1 _) (YC l items prog w A.in1
      (wants (fun v s1=>v = .ref s.heap.objs.size/\s1 = { s with heap:=s.heap.push (Cs l items.size) }) (fun e s'=>R (.error e) s')) s ⟨hl,rfl,rfl⟩))) fun r s1 hr=>?_
    cases r with
    | error e=>exact hr
    | ok fl=>
      cases fl with
      | ret obj=>
        obtain⟨rfl,rfl⟩:=hr;exact ay ⟨_,rfl,h⟩
      | _=>exact hr.elim
section
variable{prog:aU}{w:World}{A:Around}{E:az}{s:au}
theorem YE{l:ah}{items:Array ai}{Q:az}(hl:s.heap.IsList l items)
    (h:Q (.ref s.heap.objs.size) { s with heap:=s.heap.push (Cs l items.size) }):wpAny (model prog w) A (call (.type "reversed") [.ref l]) Q E s:=by
  have hct:=Rv.typeCall (.ref l);have PL:=Rv.made;have YF:=Rv.mro_reversed;refine gw (codeAny_of_tree ?_);show wpAny (model prog w) _ (callAny (.type "reversed") _) _ _ _;refine ay ⟨Code.quiet_builtin _ (by decide +kernel),iF F.entry_type_call ?_⟩;rw[Around.under_plain (weight_type_call_type "reversed" [.ref l] []) (units_type_call_type "reversed" [.ref l] [])];have h1:(Value.type "reversed" == Value.type "type")=false:=by decide +kernel
  have h2:((Manifest.find? "reversed").bind (·.mro.findSome? fun t=>(Manifest.find? t).bind fun b=>if b.noNew then some true else if b.attrs.any (·.1 == "__new__") then some false else none)).getD false=false:=by decide +kernel
  repeat (any_goals first | wp_step | assumption)
  refine ia (mU (by decide +kernel) Rv.gU (lJ (Rv.yp _) (YD l items prog w A.in1
    (wants (fun obj s1=>obj = .ref s.heap.objs.size/\s1 = { s with heap:=s.heap.push (Cs l items.size) }) E) s ⟨hl,rfl,rfl⟩))) fun r s1 hr=>?_
  cases r with
  | error e=>exact hr
  | ok fl=>
    cases fl with
    | ret obj=>
      obtain⟨rfl,rfl⟩:=hr;have hT:({ s with heap:=s.heap.push (Cs l items.size) }:au).TypeIs (.ref s.heap.objs.size) "list_reverseiterator":=⟨_,bF _ rfl,rfl⟩;have YG:=Rv.A9
      repeat (any_goals first | wp_step | assumption)
    | _=>exact hr.elim
end
def ER(K:aF)(te:TE):TI:=fun σ H R=>te σ H fun x H1=>∃l xs,x = .ref l/\aH K H1 l xs/\R (Cr K l xs) H1
section
variable{X:Cx}{tg:Expr}
theorem YH{e:Expr}{te:TE}{p pos:Pos}(hg:Gl X "reversed")(hm:X.mg "reversed" = none)(he:PE X e te)(hs:starEach [e] X.env = [(false,eval e X.env)]:=by rfl) :
    PI X tg (.Call (.Name "reversed" p) [e] [] pos) (ER X.K te):=by
  intro pins s σ H R I h;refine Call_ (C2 I hg hm boot_reversed (qQ (bK (za he zd hs pos pins s σ H (fun vs H1=>match vs with | [x]=>∃l xs,x = .ref l/\aH X.K H1 l xs/\R (Cr X.K l xs) H1 | _=>False) I h) fun us s1 aQ=>?_) (by rw[hs];rfl) rfl));obtain⟨vs,H1,I1,r1,q1⟩:=aQ
  match vs,q1 with
  | [x],q1=>
    obtain⟨l,xs,rfl,hl,q⟩:=q1;obtain⟨u,rfl,ru⟩:=pZ r1;cases ru;obtain⟨its,rv,pl,hz⟩:=I1.list hl;have hn:=rv.length;refine YE pl.isList (PJ (j:=(its.toArray.size:Int)-1) ⟨_,bF _ rfl,rfl,rfl⟩ ?_);refine⟨s1.heap.objs.size,[s1.heap.objs.size],_,_,H1,rfl,I1.kept (t':=s1.toks) fun b o e=>aY _ e,YB l _ xs,⟨_,bF _ rfl,rfl,?_⟩,fun b hb=>?_,q⟩
    · show Data.fields #[.ref l,rawInt ((its.toArray.size:Int)-1)] = .fields #[.ref l,.int ((xs.length:Int)-1-(0:Nat)) 0];rw[br,hn];simp[rawInt]
    · have e:b=s1.heap.objs.size:=by simpa using hb
      subst e;exact I1.nF (aG _) (I1.aZ.fresh (aG _))
theorem YI{e:Expr}{te:TE}{p pos:Pos}(K:aF)(h:X.K=K)(hg:Gl X "reversed")(hm:X.mg "reversed" = none)(he:PE X e te)(hs:starEach [e] X.env = [(false,eval e X.env)]:=by rfl) :
    PI X tg (.Call (.Name "reversed" p) [e] [] pos) (ER K te):=h▸YH hg hm he hs
theorem YJ{K:aF}{a:ah}{xs:List V}{g:TG}{tb:TS}{D:Ends}{σ:St}{H:Hp}(Pv:Nat->St->Hp->Prop)(h0:Pv 0 σ H)(hl:∀i σ H,i<=xs.length->Pv i σ H->aH K H a xs)
    (hs:∀i x σ H,xs.reverse[i]? = some x->Pv i σ H->g x σ H fun oj H2=>tb { D with nx:=Pv (i+1),ct:=Pv (i+1),bk:=D.nx } oj H2) (hd:∀σ H,Pv xs.length σ H->D.nx σ H) :
    ∃W:Nat->Nat->St->Hp->Prop,(∃m,W 0 m σ H)/\∀i m σ H,W i m σ H->
      ((Cr K a xs).stop i H/\D.nx σ H)\/((Cr K a xs).go i H/\∃N:St->Hp->Prop,(∀aI H',N aI H'->∃m',m'<m/\W (i+1) m' aI H')/\∀x H',(Cr K a xs).vc i H x H'->g x σ H' fun oj H2=>tb { D with nx:=N,ct:=N,bk:=D.nx } oj H2):=by
  refine⟨fun i m σ H=>m=xs.length-i/\i<=xs.length/\Pv i σ H,⟨xs.length,by simp,dH _,h0⟩,?_⟩;rintro i m σ H ⟨rfl,hi,p⟩;have q:=hl i σ H hi p
  by_cases dz:i<xs.length
  · refine .inr ⟨⟨q,dz⟩,Pv (i+1),fun aI H' p'=>⟨xs.length-(i+1),by lia,rfl,dz,p'⟩,fun x H' y=>?_⟩;obtain⟨e,y⟩:=y;subst e;exact hs i x σ _ y p
  · have e:i=xs.length:=by lia
    subst e;exact .inl ⟨aG _,hd σ H p⟩
end
theorem YK(a b:ah)(ha:(a == sysModules)=false)(hb:(b == sysModules)=false)(es:Array DictEntry)(ep sZ:Nat) :
    Meets (Builtin.«dict.__ne__» ⟨[.ref a,.ref b],[]⟩) (fun _ R s=>kH s.heap a es ep/\kH s.heap b #[] sZ/\R (.ok (.ret (.bool (!decide (es.size=0))))) s):=
  .of_wp fun prog w A R s h=>by
    obtain⟨h1,h2,h⟩:=h;have t1:=h1.typeIs;have t2:=h2.typeIs;obtain⟨o1,g1,c1,d1⟩:=h1;obtain⟨o2,g2,c2,d2⟩:=h2;have sub:=Rv.vQ
    wp_walk
    rw[d1];refine ay ?_;show wpAny _ _ (dictEntries b >>= _) _ _ _;refine aj (lB g2 d2 ?_)
    by_cases e:es.size=0
    · rw[ao (by rw[e];simp)];rw[aP e] at h;have e':es = #[]:=Array.eq_empty_of_size_eq_zero e;subst e';refine aj (pJ g1 d1 ?_);simp
      wp_walk
      exact⟨_,rfl,h⟩
    · rw[av (by simp[e])];rw[bq e] at h;refine aj (gv (ay ?_));exact ay ⟨_,rfl,h⟩
section
variable{X:Cx}
theorem YL(hu:X.A.units+9<cLine):jo X (compareOp .NotEq) (fun x y H Q=>∃p q kvs,x = .ref p/\y = .ref q/\Rd H p (.dK kvs)/\H q=some (.dK [])/\Q (.bl (!decide (kvs = []))) H):=by
  intro pins s σ H x y v u Q I rx ry h;obtain⟨p,q,kvs,rfl,rfl,hp,hq,k⟩:=h;cases rx;cases ry;obtain⟨z,hs,vs,rel,o,es,ep,e,ex,dt,kk,pr,nd⟩:=wV I.aZ hp;obtain⟨z',AL,Hy,K5,o',uM,sZ,e',Iw,YM,kk',YN,nd'⟩:=wV I.aZ (.inl hq);have l1:kvs.length=vs.length:=Paired.length rel;have l2:es.size=vs.length:=by rw[←pr.length];simp
  have l3 : [].length=Hy.length:=Paired.length K5;have l4:uM.size=Hy.length:=by rw[←YN.length];simp
  have e0:uM = #[]:=Array.eq_empty_of_size_eq_zero (by rw[l4,←l3];rfl);subst e0;refine richCompare_meets_room (op:=.NotEq) ⟨o,e,ex.1⟩ ⟨o',e',Iw.1⟩ PySem.F.slot_dict_ne PySem.F.entry_dict_ne (PySem.F.args_dict_ne_2 _ _) (YK p q hs AL es ep sZ) ⟨⟨o,e,ex,dt⟩,⟨o',e',Iw,YM⟩,?_⟩ (by lia);refine⟨(fun x=>nomatch x),.bl (!decide (kvs = [])),H,I,?_,k⟩;show Value.bool _=Value.bool _
  congr 2
  exact iZ.mpr ⟨fun z=>List.eq_nil_of_length_eq_zero (by lia),fun z=>by rw[z] at l1;simp at l1;lia⟩
end
section
variable{X:Cx}
theorem K6(K:aF)(hK:X.K=K):jo X (binaryOp .Add) (fun x y H Q=>∃l b xs zs,x = .ref l/\y = .ref b/\aH K H l xs/\aH K H b zs/\xs.length+zs.length<=sizeLine/\∀p,H p=none->Q (.ref p) (upd H p (.lst (xs++zs)))):=by
  subst hK;intro pins s σ H x y v u Q I rx ry h;obtain⟨l,b,xs,zs,rfl,rfl,hH,hB,hz,q⟩:=h;cases rx;cases ry;obtain⟨its,r,hl,z⟩:=I.list hH;obtain⟨dQ,r2,nY,z2⟩:=I.list hB;have e1:=r.length;have e2:=r2.length;obtain⟨⟨cls,dd,data,sl⟩,ho,hc,n,hd⟩:=hl.isList;obtain⟨⟨Jq,Gp,data2,Gq⟩,Av,Dr,n2,hd2⟩:=nY.isList;simp only at hc hd Dr hd2;subst hc hd Dr hd2;have e:its.toArray++dQ.toArray=(its++dQ).toArray:=by simp
  refine concat_meets ⟨_,ho,rfl⟩ ⟨_,Av,rfl⟩ noFill_list_add seq_list_add PySem.F.slot_list_add PySem.F.entry_list_add (PySem.F.args_list_add_2 _ _) (list_addW l b its.toArray dQ.toArray n n2 dd Gp sl Gq (by rw[br,br];lia)) ⟨ho,Av,?_⟩;rw[e];exact⟨.ref _,_,I.xS (t':=s.toks) (r.append r2) (by rw[cG];lia),rfl,q _ I.fresh⟩
end
section
variable{P:aU}{w:World}{K:aF}{mg:Str->Option ai}{base:Heap}
theorem gk.x{x:Str}{ps:List Str}{k:Nat}{sp:Sp}(F:gk P w K mg base x ps k sp):lU P w K mg base x ps k sp:=by
  obtain⟨f,fd,a,kp,lk,b,F⟩:=F;refine⟨f,fd,a,kp,lk,b,F.len,fun A outer s H args us vs Q E hr he hb hv hs=>?_⟩;refine ia (F.run A outer s H args us vs Q E hr he hb hv hs) fun r s' hq=>?_
  cases r with
  | ok fl=>
    cases fl with
    | ret u=>exact hq
    | next=>exact False.elim hq
    | brk=>exact False.elim hq
    | cont=>exact False.elim hq
  | error e=>exact False.elim hq
theorem lU.or{x:Str}{ps:List Str}{k:Nat}{PM PN:Sp}(F:lU P w K mg base x ps k PM)(G:lU P w K mg base x ps k PN):lU P w K mg base x ps k (fun vs H Q E=>PM vs H Q E\/PN vs H Q E):=by
  obtain⟨f,fd,a,kp,⟨oc,od,l9,lk⟩,b,F⟩:=F;obtain⟨f',Vk,a',D4,⟨Vl,Vm,JV,GH⟩,b',G⟩:=G;have e:f=f':=Value.ref.inj (bW (a.symm.trans a'));subst e;have e2:=bW (lk.symm.trans GH);injection e2 with _ _ h _
  injection h with h
  subst h;refine⟨f,fd,a,kp,⟨oc,od,l9,lk⟩,b,fun vs H Q E h=>h.elim (F.len vs H Q E) (G.len vs H Q E),fun A outer s H args us vs Q E hr he hb hv hs=>?_⟩;rcases hs with hs | hs
  · exact F.run A outer s H args us vs Q E hr he hb hv hs
  · exact G.run A outer s H args us vs Q E hr he hb hv hs
end
section
variable{X:Cx}
theorem YO{ys:List Str}(nd:ys.Nodup){i j:Nat}{z:Str}(h1:ys[i]? = some z)(h2:ys[j]? = some z):i=j:=by
  obtain⟨a,ea⟩:=bI.mp h1;obtain⟨b,eb⟩:=bI.mp h2;have pw:=jx.mp nd;rcases jN i j with c | c | c
  · exact absurd (ea.trans eb.symm) (pw i j a b c)
  · exact c
  · exact absurd (eb.trans ea.symm) (pw j i b a c)
end
end L2
theorem qw.dO{α β:Type}(f:α->β):∀(l:List α)(i:Nat),(l.map f).eraseIdx i=(l.eraseIdx i).map f
  | [],_=>by simp
  | x::r,0=>by simp
  | x::r,i+1=>by
    rw[cE,List.eraseIdx_cons_succ,List.eraseIdx_cons_succ,cE,qw.dO f r i]
namespace PySem
open Sem (wp)
section
variable{prog:aU}{w:World}{K:Type}[DecidableEq K](knd:HeapKind prog w K)(d a:ah)
theorem qx{α:Type}{xs:List (K×α)}{k:K}:∀{j:Nat}{p:α},(xs.map (·.1)).Nodup->xs[j]? = some (k,p)->xs.eraseIdx j=xs.filter fun x=>decide (x.1≠k):=by
  induction xs with
  | nil=>intro j p _ h;simp at h
  | cons x r ih=>
    intro j p hn h;rw[cE,fM] at hn;cases j with
    | zero=>
      have e:x=(k,p):=by simpa using h
      subst e;rw[List.eraseIdx_cons_zero,mZ (by simp)];refine(List.filter_eq_self.mpr fun y hy=>?_).symm;refine aP fun z=>hn.1 ?_
      exact aK.mpr ⟨y,hy,z⟩
    | succ j=>
      rw[List.getElem?_cons_succ] at h;rw[List.eraseIdx_cons_succ,ih hn.2 h,mY];refine aP fun z=>hn.1 ?_
      rw[z];exact aK.mpr ⟨(k,p),bC h,rfl⟩
theorem YQ :
    MeetsIn prog w (Builtin.«dict.pop» ⟨[.ref d,.ref a],[]⟩) (fun A R s=>knd.room A.in1/\∃(k:K)(xs:List (K×ah×ai))(j:Nat)(p:ah×ai),knd.is s.heap k a/\s.heap.DictOfH knd d xs/\xs.length<=sizeLine/\xs[j]? = some (k,p)/\
      ∀h',h'.DictOfH knd d (xs.filter fun x=>decide (x.1≠k))->Heap.SameBut d s.heap h'->R (.ok (.ret p.2)) { s with heap:=h',toks:=s.toks+knd.draws k }):=
  .of_wp fun A R s ⟨hu,k,xs,j,p,xJ,hm,hsz,hj,h⟩=>by
    have ty:=hm.typeIs;obtain⟨o,es,ep,ho,hc,hd,he,PR,hn⟩:=hm;have Ba:=size_of_entries he;have PU:j<xs.length:=(bI.mp hj).1;unfold Builtin.«dict.pop»;refine aj ?_;unfold Builtin.Dict.keyAndDefault;refine aj (wpAny_notOrdered_dict ty ?_);show wpAny _ _ (pure (d,Value.ref a,none)) _ _ s;refine ay ?_;have mF:es.isEmpty=false:=by
      rw[Array.isEmpty_eq_false_iff];intro z;rw[z] at Ba;simp at Ba;lia
    have hk:(keyPart (Value.ref a)).isSome=false:=rfl;simp only[hk,iS,c8];refine aj (lB ho hd ?_);refine aj (ay ?_);simp only[mF,iS,c8];refine aj ?_;unfold Builtin.Dict.takeOut;refine dG ?_;refine aj (knd.pyHash hu xJ (aj (wpAny_dictFind_heap (s:={ s with toks:=s.toks+knd.draws k }) hu xJ ho hd he PR hn (fun z=>absurd hj (z j p)) fun j' p' HC=>?_)));have ej:j'=j:=by
      obtain⟨l1,e1⟩:=bI.mp hj;obtain⟨l2,e2⟩:=bI.mp HC;have m1:(xs.map (·.1))[j]? = some k:=by rw[aN,hj];rfl
      have m2:(xs.map (·.1))[j']? = some k:=by rw[aN,HC];rfl
      have pw:=jx.mp hn;obtain⟨a1,b1⟩:=bI.mp m1;obtain⟨a2,b2⟩:=bI.mp m2;rcases jN j' j with c | c | c
      · exact absurd (b2.trans b1.symm) (pw j' j a2 a1 c)
      · exact c
      · exact absurd (b1.trans b2.symm) (pw j j' a1 a2 c)
    subst ej;rw[hj] at HC;cases HC;refine aj (lB (s:={ s with toks:=s.toks+knd.draws k }) ho hd ?_);rw[entry_at he j',hj];refine aj (wpAny_updateDictKeys (hz:=by lia) (s:={ s with toks:=s.toks+knd.draws k }) ho hd (ay ?_));simp only[Option.map_some,Option.isNone_some,iS,c8];refine aj (gj (ay ⟨_,rfl,h _ ⟨_,_,ep+1,cX _ ho (Obj.isFreed_of_dict (Obj.data_mapDictKeys hd _)),hc.mapDictKeys _,Obj.data_mapDictKeys hd _,?_,?_,?_⟩ (Heap.SameBut.update ..)⟩))
    · rw[←qx hn hj,←qw.dO,←he];obtain⟨l⟩:=es;simp
    · intro x hx;exact knd.keeps (PR x ((cy.mp hx).1)) ho hd (Heap.SameBut.update ..)
    · exact hn.sublist (jL.map _)
end
end PySem
namespace L2
open PySem PySem.Spec PyProof.Rows
section
variable{X:Cx}
theorem KT.drop{H:Hp}{kvs:List (List Key×V)}{xs:List (List Key×ah×ai)}(r:KT H kvs xs)(k:List Key):KT H (sC kvs k) (xs.filter fun x=>decide (x.1≠k)):=by
  unfold sC
  induction r with
  | nil=>exact .nil
  | @cons p q ps qs h t ih=>
    obtain⟨h1,h2,h3⟩:=h
    by_cases c:p.1=k
    · rw[mZ (by simpa using c),mZ (by rw[←h1];simpa using c)];exact ih
    · rw[mY (by simpa using c),mY (by rw[←h1];simpa using c)];exact .cons ⟨h1,h2,h3⟩ ih
theorem KT.find{H:Hp}{kvs:List (List Key×V)}{xs:List (List Key×ah×ai)}(r:KT H kvs xs){k:List Key}{v:V}(l:cT kvs k=some v):∃(j:Nat)(p:ah×ai),xs[j]? = some (k,p)/\RelV v p.2:=by
  induction r with
  | nil=>cases l
  | @cons p q ps qs h t ih=>
    obtain⟨h1,h2,h3⟩:=h
    by_cases c:p.1=k
    · rw[AA c] at l;cases l;refine⟨0,q.2,?_,h3⟩;rw[List.getElem?_cons_zero,←c,h1]
    · rw[DG c] at l;obtain⟨j,p',e,r'⟩:=ih l;exact⟨j+1,p',by rw[List.getElem?_cons_succ];exact e,r'⟩
theorem YR{pins:aD}{s:au}{σ:St}{H:Hp}{a b:ah}{kvs:List (List Key×V)}{k:List Key}{v:V}{A:Around}{E:az}{Q:az}(hu:A.units+1<cLine)(I:Inv X pins σ H s)(e:H a=some (.dT kvs))(eb:H b=some (.tup (k.map kV)))(l:cT kvs k=some v)
    (h:∀w' s',Inv X pins σ (upd H a (.dT (sC kvs k))) s'->RelV v w'->Q w' s'):wpAny (model X.prog X.w) A (call (.builtin "dict.pop") [.ref a,.ref b]) Q E s:=by
  obtain⟨z,hd,xs,rel,dd⟩:=Nn I.aZ e;have hz:xs.length<=sizeLine:=by rw[←Paired.length rel];exact z
  obtain⟨j,p,hj,rp⟩:=KT.find rel l;refine call_meetsIn PySem.F.slot_dict_pop dd.typeIs PySem.F.entry_dict_pop (PySem.F.args_dict_pop_2 _ _) (YQ (tupleKind (nW X.prog X.w)) a b)
    ⟨ni hu,k,xs,j,p,BZ I.aZ eb,dd,hz,hj,fun h' p8 hs=>h p.2 _ ?_ rp⟩
  obtain⟨q,es,ep,hq,h2,h3,h4,_,h5⟩:=p8;refine AD I (by rw[e];exact True.intro) hs ⟨q,hq⟩ ⟨bH (Jx kvs k) z,hd,_,(KT.drop rel k).keeps fun c ys ec=>?_,q,es,ep,hq,h2,h3,h4,h5⟩;rw[ze (jE ec e (fun z=>nomatch z))];exact ec
def YS(td ty:TE):TE:=fun σ H Q=>td σ H fun x H1=>∃a,x = .ref a/\Gz H1 a/\ty σ H1 fun y H2=>∃kvs k b v,H2 a=some (.dT kvs)/\y = .ref b/\H2 b=some (.tup (k.map kV))/\cT kvs k=some v/\Q v (upd H2 a (.dT (sC kvs k)))
theorem YT{o e:Expr}{apos bO:Pos}{td ty:TE}(hu:X.A.units+1<cLine)(ho:PE X o td)(he:PE X e ty)(m:M1 X o "pop" apos e bO):PE X (.Call (.Attribute o "pop" apos) [e] [] bO) (YS td ty):=by
  intro pins s σ H Q I h;refine wpAny_Call_method m.base m.Gy m.line PySem.F.plainAttrs_dict PySem.F.slot_dict_pop PySem.F.type_dict_pop (bK (ho pins s σ H _ I h) fun u s1 aQ=>?_);obtain⟨x,H1,I1,rx,a,ex,d,q1⟩:=aQ;subst ex;obtain rfl:u=Value.ref a:=rx;obtain⟨t1,t2,_⟩:=JB I1 d;refine⟨t1,t2,?_⟩;rw[m.trees];refine oJ rfl (kU (Calls.spliced_cons (bK (he pins s1 σ H1 _ I1 q1) fun iv s2 ⟨y,H2,I2,ry,kvs,k,b,v,ea,ey,eb,l,q2⟩=>Calls.spliced_nil ?_)));subst ey;cases (show iv=Value.ref b from ry);exact YR hu I2 ea eb l fun w' s3 I3 iO=>⟨v,_,I3,iO,q2⟩
theorem YU:DF X "list.remove" (fun x vs H Q=>∃(l:ah)(ys:List Str)(z:Str)(j:Nat),x = .ref l/\vs = [.str z]/\H l=some (.lst (ys.map V.str))/\ys[j]? = some z/\ys.Nodup/\Q .cu (upd H l (.lst ((ys.eraseIdx j).map V.str)))):=by
  intro pins s σ H x vs v us Q I rx rv h;obtain⟨l,ys,z,j,rfl,rfl,hH,hj,nd,q⟩:=h;cases rx;obtain⟨u,rfl,ru⟩:=pZ rv;obtain⟨t,rfl⟩:=ru;obtain⟨hz,its,n,r,hl,e⟩:=I.tF hH;have fl:(ys.map V.str).all nK=true:=by rw[List.all_map];exact iE.mpr fun _ _=>rfl
  rw[aq] at hl hz;obtain⟨jl,ej⟩:=bI.mp hj;have val:∀m(hm:m<its.length),∃y t',ys[m]? = some y/\its[m]=Value.str y t':=fun m hm=>by
    have h1:(ys.map V.str)[m]? = some (.str (ys[m]'(by lia))):=by rw[aN,aV (by lia)];rfl
    obtain⟨w,hw,iO⟩:=r.get h1;obtain⟨_,ew⟩:=bI.mp hw;obtain⟨t',rfl⟩:=iO;exact⟨_,t',aV (by lia),ew⟩
  have key:∀a:Str,(a.cps.toList == z.cps.toList)=decide (a=z):=fun a=>by
    by_cases c:a=z
    · subst c;simp
    · rw[bq c];refine Bool.eq_false_iff.mpr fun w=>c ?_
      have w:a.cps.toList=z.cps.toList:=by simpa using w
      cases a;cases z;simp at w;simp[w]
  let E:ai->Bool:=fun y=>match y with | .str a _=>a.cps.toList == z.cps.toList | _=>false
  have he:∀y,y∈its.toArray->MeetsSeq.EqGives y (.str z t) (E y):=fun y hy=>by
    have hy:y∈its:=by simpa using hy
    obtain⟨m,hm,rfl⟩:=List.getElem_of_mem hy;obtain⟨a,t',_,ea⟩:=val m hm;rw[ea];exact SeqRoads2.EqGives.str a z t' t
  have hit:E (its.toArray[j]'(by rw[br];lia))=true:=by
    obtain⟨a,t',h1,h2⟩:=val j (by lia);rw[hj] at h1;cases h1;rw[List.getElem_toArray,h2];show(z.cps.toList == z.cps.toList)=true;rw[key,aP rfl]
  have BV:∀m(hm:m<its.toArray.size),m<j->E its.toArray[m]=false:=fun m hm dz=>by
    rw[br] at hm;obtain⟨a,t',h1,h2⟩:=val m hm;rw[List.getElem_toArray,h2];show(a.cps.toList == z.cps.toList)=false;rw[key];refine bq fun c=>?_
    rw[c] at h1;have:=YO nd h1 hj;lia
  refine call_meets F.slot_list_remove ⟨_,e,rfl⟩ F.entry_list_remove (F.args_list_remove_2 _ _) (MeetsSeq.list_remove l its.toArray n (.str z t) E he j (by rw[br];lia) hit BV (by rw[br];lia)) ⟨e,?_⟩;refine⟨.cu,_,I.xR (its':=its.eraseIdx j) hH e ?_ (r.eraseIdx j) ?_,rfl,?_⟩
  · show its.toArray.eraseIdxIfInBounds j=(its.eraseIdx j).toArray;rw[List.eraseIdxIfInBounds_toArray]
  · rw[List.length_eraseIdx,aq];split<;>lia
  · rw[qw.dO];exact q
theorem YV{C:ah}{ps:List Str}{k:Nat}{sp:Sp}{x:Str}{p pos:Pos}{e:Expr}{es:List Expr}{t:TA}(F:gS X.prog X.w X.K X.mg X.base C "__init__" ps k sp)(HD:PySem.W.makesIn X.K C=true)(hk:PySem.W.keepIn X.K (.ref C)=true)(hr:cD (k+1) X.A)(hg:Gl X x)(hm:X.mg x=some (.ref C))(ha:PA X (e::es) t)(jT:(x == ("__debug__" : Str))=false:=by decide)
    (he:starEach (e::es) X.env=(false,eval e X.env)::starEach es X.env:=by rfl) (iP:(backTo pos (starEach es X.env)).any (·.1)=false:=by rfl) :
    PE X (.Call (.Name x p) (e::es) [] pos) (MW C sp [] E0 t):=by
  obtain⟨f,fd,a,b,G⟩:=F;exact TY ⟨HD,a.at_,a.fn,hk⟩ G hr hg hm (.all b) .nil GC ha jT he iP
end
section
variable{X:Cx}
inductive tT:HO->Prop where
  | k {kvs:List (Key×V)}:tT (.dK kvs)
  | t {kvs:List (List Key×V)}:tT (.dT kvs)
theorem Inv.K7{pins:aD}{σ:St}{H:Hp}{s:au}{a:ah}{ob:Obj}{u:HO}(I:Inv X pins σ H s)(e:H a=some (.dw ob u))(hu:tT u)(nb:∀o v,X.nE a≠some (.dw o v)):Inv X pins σ (upd H a u) s:=by
  have na:∀b,H b=none->b≠a:=fun b n z=>by rw[z,e] at n;cases n
  have nt:∀b xs,H b=some (.tup xs)->b≠a:=fun b xs q z=>by rw[z,e] at q;cases q
  have no:∀b c,H b=some (.own c)->b≠a:=fun b c q z=>by rw[z,e] at q;cases q
  have nl:∀b ps,H b=some (.yR ps)->b≠a:=fun b ps q z=>by rw[z,e] at q;cases q
  refine⟨I.ok,I.os,I.bare,⟨I.base.keep,I.base.slot,fun b o q n hx=>?_,I.base.there,fun b xs q=>?_,fun b o v q=>?_,fun b ps q=>?_⟩,I.loc,I.cell,?_,fun x c q=>?_,fun p hp=>?_,fun b w q=>?_,I.len⟩
  · have h:=I.base.free b o q n hx;rw[ze (na b h)];exact h
  · have h:=I.base.l7 b xs q;rw[ze (nt b xs h)];exact h
  · have h:=I.base.kg b o v q;have ne:b≠a:=fun z=>by rw[z] at q;exact nb o v q
    rw[ze ne];exact h
  · obtain⟨m,h⟩:=I.base.l8 b ps q;refine⟨m,?_⟩;rw[ze (nl b _ h)];exact h
  · rw[ze (na _ I.free)];exact I.free
  · have h:=I.e9 x c q;rw[ze (na _ h)];exact h
  · obtain⟨h1,h2,h3⟩:=I.pin p hp;exact⟨h1,by rw[ze (na _ h2)];exact h2,h3⟩
  · by_cases c:b=a
    · subst c;rw[zb] at q;cases q;exact(I.aZ b _ e).2.cP (fun c v _ r=>r) (fun c r=>by rw[ze (no c b r)];exact r) fun c xs r=>by rw[ze (nt c xs r)];exact r
    · rw[ze c] at q;exact(I.aZ b w q).cP (fun c v _ r=>r) (fun c r=>by rw[ze (no c b r)];exact r) fun c xs r=>by rw[ze (nt c xs r)];exact r
def YW(te:TE):TE:=fun σ H Q=>∃a u,H a=some u/\tT u/\te σ H fun v H'=>∃ob w,H' a=some (.dw ob w)/\tT w/\Q v (upd H' a w)
theorem PV{e:Expr}{te:TE}(h:PE X e te):PE X e (YW te):=by
  intro pins s σ H Q I q;obtain⟨a,u,ha,hu,q⟩:=q;have nb:∀o v,X.nE a≠some (.dw o v):=fun o v z=>by
    have:=I.base.kg a o v z;rw[ha] at this;cases this;cases hu
  refine bK (h pins s σ H _ I q) fun v s1 aQ=>?_
  obtain⟨x,H1,I1,r1,ob,w,e1,hw,q1⟩:=aQ;exact⟨x,_,I1.K7 e1 hw nb,r1,q1⟩
theorem Inv.yq{pins:aD}{σ:St}{H:Hp}{s:au}{a:ah}{kvs:List (List Key×V)}(I:Inv X pins σ H s)(h:H a=some (.dT kvs)):∃ob,s.heap.get? a=some ob/\Inv X pins σ (upd H a (.dw ob (.dT kvs))) s:=by
  obtain⟨o,e⟩:∃o,s.heap.get? a=some o:=by
    obtain⟨_,_,_,_,o,_,_,e,_⟩:=I.aZ a _ h;exact⟨o,e⟩
  have ok:=I.aZ a _ h;refine⟨o,e,I.write (e:=a) (h':=s.heap) (t':=s.toks) (by rw[h];trivial) (.inl rfl) (fun b u _ q=>q) ⟨o,e⟩ ⟨e,?_⟩⟩;obtain⟨z,hd,xs,r,dd⟩:=ok;refine⟨z,hd,xs,KT.keeps r fun c ys ec=>?_,dd⟩;rw[ze (jE ec h (fun z=>nomatch z))];exact ec
def Bb(a:ah)(ob:Obj)(kvs:List (List Key×V))(as:List ah):It:=
  ⟨fun i H=>H a=some (.dw ob (.dT kvs))/\i<as.length,fun i H x H'=>H'=H/\∃b,as[i]? = some b/\x = .ref b,fun i H=>H a=some (.dw ob (.dT kvs))/\as.length<=i⟩
theorem YX{P:aU}{w:World}{K:aF}{tg:Expr}(a it:ah){ob:Obj}{kvs:List (List Key×V)}{as:List ah}{es:Array DictEntry}{ep:Nat}(hd:ob.data = .dict es ep)(hl:es.toList.map (·.key)=as.map Value.ref):Turn P w K tg (Bb a ob kvs as) [it] it (fun i h=>h.IsKeyIter it a i es.size ep) where
  mem:=by simp
  obj:=fun i h st b hb=>by
    have e:b=it:=by simpa using hb
    subst e;obtain⟨o,e,c,d⟩:=st;exact⟨o,e,fun v z=>by rw[d] at z;cases z⟩
  keep:=fun i h h' st k=>st.at fun o e=>k it (by simp) o e
  item:=by
    intro X hP hw hK hc i pins s σ H E I hf st hg;subst hP hw hK;obtain⟨hq,hx⟩:=hg;obtain⟨e0,z,hs,vs,rel,o,uM,sZ,e,ex,dt,kk,nd⟩:=I.aZ a _ hq;rw[e0] at e;cases e;have ls:es.size=as.length:=by have:=bQ List.length hl;simpa using this
    have hi:i<es.size:=by lia
    have tK:es[i]? = some es[i]:=gK hi;obtain⟨f0,f1,f2,f3,f4,f5⟩:=hf it (by simp);refine J4 st ⟨ob,e0,ex,hd⟩ tK fun h' nG sb=>?_
    have I1:Inv X pins σ H { s with heap:=h' }:=I.turned (t':=s.toks) (fun b o hb e=>(sb.2 b hb).trans e) f0 f1 f3 f4 f5;obtain⟨oi,ei,ci,di⟩:=id nG;have ek:as[i]? = some as[i]:=aV hx;have K8:es[i].key=Value.ref as[i]:=by
      have h1:(es.toList.map (·.key))[i]? = some es[i].key:=by rw[aN,kT,tK];rfl
      have h2:(as.map Value.ref)[i]? = some (Value.ref as[i]):=by rw[aN,ek];rfl
      rw[hl,h2] at h1;exact(bW h1).symm
    exact⟨_,rfl,BO (s:={ s with heap:=h' }) ei ci di (by decide) ⟨.ref as[i],H,I1,by rw[K8];rfl,⟨rfl,_,ek,rfl⟩,nG,fun b hb=>(hf b hb).1⟩⟩
  done:=by
    intro X hP hw hK hc i pins s σ H E I hf st hg;subst hP hw hK;obtain⟨hq,hx⟩:=hg;obtain⟨e0,z,hs,vs,rel,o,uM,sZ,e,ex,dt,kk,nd⟩:=I.aZ a _ hq;rw[e0] at e;cases e;have ls:es.size=as.length:=by have:=bQ List.length hl;simpa using this
    obtain⟨f0,f1,f2,f3,f4,f5⟩:=hf it (by simp);exact J5 (I.ok.hd hc) st ⟨ob,e0,ex,hd⟩ (by lia) fun h' eb=>⟨rfl,I.turned (t':=s.toks) (fun b o hb e=>eb b o hb e) f0 f1 f3 f4 f5⟩
  self:=fun _ _ _ _ _ st h=>wpAny_pyIter_keyiter st h
variable{tg:Expr}
def YY(tl:TE):TI:=fun σ H R=>tl σ H fun x H1=>∃a kvs,x = .ref a/\H1 a=some (.dT kvs)/\∀ob as,Ef H1 as kvs->R (Bb a ob kvs as) (upd H1 a (.dw ob (.dT kvs)))
theorem YZ{l:Expr}{tl:TE}(hl:PE X l tl):PI X tg l (YY tl):=by
  intro pins s σ H R I h;refine bK (hl pins s σ H _ I h) fun v s1 aQ=>?_
  obtain⟨x,H1,I1,r1,q1⟩:=aQ;obtain⟨a,kvs,e,hq,q⟩:=q1;subst e;cases r1;obtain⟨z,hs,xs,rel,o,es,ep,e,ex,dt,he,nd⟩:=I1.aZ a _ hq;obtain⟨ob,e0,I2⟩:=I1.yq hq;rw[e0] at e;have eo:ob=o:=bW e;rw[←eo] at ex dt;refine GJ hs ⟨ob,e0,ex,dt⟩ ?_;refine⟨s1.heap.objs.size,[s1.heap.objs.size],_,_,_,rfl,I2.kept (t':=s1.toks) fun b o e=>aY _ e,YX a _ (as:=xs.map fun x=>x.2.1) dt ?_,⟨_,bF _ rfl,rfl,rfl⟩,fun b hb=>?_,q ob _ (J7 rel)⟩
  · rw[he,cz,cz];rfl
  · have e:b=s1.heap.objs.size:=by simpa using hb
    subst e;exact I2.nF (aG _) (I2.aZ.fresh (aG _))
theorem Y0{a:ah}{ob:Obj}{kvs:List (List Key×V)}{as:List ah}:Fix (Bb a ob kvs as) (as.map V.ref) (fun H=>H a=some (.dw ob (.dT kvs))):=
  ⟨fun i H h hi=>⟨h,by simpa using hi⟩,fun i H x H' h y=>⟨y.1,fun hi=>by
    obtain⟨b,hb,rfl⟩:=y.2;rw[aN,hb];rfl⟩,fun i H h hi=>⟨h,by simpa using hi⟩⟩
end
section
variable{P:aU}{w:World}{K:aF}{mg:Str->Option ai}{base:Heap}
def iJ(P:aU)(w:World)(K:aF)(mg:Str->Option ai)(base:Heap)(CX:qG)(C:ah)(m:Str)(ps:List Str)(k:Nat)(sp:Sp):Prop:=
  ∃(f:ah)(fd:FuncData),Meth K C m f/\(∃oc od l9,K.lookup f=some ⟨oc,od,.func fd,l9⟩)/\(∀us:List ai,us.length=ps.length->bindArgs fd ⟨us,[]⟩=pure (ps.zip us))/\jq P w K mg base CX k f fd ps sp
theorem pQ.kO{C:ah}{qual m:Str}{st:Stmt}{N ps:List Str}{k:Nat}{sp:Sp}(D:pQ K C qual m st ps)(S:aC N ps (zm st))(len:∀vs H Q E,sp vs H Q E->vs.length=ps.length)
    (kr:∀(f:ah)(bY:ai)(A:Around)(outer:List Env)(s:au)(H:Hp)(vs:List V)(Q:VK)(E:XK),cD k (A.deeper (envOfC qual (zm st) s.heap.objs.size f bY))->sp vs H Q E->
      ∃t,pO (nI oN P w K mg base N qual (zm st) f bY A outer s H E).Ah (tG st) t/\t { nx:=fun _ H'=>Q .cu H',rt:=Q } (start N vs) H):iJ P w K mg base oN C m ps (k+1) sp:=by
  obtain⟨f,fd,F,a,b⟩:=D;obtain⟨oc,od,kV,doc,pm,an,bY,ct,l9,e,lk,qh⟩:=id F.ex;exact⟨f,fd,a,⟨oc,od,l9,e▸lk⟩,b,F.ok S len (kr f)⟩
theorem iJ.m{C:ah}{m:Str}{ps:List Str}{k:Nat}{sp:Sp}(F:iJ P w K mg base oN C m ps k sp):gS P w K mg base C m ps k sp:=by
  obtain⟨f,fd,a,_,b,F⟩:=F;exact⟨f,fd,a,b,F⟩
end
section
open SeqAt
end
structure ee(scope gA:Scope)(cap:List Str):Prop where
  kind:scope.kind = .function
  nd:(scope.names.map (·.1)).Nodup
  loc:∀y∈scope.names,y.2 = .local->scope.names.lookup y.1=some .local
  free:∀y∈scope.names,y.2 = .free->gA.names.lookup y.1=some .cell\/gA.names.lookup y.1=some .free
  cap:∀x∈cap,scope.names.lookup x=some .free
def jX(scope:Scope)(C:ah):List (Str×ah):=cellsFrom (C+1) scope.names []
def pV(X:Cx)(N:List Str)(scope:Scope)(C:ah)(s:au)(H:Hp)(ex:List ah):Cx where
  prog:=X.prog
  w:=X.w
  K:=X.K
  mg:=X.mg
  base:=X.base
  A:=X.A
  N:=N
  cY:=s
  nE:=H
  env:=compEnvC scope (jX scope C++mE X.env.cells scope.names []) C X.env
  outer:=X.stack
  stack:=X.stack
  ex:=ex
  fn:=fun x=>scope.names.lookup x == some .cell
  calm:=X.calm
  pn:=[]
  xe:=fun _ _=>False
theorem ES:∀(names:List (Str×NameKind))(n:Nat)(acc:List (Str×ah)),cellsFrom n names acc=cellsFrom n names []++acc
  | [],_,_=>rfl
  | (x,k)::r,n,acc=>by
    unfold cellsFrom;split
    · rw[ES r (n+1) ((x,n)::acc),ES r (n+1) [(x,n)],lC];rfl
    · exact ES r n acc
theorem K9:∀(names:List (Str×NameKind))(n:Nat)(x:Str)(c:ah),(x,c)∈cellsFrom n names []->(x,NameKind.cell)∈names
  | [],_,_,_,h=>by cases h
  | (y,k)::r,n,x,c,h=>by
    unfold cellsFrom at h;split at h
    · rename_i hk;rw[ES] at h;rcases bz.mp h with h | h
      · exact bE _ (K9 r _ x c h)
      · have e:(x,c)=(y,n):=by simpa using h
        have hk:k = .cell:=by simpa using hk
        cases e;rw[hk];exact e8 ..
    · exact bE _ (K9 r _ x c h)
theorem PX{α:Type}{l m:List (Str×α)}{x:Str}{c:α}(h:(l++m).lookup x=some c):l.lookup x=some c\/(l.lookup x=none/\m.lookup x=some c):=by
  induction l with
  | nil=>exact .inr ⟨rfl,h⟩
  | cons p r ih=>
    obtain⟨y,d⟩:=p
    by_cases e:x=y
    · subst e
      left
      rw[List.cons_append] at h;simpa using h
    · rw[List.cons_append,vo e] at h;rw[vo e];exact ih h
theorem PY{α:Type}{l m:List (Str×α)}{x:Str}(h:l.lookup x=none):(l++m).lookup x=m.lookup x:=by
  induction l with
  | nil=>rfl
  | cons p r ih=>
    obtain⟨y,d⟩:=p
    by_cases e:x=y
    · subst e;simp at h
    · rw[vo e] at h;rw[List.cons_append,vo e];exact ih h
theorem PZ{α:Type}{l m:List (Str×α)}{x:Str}{c:α}(h:l.lookup x=some c):(l++m).lookup x=some c:=by
  induction l with
  | nil=>cases h
  | cons p r ih=>
    obtain⟨y,d⟩:=p
    by_cases e:x=y
    · subst e;rw[List.cons_append];simpa using h
    · rw[vo e] at h;rw[List.cons_append,vo e];exact ih h
theorem Y3{names:List (Str×NameKind)}(nd:(names.map (·.1)).Nodup){x:Str}{k k':NameKind}(h:(x,k)∈names)(h':(x,k')∈names):k=k':=by
  induction names with
  | nil=>cases h
  | cons p r ih=>
    rw[cE,fM] at nd;rcases aO.mp h with e | h
    · rcases aO.mp h' with e' | h'
      · rw[←e] at e';exact((Prod.mk.injEq ..▸e').2).symm
      · exact absurd (aK.mpr ⟨_,h',by rw[←e]⟩) nd.1
    · rcases aO.mp h' with e' | h'
      · exact absurd (aK.mpr ⟨_,h,by rw[←e']⟩) nd.1
      · exact ih nd.2 h h'
theorem Y4{X:Cx}{pins:aD}{σ:St}{H:Hp}{s:au}{scope:Scope}{cap:List Str}(I:Inv X pins σ H s)(S:ee scope X.env.scope cap) :
    closureFor scope X.env=pure (mE X.env.cells scope.names []):=
  NC fun x hx hf=>I.ok.has x.1 (S.free x hx hf)
theorem Y5{X:Cx}{pins:aD}{σ:St}{H:Hp}{s:au}{scope:Scope}{own cap:List Str}{ix:List Nat}{fp:List ah}{c9:Heap}{m:Str->Option ai}{tk:Nat}
    (I:Inv X pins σ H s) (S:ee scope X.env.scope cap) (c6:ix.map (fun i=>X.N[i]?)=cap.map some) (hf:∀b∈fp,fX X pins H b) (dz:∀b∈fp,b<s.heap.objs.size)
    (hn:c9.Ns s.heap.objs.size m) (hk:∀b o,s.heap.get? b=some o->c9.get? b=some o) (hc:CellsOk c9 (s.heap.objs.size+1) (jX scope s.heap.objs.size)) :
    Inv (pV X (own++cap) scope s.heap.objs.size s H fp) [] (rC own ix σ) H { s with heap:=c9,toks:=tk }:=by
  have sub:∀y d,(mE X.env.cells scope.names []).lookup y=some d->X.env.cells.lookup y=some d:=DN _ _ _ (fun y d h=>by cases h);have has:∀y c,(y,NameKind.free)∈scope.names->X.env.cells.lookup y=some c->(mE X.env.cells scope.names []).lookup y=some c:=fun y c hy hc=>JG _ hc _ _ (fun y d h=>by cases h) (.inl hy)
  have two:∀y d,(jX scope s.heap.objs.size++mE X.env.cells scope.names []).lookup y=some d->((y,d)∈jX scope s.heap.objs.size/\s.heap.objs.size<d)\/(X.env.cells.lookup y=some d/\d<s.heap.objs.size):=fun y d h=>by
    rcases PX h with h | ⟨_,h⟩
    · have hm:=PySem.mem_of_lookup h;exact .inl ⟨hm,(hc.empty _ _ hm).2⟩
    · have h:=sub _ _ h;obtain⟨v,o,ho,_⟩:=I.cell y d h;exact .inr ⟨h,aJ ho⟩
  have hlen:ix.length=cap.length:=by
    have:=bQ List.length c6;simpa using this
  refine⟨⟨I.mod,S.kind,I.ok.glob,I.ok.blt,aG _,fun x y c e1 e2=>?_,fun x hx=>?_,fun x c z e=>?_,I.ok.hd,I.ok.frames,.inl rfl,fun b hb=>⟨aX (dz b hb),fun x c e=>?_⟩,I.bs,
      bH I.ok.sX I.sz,fun b o e hb=>?_,fun b hb z=>?_,I.stack,I.ki⟩,rfl,I.bare,Un.kept hk,⟨m,hn,fun i x v e1 e2 e3=>?_⟩,fun x c e=>?_,I.aZ.fresh (aG _),fun x c e=>?_,fun p hp=>absurd (show p∈([]:aD) from hp) (by simp),I.aZ.kept hk,?_⟩
  · rcases two _ _ e1 with ⟨m1,l1⟩ | ⟨m1,l1⟩
    · rcases two _ _ e2 with ⟨m2,l2⟩ | ⟨m2,l2⟩
      · exact name_of_addr hc.apart m1 m2
      · exact absurd l2 (Nat.lt_asymm l1)
    · rcases two _ _ e2 with ⟨m2,l2⟩ | ⟨m2,l2⟩
      · exact absurd l2 (Nat.lt_asymm l1)
      · exact I.ok.inj x y c m1 m2
  · have e:=DO X.env x scope.names;have e':(relabel scope X.env).names.lookup x=_:=e;have oK:(relabel scope X.env).names.lookup x=some .cell\/(relabel scope X.env).names.lookup x=some .free:=hx;show ∃c,(jX scope s.heap.objs.size++mE X.env.cells scope.names []).lookup x=some c;cases q:(jX scope s.heap.objs.size).lookup x with
    | some c=>exact⟨c,PZ q⟩
    | none=>
      rw[PY q];cases q2:scope.names.lookup x with
      | none=>
        rw[q2] at e';rw[e'] at oK;rcases oK with h | h<;>cases h
      | some kd=>
        rw[q2] at e';have mm:=PySem.mem_of_lookup q2;cases kd with
        | free=>
          obtain⟨c,hc⟩:=I.ok.has x (S.free _ mm rfl);exact⟨c,has x c mm hc⟩
        | cell=>
          have:=PySem.W.cellsFrom_some (n:=s.heap.objs.size+1) (names:=scope.names) (acc:=[]) (x:=x) (.inl q2);unfold jX at q;rw[q] at this;cases this
        | _=>
          rw[e'] at oK;rcases oK with h | h<;>cases h
  · have q2:scope.names.lookup x=some .cell:=by simpa[pV] using z
    rcases two _ _ e with ⟨m1,l1⟩ | ⟨m1,l1⟩
    · exact i7 l1
    · have hs:=PySem.W.cellsFrom_some (x:=x) scope.names (s.heap.objs.size+1) [] (.inl q2);obtain⟨c',Ag⟩:=qR.mp hs;have e3:(jX scope s.heap.objs.size++mE X.env.cells scope.names []).lookup x=some c':=PZ Ag;have e4:(jX scope s.heap.objs.size++mE X.env.cells scope.names []).lookup x=some c:=e;rw[e3] at e4;cases e4;have:=(hc.empty _ _ (PySem.mem_of_lookup Ag)).2;exact absurd l1 (Nat.not_lt.mpr (Nat.le_of_succ_le this))
  · rcases two _ _ e with ⟨m1,l1⟩ | ⟨m1,l1⟩
    · have:=dz b hb;exact fun z=>absurd (z▸l1) (Nat.lt_asymm this)
    · exact(hf b hb).2.2.2.2.1 x c m1
  · obtain⟨f0,f1,f2,f3,f4,f5⟩:=hf b hb;rcases f3 with z | z
    · exact I.ok.qe b o e z
    · exact absurd (dS (dS (aJ e) I.ok.sX) z) (dW _)
  · obtain⟨f0,f1,f2,f3,f4,f5⟩:=hf b hb;rcases aO.mp (I.lK b z) with z | z
    · exact f1 z
    · exact f2 z
  · have e1:(own++cap)[i]? = some x:=e1;unfold rC at e2
    by_cases hi:i<own.length
    · rw[mR (by simpa using hi),aN] at e2;cases q:own[i]? with
      | none=>rw[q] at e2;cases e2
      | some y=>rw[q] at e2;cases e2
    · rw[mQ (by simpa using hi)] at e1;rw[mQ (by simpa using hi),aq,aN] at e2;generalize i-own.length=j at e1 e2;cases q:ix[j]? with
      | none=>rw[q] at e2;cases e2
      | some k=>
        rw[q] at e2;have e2:(σ[k]?).join=some v:=bW e2;have JI:σ[k]? = some (some v):=by
          cases q2:σ[k]? with
          | none=>rw[q2] at e2;cases e2
          | some o=>rw[q2] at e2;exact bQ some e2
        have eN:X.N[k]? = some x:=by
          have:=bQ (fun l=>l[j]?) c6;simp only[aN,q,e1,Option.map_some] at this;exact bW this
        have iu:=S.cap x (bC e1);have jt:=PySem.mem_of_lookup iu;have vq:=S.free _ jt rfl;have La:(jX scope s.heap.objs.size).lookup x=none:=by
          cases q3:(jX scope s.heap.objs.size).lookup x with
          | none=>rfl
          | some c=>
            have:=Y3 S.nd (K9 _ _ _ _ (PySem.mem_of_lookup q3)) jt;cases this
        obtain⟨m0,U4,hl⟩:=I.loc;obtain⟨u,r,l⟩:=hl k x v eN JI (.inr vq);rcases l with ⟨kd,_⟩ | ⟨kd,c,e,z⟩
        · have kd:X.env.scope.names.lookup x=some .local:=kd;rcases vq with ho | ho<;>(have ho:X.env.scope.names.lookup x=_:=ho;rw[kd] at ho;cases ho)
        · exact⟨u,r,.inr ⟨JH iu,c,(PY La).trans (has x c jt e),z.keeps hk⟩⟩
  · rcases two _ _ e with ⟨m1,l1⟩ | ⟨m1,l1⟩
    · exact⟨none,(hc.empty _ _ m1).1⟩
    · obtain⟨v,q⟩:=I.cell x c m1;exact⟨v,q.keeps hk⟩
  · rcases two _ _ e with ⟨m1,l1⟩ | ⟨m1,l1⟩
    · exact I.aZ.fresh (i7 l1)
    · exact I.e9 x c m1
  · show(rC own ix σ).length=(own++cap).length;unfold rC;simp[hlen]
theorem Y6{X:Cx}{pins:aD}{σ aI:St}{H H':Hp}{s s':au}{scope:Scope}{N:List Str}{fp:List ah}{h':Heap}
    (I:Inv X pins σ H s) (hf:∀b∈fp,fX X pins H b) (J:Inv (pV X N scope s.heap.objs.size s H fp) [] aI H' s') (hs:Heap.SameBut s.heap.objs.size s'.heap h'):Inv X pins σ H' { s' with heap:=h' }:=by
  have ne:∀b o,s.heap.get? b=some o->b≠s.heap.objs.size:=fun b o e=>aX (aJ e)
  have B:Un (jh X.stack) fp H H' s.heap s'.heap:=J.base;refine I.qg (s':={ s' with heap:=h' }) (ch:=fp) J.os ⟨fun b o e n hb hx=>?_,fun b o e n hb hx=>?_,B.free,fun b o e hx=>?_,B.l7,B.kg,B.l8⟩ (fun b ob e=>?_) J.bare fun b hb=>?_
  · exact(hs.2 b (ne b o e)).trans (B.keep b o e n hb hx)
  · obtain⟨sl,e1⟩:=B.slot b o e n hb hx;exact⟨sl,(hs.2 b (ne b o e)).trans e1⟩
  · obtain⟨o',e1⟩:=B.there b o e hx;exact⟨o',(hs.2 b (ne b o e)).trans e1⟩
  · have fr:H' s.heap.objs.size=none:=J.free;refine(J.aZ b ob e).cP (fun c w' hc q=>(hs.2 c ?_).trans q) (fun _ q=>q) fun _ _ q=>q
    rintro rfl;rcases hc with hc | hc
    · rw[←hc,fr] at e;cases e
    · rw[fr] at hc;cases hc
  · obtain⟨f0,f1,f2,f3,f4,f5⟩:=hf b hb;exact⟨f3,f1,f4,f5⟩
theorem Y7{M:Model}{A:Around}{E:az}{s:au}{scope:Scope}{globals:ah}{cl:List (Str×ah)}{qual:Str}{outer:Env}{Q:Env->au->Prop}
    (h:Q { scope:=scope,locals:=s.heap.objs.size,globals:=globals,cells:=jX scope s.heap.objs.size++cl,qual:=qual,func:=none,code:=outer.code,frame:=outer.frame,builtins:=outer.builtins } { s with heap:=pushCells (s.heap.push { cls:=.type "dict",data:=.dict #[] }) scope.names }) :
    wpAny M A (newFunctionEnv scope globals cl [] qual none .none (some outer)) Q E s:=by
  simp only[newFunctionEnv,Option.isSome_some,if_true];refine aj (wpAny_alloc ?_);refine aj (wpAny_layCells _ (fun name kind cells=>by cases Y8:kind == NameKind.cell<;>simp[Y8]) _ _ _ _ ?_);rw[show({ s with heap:=s.heap.push { cls:=.type "dict",data:=.dict #[] } }:au).heap.objs.size=s.heap.objs.size+1 from fP ..,ES];refine aj ?_;rw[List.forIn_nil];exact ay (ay h)
section
variable{X:Cx}{tg iter elt:Expr}{ifs:List Expr}{scope:Scope}{pos:Pos}{own cap:List Str}{ix:List Nat}{wi:TI}{g:TG}{tc:TT}{te:TE}
theorem Y9{pins:aD}{σ:St}{s:au}{E:az}{RR:ai->ah->Result->au->Prop}{Q:VK}
    (hc:X.calm=true) (S:ee scope X.env.scope cap) (c6:ix.map (fun i=>X.N[i]?)=cap.map some)
    (hg:∀C s H ex,PG (pV X (own++cap) scope C s H ex) tg g) (ht:∀C s H ex,y9 (pV X (own++cap) scope C s H ex) ifs tc) (he:∀C s H ex,PE (pV X (own++cap) scope C s H ex) elt te)
    {vd:ai}(h:Gh X pins σ tg (fun J H1=>∀D,H1 D=none->DS own ix J g tc te σ H1 D Q) vd s)
    (hR:∀(D C:ah)(s':au)(H':Hp)(m:Str->Option ai),s'.heap.Ns C m->fX X pins H' C->(∀h',Heap.SameBut C s'.heap h'->Inv X pins σ H' { s' with heap:=h' })->Q (.ref D) H'->RR (.ref D) C (.ok .next) s') :
    wpAny (model X.prog X.w) X.A (newList []) (fun acc mh=>wpAny (model X.prog X.w) X.A (newFunctionEnv scope X.env.globals (mE X.env.cells scope.names []) [] X.env.qual none .none (some X.env)) (fun vt kF=>
      codeAny (model X.prog X.w) X.A (.compStart (.ListComp elt [⟨tg,iter,ifs,0⟩] scope pos) 0 vd acc { vt with scope:=relabel scope X.env }) (RR acc vt.locals) kF) E mh) E s:=by
  obtain⟨it,fp,tn,J,H2,rfl,I2,T,Ak,f2,q2⟩:=h;refine eK (Y7 ?_);dsimp only;have hD:H2 s.heap.objs.size=none:=I2.aZ.fresh (aG _);obtain⟨W,⟨m0,w0⟩,turn⟩:=q2 s.heap.objs.size hD;have I3:Inv X pins σ (upd H2 s.heap.objs.size (.lst [])) { s with heap:=s.heap.push { cls:=.type "list",data:=.seq ([]:List ai).toArray } }:=I2.xS (t':=s.toks) (its:=[]) .nil (dH _);have DT:∀b∈fp,b<s.heap.objs.size:=fun b hb=>by
    obtain⟨o,e,_⟩:=T.obj 0 _ Ak b hb;exact aJ e
  have f3:∀b∈fp,fX X pins (upd H2 s.heap.objs.size (.lst [])) b:=fun b hb=>⟨by rw[ze (aX (DT b hb))];exact(f2 b hb).1,(f2 b hb).2⟩
  generalize hH:s.heap.push { cls:=.type "list",data:=.seq ([]:List ai).toArray } = H3 at I3 ⊢;have sz:H3.objs.size=s.heap.objs.size+1:=by rw[←hH,fP]
  obtain⟨c9,sR⟩:∃c9,c9=pushCells (H3.push { cls:=.type "dict",data:=.dict #[] }) scope.names:=⟨_,rfl⟩;have nP:c9.Ns H3.objs.size (fun _=>none):=by rw[sR];exact(Heap.Ns.new H3 (.type "dict")).keeps (pushCells_keeps _ _)
  have up:∀b o,H3.get? b=some o->c9.get? b=some o:=fun b o e=>by rw[sR];exact pushCells_keeps _ _ b o (aY _ e)
  have ET:CellsOk c9 (H3.objs.size+1) (jX scope H3.objs.size):=by
    have ok:=cellsFrom_ok scope.names (H3.push { cls:=.type "dict",data:=.dict #[] }) (H3.objs.size+1) [] ⟨fun _ _ hm=>(nomatch hm),List.Pairwise.nil⟩ (by rw[fP];exact aG _);rw[fP] at ok;rw[sR];exact ok
  rw[←sR];have old:∀b o,s.heap.get? b=some o->c9.get? b=some o:=fun b o e=>up b o (by rw[←hH];exact aY _ e)
  have xW:∀b∈fp,b<({ s with heap:=H3 }:au).heap.objs.size:=fun b hb=>by show b<H3.objs.size;rw[sz];exact iV (DT b hb)
  have Bc:∀b∈fp,∀x c,(jX scope H3.objs.size++mE X.env.cells scope.names []).lookup x=some c->c≠b:=fun b hb x c e=>by
    rcases PX e with e | ⟨_,e⟩
    · have l1:=(ET.empty _ _ (PySem.mem_of_lookup e)).2;have l2:b<H3.objs.size:=xW b hb;exact fun z=>absurd (dS (iY _) (z▸l1)) (Nat.lt_asymm l2)
    · exact(f2 b hb).2.2.2.2.1 x c (DN _ _ _ (fun y d h=>by cases h) _ _ e)
  have DU:tn 0 c9:=T.keep _ _ _ Ak fun b _ o e=>old b o e
  have nH:∀{H':Hp},(∀b∈fp,H' b=none)->∀b∈fp,fX (pV X (own++cap) scope H3.objs.size { s with heap:=H3 } (upd H2 s.heap.objs.size (.lst [])) fp) [] H' b:=fun hn b hb=>
    ⟨hn b hb,aX (xW b hb),fun z=>(aO.mp (I3.lK b z)).elim (f2 b hb).2.1 (f2 b hb).2.2.1,.inl hb,fun x c e=>Bc b hb x c e,fun p hp=>absurd (show p∈([]:aD) from hp) (by simp)⟩
  have loop:∀kF:au,kF = { s with heap:=c9,toks:=s.toks+([]:List (Str×ai)).length }->
      codeAny (model X.prog X.w) X.A (.compLoop (.ListComp elt [⟨tg,iter,ifs,0⟩] scope pos) 0 (.ref it) (.ref s.heap.objs.size) (compEnvC scope (jX scope H3.objs.size++mE X.env.cells scope.names []) H3.objs.size X.env))
        (RR (.ref s.heap.objs.size) H3.objs.size) kF:=by
    rintro kF rfl;have I4:=Y5 (own:=own) (fp:=fp) (tk:=s.toks+([]:List (Str×ai)).length) I3 S c6 f3 xW nP up ET;refine NG (fun n s'=>∃i aI ys H',Inv (pV X (own++cap) scope H3.objs.size { s with heap:=H3 } (upd H2 s.heap.objs.size (.lst [])) fp) [] aI H' s'/\tn i s'.heap/\(∀b∈fp,H' b=none)/\W i n aI ys H') ?_ m0
      ⟨0,_,[],_,I4,DU,fun b hb=>(f3 b hb).1,w0⟩
    rintro n s5 ⟨i,xX,ys,H5,I5,xH,Al,w5⟩;obtain⟨GF,vz⟩:=turn i n xX ys H5 w5;rcases vz with ⟨stop,q⟩ | ⟨go,hz,step⟩
    · refine bK (T.done (pV X (own++cap) scope H3.objs.size { s with heap:=H3 } (upd H2 s.heap.objs.size (.lst [])) fp) rfl rfl rfl hc i [] s5 xX H5 _ I5 (nH Al) xH stop) fun r s6 aQ=>?_
      obtain⟨hr,I6⟩:=aQ;subst hr;obtain⟨m6,DV,_⟩:=I6.loc;exact hR _ _ s6 H5 m6 DV (I3.nF (aG _) I6.free) (fun h' hs=>Y6 I3 f3 I6 hs) q
    · refine bK (T.item (pV X (own++cap) scope H3.objs.size { s with heap:=H3 } (upd H2 s.heap.objs.size (.lst [])) fp) rfl rfl rfl hc i [] s5 xX H5 _ I5 (nH Al) xH go) fun r s6 aQ=>?_
      obtain⟨u,hr,h6⟩:=aQ;subst hr;refine bK h6 fun _ s7 aQ=>?_
      obtain⟨x,H7,I7,r7,y7,AH,JL⟩:=aQ;have JM:=I7.pinned (nH JL) (T.obj _ _ AH);refine cA (hg _ _ _ _ _ s7 xX H7 x u _ JM r7 (step x H7 y7)) (fun _ s8 aQ=>?_) fun _ _ z=>False.elim z
      obtain⟨AI,H8,I8,q8⟩:=aQ;refine cA (ht _ _ _ _ _ s8 AI H8 _ I8 q8) (fun ok s9 aQ=>?_) fun _ _ z=>False.elim z
      obtain⟨H9,I9,q9⟩:=aQ;have again:∀{s':au}{aI:St}{H':Hp}{AJ:List V}{m':Nat},Inv (pV X (own++cap) scope H3.objs.size { s with heap:=H3 } (upd H2 s.heap.objs.size (.lst [])) fp) ([]++BQ fp s7.heap) aI H' s'->m'<n->W (i+1) m' aI AJ H'->
          ∃m,m<n/\∃i aI ys H',Inv (pV X (own++cap) scope H3.objs.size { s with heap:=H3 } (upd H2 s.heap.objs.size (.lst [])) fp) [] aI H' s'/\tn i s'.heap/\(∀b∈fp,H' b=none)/\W i m aI ys H':=fun{s' aI H' AJ m'}I' hm w'=>by
        refine⟨m',hm,i+1,aI,AJ,H',I'.jd,T.keep _ _ _ AH fun b hb o e=>(I'.pin (b,o) (dZ _ (dZ _ (BR hb e)))).1,fun b hb=>?_,w'⟩;obtain⟨o,e,d⟩:=T.obj _ _ AH b hb;exact(I'.pin (b,o) (dZ _ (dZ _ (BR hb e)))).2.1
      cases ok with
      | false=>
        rw[ao bJ] at q9 ⊢;obtain⟨_,m',hm,w'⟩:=q9;exact again I9 hm w'
      | true=>
        rw[av rfl] at q9 ⊢;refine cA (he _ _ _ _ _ s9 AI H9 _ I9 q9) (fun v JN aQ=>?_) fun _ _ z=>False.elim z
        obtain⟨y,DW,JO,JP,AK,m',hm,w'⟩:=aQ;refine cA (uP (X:=pV X (own++cap) scope H3.objs.size { s with heap:=H3 } (upd H2 s.heap.objs.size (.lst [])) fp) _ JN AI DW (.ref s.heap.objs.size) [y] (.ref s.heap.objs.size) [v] (fun _ H'=>H'=upd DW s.heap.objs.size (.lst (ys++[y]))) JO rfl (.cons JP .nil) ⟨_,ys,y,rfl,rfl,AK,hz,rfl⟩)
          (fun _ U8 ⟨_,U9,JQ,_,JR⟩=>?_) fun _ _ z=>False.elim z
        subst JR;exact again JQ hm w'
  exact codeAny_compStart_list (loop _ rfl) (T.self _ 0 _ _ _ DU (loop _ rfl))
theorem Za{gA:Scope}(hc:X.calm=true)(S':ee scope gA cap)(c6:ix.map (fun i=>X.N[i]?)=cap.map some)(hi:PI X tg iter wi)
    (hg:∀C s H ex,PG (pV X (own++cap) scope C s H ex) tg g) (ht:∀C s H ex,y9 (pV X (own++cap) scope C s H ex) ifs tc) (he:∀C s H ex,PE (pV X (own++cap) scope C s H ex) elt te)
    (hs:∀x,foldedSetIterable iter X.env x=pure x:=by intro _;rfl) (ho:X.env.scope=gA:=by rfl):PE X (.ListComp elt [⟨tg,iter,ifs,0⟩] scope pos) (GD own ix wi g tc te):=by
  have S:ee scope X.env.scope cap:=ho▸S';intro pins s σ H Q I h;rw[eval_ListComp];refine wpAny_comprehension_free (use:=none) rfl hs (Y4 I S) S.kind S.loc (bK (hi pins s σ H _ I h) fun xv bD c9=>bK c9 fun vd iL nO=>?_);refine Y9 (RR:=fun acc C=>compPost (model X.prog X.w) X.A X.xe none (EP X pins σ Q) acc C) hc S c6 hg ht he nO fun D C s' H' m hn _ hI q=>?_
  exact⟨m,hn,fun h' AL=>⟨.ref D,H',hI h' AL,rfl,q⟩⟩
theorem Zb{gA:Scope}{env:Env}{x:Str}(h:gA.names.lookup x=some .cell\/gA.names.lookup x=some .free):(relabel gA env).names.lookup x=some .cell\/(relabel gA env).names.lookup x=some .free:=by
  rcases h with h | h
  · have e:=DO env x gA.names;rw[h] at e;have e':(relabel gA env).names.lookup x=_:=e;rw[e'];exact .inl rfl
  · exact JH h
theorem Zc{gA:Scope}(hc:X.calm=true)(S':ee scope gA cap)(c6:ix.map (fun i=>X.N[i]?)=cap.map some)(hi:PI X tg iter wi)
    (hg:∀C s H ex,PG (pV X (own++cap) scope C s H ex) tg g) (ht:∀C s H ex,y9 (pV X (own++cap) scope C s H ex) ifs tc) (he:∀C s H ex,PE (pV X (own++cap) scope C s H ex) elt te)
    (hs:∀x,foldedSetIterable iter X.env x=pure x:=by intro _;rfl) (ho:∃e,X.env.scope=relabel gA e:=by exact⟨_,rfl⟩):PE X (.ListComp elt [⟨tg,iter,ifs,0⟩] scope pos) (GD own ix wi g tc te):=by
  obtain⟨e,ho⟩:=ho;exact Za hc ⟨S'.kind,S'.nd,S'.loc,fun y hy hf=>by rw[ho];exact Zb (S'.free y hy hf),S'.cap⟩ c6 hi hg ht he hs rfl
end
def Zd(st:Stmt)(i:Nat):Scope:=
  match (tG st).getD i (.Pass ⟨0,0,0,0⟩) with
  | .Return (some (.ListComp _ _ sc _)) _=>sc
  | .Assign _ (.ListComp _ _ sc _) _=>sc
  | _=>zm st
end L2
namespace Dm
open PySem PySem.NumText L2
def gH(fs:List bN)(af:List ah):List (Key×V):=List.zipWith (fun f a=>((Sum.inr f.n:Key),V.ref a)) fs af
theorem Lb{κ:Type}[DecidableEq κ]{kvs:List (κ×V)}{k:κ}{v:V}{j:Nat}(hn:(kvs.map (·.1)).Nodup)(hj:kvs[j]? = some (k,v)):sC kvs k=kvs.eraseIdx j:=(PySem.qx hn hj).symm
theorem P0(us:List Str):(dU us).map (·.1)=us.map (Sum.inr:Str->Key):=by unfold dU;rw[cz];rfl
theorem Lc{α β:Type}{f:α->β}(inj:∀x y,f x=f y->x=y){l:List α}(h:l.Nodup):(l.map f).Nodup:=by
  unfold List.Nodup at *;rw[List.pairwise_map];exact h.imp fun mj e=>mj (inj _ _ e)
theorem Ze{us:List Str}{x:Str}{j:Nat}(nd:us.Nodup)(hj:us[j]? = some x):sC (dU us) (Sum.inr x:Key)=dU (us.eraseIdx j):=by
  rw[Lb (j:=j) (v:=.bl true) (by rw[P0];exact Lc (fun a b e=>gq e) nd) (by unfold dU;rw[aN,hj];rfl)];unfold dU;rw[qw.dO]
theorem Zf{ts:List aT}{t:aT}{j:Nat}(hw:∀vs∈ts.map aW,∀v∈vs,Wd v)(nd:ts.Nodup)(inj:∀x y:aT,aW x=aW y->x=y)(hj:ts[j]? = some t):sC (jW (ts.map aW)) ((aW t).map kW)=jW ((ts.eraseIdx j).map aW):=by
  have ek:(jW (ts.map aW)).map (·.1)=ts.map fun t=>(aW t).map kW:=by unfold jW;rw[cz,cz];rfl
  rw[Lb (j:=j) (v:=.bl true) ?_ (by unfold jW;rw[aN,aN,hj];rfl)]
  · unfold jW;rw[←qw.dO,←qw.dO]
  · rw[ek];unfold List.Nodup at *;rw[List.pairwise_map];refine nd.imp_of_mem fun{a b}ha hb mj e=>mj (inj a b ?_)
    exact KR (hw _ (aK.mpr ⟨a,ha,rfl⟩)) (hw _ (aK.mpr ⟨b,hb,rfl⟩)) e
theorem P1{fs:List bN}{af:List ah}(h:af.length=fs.length):(gH fs af).map (·.1)=fs.map fun f=>(Sum.inr f.n:Key):=by
  unfold gH
  induction fs generalizing af with
  | nil=>cases af<;>rfl
  | cons f r ih=>
    cases af with
    | nil=>simp at h
    | cons a r'=>rw[List.zipWith_cons_cons,cE,cE,ih (by simpa using h)]
theorem HE{fs:List bN}{af:List ah}(h:af.length=fs.length):(gH fs af).map (·.2)=af.map V.ref:=by
  unfold gH
  induction fs generalizing af with
  | nil=>cases af with
    | nil=>rfl
    | cons a r=>simp at h
  | cons f r ih=>
    cases af with
    | nil=>simp at h
    | cons a r'=>rw[List.zipWith_cons_cons,cE,cE,ih (by simpa using h)]
theorem HF{fs:List bN}{af:List ah}{j:Nat}{f:bN}{a:ah}(hf:fs[j]? = some f)(ha:af[j]? = some a):(gH fs af)[j]? = some (Sum.inr f.n,.ref a):=by
  unfold gH;rw[List.getElem?_zipWith,hf,ha]
theorem HG{fs:List bN}{af:List ah}(h:af.length=fs.length)(nd:(fs.map bN.n).Nodup):((gH fs af).map (·.1)).Nodup:=by
  rw[P1 h];have:=Lc (f:=(Sum.inr:Str->Key)) (fun a b e=>gq e) nd
  rwa [cz] at this
theorem Ld{fs:List bN}{af:List ah}(h:af.length=fs.length){x:Str}:(Sum.inr x:Key)∈(gH fs af).map (·.1)↔x∈fs.map bN.n:=by
  rw[P1 h,aK,aK];constructor
  · rintro⟨f,hf,e⟩;exact⟨f,hf,gq e⟩
  · rintro⟨f,hf,e⟩;exact⟨f,hf,by rw[e]⟩
theorem HH{κ:Type}[DecidableEq κ]{kvs:List (κ×V)}{k:κ}{v:V}:∀{j:Nat},(kvs.map (·.1)).Nodup->kvs[j]? = some (k,v)->cT kvs k=some v:=by
  induction kvs with
  | nil=>intro j _ h;simp at h
  | cons p r ih=>
    intro j hn h;rw[cE,fM] at hn;cases j with
    | zero=>
      have e:p=(k,v):=by simpa using h
      subst e;exact AA rfl
    | succ j=>
      rw[List.getElem?_cons_succ] at h;have:¬p.1=k:=fun z=>hn.1 (aK.mpr ⟨(k,v),bC h,z.symm⟩)
      rw[DG this];exact ih hn.2 h
theorem Zg{fs:List bN}:∀{af:List ah}(j:Nat),(gH fs af).eraseIdx j=gH (fs.eraseIdx j) (af.eraseIdx j):=by
  induction fs with
  | nil=>intro af j;simp[gH]
  | cons f r ih=>
    intro af j;cases af with
    | nil=>simp[gH]
    | cons a r'=>
      cases j with
      | zero=>simp[gH]
      | succ j=>
        show(_::gH r r').eraseIdx (j+1)=_::gH (r.eraseIdx j) (r'.eraseIdx j);rw[List.eraseIdx_cons_succ,ih]
theorem Zh{fs:List bN}{af:List ah}{j:Nat}{f:bN}(h:af.length=fs.length)(nd:(fs.map bN.n).Nodup)(hf:fs[j]? = some f):sC (gH fs af) (Sum.inr f.n:Key)=gH (fs.eraseIdx j) (af.eraseIdx j):=by
  have hj:=(bI.mp hf).1;rw[Lb (j:=j) (HG h nd) (HF hf (aV (by lia))),Zg]
theorem Zi{fs:List bN}{af:List ah}{f:bN}{a:ah}(h:af.length=fs.length)(hn:f.n ∉ fs.map bN.n):putK (gH fs af) (Sum.inr f.n:Key) (.ref a)=gH (fs++[f]) (af++[a]):=by
  rw[Jw _ (Cp fun z=>hn ((Ld h).mp z))];unfold gH;rw[List.zipWith_append (by lia)];rfl
theorem Zj{κ:Type}[DecidableEq κ]{kvs:List (κ×V)}{k:κ}{v w:V}:∀{j:Nat},(kvs.map (·.1)).Nodup->kvs[j]? = some (k,w)->putK kvs k v=kvs.set j (k,v):=by
  have go:∀(kvs:List (κ×V))(j:Nat),(kvs.map (·.1)).Nodup->kvs[j]? = some (k,w)->kvs.map (fun kv=>if kv.1=k then(kv.1,v) else kv)=kvs.set j (k,v):=by
    intro kvs
    induction kvs with
    | nil=>intro j _ h;simp at h
    | cons p r ih=>
      intro j hn h;rw[cE,fM] at hn;cases j with
      | zero=>
        have e:p=(k,w):=by simpa using h
        subst e;rw[cE,av rfl,List.set_cons_zero]
        congr 1
        refine(fH fun y hy=>?_).trans (List.map_id r);have:¬y.1=k:=fun z=>hn.1 (aK.mpr ⟨y,hy,z⟩)
        rw[ao this];rfl
      | succ j=>
        rw[List.getElem?_cons_succ] at h;have:¬p.1=k:=fun z=>hn.1 (aK.mpr ⟨(k,w),bC h,z.symm⟩)
        rw[cE,ao this,List.set_cons_succ,ih j hn.2 h]
  intro j hn h;unfold putK;rw[av (jC.mpr ⟨(k,w),bC h,aP rfl⟩),go kvs j hn h]
theorem Zk{fs:List bN}{f:bN}{a:ah}:∀{af:List ah}(j:Nat),af.length=fs.length->(gH fs af).set j (Sum.inr f.n,.ref a)=gH (fs.set j f) (af.set j a):=by
  induction fs with
  | nil=>intro af j _;simp[gH]
  | cons g r ih=>
    intro af j h;cases af with
    | nil=>simp at h
    | cons b r'=>
      cases j with
      | zero=>simp[gH]
      | succ j=>
        show(_::gH r r').set (j+1) _=_::gH (r.set j f) (r'.set j a);rw[List.set_cons_succ,ih j (by simpa using h)]
theorem Zl{fs:List bN}{af:List ah}{j:Nat}{f f':bN}{a:ah}(h:af.length=fs.length)(nd:(fs.map bN.n).Nodup)(hf:fs[j]? = some f)(en:f'.n=f.n):putK (gH fs af) (Sum.inr f.n:Key) (.ref a)=gH (fs.set j f') (af.set j a):=by
  have hj:=(bI.mp hf).1;rw[Zj (j:=j) (HG h nd) (HF hf (aV (by lia))),←en,Zk j h]
structure bZ(C:ah)(H:Hp)(p pm du dt df:ah)(lo hi:Int)(us:List Str)(ts:List aT)(fs:List bN)(af:List ah):Prop where
  ob:∃dx,H p=some (.ins C dx (nR (.ref pm) du dt df))
  m:H pm=some (.tup [.int lo,.int hi])
  u:H du=some (.dK (dU us))
  t:H dt=some (.dT (jW (ts.map aW)))
  f:H df=some (.dK (gH fs af))
  ft:bU H af (fs.map cZ)
  nu:du≠df
structure gW(us:List Str)(ts:List aT)(fs:List bN):Prop where
  nd:us.Nodup
  nm:∀x∈us,qK x=true
  tok:∀t∈ts,mH us t
  yr:ts.Nodup
  rO:∀f∈fs,Cj us f
  vR:(fs.map bN.n).Nodup
section
variable{C:ah}{H H':Hp}{p pm du dt df:ah}{lo hi:Int}{us kI:List Str}{ts cU:List aT}{fs i8:List bN}{af mL:List ah}
theorem gW.tw(h:gW us ts fs):∀vs∈ts.map aW,∀v∈vs,Wd v:=fun vs hv=>by
  obtain⟨u,hu,rfl⟩:=aK.mp hv;exact((h.tok u hu).ok.words h.nm).1
theorem bZ.fZ(h:bZ C H p pm du dt df lo hi us ts fs af):af.length=fs.length:=by have:=h.ft.len;rw[aq] at this;exact this
theorem bZ.same(h:bZ C H p pm du dt df lo hi us ts fs af)(s:ak H H'):bZ C H' p pm du dt df lo hi us ts fs af:=by
  obtain⟨dx,e⟩:=h.ob;exact⟨⟨dx,s _ _ e⟩,s _ _ h.m,s _ _ h.u,s _ _ h.t,s _ _ h.f,h.ft.same s,h.nu⟩
theorem bZ.lst(h:bZ C H p pm du dt df lo hi us ts fs af){q:ah}{xs ys:List V}(e:H q=some (.lst xs)):bZ C (upd H q (.lst ys)) p pm du dt df lo hi us ts fs af:=by
  obtain⟨dx,e1⟩:=h.ob;have st:∀b o,H b=some o->o≠.lst xs->upd H q (.lst ys) b=some o:=fun b o eb ne=>by
    rw[ze (fun z=>?_)]
    · exact eb
    · rw[z,e] at eb;exact ne (bW eb).symm
  exact⟨⟨dx,st _ _ e1 (by intro z;cases z)⟩,st _ _ h.m (by intro z;cases z),st _ _ h.u (by intro z;cases z),st _ _ h.t (by intro z;cases z),st _ _ h.f (by intro z;cases z),h.ft.cP (fun b xs eb=>st _ _ eb (by intro z;cases z)),h.nu⟩
theorem bZ.vS(h:bZ C H p pm du dt df lo hi us ts fs af):bZ C (upd H du (.dK (dU kI))) p pm du dt df lo hi kI ts fs af:=by
  obtain⟨dx,e1⟩:=h.ob;have st:∀b o,H b=some o->o≠.dK (dU us)->upd H du (.dK (dU kI)) b=some o:=fun b o eb ne=>by
    rw[ze (fun z=>?_)]
    · exact eb
    · rw[z,h.u] at eb;exact ne (bW eb).symm
  exact⟨⟨dx,st _ _ e1 (by intro z;cases z)⟩,st _ _ h.m (by intro z;cases z),zb,st _ _ h.t (by intro z;cases z),by rw[ze h.nu.symm];exact h.f,h.ft.cP (fun b xs eb=>st _ _ eb (by intro z;cases z)),h.nu⟩
theorem bZ.vU(h:bZ C H p pm du dt df lo hi us ts fs af):bZ C (upd H dt (.dT (jW (cU.map aW)))) p pm du dt df lo hi us cU fs af:=by
  obtain⟨dx,e1⟩:=h.ob;have st:∀b o,H b=some o->o≠.dT (jW (ts.map aW))->upd H dt (.dT (jW (cU.map aW))) b=some o:=fun b o eb ne=>by
    rw[ze (fun z=>?_)]
    · exact eb
    · rw[z,h.t] at eb;exact ne (bW eb).symm
  exact⟨⟨dx,st _ _ e1 (by intro z;cases z)⟩,st _ _ h.m (by intro z;cases z),st _ _ h.u (by intro z;cases z),zb,st _ _ h.f (by intro z;cases z),h.ft.cP (fun b xs eb=>st _ _ eb (by intro z;cases z)),h.nu⟩
theorem bZ.rP(h:bZ C H p pm du dt df lo hi us ts fs af)(ft:bU H mL (i8.map cZ)):bZ C (upd H df (.dK (gH i8 mL))) p pm du dt df lo hi us ts i8 mL:=by
  obtain⟨dx,e1⟩:=h.ob;have st:∀b o,H b=some o->o≠.dK (gH fs af)->upd H df (.dK (gH i8 mL)) b=some o:=fun b o eb ne=>by
    rw[ze (fun z=>?_)]
    · exact eb
    · rw[z,h.f] at eb;exact ne (bW eb).symm
  exact⟨⟨dx,st _ _ e1 (by intro z;cases z)⟩,st _ _ h.m (by intro z;cases z),by rw[ze h.nu];exact h.u,st _ _ h.t (by intro z;cases z),zb,ft.cP (fun b xs eb=>st _ _ eb (by intro z;cases z)),h.nu⟩
end
theorem Le{K:aF}{H:Hp}{n:Nat}{A B:ah}{as bs:List ah}{gs:List (List Str)}(hA:H A=some (.lst (as.map V.ref)))(hB:H B=some (.lst (bs.map V.ref)))(ta:Paired (fun c g=>H c=some (.lst (g.map V.str))) as gs)(tb:Paired (fun c g=>H c=some (.lst (g.map V.str))) bs gs):cV K H (n+1+1) (.ref A) (.ref B) true:=by
  have la:=Paired.length ta;have lb:=Paired.length tb;refine cV.vL (aH.of hA) (aH.of hB) (by rw[aq,aq];lia) fun i x y ex ey=>?_
  rw[aN] at ex ey;cases e1:as[i]? with
  | none=>rw[e1] at ex;cases ex
  | some a=>
    rw[e1] at ex;cases ex;cases e2:bs[i]? with
    | none=>rw[e2] at ey;cases ey
    | some b=>
      rw[e2] at ey;cases ey;obtain⟨g,hg,h1⟩:=Paired.get' ta e1;obtain⟨g',P4,h2⟩:=Paired.get' tb e2;rw[hg] at P4;cases P4;exact cV.vD (aH.of h1) (aH.of h2) Kr
theorem Zm{K:aF}{H:Hp}{n:Nat}{A B:ah}{as bs:List ah}{qs:List SS}(hA:H A=some (.lst (as.map V.ref)))(hB:H B=some (.lst (bs.map V.ref)))(ta:Paired (fun a(p:SS)=>H a=some (.tup [.str p.1,.str p.2])) as qs)(tb:Paired (fun a(p:SS)=>H a=some (.tup [.str p.1,.str p.2])) bs qs):cV K H (n+1+1) (.ref A) (.ref B) true:=
  Xy (aH.of hA) (aH.of hB) (Paired.gy ta fun _ _ h=>bx.of h) (Paired.gy tb fun _ _ h=>bx.of h)
def yt(keys:List Str)(lv:Str->Nat)(n:Nat):List (List Str):=(List.range n).map fun j=>keys.filter (iA lv j)
theorem Zn(keys:List Str)(lv:Str->Nat)(n:Nat):(yt keys lv n).length=n:=by unfold yt;rw[aq,iW]
theorem Zo{ln:Ln}{M:List Str}{lv rH:Str->Nat}{n n':Nat}(h:Lv ln M lv n)(h':Lv ln M rH n'):yt M lv n=yt M rH n':=by
  have en:=h.EJ h';subst en;unfold yt;refine fH fun j _=>?_
  refine List.filter_congr fun x hx=>?_
  unfold iA;rw[h.uniq h' _ x hx rfl]
theorem Zp{H:Hp}{keys:List Str}{lv:Str->Nat}:∀{n:Nat}{cs:List ah},cs.length=n->(∀(j:Nat)c,cs[j]? = some c->H c=some (.lst ((keys.filter (iA lv j)).map V.str)))->Paired (fun c row=>H c=some (.lst (row.map V.str))) cs (yt keys lv n):=by
  have go:∀(cs:List ah)(rs:List (List Str)),cs.length=rs.length->(∀(j:Nat)c r,cs[j]? = some c->rs[j]? = some r->H c=some (.lst (r.map V.str)))->Paired (fun c row=>H c=some (.lst (row.map V.str))) cs rs:=by
    intro cs
    induction cs with
    | nil=>
      intro rs hl _;cases rs with
      | nil=>exact .nil
      | cons r rs=>cases hl
    | cons c cs ih=>
      intro rs hl h;cases rs with
      | nil=>cases hl
      | cons r rs=>exact .cons (h 0 c r rfl rfl) (ih rs (Nat.succ.inj hl) fun j c r h1 h2=>h (j+1) c r h1 h2)
  intro n cs hl h;refine go cs _ (by rw[Zn];exact hl) fun j c r h1 h2=>?_
  unfold yt at h2;rw[aN] at h2;have hj:j<n:=by
    have:=iy h1;lia
  rw[List.getElem?_range hj] at h2;cases h2;exact h j c h1
theorem Zq{ns:List Int}{a b:Nat}:∃cs:List Int,nJ (ns.map V.int) (some (a:Int)) (some (b:Int))=cs.map V.int/\cs.length<=b-a:=by
  refine⟨((ns.drop (HT.dR (ns.map V.int).length 0 (some (a:Int)))).take (HT.dR (ns.map V.int).length (ns.map V.int).length (some (b:Int))-HT.dR (ns.map V.int).length 0 (some (a:Int)))),?_,?_⟩
  · unfold nJ;rw[pL,List.map_drop]
  · rw[bw,pG];unfold HT.dR;dsimp only;rw[ao (by lia),ao (by lia),aq];lia
theorem Zr{us kI:List Str}{ts cU:List aT}(p:kI.Perm us)(h:∀y z,Nb cU y z↔Nb ts y z):qb kI cU=qb us ts:=by
  unfold qb zn pS;rw[Ez h,Oj p]
def Zs(t:aT)(y z:Str):Prop:=t.k=iz/\((t.a=y/\t.b=z)\/(t.b=y/\t.a=z))
theorem P5{ts:List aT}{y z:Str}:Nb ts y z↔∃t∈ts,Zs t y z:=Iff.rfl
abbrev Tr:=aT×ah
abbrev Rw:=Str->List (Str×Tr)
def cj(ts:List aT)(z:List Tr):Rw:=fun k=>(z.filter fun p=>decide (p.1.k≠iz/\aR ts p.1.a=k)).map fun p=>(aR ts p.1.b,p)
theorem Zt{ts:List aT}{z:List Tr}{k:Str}:dj ts z k=(cj ts z k).map fun q=>(q.1,q.2.2):=by unfold dj cj;rw[cz];rfl
theorem pW{ts:List aT}{z:List Tr}{k l:Str}{b:Tr}:(l,b)∈cj ts z k↔b∈z/\b.1.k≠iz/\aR ts b.1.a=k/\aR ts b.1.b=l:=by
  unfold cj;rw[aK];constructor
  · rintro⟨p,hp,e⟩;rw[cy,gM] at hp;cases e;exact⟨hp.1,hp.2.1,hp.2.2,rfl⟩
  · rintro⟨h1,h2,h3,h4⟩;exact⟨b,by rw[cy,gM];exact⟨h1,h2,h3⟩,by rw[h4]⟩
abbrev eZ:=Int×Str×List Tr
inductive Up(R:Rw)(F:Str->IS->Prop):Str->eZ->Prop
  | bare {k:Str}{m:IS}(h:F k m):Up R F k (m.1,m.2,[])
  | up {k l:Str}{c:eZ}{b:Tr}(u:Up R F l c) (h:(l,b)∈R k):Up R F k (c.1+fE b.1,c.2.1,c.2.2++[b])
inductive Dn(R:Rw)(F:Str->IS->Prop):Str->eZ->Prop
  | bare {k:Str}{m:IS}(h:F k m):Dn R F k (m.1,m.2,[])
  | dn {k l:Str}{c:eZ}{b:Tr}(u:Dn R F k c) (h:(l,b)∈R k):Dn R F l (c.1-fE b.1,c.2.1,b::c.2.2)
def jY(R:Rw)(F:Str->IS->Prop)(k:Str)(m:Int):Prop:=(∃c,Up R F k c/\c.1=m)/\∀c,Up R F k c->c.1<=m
def jZ(R:Rw)(F:Str->IS->Prop)(k:Str)(m:Int):Prop:=(∃c,Dn R F k c/\c.1=m)/\∀c,Dn R F k c->m<=c.1
variable{R:Rw}{F G:Str->IS->Prop}{k:Str}{keys:List Str}
theorem jY.uniq{m n:Int}(h:jY R F k m)(h':jY R F k n):m=n:=by
  obtain⟨⟨c,u,e⟩,a⟩:=h;obtain⟨⟨c',u',e'⟩,a'⟩:=h';have h1:=a _ u';have h2:=a' _ u;lia
theorem jZ.uniq{m n:Int}(h:jZ R F k m)(h':jZ R F k n):m=n:=by
  obtain⟨⟨c,u,e⟩,a⟩:=h;obtain⟨⟨c',u',e'⟩,a'⟩:=h';have h1:=a _ u';have h2:=a' _ u;lia
theorem Zu{f:Str->Int}(h0:∀k m,F k m->k∈keys->m.1<=f k)(cl:∀k l b,(l,b)∈R k->k∈keys/\l∈keys)(h1:∀k l b,(l,b)∈R k->f l+fE b.1<=f k){c:eZ}(hk:k∈keys)(u:Up R F k c):c.1<=f k:=by
  induction u with
  | bare h=>exact h0 _ _ h hk
  | up u h ih=>
    have:=ih (cl _ _ _ h).2;have:=h1 _ _ _ h;show _+_<=_;lia
theorem Zv{f:Str->Int}(h0:∀k m,F k m->k∈keys->f k<=m.1)(cl:∀k l b,(l,b)∈R k->k∈keys/\l∈keys)(h1:∀k l b,(l,b)∈R k->f l<=f k-fE b.1){c:eZ}(hk:k∈keys)(u:Dn R F k c):f k<=c.1:=by
  induction u with
  | bare h=>exact h0 _ _ h hk
  | dn u h ih=>
    have:=ih (cl _ _ _ h).1;have:=h1 _ _ _ h;show _<=_-_;lia
theorem Zw{d:eZ}(hd:Dn R G k d):∀{c:eZ},Up R F k c->d.1<c.1->∃k' c' m,(k'=k\/∃l b,(l,b)∈R k')/\Up R F k' c'/\G k' m/\m.1<c'.1:=by
  induction hd with
  | bare h=>exact fun u hl=>⟨_,_,_,.inl rfl,u,h,hl⟩
  | @dn k l c b u h ih=>
    intro c' u' hl;have hl:c.1-fE b.1<c'.1:=hl;obtain⟨k',Zx,m,h1,h2⟩:=ih (u'.up h) (show c.1<c'.1+fE b.1 by lia);refine⟨k',Zx,m,?_,h2⟩;rcases h1 with rfl | h1
    · exact .inr ⟨_,_,h⟩
    · exact .inr h1
theorem P6{f g:Str->Int}(cl:∀k l b,(l,b)∈R k->k∈keys/\l∈keys)(hf:∀k∈keys,jY R F k (f k))(hg:∀k∈keys,jZ R G k (g k)):(∃k∈keys,g k<f k)↔∃k∈keys,∃c m,Up R F k c/\G k m/\m.1<c.1:=by
  constructor
  · rintro⟨k,hk,hl⟩;obtain⟨⟨c,u,e⟩,_⟩:=hf k hk;obtain⟨⟨d,v,e'⟩,_⟩:=hg k hk;obtain⟨k',c',m,h1,h2,h3,h4⟩:=Zw v u (by lia);refine⟨k',?_,c',m,h2,h3,h4⟩;rcases h1 with rfl | ⟨l,b,h⟩
    · exact hk
    · exact(cl _ _ _ h).1
  · rintro⟨k,hk,c,m,u,h,hl⟩;have h1:=(hf k hk).2 _ u;have h2:=(hg k hk).2 _ (Dn.bare h);exact⟨k,hk,by have h2:g k<=m.1:=h2;lia⟩
theorem Rc.cons{ln:Ln}{k l:Str}{r:ah}(e:(l,r)∈ln k):∀{n:Nat}{s:Str},Rc ln l n s->Rc ln k (n+1) s
  | 0,s,h=>by rw[h.zero];exact Rc.step Rc.refl e
  | n+1,s,h=>by
    obtain⟨u,r',h1,h2⟩:=h.succ;exact(Rc.cons e h1).step h2
theorem Rc.short{ln:Ln}{keys:List Str}(cl:∀k∈keys,∀l r,(l,r)∈ln k->l∈keys)(nr:ju ln keys){k s:Str}{n:Nat}(hk:k∈keys)(h:Rc ln k n s):n<keys.length:=by
  obtain⟨rs,w,e⟩:=h;obtain⟨vs,v0,v1,st⟩:=w.seq;rw[e] at v1 st;have hk:∀i,i<=n->vs i∈keys:=by
    intro i
    induction i with
    | zero=>intro _;rw[v0];exact hk
    | succ i ih=>
      intro hi;obtain⟨r,_,q⟩:=st i (by lia);exact cl _ (ih (by lia)) _ _ q
  have go:∀i d,i+d<=n->Rc ln (vs i) d (vs (i+d)):=by
    intro i d
    induction d with
    | zero=>intro _;exact Rc.refl
    | succ d ih=>
      intro hi;obtain⟨r,_,q⟩:=st (i+d) (by lia);exact(ih (by lia)).step q
  have main:∀i j,i<j->j<=n->vs i≠vs j:=fun i j qF hj e=>by
    have:=go i (j-i) (by lia);rw[show i+(j-i)=j by lia,←e] at this;exact nr _ (hk i (by lia)) _ (by lia) this
  have nd:((List.range (n+1)).map vs).Nodup:=GN fun i j hi hj e=>by
    rcases jN i j with c | c | c
    · exact absurd e (main i j c (by lia))
    · exact c
    · exact absurd e.symm (main j i c (by lia))
  have:=uR (us:=keys) nd fun x hx=>by
    obtain⟨i,hi,rfl⟩:=aK.mp hx;exact hk i (by have:=d7.mp hi;lia)
  rw[aq,iW] at this;lia
def tU(R:Rw):Ln:=fun k=>(R k).map fun q=>(q.1,q.2.2)
theorem Ct{l:Str}{b:Tr}(h:(l,b)∈R k):(l,b.2)∈tU R k:=aK.mpr ⟨(l,b),h,rfl⟩
theorem Zy{l:Str}{r:ah}(h:(l,r)∈tU R k):∃t,(l,(t,r))∈R k:=by
  obtain⟨⟨l',t,r'⟩,h',e⟩:=aK.mp h;cases e;exact⟨t,h'⟩
theorem Up.rc{c:eZ}(u:Up R F k c):∃s,Rc (tU R) k c.2.2.length s:=by
  induction u with
  | bare h=>exact⟨_,Rc.refl⟩
  | up u h ih=>
    obtain⟨s,q⟩:=ih;refine⟨s,?_⟩;show Rc _ _ (_++[_]).length _;rw[cG];exact Rc.cons (Ct h) q
theorem Dn.rc{c:eZ}(cl:∀k l b,(l,b)∈R k->k∈keys/\l∈keys)(u:Dn R F k c)(hk:k∈keys):∃s∈keys,Rc (tU R) s c.2.2.length k:=by
  induction u with
  | bare h=>exact⟨_,hk,Rc.refl⟩
  | dn u h ih=>
    obtain⟨s,hs,q⟩:=ih (cl _ _ _ h).1;exact⟨s,hs,q.step (Ct h)⟩
theorem P7(cl:∀k l b,(l,b)∈R k->k∈keys/\l∈keys):∀k∈keys,∀l r,(l,r)∈tU R k->l∈keys:=fun k _ l r h=>by
  obtain⟨t,h⟩:=Zy h;exact(cl _ _ _ h).2
theorem Up.short{c:eZ}(cl:∀k l b,(l,b)∈R k->k∈keys/\l∈keys)(nr:ju (tU R) keys)(hk:k∈keys)(u:Up R F k c):c.2.2.length<keys.length:=by
  obtain⟨s,q⟩:=u.rc;exact q.short (P7 cl) nr hk
theorem Dn.short{c:eZ}(cl:∀k l b,(l,b)∈R k->k∈keys/\l∈keys)(nr:ju (tU R) keys)(hk:k∈keys)(u:Dn R F k c):c.2.2.length<keys.length:=by
  obtain⟨s,hs,q⟩:=u.rc cl hk;exact q.short (P7 cl) nr hs
structure oE(R:Rw)(F:Str->IS->Prop)(keys:List Str)(n:Nat)(M:List Str)(v:Str->eZ):Prop where
  nd:M.Nodup
  sub:∀k∈M,k∈keys
  is:∀k∈M,Up R F k (v k)/\(v k).2.2.length=n
  all:∀k∈keys,∀c,Up R F k c->c.2.2.length=n->k∈M/\c.1<=(v k).1
theorem oE.zero{v:Str->eZ}(nd:keys.Nodup)(h:∀k∈keys,(v k).2.2 = []/\F k ((v k).1,(v k).2.1))(hu:∀k m m',F k m->F k m'->m.1=m'.1):oE R F keys 0 keys v:=by
  refine⟨nd,fun _ h=>h,fun k hk=>⟨?_,by rw[(h k hk).1];rfl⟩,fun k hk c u e=>⟨hk,?_⟩⟩
  · have:=Up.bare (R:=R) (h k hk).2;rw[←(h k hk).1] at this;exact this
  · cases u with
    | bare h'=>exact Int.le_of_eq (hu _ _ _ h' (h k hk).2)
    | up u h'=>
      have e:(_++[_]).length=0:=e;simp at e
structure oF(R:Rw)(M:List Str)(v:Str->eZ)(k:Str)(z:List (Str×Tr))(has:Prop)(c:eZ):Prop where
  no:¬has->∀l b,(l,b)∈z->l ∉ M
  yes:has->∃l b,(l,b)∈z/\l∈M/\c=((v l).1+fE b.1,(v l).2.1,(v l).2.2++[b])
  max:has->∀l b,(l,b)∈z->l∈M->(v l).1+fE b.1<=c.1
theorem oE.next{n:Nat}{M M':List Str}{v v':Str->eZ}(cl:∀k l b,(l,b)∈R k->k∈keys/\l∈keys)(r:oE R F keys n M v)(nd:M'.Nodup)(sub:∀k∈M',k∈keys)(h:∀k∈keys,oF R M v k (R k) (k∈M') (v' k)):oE R F keys (n+1) M' v':=by
  refine⟨nd,sub,fun k hk=>?_,fun k hk c u e=>?_⟩
  · obtain⟨l,b,h1,h2,h3⟩:=(h k (sub k hk)).yes hk;obtain⟨u,e⟩:=r.is l h2;rw[h3];refine⟨u.up h1,?_⟩;show(_++[_]).length=_;rw[cG,e];rfl
  · cases u with
    | bare h'=>exact absurd e (by show ¬([]:List Tr).length=n+1;simp)
    | @up _ l c b u h'=>
      have e:(c.2.2++[b]).length=n+1:=e;rw[cG] at e;have e:c.2.2.length+1=n+1:=e;obtain⟨h1,h2⟩:=r.all l (cl _ _ _ h').2 c u (by lia);have hM:k∈M':=fG fun z=>(h k hk).no z l b h' h1
      refine⟨hM,?_⟩;have:=(h k hk).max hM l b h' h1;show c.1+_<=_;lia
theorem oE.stop{n:Nat}{v:Str->eZ}(cl:∀k l b,(l,b)∈R k->k∈keys/\l∈keys)(r:oE R F keys n [] v):∀k∈keys,∀c,Up R F k c->c.2.2.length<n:=by
  have no:∀k∈keys,∀c,Up R F k c->c.2.2.length≠n:=fun k hk c u e=>gc (r.all k hk c u e).1
  intro k hk c u
  induction u with
  | bare h=>
    have:=no _ hk _ (Up.bare h);show 0<n;have:(0:Nat)≠n:=this;lia
  | @up k l c b u h ih=>
    have h1:=ih (cl _ _ _ h).2;have h2:=no _ hk _ (u.up h);have h2:(c.2.2++[b]).length≠n:=h2;show(c.2.2++[b]).length<n;rw[cG] at h2 ⊢;have h2:c.2.2.length+1≠n:=h2;show c.2.2.length+1<n;lia
def cN(H0 H:Hp)(a:ah)(c:eZ):Prop:=∃l,H a=some (.tup [.int c.1,.str c.2.1,.ref l])/\H l=some (.lst (c.2.2.map fun p=>V.ref p.2))/\H0 l=none
def Zz(fz:Bool)(o:Obj)(keys:List Str)(ad:Str->ah):HO:=if fz then .dw o (.dK (dV keys fun k=>.ref (ad k))) else .dK (dV keys fun k=>.ref (ad k))
section
variable{H0 H H':Hp}{a pd:ah}{c:eZ}
theorem cN.same(h:cN H0 H a c)(s:ak H H'):cN H0 H' a c:=by
  obtain⟨l,h1,h2,h3⟩:=h;exact⟨l,s _ _ h1,s _ _ h2,h3⟩
theorem cN.put{kv:List (Key×V)}{o:HO}(h:cN H0 H a c)(hd:H pd=some (.dK kv)):cN H0 (upd H pd o) a c:=by
  obtain⟨l,h1,h2,h3⟩:=h;exact⟨l,by rw[ze (jE h1 hd (by intro z;cases z))];exact h1,by rw[ze (jE h2 hd (by intro z;cases z))];exact h2,h3⟩
theorem cN.any(h:cN H0 H a c):cN (fun _=>none) H a c:=by
  obtain⟨l,h1,h2,_⟩:=h;exact⟨l,h1,h2,rfl⟩
theorem cN.old{H1:Hp}(h:cN H1 H a c)(s:ak H0 H1):cN H0 H a c:=by
  obtain⟨l,h1,h2,h3⟩:=h;exact⟨l,h1,h2,s.free h3⟩
end
theorem ZA{H:Hp}{pd:ah}{ob:Obj}{keys:List Str}{f:Str->V}(h:H pd=some (.dw ob (.dK (dV keys f)))){k:Str}(hk:k ∉ keys):ck H pd (.str k) none:=.inl ⟨_,Sum.inr k,.inr ⟨ob,h⟩,rfl,(AS hk).symm⟩
theorem yu{ts:List aT}{z:List Tr}:dj ts z=tU (cj ts z):=funext fun k=>Zt
theorem ZC{ts:List aT}{z:List Tr}{k:Str}:(cj ts z k).length<=z.length:=by
  unfold cj;rw[aq];exact e7 _ _
theorem Lf{K:aF}{H:Hp}{p pu pt:ah}{x y:V}{us:List Str}{aA:List ah}{ts:List aT}(h:oz K H p pu pt x y us aA ts){k l:Str}{b:Tr}(hb:(l,b)∈cj ts (ts.zip aA) k):H b.2=some (.tup (aW b.1))/\mH us b.1:=by
  have hz:=(pW.mp hb).1;obtain⟨i,hi⟩:=jy.mp hz;obtain⟨h1,h2⟩:=j6.mp hi;exact⟨xg h.tt h2 (by rw[aN,h1];rfl),h.ok _ (bC h1)⟩
theorem Cu{us:List Str}{ts:List aT}{aA:List ah}(ht:∀t∈ts,t.a∈us/\t.b∈us):∀k l b,(l,b)∈cj ts (ts.zip aA) k->k∈zn ts (aM us)/\l∈zn ts (aM us):=fun k l b h=>by
  obtain⟨h1,h2,h3,h4⟩:=pW.mp h;have hm:=(jD (a:=b.1) (b:=b.2) h1).1;rw[←h3,←h4];exact⟨Ei ht (ht _ hm).1,Ei ht (ht _ hm).2⟩
theorem Lg{R:Rw}{k l:Str}{r:ah}{j:Nat}(h:(tU R k)[j]? = some (l,r)):∃t,(R k)[j]? = some (l,(t,r)):=by
  unfold tU at h;rw[aN] at h;cases e:(R k)[j]? with
  | none=>rw[e] at h;cases h
  | some q=>
    rw[e] at h;obtain⟨l',t,r'⟩:=q;cases h;exact⟨t,rfl⟩
theorem Lh{R:Rw}{k:Str}:(tU R k).length=(R k).length:=by unfold tU;rw[aq]
section
variable{R:Rw}{M:List Str}{v:Str->eZ}{k:Str}{z:List (Str×Tr)}{has yv:Prop}{c c':eZ}{l:Str}{b:Tr}
theorem oF.nil(h:¬has):oF R M v k [] has c:=⟨fun _ l b h=>(gc h).elim,fun h'=>absurd h' h,fun h'=>absurd h' h⟩
theorem rQ{α:Type}{xs:List α}{x y:α}(h:y∈xs++[x]):y∈xs\/y=x:=by
  rcases bz.mp h with h | h
  · exact .inl h
  · exact .inr (by simpa using h)
theorem oF.skip(h:oF R M v k z has c)(hl:l ∉ M):oF R M v k (z++[(l,b)]) has c:=by
  refine⟨fun hn l' b' h'=>?_,fun hy=>?_,fun hy l' b' h' hm=>?_⟩
  · rcases rQ h' with h' | h'
    · exact h.no hn l' b' h'
    · cases h';exact hl
  · obtain⟨l',b',h1,h2⟩:=h.yes hy;exact⟨l',b',dF _ h1,h2⟩
  · rcases rQ h' with h' | h'
    · exact h.max hy l' b' h' hm
    · cases h';exact absurd hm hl
theorem oF.cP(h:oF R M v k z has c)(hh:has)(le:(v l).1+fE b.1<=c.1):oF R M v k (z++[(l,b)]) has c:=by
  refine⟨fun hn=>absurd hh hn,fun hy=>?_,fun hy l' b' h' hm=>?_⟩
  · obtain⟨l',b',h1,h2⟩:=h.yes hy;exact⟨l',b',dF _ h1,h2⟩
  · rcases rQ h' with h' | h'
    · exact h.max hy l' b' h' hm
    · cases h';exact le
theorem oF.take(h:oF R M v k z has c)(hl:l∈M)(hh:yv)(ge:has->c.1<(v l).1+fE b.1)(e:c'=((v l).1+fE b.1,(v l).2.1,(v l).2.2++[b])):oF R M v k (z++[(l,b)]) yv c':=by
  subst e;refine⟨fun hn=>absurd hh hn,fun hy=>⟨l,b,by simp,hl,rfl⟩,fun hy l' b' h' hm=>?_⟩;show _<=(v l).1+fE b.1;rcases rQ h' with h' | h'
  · by_cases hc:has
    · have:=h.max hc l' b' h' hm;have:=ge hc;lia
    · exact absurd hm (h.no hc l' b' h')
  · cases h';exact ic _
theorem oF.congr(h:oF R M v k z has c)(e:has↔yv)(e':c=c'):oF R M v k z yv c':=by
  subst e';exact⟨fun hn=>h.no fun z=>hn (e.mp z),fun hy=>h.yes (e.mpr hy),fun hy=>h.max (e.mpr hy)⟩
end
structure nS(R:Rw)(F:Str->IS->Prop)(keys done:List Str)(v:Str->eZ):Prop where
  is:∀k∈keys,Up R F k (v k)
  ge:∀k∈keys,∀m,F k m->m.1<=(v k).1
  le:∀k∈done,∀l b,(l,b)∈R k->(v l).1+fE b.1<=(v k).1
structure nU(R:Rw)(F:Str->IS->Prop)(keys done:List Str)(v:Str->eZ):Prop where
  is:∀k∈keys,Dn R F k (v k)
  ge:∀k∈keys,∀m,F k m->(v k).1<=m.1
  le:∀k∈done,∀l b,(l,b)∈R k->(v l).1<=(v k).1-fE b.1
section
variable{R:Rw}{F:Str->IS->Prop}{keys done:List Str}{v:Str->eZ}
theorem nS.lo(h:nS R F keys done v)(cl:∀k l b,(l,b)∈R k->k∈keys/\l∈keys)(all:∀k∈keys,k∈done){k:Str}(hk:k∈keys):jY R F k (v k).1:=
  ⟨⟨_,h.is k hk,rfl⟩,fun c u=>Zu (f:=fun z=>(v z).1) (keys:=keys) (fun k m hf hk=>h.ge k hk m hf) cl (fun k l b hb=>h.le k (all k (cl _ _ _ hb).1) l b hb) hk u⟩
theorem nU.hi(h:nU R F keys done v)(cl:∀k l b,(l,b)∈R k->k∈keys/\l∈keys)(all:∀k∈keys,k∈done){k:Str}(hk:k∈keys):jZ R F k (v k).1:=
  ⟨⟨_,h.is k hk,rfl⟩,fun c u=>Zv (f:=fun z=>(v z).1) (keys:=keys) (fun k m hf hk=>h.ge k hk m hf) cl (fun k l b hb=>h.le k (all k (cl _ _ _ hb).1) l b hb) hk u⟩
end
theorem yw{ts:List aT}{fs:List bN}{lo y:Int}{k:Str}:yh ts fs lo k<=y↔lo<=y/\∀f∈fs,aR ts f.u=k->f.lo<=y:=by
  unfold yh
  induction fs generalizing lo with
  | nil=>simp
  | cons f fs ih=>
    rw[List.foldl_cons,ih]
    by_cases e:aR ts f.u=k
    · rw[av e];unfold OE;constructor
      · rintro⟨h1,h2⟩;refine⟨by split at h1<;>lia,fun g hg e'=>?_⟩;rcases aO.mp hg with rfl | hg
        · split at h1<;>lia
        · exact h2 g hg e'
      · rintro⟨h1,h2⟩;have:=h2 f (by simp) e;exact⟨by split<;>lia,fun g hg e'=>h2 g (bE _ hg) e'⟩
    · rw[ao e];constructor
      · rintro⟨h1,h2⟩;refine⟨h1,fun g hg e'=>?_⟩;rcases aO.mp hg with rfl | hg
        · exact absurd e' e
        · exact h2 g hg e'
      · rintro⟨h1,h2⟩;exact⟨h1,fun g hg e'=>h2 g (bE _ hg) e'⟩
theorem vV{ts:List aT}{fs:List bN}{hi y:Int}{k:Str}:y<=Hq ts fs hi k↔y<=hi/\∀f∈fs,aR ts f.u=k->y<=f.hi:=by
  unfold Hq
  induction fs generalizing hi with
  | nil=>simp
  | cons f fs ih=>
    rw[List.foldl_cons,ih]
    by_cases e:aR ts f.u=k
    · rw[av e];unfold OF;constructor
      · rintro⟨h1,h2⟩;refine⟨by split at h1<;>lia,fun g hg e'=>?_⟩;rcases aO.mp hg with rfl | hg
        · split at h1<;>lia
        · exact h2 g hg e'
      · rintro⟨h1,h2⟩;have:=h2 f (by simp) e;exact⟨by split<;>lia,fun g hg e'=>h2 g (bE _ hg) e'⟩
    · rw[ao e];constructor
      · rintro⟨h1,h2⟩;refine⟨h1,fun g hg e'=>?_⟩;rcases aO.mp hg with rfl | hg
        · exact absurd e' e
        · exact h2 g hg e'
      · rintro⟨h1,h2⟩;exact⟨h1,fun g hg e'=>h2 g (bE _ hg) e'⟩
def mw(ts:List aT)(lo:Int)(z:Fz)(k:Str)(m:IS):Prop:=yf (xh lo (eX ts z k)) m
def mz(ts:List aT)(hi:Int)(z:Fz)(k:Str)(m:IS):Prop:=yg (xj hi (eX ts z k)) m
theorem P8{ts:List aT}{fs:List bN}{af:List ah}{k:Str}(hl:af.length=fs.length)(P:bN->Prop):(∀p∈eX ts (fs.zip af) k,P p.1)↔∀f∈fs,aR ts f.u=k->P f:=by
  unfold eX;constructor
  · intro h f hf e;obtain⟨b,hb⟩:=OG (bs:=af) hl f hf;exact h (f,b) (cy.mpr ⟨hb,aP e⟩)
  · intro h p hp;rw[cy,gM] at hp;exact h p.1 (jD (a:=p.1) (b:=p.2) hp.1).1 hp.2
theorem mw.low{ts:List aT}{fs:List bN}{af:List ah}{lo:Int}{k:Str}{m:IS}(hl:af.length=fs.length)(h:mw ts lo (fs.zip af) k m):m.1=yh ts fs lo k:=by
  have h1:=fun y=>W6 h y
  have h2:=fun y=>(h1 y).trans ((and_congr_right fun _=>P8 hl (fun f=>f.lo<=y)).trans yw.symm)
  have a:=(h2 m.1).mp (ic _);have b:=(h2 (yh ts fs lo k)).mpr (ic _);lia
theorem mz.high{ts:List aT}{fs:List bN}{af:List ah}{hi:Int}{k:Str}{m:IS}(hl:af.length=fs.length)(h:mz ts hi (fs.zip af) k m):m.1=Hq ts fs hi k:=by
  have h1:=fun y=>W7 h y
  have h2:=fun y=>(h1 y).trans ((and_congr_right fun _=>P8 hl (fun f=>y<=f.hi)).trans vV.symm)
  have a:=(h2 m.1).mp (ic _);have b:=(h2 (Hq ts fs hi k)).mpr (ic _);lia
section
variable{R:Rw}{F:Str->IS->Prop}{keys done:List Str}{v:Str->eZ}{u:Str}{c:eZ}
theorem nS.set(h:nS R F keys done v)(hu:u ∉ done)(low:∀k∈done,∀l b,(l,b)∈R k->l≠u)(up:Up R F u c)(gt:(v u).1<=c.1):nS R F keys done (fun z=>if z=u then c else v z):=by
  refine⟨fun k hk=>?_,fun k hk m hm=>?_,fun k hk l b hb=>?_⟩
  · by_cases e:k=u
    · rw[av e,e];exact up
    · rw[ao e];exact h.is k hk
  · by_cases e:k=u
    · rw[av e];have:=h.ge k hk m hm;rw[e] at this;lia
    · rw[ao e];exact h.ge k hk m hm
  · rw[ao (low k hk l b hb),ao (fun z=>hu (z▸hk):¬k=u)];exact h.le k hk l b hb
theorem nS.snoc(h:nS R F keys done v)(hz:∀l b,(l,b)∈R u->(v l).1+fE b.1<=(v u).1):nS R F keys (done++[u]) v:=
  ⟨h.is,h.ge,fun k hk l b hb=>by
    rcases rQ hk with z | z
    · exact h.le k z l b hb
    · rw[z] at hb ⊢;exact hz l b hb⟩
theorem nU.set(h:nU R F keys done v)(hu:u ∉ done)(dn:Dn R F u c)(lt:c.1<=(v u).1):nU R F keys done (fun z=>if z=u then c else v z):=by
  refine⟨fun k hk=>?_,fun k hk m hm=>?_,fun k hk l b hb=>?_⟩
  · by_cases e:k=u
    · rw[av e,e];exact dn
    · rw[ao e];exact h.is k hk
  · by_cases e:k=u
    · rw[av e];have:=h.ge k hk m hm;rw[e] at this;lia
    · rw[ao e];exact h.ge k hk m hm
  · have h1:=h.le k hk l b hb;rw[ao (fun z=>hu (z▸hk):¬k=u)]
    by_cases e:l=u
    · rw[av e];rw[e] at h1;lia
    · rw[ao e];exact h1
theorem nU.snoc(h:nU R F keys done v)(hz:∀l b,(l,b)∈R u->(v l).1<=(v u).1-fE b.1):nU R F keys (done++[u]) v:=
  ⟨h.is,h.ge,fun k hk l b hb=>by
    rcases rQ hk with z | z
    · exact h.le k z l b hb
    · rw[z] at hb ⊢;exact hz l b hb⟩
end
theorem Bn.keep{H H':Hp}{pc pd:ah}{ob:Obj}{kv:List (Key×V)}{keys:List Str}{ln:Ln}{ad:Str->ah}{bs:Str->List ah}(b:Bn H pd ob keys ln ad bs)(zM:H pc=some (.dK kv))(kp:∀b o,b≠pc->H b=some o->H' b=some o):Bn H' pd ob keys ln ad bs:=
  ⟨kp _ _ (jE b.d zM (by intro z;cases z)) b.d,fun k hk=>kp _ _ (jE (b.l k hk) zM (by intro z;cases z)) (b.l k hk),fun k hk=>Paired.gy (b.e k hk) fun _ _ h=>kp _ _ (jE h zM (by intro z;cases z)) h⟩
theorem P9{ln:Ln}{keys os:List Str}(O:Ord ln keys os){i:Nat}{u:Str}(hu:os[i]? = some u):u ∉ os.take i/\(∀l r,(l,r)∈ln u->l≠u)/\∀k∈os.take i,∀l r,(l,r)∈ln k->l≠u:=by
  have hi:=iy hu;have fr:u ∉ os.take i:=by
    have:=vH O.nd i hi;rw[show os[i]=u from(bI.mp hu).2] at this;exact this
  refine⟨fr,fun l r h z=>fr (z▸O.low i u hu l r h),fun k hk l r h z=>?_⟩;obtain⟨j,hj⟩:=jy.mp hk;rw[List.getElem?_take] at hj;split at hj
  · have:=O.low j k hj l r h;rw[z] at this;exact fr ((List.take_prefix_take_left (i7 (by assumption))).subset this)
  · cases hj
theorem ZD{ln:Ln}{keys os:List Str}(O:Ord ln keys os){i:Nat}{u:Str}(hu:os.reverse[i]? = some u):u ∉ os.reverse.take i/\∀l r,(l,r)∈ln u->l ∉ os.reverse.take i/\l≠u:=by
  have hi:=iy hu;rw[List.length_reverse] at hi;rw[List.getElem?_reverse hi] at hu;have lo:=P9 O hu;have Li:∀x∈os.take (os.length-1-i+1),x ∉ os.reverse.take i:=fun x hx hr=>by
    rw[List.take_reverse,List.mem_reverse] at hr;have e:os.length-1-i+1=os.length-i:=by lia
    rw[e] at hx;have nd:=O.nd;rw[←qV (os.length-i) os,iU] at nd;exact nd.2.2 x hx x hr rfl
  have tk:os.take (os.length-1-i+1)=os.take (os.length-1-i)++[u]:=by rw[aS,hu];rfl
  rw[tk] at Li;exact⟨Li u (by simp),fun l r h=>⟨Li l (dF _ (O.low _ u hu l r h)),lo.2.1 l r h⟩⟩
def ZE(R:Rw)(F G:Str->IS->Prop)(keys:List Str):Prop:=∀k∈keys,∀c m,Up R F k c->G k m->c.1<=m.1
def ZF(R:Rw)(F G:Str->IS->Prop)(keys:List Str)(c:eZ)(w:Str):Prop:=∃k m,k∈keys/\Up R F k c/\G k m/\m.2=w/\m.1<c.1/\∀k'∈keys,∀c' m',Up R F k' c'->G k' m'->c'.2.2.length<c.2.2.length->c'.1<=m'.1
def Lj(H:Hp)(q:ah)(c:eZ)(w:Str):Prop:=∃l,H q=some (.tup [.str c.2.1,.ref l,.str w])/\H l=some (.lst (c.2.2.map fun p=>V.ref p.2))
def yx(lo hi:Int)(us:List Str)(aA:List ah)(ts:List aT)(af:List ah)(fs:List bN):Prop:=ZE (cj ts (ts.zip aA)) (mw ts lo (fs.zip af)) (mz ts hi (fs.zip af)) (zn ts (aM us))
def yy(lo hi:Int)(us:List Str)(aA:List ah)(ts:List aT)(af:List ah)(fs:List bN)(c:eZ)(w:Str):Prop:=ZF (cj ts (ts.zip aA)) (mw ts lo (fs.zip af)) (mz ts hi (fs.zip af)) (zn ts (aM us)) c w
section
variable{lo hi:Int}{us:List Str}{aA:List ah}{ts:List aT}{af:List ah}{fs:List bN}{f g:Str->Int}
theorem ZG(l6:∀t∈ts,t.a∈us/\t.b∈us)(hf:∀k∈zn ts (aM us),jY (cj ts (ts.zip aA)) (mw ts lo (fs.zip af)) k (f k))(hg:∀k∈zn ts (aM us),jZ (cj ts (ts.zip aA)) (mz ts hi (fs.zip af)) k (g k))(no:yx lo hi us aA ts af fs):∀k∈zn ts (aM us),f k<=g k:=fun k hk=>by
  refine Int.not_lt.mp fun z=>?_
  obtain⟨k',gT,c,m,u,h,hl⟩:=(P6 (Cu l6) hf hg).mp ⟨k,hk,z⟩;have:=no k' gT c m u h;lia
theorem ZH(l6:∀t∈ts,t.a∈us/\t.b∈us)(hf:∀k∈zn ts (aM us),jY (cj ts (ts.zip aA)) (mw ts lo (fs.zip af)) k (f k))(hg:∀k∈zn ts (aM us),jZ (cj ts (ts.zip aA)) (mz ts hi (fs.zip af)) k (g k)){c:eZ}{w:Str}(r:yy lo hi us aA ts af fs c w):∃k∈zn ts (aM us),g k<f k:=by
  obtain⟨k,m,hk,u,h,_,hl,_⟩:=r;exact(P6 (Cu l6) hf hg).mpr ⟨k,hk,c,m,u,h,hl⟩
end
inductive tV where
  | unit (x:Str)
  | drop (x:Str)
  | xr (t:aT)
  | kP (t:aT)
  | find (f:bN)
  | move (n x:Str)
  | pX (n:Str)
structure SD where
  us:List Str
  ts:List aT
  fs:List bN
def zN(x:Str)(t:aT):Bool:=xQ (.str x) [.str t.a,.str t.b]
def EU(x:Str)(f:bN):Bool:=decide (V.str x=V.str f.u)
def yz(ts:List aT)(fs:List bN)(x:Str):Bool:=ts.any (zN x)||fs.any (EU x)
inductive After:tV->SD->SD->Prop where
  | unit {s:SD}{x:Str}(h:x ∉ s.us):After (.unit x) s ⟨s.us++[x],s.ts,s.fs⟩
  | drop {s:SD}{x:Str}{j:Nat}(h:s.us[j]? = some x) (hu:yz s.ts s.fs x=false):After (.drop x) s ⟨s.us.eraseIdx j,s.ts,s.fs⟩
  | xr {s:SD}{t:aT}(h1:t.a∈s.us) (h2:t.b∈s.us) (h3:t ∉ s.ts):After (.xr t) s ⟨s.us,s.ts++[t],s.fs⟩
  | kP {s:SD}{t:aT}{j:Nat}(h:s.ts[j]? = some t):After (.kP t) s ⟨s.us,s.ts.eraseIdx j,s.fs⟩
  | find {s:SD}{f:bN}(h1:f.n ∉ s.fs.map bN.n) (h2:f.u∈s.us):After (.find f) s ⟨s.us,s.ts,s.fs++[f]⟩
  | move {s:SD}{f:bN}{x:Str}{j:Nat}(h:s.fs[j]? = some f) (h2:x∈s.us):After (.move f.n x) s ⟨s.us,s.ts,s.fs.set j ⟨f.n,x,f.lo,f.hi⟩⟩
  | pX {s:SD}{f:bN}{j:Nat}(h:s.fs[j]? = some f):After (.pX f.n) s ⟨s.us,s.ts,s.fs.eraseIdx j⟩
inductive gD(xs ms:List Str):tV->Prop where
  | unit {x:Str}(h:x∈xs):gD xs ms (.unit x)
  | drop {x:Str}(h:x∈xs):gD xs ms (.drop x)
  | xr {t:aT}(h:mH xs t):gD xs ms (.xr t)
  | kP {t:aT}(h:mH xs t):gD xs ms (.kP t)
  | find {f:bN}(h:Cj xs f) (hm:f.n∈ms):gD xs ms (.find f)
  | move {n x:Str}(hm:n∈ms) (h:x∈xs):gD xs ms (.move n x)
  | pX {n:Str}(hm:n∈ms):gD xs ms (.pX n)
theorem mH.into{xs us:List Str}{t:aT}(h:mH xs t)(h1:t.a∈us)(h2:t.b∈us):mH us t:=by
  obtain⟨k,a,b,g⟩:=t;refine⟨?_,h1,h2⟩;have:=h.ok;unfold aW at this ⊢;cases g with
  | none=>
    cases this with
    | plain hk _ _=>exact .plain hk h1 h2
  | some g=>
    cases this with
    | after _ _ g0 g1=>exact .after h1 h2 g0 g1
theorem After.ok{xs ms:List Str}{d:tV}{s s':SD}(nm:∀x∈xs,qK x=true)(h:After d s s')(hd:gD xs ms d)(ok:gW s.us s.ts s.fs):gW s'.us s'.ts s'.fs:=by
  cases h with
  | @unit _ x h=>
    cases hd with
    | unit hx=>
      refine⟨?_,fun y hy=>?_,fun t ht=>(ok.tok t ht).mono fun y hy=>dF _ hy,ok.yr,fun f hf=>?_,ok.vR⟩
      · rw[iU];exact⟨ok.nd,by simp,fun a ha b hb e=>by simp at hb;subst hb;subst e;exact h ha⟩
      · rcases bz.mp hy with hy | hy
        · exact ok.nm y hy
        · have:y=x:=by simpa using hy
          rw[this];exact nm _ hx
      · have:=ok.rO f hf;exact⟨this.n,dF _ this.u,this.le,this.lo,this.hi⟩
  | @drop _ x j h hu=>
    have sub:=List.eraseIdx_sublist s.us j;have keep:∀y∈s.us,y≠x->y∈s.us.eraseIdx j:=fun y hy ne=>by
      obtain⟨i,hi,e⟩:=List.getElem_of_mem hy;rw[List.mem_eraseIdx_iff_getElem];refine⟨i,hi,fun z=>ne ?_,e⟩;subst z;rw[aV hi,e] at h;exact bW h
    have BV:∀t∈s.ts,t.a≠x/\t.b≠x:=fun t ht=>by
      have h1:s.ts.any (zN x)=false:=by
        unfold yz at hu;simp only[Bool.or_eq_false_iff] at hu;exact hu.1
      have h2:zN x t=false:=by
        rw[List.any_eq_false] at h1;exact Bool.eq_false_iff.mpr (h1 t ht)
      constructor
      · intro z;rw[←z] at h2;unfold zN xQ at h2;simp[p7] at h2
      · intro z;rw[←z] at h2;unfold zN xQ at h2;simp[p7] at h2
    have ZI:∀f∈s.fs,f.u≠x:=fun f hf z=>by
      have h1:s.fs.any (EU x)=false:=by
        unfold yz at hu;simp only[Bool.or_eq_false_iff] at hu;exact hu.2
      rw[List.any_eq_false] at h1;refine h1 f hf ?_;unfold EU;rw[z];exact aP rfl
    refine⟨ok.nd.sublist sub,fun y hy=>ok.nm y (sub.subset hy),fun t ht=>?_,ok.yr,fun f hf=>?_,ok.vR⟩
    · have:=ok.tok t ht;exact this.into (keep _ this.a (BV t ht).1) (keep _ this.b (BV t ht).2)
    · have:=ok.rO f hf;exact⟨this.n,keep _ this.u (ZI f hf),this.le,this.lo,this.hi⟩
  | @xr _ t h1 h2 h3=>
    cases hd with
    | xr ht=>
      refine⟨ok.nd,ok.nm,fun u hu=>?_,?_,ok.rO,ok.vR⟩
      · rcases bz.mp hu with hu | hu
        · exact ok.tok u hu
        · have:u=t:=by simpa using hu
          rw[this];exact ht.into h1 h2
      · rw[iU];exact⟨ok.yr,by simp,fun a ha b hb e=>by simp at hb;subst hb;subst e;exact h3 ha⟩
  | @kP _ t j h=>
    have sub:=List.eraseIdx_sublist s.ts j;exact⟨ok.nd,ok.nm,fun u hu=>ok.tok u (sub.subset hu),ok.yr.sublist sub,ok.rO,ok.vR⟩
  | @find _ f h1 h2=>
    cases hd with
    | find hf=>
      refine⟨ok.nd,ok.nm,ok.tok,ok.yr,fun g hg=>?_,?_⟩
      · rcases bz.mp hg with hg | hg
        · exact ok.rO g hg
        · have:g=f:=by simpa using hg
          rw[this];exact⟨hf.n,h2,hf.le,hf.lo,hf.hi⟩
      · show((s.fs++[f]).map bN.n).Nodup;rw[aL,iU];exact⟨ok.vR,by simp,fun a ha b hb e=>by simp at hb;subst hb;subst e;exact h1 ha⟩
  | @move _ f x j h h2=>
    have hf:=ok.rO f (bC h);refine⟨ok.nd,ok.nm,ok.tok,ok.yr,fun g hg=>?_,?_⟩
    · rcases List.mem_or_eq_of_mem_set hg with hg | hg
      · exact ok.rO g hg
      · rw[hg];exact⟨hf.n,h2,hf.le,hf.lo,hf.hi⟩
    · show((s.fs.set j ⟨f.n,x,f.lo,f.hi⟩).map bN.n).Nodup;rw[List.map_set];have:(s.fs.map bN.n).set j f.n=s.fs.map bN.n:=by
        apply List.ext_getElem?;intro i;rw[List.getElem?_set];split
        · rename_i e;subst e;split
          · rw[aN,h];rfl
          · rename_i hl;rw[aq] at hl;exact absurd (bI.mp h).1 hl
        · rfl
      rw[this];exact ok.vR
  | @pX _ f j h=>
    have sub:=List.eraseIdx_sublist s.fs j;exact⟨ok.nd,ok.nm,ok.tok,ok.yr,fun g hg=>ok.rO g (sub.subset hg),ok.vR.sublist (sub.map _)⟩
theorem After.len{d:tV}{s s':SD}(h:After d s s'):s'.us.length<=s.us.length+1/\s'.ts.length<=s.ts.length+1/\s'.fs.length<=s.fs.length+1:=by
  have e1:∀j,(s.us.eraseIdx j).length<=s.us.length:=fun j=>(List.eraseIdx_sublist _ j).length_le
  have e2:∀j,(s.ts.eraseIdx j).length<=s.ts.length:=fun j=>(List.eraseIdx_sublist _ j).length_le
  have e3:∀j,(s.fs.eraseIdx j).length<=s.fs.length:=fun j=>(List.eraseIdx_sublist _ j).length_le
  cases h with
  | unit h=>exact⟨by simp,by simp,by simp⟩
  | @drop _ x j h hu=>exact⟨Nat.le_succ_of_le (e1 j),by simp,by simp⟩
  | xr h1 h2 h3=>exact⟨by simp,by simp,by simp⟩
  | @kP _ t j h=>exact⟨by simp,Nat.le_succ_of_le (e2 j),by simp⟩
  | find h1 h2=>exact⟨by simp,by simp,by simp⟩
  | move h h2=>exact⟨by simp,by simp,by simp⟩
  | @pX _ f j h=>exact⟨by simp,by simp,Nat.le_succ_of_le (e3 j)⟩
theorem Qa{H:Hp}{af:List ah}{fs:List bN}{f f':bN}{b:ah}(t:bU H af (fs.map cZ)){j:Nat}(h:fs[j]? = some f)(eb:H b=some (.tup (cZ f'))):bU H (af.set j b) ((fs.set j f').map cZ):=by
  induction fs generalizing af j with
  | nil=>simp at h
  | cons g r ih=>
    cases t with
    | cons h1 t1=>
      cases j with
      | zero=>exact .cons eb t1
      | succ j=>exact .cons h1 (ih t1 (by simpa using h))
theorem zev{α:Type}{v:α->List V}{H:Hp}{af:List ah}{fs:List α}(t:bU H af (fs.map v)){j:Nat}:bU H (af.eraseIdx j) ((fs.eraseIdx j).map v):=by
  induction fs generalizing af j with
  | nil=>cases t;simp;exact .nil
  | cons g r ih=>
    cases t with
    | cons h1 t1=>
      cases j with
      | zero=>exact t1
      | succ j=>exact .cons h1 (ih t1)
structure fm(K:aF)(H:Hp)(pu pt pf:ah)(s:SD)(at' ag:List ah):Prop where
  u:H pu=some (.lst (s.us.map V.str))
  t:H pt=some (.lst (at'.map V.ref))
  tt:bU H at' (s.ts.map aW)
  f:H pf=some (.lst (ag.map V.ref))
  ff:bU H ag (s.fs.map cZ)
  n1:pu≠pt
  n2:pu≠pf
  n3:pt≠pf
section
variable{K:aF}{H H':Hp}{pu pt pf:ah}{s:SD}{at' ag:List ah}
theorem fm.same(h:fm K H pu pt pf s at' ag)(e:ak H H'):fm K H' pu pt pf s at' ag:=⟨e _ _ h.u,e _ _ h.t,h.tt.same e,e _ _ h.f,h.ff.same e,h.n1,h.n2,h.n3⟩
theorem fm.keep(h:fm K H pu pt pf s at' ag)(k:∀b xs,H b=some (.lst xs)->H' b=some (.lst xs))(kt:∀b xs,H b=some (.tup xs)->H' b=some (.tup xs)):fm K H' pu pt pf s at' ag:=⟨k _ _ h.u,k _ _ h.t,h.tt.cP kt,k _ _ h.f,h.ff.cP kt,h.n1,h.n2,h.n3⟩
theorem fm.Be(h:fm K H pu pt pf s at' ag):at'.length=s.ts.length:=by have:=h.tt.len;rw[aq] at this;exact this
theorem fm.fZ(h:fm K H pu pt pf s at' ag):ag.length=s.fs.length:=by have:=h.ff.len;rw[aq] at this;exact this
end
theorem HJ{xs:List Str}:(xs.map V.str).all nK=true:=by rw[List.all_map];exact iE.mpr fun _ _=>rfl
section
variable{K:aF}{H:Hp}{pu pt pf:ah}{s:SD}{at' ag:List ah}
theorem fm.vS(h:fm K H pu pt pf s at' ag)(us:List Str):fm K (upd H pu (.lst (us.map V.str))) pu pt pf ⟨us,s.ts,s.fs⟩ at' ag:=
  ⟨zb,by rw[ze h.n1.symm];exact h.t,h.tt.cP (lQ h.u),by rw[ze h.n2.symm];exact h.f,h.ff.cP (lQ h.u),h.n1,h.n2,h.n3⟩
theorem fm.vU(h:fm K H pu pt pf s at' ag)(ts:List aT)(at2:List ah)(tt:bU H at2 (ts.map aW)):fm K (upd H pt (.lst (at2.map V.ref))) pu pt pf ⟨s.us,ts,s.fs⟩ at2 ag:=
  ⟨by rw[ze h.n1];exact h.u,zb,tt.cP (lQ h.t),by rw[ze h.n3.symm];exact h.f,h.ff.cP (lQ h.t),h.n1,h.n2,h.n3⟩
theorem fm.rP(h:fm K H pu pt pf s at' ag)(fs:List bN)(Ll:List ah)(ff:bU H Ll (fs.map cZ)):fm K (upd H pf (.lst (Ll.map V.ref))) pu pt pf ⟨s.us,s.ts,fs⟩ at' Ll:=
  ⟨by rw[ze h.n2];exact h.u,by rw[ze h.n3];exact h.t,h.tt.cP (lQ h.f),zb,ff.cP (lQ h.f),h.n1,h.n2,h.n3⟩
end
theorem Qc{n j:Nat}(h:j<n):vh n (j:Int)=some j:=by
  unfold vh;rw[av (by lia),av (by lia),pF]
theorem Qd{n j:Nat}(h:j<n):seqIndex? (j:Int) n=some j:=(Jr (Qc h)).1
theorem After.sub{xs ms:List Str}{d:tV}{s s':SD}(h:After d s s')(hd:gD xs ms d)(sub:∀x∈s.us,x∈xs):∀x∈s'.us,x∈xs:=by
  cases h with
  | @unit _ x h=>
    intro y hy;cases hd with
    | unit hx=>
      rcases bz.mp hy with hy | hy
      · exact sub y hy
      · have:y=x:=by simpa using hy
        rw[this];exact hx
  | @drop _ x j h hu=>exact fun y hy=>sub y ((List.eraseIdx_sublist _ j).subset hy)
  | xr h1 h2 h3=>exact sub
  | kP h=>exact sub
  | find h1 h2=>exact sub
  | move h h2=>exact sub
  | pX h=>exact sub
def HK(H H':Hp)(du dt df pu pt pf:ah):Prop:=∀b o,H b=some o->b≠du->b≠dt->b≠df->b≠pu->b≠pt->b≠pf->H' b=some o
section
variable{K:aF}
theorem Lm{H:Hp}{n:Nat}{A B:ah}{as bs:List ah}{jU:List (List V)}(hA:H A=some (.lst (as.map V.ref)))(hB:H B=some (.lst (bs.map V.ref)))(ta:bU H as jU)(tb:bU H bs jU)(fl:∀ws∈jU,∀v∈ws,nK v=true):cV K H (n+2) (.ref A) (.ref B) true:=by
  have l1:=ta.len;have l2:=tb.len;refine cV.vL (n:=n+1) (aH.of hA) (aH.of hB) (by rw[aq,aq];lia) fun i x y ex ey=>?_
  rw[aN] at ex ey;cases e1:as[i]? with
  | none=>rw[e1] at ex;cases ex
  | some u=>
    cases e2:bs[i]? with
    | none=>rw[e2] at ey;cases ey
    | some v=>
      rw[e1] at ex;rw[e2] at ey;cases ex;cases ey;obtain⟨ws,h1,h2⟩:=Paired.get' ta e1;obtain⟨ws',h3,h4⟩:=Paired.get' tb e2;rw[h1] at h3;cases h3;have hf:=fl ws (bC h1);have:=cV.vC (K:=K) (n:=n) (bx.of h2) (bx.of h4) hf hf
      rwa [JY hf] at this
end
structure eT(C:ah)(K:aF)(H:Hp)(p pm du dt df ps pu pt pf:ah)(lo hi:Int)(xs:List Str)(s:SD)(n:Nat):Prop where
  dig:∃af,bZ C H p pm du dt df lo hi s.us s.ts s.fs af
  ls:∃at' ag,fm K H pu pt pf s at' ag
  tup:H ps=some (.tup [.ref pu,.ref pt,.ref pf])
  ok:gW s.us s.ts s.fs
  sub:∀x∈s.us,x∈xs
  len:s.us.length<=n/\s.ts.length<=n/\s.fs.length<=n
section
variable{C:ah}{K:aF}{H H':Hp}{p pm du dt df ps pu pt pf:ah}{lo hi:Int}{xs:List Str}{s s':SD}{n:Nat}
theorem eT.same(h:eT C K H p pm du dt df ps pu pt pf lo hi xs s n)(e:ak H H'):eT C K H' p pm du dt df ps pu pt pf lo hi xs s n:=by
  obtain⟨af,hd⟩:=h.dig;obtain⟨at',ag,hl⟩:=h.ls;exact⟨⟨af,hd.same e⟩,⟨at',ag,hl.same e⟩,e _ _ h.tup,h.ok,h.sub,h.len⟩
theorem eT.le{m:Nat}(h:eT C K H p pm du dt df ps pu pt pf lo hi xs s n)(e:n<=m):eT C K H p pm du dt df ps pu pt pf lo hi xs s m:=
  ⟨h.dig,h.ls,h.tup,h.ok,h.sub,bH h.len.1 e,bH h.len.2.1 e,bH h.len.2.2 e⟩
theorem eT.next{ms:List Str}{d:tV}(h:eT C K H p pm du dt df ps pu pt pf lo hi xs s n)(nm:∀x∈xs,qK x=true)(hA:After d s s')(hd:gD xs ms d)(dg:∃af,bZ C H' p pm du dt df lo hi s'.us s'.ts s'.fs af)(ls:∃at' ag,fm K H' pu pt pf s' at' ag)(tp:H' ps=some (.tup [.ref pu,.ref pt,.ref pf])) :
    eT C K H' p pm du dt df ps pu pt pf lo hi xs s' (n+1):=by
  obtain⟨a1,a2,a3⟩:=hA.len;obtain⟨b1,b2,b3⟩:=h.len;exact⟨dg,ls,tp,After.ok nm hA hd h.ok,After.sub hA hd h.sub,by lia,by lia,by lia⟩
theorem fm.dict{at' ag:List ah}(h:fm K H pu pt pf s at' ag){b:ah}{u w:HO}(e:H b=some u)(hu:tT u):fm K (upd H b w) pu pt pf s at' ag:=
  h.keep (fun c xs ec=>by rw[ze (jE ec e (fun z=>by rw[←z] at hu;cases hu))];exact ec) (fun c xs ec=>by rw[ze (jE ec e (fun z=>by rw[←z] at hu;cases hu))];exact ec)
end
def tW(ln oV:Ln):Prop:=∀x l r,(l,r)∈ln x->∃r',(l,r')∈oV x
section
variable{ln oV:Ln}{keys:List Str}
theorem EV(h:tW ln oV){s:Str}:∀{n:Nat}{v:Str},Rc ln s n v->Rc oV s n v
  | 0,v,q=>by rw[q.zero];exact Rc.refl
  | n+1,v,q=>by
    obtain⟨u,r,a,b⟩:=q.succ;obtain⟨r',b'⟩:=h _ _ _ b;exact(EV h a).step b'
theorem Qe(h:tW oV ln)(nr:ju ln keys):ju oV keys:=fun s hs j hj q=>nr s hs j hj (EV h q)
theorem Qf(h:tW ln oV)(h':tW oV ln){as bs:List ah}(g:qc ln keys as)(g':qc oV keys bs):as.length<=bs.length:=by
  rcases g' with ⟨e,g'⟩ | ⟨e,⟨s,hs,w⟩,_⟩
  · rcases g with ⟨e',_⟩ | ⟨e',⟨s,hs,w⟩,n⟩
    · rw[e,e'];exact aG _
    · exact absurd (EV h ⟨_,w,rfl⟩) (g' s hs _ (fJ.mpr e'))
  · rcases g with ⟨e',n⟩ | ⟨_,_,n⟩
    · rw[e'];exact dH _
    · exact nv fun c=>n s hs _ (fJ.mpr e) c (EV h' ⟨_,w,rfl⟩)
theorem Qg{zs:List Str}{i:Nat}{z:Str}(nd:zs.Nodup)(h:zs[i]? = some z):z ∉ zs.take i:=fun q=>by
  obtain⟨j,hj,e⟩:=List.getElem_of_mem q;rw[List.getElem_take] at e;rw[bw] at hj;obtain⟨hi,e2⟩:=bI.mp h;exact jx.mp nd j i (by lia) hi (by lia) (by rw[e,e2])
theorem ZJ(h:tW ln oV)(h':tW oV ln){os wR:List Str}(O:Ord ln keys os)(O':Ord oV keys wR)(p:os.Perm keys)(p':wR.Perm keys):os=wR:=by
  have hl:os.length=wR.length:=by rw[p.length_eq,p'.length_eq]
  have e:∀i,os.take i=wR.take i:=by
    intro i
    induction i with
    | zero=>rfl
    | succ i ih=>
      by_cases hi:i<os.length
      · obtain⟨o,e1⟩:∃o,os[i]? = some o:=⟨_,aV hi⟩;obtain⟨o',e2⟩:∃o',wR[i]? = some o':=⟨_,aV (hl▸hi)⟩;have c1:=O.least i o e1 o' (p'.mem_iff.mp (bC e2)) (by rw[ih];exact Qg O'.nd e2) fun l r q=>by
          obtain⟨r',q'⟩:=h _ _ _ q;rw[ih];exact O'.low i o' e2 l r' q'
        have c2:=O'.least i o' e2 o (p.mem_iff.mp (bC e1)) (by rw[←ih];exact Qg O.nd e1) fun l r q=>by
          obtain⟨r',q'⟩:=h' _ _ _ q;rw[←ih];exact O.low i o e1 l r' q'
        have:o=o':=o6 fun ne=>c1 (KJ ne c2)
        rw[aS,aS,ih,e1,e2,this]
      · rw[m9 (by lia),m9 (by lia)] at ih ⊢;exact ih
  have:=e os.length
  rwa [bh,hl,bh] at this
theorem Qh(h:tW ln oV){x y:Str}(b:lT ln x y):lT oV x y:=by
  obtain⟨j,a,q⟩:=b;exact⟨j,a,EV h q⟩
theorem Qi(h:tW ln oV)(h':tW oV ln){p:SS}(d:Ht ln keys p):Ht oV keys p:=by
  obtain⟨a,⟨r,q⟩,c⟩:=d;exact⟨a,h _ _ _ q,fun⟨t,x,y⟩=>c ⟨t,Qh h' x,Qh h' y⟩⟩
theorem ZK(h:tW ln oV)(h':tW oV ln){lv:Str->Nat}{n:Nat}(L:Lv ln keys lv n):Lv oV keys lv n:=by
  have m:∀{l l':Ln}(_:tW l l')(x:Str)(y:Int),y∈qN lv (l x)->y∈qN lv (l' x):=fun hh x y hy=>by
    obtain⟨⟨a,r⟩,hq,e⟩:=aK.mp hy;obtain⟨r',q'⟩:=hh _ _ _ hq;exact aK.mpr ⟨(a,r'),q',e⟩
  refine⟨fun x hx l r q=>?_,fun x hx=>?_,L.lt,L.all⟩
  · obtain⟨r',q'⟩:=h' _ _ _ q;exact L.cl x hx l r' q'
  · rcases L.mx x hx with ⟨a,b⟩ | ⟨a,b⟩
    · refine .inl ⟨List.eq_nil_iff_forall_not_mem.mpr fun y hy=>?_,b⟩;have:=m h' x y hy;rw[a] at this;cases this
    · exact .inr ⟨m h x _ a,fun y hy=>b y (m h' x y hy)⟩
end
theorem EW{ts cU:List aT}(p:ts.Perm cU)(y z:Str):Nb ts y z↔Nb cU y z:=by
  rw[P5,P5];exact⟨fun⟨t,a,b⟩=>⟨t,p.mem_iff.mp a,b⟩,fun⟨t,a,b⟩=>⟨t,p.mem_iff.mpr a,b⟩⟩
theorem HL{α:Type}:∀{ts:List α}{aA:List ah}{t:α},aA.length=ts.length->t∈ts->∃r,(t,r)∈ts.zip aA
  | [],_,_,_,h=>nomatch h
  | x::ts,[],_,e,_=>nomatch e
  | x::ts,r::aA,t,e,h=>by
    rcases aO.mp h with rfl | h
    · exact⟨r,e8 ..⟩
    · obtain⟨r',q⟩:=HL (Nat.succ.inj e) h;exact⟨r',bE _ q⟩
section
variable{ts cU:List aT}{aA gX:List ah}{us kI:List Str}{fs i8:List bN}{af mL:List ah}{lo hi:Int}{k:Str}
theorem Qj(p:ts.Perm cU)(gz:gX.length=cU.length):tW (dj ts (ts.zip aA)) (dj cU (cU.zip gX)):=fun x l r q=>by
  obtain⟨t,hz,hk,ha,hb⟩:=kK.mp q;obtain⟨r',EX⟩:=HL gz (p.mem_iff.mp (jD hz).1);have e:=Ez (EW p);exact⟨r',kK.mpr ⟨t,EX,hk,by rw[←e];exact ha,by rw[←e];exact hb⟩⟩
theorem Qk(p:ts.Perm cU)(gz:gX.length=cU.length){l:Str}{b:Tr}(q:(l,b)∈cj ts (ts.zip aA) k):∃b',(l,b')∈cj cU (cU.zip gX) k/\b'.1=b.1:=by
  obtain⟨hz,hk,ha,hb⟩:=pW.mp q;obtain⟨r',EX⟩:=HL gz (p.mem_iff.mp (jD hz).1);have e:=Ez (EW p);exact⟨(b.1,r'),pW.mpr ⟨EX,hk,by rw[←e];exact ha,by rw[←e];exact hb⟩,rfl⟩
theorem Ql(p:ts.Perm cU)(pf:fs.Perm i8)(gz:mL.length=i8.length){q:bN×ah}(h:q∈eX ts (fs.zip af) k):∃q'∈eX cU (i8.zip mL) k,q'.1=q.1:=by
  obtain⟨hz,hk⟩:=cy.mp h;obtain⟨r',EX⟩:=HL gz (pf.mem_iff.mp (jD (a:=q.1) (b:=q.2) hz).1);exact⟨(q.1,r'),cy.mpr ⟨EX,by rw[←Ez (EW p)];exact hk⟩,rfl⟩
theorem Qm(p:ts.Perm cU)(pf:fs.Perm i8)(gz:mL.length=i8.length){q:IS}(h:q∈xh lo (eX ts (fs.zip af) k)):q∈xh lo (eX cU (i8.zip mL) k):=by
  rcases aO.mp h with rfl | h
  · exact e8 ..
  · obtain⟨x,hx,rfl⟩:=aK.mp h;obtain⟨y,hy,e⟩:=Ql p pf gz hx;exact bE _ (aK.mpr ⟨y,hy,by rw[e]⟩)
theorem Qn(p:ts.Perm cU)(pf:fs.Perm i8)(gz:mL.length=i8.length){q:IS}(h:q∈xj hi (eX ts (fs.zip af) k)):q∈xj hi (eX cU (i8.zip mL) k):=by
  rcases aO.mp h with rfl | h
  · exact e8 ..
  · obtain⟨x,hx,rfl⟩:=aK.mp h;obtain⟨y,hy,e⟩:=Ql p pf gz hx;exact bE _ (aK.mpr ⟨y,hy,by rw[e]⟩)
theorem Qo(p:ts.Perm cU)(pf:fs.Perm i8)(nZ:gX.length=cU.length)(hl:af.length=fs.length)(gz:mL.length=i8.length){c:eZ}(u:Up (cj ts (ts.zip aA)) (mw ts lo (fs.zip af)) k c):∃c',Up (cj cU (cU.zip gX)) (mw cU lo (i8.zip mL)) k c'/\c'.1=c.1:=by
  induction u with
  | bare h=>exact⟨_,.bare ⟨Qm p pf gz h.1,fun q hq=>h.2 q (Qm p.symm pf.symm hl hq)⟩,rfl⟩
  | up u h ih=>
    obtain⟨c',u',e⟩:=ih;obtain⟨b',hb,e2⟩:=Qk p nZ h;refine⟨_,.up u' hb,?_⟩;show c'.1+fE b'.1=_+_;rw[e,e2]
theorem Qp(p:ts.Perm cU)(pf:fs.Perm i8)(nZ:gX.length=cU.length)(hl:af.length=fs.length)(gz:mL.length=i8.length){c:eZ}(u:Dn (cj ts (ts.zip aA)) (mz ts hi (fs.zip af)) k c):∃c',Dn (cj cU (cU.zip gX)) (mz cU hi (i8.zip mL)) k c'/\c'.1=c.1:=by
  induction u with
  | bare h=>exact⟨_,.bare ⟨Qn p pf gz h.1,fun q hq=>h.2 q (Qn p.symm pf.symm hl hq)⟩,rfl⟩
  | dn u h ih=>
    obtain⟨c',u',e⟩:=ih;obtain⟨b',hb,e2⟩:=Qk p nZ h;refine⟨_,.dn u' hb,?_⟩;show c'.1-fE b'.1=_-_;rw[e,e2]
theorem Qq(p:ts.Perm cU)(pf:fs.Perm i8)(ha:aA.length=ts.length)(nZ:gX.length=cU.length)(hl:af.length=fs.length)(gz:mL.length=i8.length){m:Int}(h:jY (cj ts (ts.zip aA)) (mw ts lo (fs.zip af)) k m):jY (cj cU (cU.zip gX)) (mw cU lo (i8.zip mL)) k m:=by
  obtain⟨⟨c,u,e⟩,a⟩:=h;obtain⟨c',u',e'⟩:=Qo p pf nZ hl gz u;refine⟨⟨c',u',by rw[e',e]⟩,fun d v=>?_⟩;obtain⟨d',v',f'⟩:=Qo p.symm pf.symm ha gz hl v;have:=a _ v';lia
theorem Qs(p:ts.Perm cU)(pf:fs.Perm i8)(ha:aA.length=ts.length)(nZ:gX.length=cU.length)(hl:af.length=fs.length)(gz:mL.length=i8.length){m:Int}(h:jZ (cj ts (ts.zip aA)) (mz ts hi (fs.zip af)) k m):jZ (cj cU (cU.zip gX)) (mz cU hi (i8.zip mL)) k m:=by
  obtain⟨⟨c,u,e⟩,a⟩:=h;obtain⟨c',u',e'⟩:=Qp p pf nZ hl gz u;refine⟨⟨c',u',by rw[e',e]⟩,fun d v=>?_⟩;obtain⟨d',v',f'⟩:=Qp p.symm pf.symm ha gz hl v;have:=a _ v';lia
theorem Qt(pu:us.Perm kI)(p:ts.Perm cU):zn ts (aM us)=zn cU (aM kI):=by
  unfold zn;rw[Ez (EW p),Oj pu]
end
abbrev Bg:=Str×Int×Int
def EY(q:Bg):List V:=[.str q.1,.int q.2.1,.int q.2.2]
structure Cv where
  ones:List (List Str)
  n:Nat
  os:Option (List Str)
  qs:List SS
  rows:List (List Str)
  sp:Option (List Bg)
structure vW(lo hi:Int)(us:List Str)(aA:List ah)(ts:List aT)(af:List ah)(fs:List bN)(A:Cv):Prop where
  one:A.ones=qb us ts
  n:∃rs,qc (dj ts (ts.zip aA)) (zn ts (aM us)) rs/\A.n=rs.length
  no:¬ju (dj ts (ts.zip aA)) (zn ts (aM us))->A.os=none/\A.qs = []/\A.rows = []/\A.sp=none
  os:ju (dj ts (ts.zip aA)) (zn ts (aM us))->∃os,A.os=some os/\Ord (dj ts (ts.zip aA)) (zn ts (aM us)) os/\os.Perm (zn ts (aM us))
  qs:ju (dj ts (ts.zip aA)) (zn ts (aM us))->A.qs.Pairwise (fun a b=>iB a b=true)/\∀p,p∈A.qs↔Ht (dj ts (ts.zip aA)) (zn ts (aM us)) p
  rows:ju (dj ts (ts.zip aA)) (zn ts (aM us))->∃lv n,Lv (dj ts (ts.zip aA)) (zn ts (aM us)) lv n/\A.rows=yt (zn ts (aM us)) lv n
  sp:ju (dj ts (ts.zip aA)) (zn ts (aM us))->(∃f g:Str->Int,(∀k∈zn ts (aM us),jY (cj ts (ts.zip aA)) (mw ts lo (fs.zip af)) k (f k))/\(∀k∈zn ts (aM us),jZ (cj ts (ts.zip aA)) (mz ts hi (fs.zip af)) k (g k))/\yx lo hi us aA ts af fs/\A.sp=some ((zn ts (aM us)).map fun k=>(k,f k,g k)))\/∃c w,yy lo hi us aA ts af fs c w/\A.sp=none
section
variable{ts cU:List aT}{aA gX:List ah}{us kI:List Str}{fs i8:List bN}{af mL:List ah}{lo hi:Int}{A A':Cv}
theorem Qu(l6:∀t∈ts,t.a∈us/\t.b∈us)(yC:∀t∈cU,t.a∈kI/\t.b∈kI)(pu:us.Perm kI)(p:ts.Perm cU)(pf:fs.Perm i8)(ha:aA.length=ts.length)(nZ:gX.length=cU.length)(hl:af.length=fs.length)(gz:mL.length=i8.length){f g:Str->Int}
    (F:∀k∈zn ts (aM us),jY (cj ts (ts.zip aA)) (mw ts lo (fs.zip af)) k (f k)) (G:∀k∈zn ts (aM us),jZ (cj ts (ts.zip aA)) (mz ts hi (fs.zip af)) k (g k)) (no:yx lo hi us aA ts af fs) {c:eZ}{w:Str}(r:yy lo hi kI gX cU mL i8 c w):False:=by
  have ek:=Qt pu p;obtain⟨k,hk,h⟩:=ZH yC (f:=f) (g:=g) (fun k hk=>Qq p pf ha nZ hl gz (F k (by rw[ek];exact hk))) (fun k hk=>Qs p pf ha nZ hl gz (G k (by rw[ek];exact hk))) r;have:=ZG l6 F G no k (by rw[ek];exact hk);lia
theorem ZL(l6:∀t∈ts,t.a∈us/\t.b∈us)(yC:∀t∈cU,t.a∈kI/\t.b∈kI)(pu:us.Perm kI)(p:ts.Perm cU)(pf:fs.Perm i8)(ha:aA.length=ts.length)(nZ:gX.length=cU.length)(hl:af.length=fs.length)(gz:mL.length=i8.length)
    (h:vW lo hi us aA ts af fs A) (h':vW lo hi kI gX cU mL i8 A'):A=A':=by
  have ek:=Qt pu p;have l1:=Qj (aA:=aA) p nZ;have l2:=Qj (aA:=gX) p.symm ha;have e1:A.ones=A'.ones:=by rw[h.one,h'.one];exact(Zr pu.symm fun y z=>(EW p y z).symm).symm
  have e2:A.n=A'.n:=by
    obtain⟨rs,r,e⟩:=h.n;obtain⟨rs',r',e'⟩:=h'.n;rw[←ek] at r';rw[e,e'];exact Nat.le_antisymm (Qf l1 l2 r r') (Qf l2 l1 r' r)
  have e:A.os=A'.os/\A.qs=A'.qs/\A.rows=A'.rows/\A.sp=A'.sp:=by
    by_cases nr:ju (dj ts (ts.zip aA)) (zn ts (aM us))
    · have xu:ju (dj cU (cU.zip gX)) (zn cU (aM kI)):=by rw[←ek];exact Qe l2 nr
      refine⟨?_,?_,?_,?_⟩
      · obtain⟨os,e,O,q⟩:=h.os nr;obtain⟨wR,e',O',q'⟩:=h'.os xu;rw[←ek] at O' q';rw[e,e',ZJ l1 l2 O O' q q']
      · obtain⟨a,b⟩:=h.qs nr;obtain⟨a',b'⟩:=h'.qs xu;rw[←ek] at b';exact OY a a' fun x=>by rw[b,b'];exact⟨Qi l1 l2,Qi l2 l1⟩
      · obtain⟨lv,n,L,e⟩:=h.rows nr;obtain⟨rH,n',L',e'⟩:=h'.rows xu;rw[←ek] at L' e';rw[e,e'];exact Zo L (ZK l2 l1 L')
      · rcases h.sp nr with ⟨f,g,F,G,no,e⟩ | ⟨c,w,r,e⟩
        · rcases h'.sp xu with ⟨f',g',F',G',Qv,e'⟩ | ⟨c',w',r',e'⟩
          · rw[e,e',←ek];refine bQ some (fH fun k hk=>?_);rw[(Qq p pf ha nZ hl gz (F k hk)).uniq (F' k (by rw[←ek];exact hk)),(Qs p pf ha nZ hl gz (G k hk)).uniq (G' k (by rw[←ek];exact hk))]
          · exact(Qu l6 yC pu p pf ha nZ hl gz F G no r').elim
        · rcases h'.sp xu with ⟨f',g',F',G',Qv,e'⟩ | ⟨c',w',r',e'⟩
          · exact(Qu yC l6 pu.symm p.symm pf.symm nZ ha gz hl F' G' Qv r).elim
          · rw[e,e']
    · have xu:¬ju (dj cU (cU.zip gX)) (zn cU (aM kI)):=fun z=>nr (by rw[←ek] at z;exact Qe l1 z)
      obtain⟨a,b,c,d⟩:=h.no nr;obtain⟨a',b',c',d'⟩:=h'.no xu;rw[a,b,c,d,a',b',c',d'];exact⟨rfl,rfl,rfl,rfl⟩
  obtain⟨a,b,c,d⟩:=e;cases A;cases A';simp only at e1 e2 a b c d;rw[e1,e2,a,b,c,d]
end
def rR(H:Hp)(v:V):Option (List Bg)->Prop
  | none=>v = .cu
  | some qs=>∃(q:ah)(as:List ah),v = .ref q/\H q=some (.lst (as.map V.ref))/\Paired (fun a q=>H a=some (.tup (EY q))) as qs
theorem rR.same{H H':Hp}{v:V}{o:Option (List Bg)}(h:rR H v o)(s:ak H H'):rR H' v o:=by
  cases o with
  | none=>exact h
  | some qs=>
    obtain⟨q,as,a,b,c⟩:=h;exact⟨q,as,a,s _ _ b,Paired.mono c fun _ _ _ z=>s _ _ z⟩
theorem Qw{H:Hp}{f g:Str->Int}:∀{as:List ah}{ks:List Str},Paired (fun a k=>H a=some (.tup [.str k,.int (f k),.int (g k)])) as ks->Paired (fun a q=>H a=some (.tup (EY q))) as (ks.map fun k=>(k,f k,g k))
  | _,_,.nil=>.nil
  | _,_,.cons h t=>.cons h (Qw t)
def oW(H:Hp)(q:ah)(A:Cv):Prop:=∃(a1:ah)(gs:List ah),H a1=some (.lst (gs.map V.ref))/\Paired (fun c g=>H c=some (.lst (g.map V.str))) gs A.ones/\
  ((A.os=none/\H q=some (.lst [.ref a1,.int A.n,.cu]))\/∃(a3 a4 a5:ah)(v:V)(os:List Str)(bs cs:List ah),A.os=some os/\H q=some (.lst [.ref a1,.int A.n,.ref a3,.ref a4,.ref a5,v])/\H a3=some (.lst (os.map V.str))/\H a4=some (.lst (bs.map V.ref))/\Paired (fun a(p:SS)=>H a=some (.tup [.str p.1,.str p.2])) bs A.qs/\H a5=some (.lst (cs.map V.ref))/\Paired (fun c g=>H c=some (.lst (g.map V.str))) cs A.rows/\rR H v A.sp)
theorem oW.same{H H':Hp}{q:ah}{A:Cv}(s:ak H H')(h:oW H q A):oW H' q A:=by
  obtain⟨a1,gs,h1,h2,h⟩:=h;refine⟨a1,gs,s _ _ h1,Paired.mono h2 fun _ _ _ z=>s _ _ z,?_⟩;rcases h with ⟨e,h⟩ | ⟨a3,a4,a5,v,os,bs,cs,e,h3,h4,h5,h6,h7,h8,h9⟩
  · exact .inl ⟨e,s _ _ h⟩
  · refine .inr ⟨a3,a4,a5,v,os,bs,cs,e,s _ _ h3,s _ _ h4,s _ _ h5,Paired.mono h6 fun _ _ _ z=>s _ _ z,s _ _ h7,Paired.mono h8 fun _ _ _ z=>s _ _ z,h9.same s⟩
theorem Lo{H:Hp}:∀{as:List ah}{qs:List Bg},Paired (fun a q=>H a=some (.tup (EY q))) as qs->bU H as (qs.map EY)
  | _,_,.nil=>.nil
  | _,_,.cons h t=>.cons h (Lo t)
section
variable{K:aF}{H:Hp}
theorem HM{n:Nat}{v:V}(h:nK v=true):cV K H n v v true:=by
  have:=cV.flat (K:=K) (H:=H) (n:=n) h h
  rwa [JW h] at this
theorem ZM{v v':V}{o:Option (List Bg)}{n:Nat}(h:rR H v o)(h':rR H v' o):cV K H (n+2) v v' true:=by
  cases o with
  | none=>
    cases h;cases h';exact HM rfl
  | some qs=>
    obtain⟨q,as,rfl,b,c⟩:=h;obtain⟨q',as',rfl,b',c'⟩:=h';refine Lm b b' (Lo c) (Lo c') fun ws hw v hv=>?_
    obtain⟨f,_,rfl⟩:=aK.mp hw;unfold EY at hv;simp at hv;rcases hv with rfl | rfl | rfl<;>rfl
theorem ZN{q q':ah}{A:Cv}(h:oW H q A)(h':oW H q' A):cV K H 8 (.ref q) (.ref q') true:=by
  obtain⟨a1,gs,h1,h2,h⟩:=h;obtain⟨b1,gs',k1,k2,h'⟩:=h';rcases h with ⟨e,h⟩ | ⟨a3,a4,a5,v,os,bs,cs,e,h3,h4,h5,h6,h7,h8,h9⟩
  · rcases h' with ⟨_,h'⟩ | ⟨_,_,_,_,_,_,_,z,_⟩
    · refine cV.vL (n:=7) (aH.of h) (aH.of h') rfl fun i x y ex ey=>?_
      match i,ex,ey with
      | 0,ex,ey=>cases ex;cases ey;exact Le (n:=5) h1 k1 h2 k2
      | 1,ex,ey=>cases ex;cases ey;exact HM rfl
      | 2,ex,ey=>cases ex;cases ey;exact HM rfl
      | i+3,ex,ey=>cases ex
    · rw[e] at z;cases z
  · rcases h' with ⟨z,_⟩ | ⟨b3,b4,b5,v',wR,bs',tX,e',k3,k4,k5,k6,k7,k8,k9⟩
    · rw[e] at z;cases z
    · rw[e] at e';cases e';refine cV.vL (n:=7) (aH.of h3) (aH.of k3) rfl fun i x y ex ey=>?_
      match i,ex,ey with
      | 0,ex,ey=>cases ex;cases ey;exact Le (n:=5) h1 k1 h2 k2
      | 1,ex,ey=>cases ex;cases ey;exact HM rfl
      | 2,ex,ey=>cases ex;cases ey;exact cV.vD (aH.of h4) (aH.of k4) Kr
      | 3,ex,ey=>cases ex;cases ey;exact Zm (n:=5) h5 k5 h6 k6
      | 4,ex,ey=>cases ex;cases ey;exact Le (n:=5) h7 k7 h8 k8
      | 5,ex,ey=>cases ex;cases ey;exact ZM (n:=5) h9 k9
      | i+6,ex,ey=>cases ex
end
end Dm
namespace L2
open PySem PySem.Spec PyProof.Rows
end L2
namespace Dm
open PySem PySem.NumText L2
end Dm
namespace L2
open PySem PySem.Spec PyProof.Rows
section
variable{X:Cx}{pos:Pos}
theorem sset{i:Nat}{x:Str}{e:Expr}{te:TE}{pos':Pos}(hN:X.N.Nodup)(he:PE X e te)(hi:X.N[i]? = some x:=by rfl)(hx:Loc X.env.scope x:=by first | exact Or.inl rfl | exact Or.inr rfl)(hs:swapsWith e (some (.Name x pos')) pos.line X.env=pure false:=by rfl)(hf:X.fn x=true\/X.env.scope.names.lookup x=some .local:=by first | exact .inl rfl | exact .inr rfl | assumption):PS X (.Assign [.Name x pos'] e pos) (xG te (zy i)):=SW hN hi hx he hs hf
theorem gE{i:Nat}{x:Str}(hN:X.N.Nodup)(hi:X.N[i]? = some x:=by rfl)(hx:Loc X.env.scope x:=by first | exact Or.inl rfl | exact Or.inr rfl)(hf:X.fn x=true\/X.env.scope.names.lookup x=some .local:=by first | exact .inl rfl | exact .inr rfl | assumption):PG X (.Name x pos) (zy i):=nX hN hi hx hf
theorem bP{a b:Expr}{ta tb:TE}{r:R2}(hr:Aw X r)(ha:PE X a ta)(hb:PE X b tb)(hs:Nf b:=by exact fun _ _=>rfl):PE X (.Subscript a b pos) (C8 r ta tb):=Ui hr ha hb hs
end
section
variable{X:Cx}{x:Str}{ps:List Str}{k:Nat}{sp:Sp}{e:Expr}{es:List Expr}{t:TA}{p pos:Pos}
theorem b7(F:gk X.prog X.w X.K X.mg X.base x ps k sp)(ha:PA X (e::es) t)(hr:cD k X.A:=by exact cD.mono (by assumption) (by decide))(hg:Gl X x:=by rfl)(jT:(x == ("__debug__" : Str))=false:=by decide)
    (he:starEach (e::es) X.env=(false,eval e X.env)::starEach es X.env:=by rfl) (iP:(backTo pos (starEach es X.env)).any (·.1)=false:=by rfl):PE X (.Call (.Name x p) (e::es) [] pos) (Gm sp [] E0 t):=Vj F hr hg ha jT he iP
end
theorem er{N P:List Str}{sc:Scope}(h1:sc.kind = .function:=by rfl)(h2:sc.isCoroutine=false:=by rfl)(h3:sc.isGenerator=false:=by rfl)(h4:N.Nodup:=by decide +kernel)(h5:N.take P.length=P:=by rfl)(h6:∀x∈P,sc.names.lookup x=some .local\/sc.names.lookup x=some .cell:=by decide +kernel)(h7:∀y∈sc.names,y.2≠.free:=by decide +kernel):aC N P sc:=⟨h1,h2,h3,h4,h5,h6,h7⟩
end L2
namespace LK63
open PySem L2 Dm PySem.NumText
def top(i:Nat):Stmt:=PySem.Challenge.pw_digmatrix_k63_whole_as_if_told_anew.main.body.getD i (.Pass ⟨0,0,0,0⟩)
structure Tx(K:aF)(mg:Str->Option ai)(w:World)(C_Dig:ah)(zk:ah)(zq:ah)(zg:ah)(zv:ah)(zo:ah)(zw:ah)(zp:ah)(zx:ah):Prop where
 ZO:mg "Dig" = some (.ref C_Dig)
 g8:tD K C_Dig
 ZP:PySem.W.makesIn K C_Dig=true
 ZQ:PySem.W.keepIn K (.ref C_Dig)=true
 Qx:cJ K C_Dig "frame"
 Cw:cJ K C_Dig "units"
 Bh:cJ K C_Dig "ties"
 yD:cJ K C_Dig "finds"
 ZR:pQ K C_Dig "Dig.__init__" "__init__" (j5 (top 10) 0) ["self","first","last"]
 ZS:pQ K C_Dig "Dig.add_unit" "add_unit" (j5 (top 10) 1) ["self","name"]
 ZT:pQ K C_Dig "Dig.drop_unit" "drop_unit" (j5 (top 10) 2) ["self","name"]
 ZU:pQ K C_Dig "Dig.add_tie" "add_tie" (j5 (top 10) 3) ["self","tie"]
 ZV:pQ K C_Dig "Dig.drop_tie" "drop_tie" (j5 (top 10) 4) ["self","tie"]
 ZW:pQ K C_Dig "Dig.add_find" "add_find" (j5 (top 10) 5) ["self","name","unit","low","high"]
 ZX:pQ K C_Dig "Dig.move_find" "move_find" (j5 (top 10) 6) ["self","name","unit"]
 ZY:pQ K C_Dig "Dig.drop_find" "drop_find" (j5 (top 10) 7) ["self","name"]
 ZZ:pQ K C_Dig "Dig.telling" "telling" (j5 (top 10) 8) ["self"]
 Z0:pQ K C_Dig "Dig.seek_unit" "seek_unit" (j5 (top 10) 9) ["self","name"]
 Z1:pQ K C_Dig "Dig.seek_find" "seek_find" (j5 (top 10) 10) ["self","name"]
 Z2:pQ K C_Dig "Dig.is_used" "is_used" (j5 (top 10) 11) ["self","name"]
 Qy:mg "DigError" = some (.ref zk)
 Qz:zK K zk
 QA:mg "Round" = some (.ref zq)
 Z3:pU K zq
 Z4:tR K zq
 QB:EO K zq
 Z5:pQ K zq "Round.__init__" "__init__" (j5 (top 2) 0) ["self","ties"]
 Z6:cJ K zq "ties"
 QC:mg "NoDating" = some (.ref zg)
 Z7:pU K zg
 Z8:tR K zg
 QD:EO K zg
 Z9:pQ K zg "NoDating.__init__" "__init__" (j5 (top 3) 0) ["self","row"]
 zhf:cJ K zg "row"
 z1s:mg "Twice" = some (.ref zv)
 z1o:mg "NoUnit" = some (.ref zo)
 z1t:mg "NoTie" = some (.ref zw)
 z1p:mg "NoFind" = some (.ref zp)
 z1u:mg "InUse" = some (.ref zx)
 zhg:PySem.W.mroIn K zq (.ref zq)=some true
 zdh:PySem.W.mroIn K zg (.ref zg)=some true
 zmt:Df K mg "one_names" (top 12) ["units","ties"]
 zmu:Df K mg "join_ones" (top 13) ["names","first","second"]
 z1q:Df K mg "ones" (top 14) ["units","ties"]
 zhy:Df K mg "ties_beneath" (top 15) ["telling"]
 zfp:Df K mg "shortest_round" (top 17) ["telling"]
 zhh:Df K mg "round_through" (top 18) ["start","beneath"]
 QE:Df K mg "refuse_round" (top 19) ["telling"]
 QF:Df K mg "order" (top 20) ["telling"]
 zlg:Df K mg "least_free" (top 21) ["beneath","placed"]
 zpt:Df K mg "rests_on" (top 22) ["lowers","placed"]
 zjq:Df K mg "all_beneath" (top 24) ["telling"]
 zza:Df K mg "drawn" (top 25) ["telling"]
 zhz:Df K mg "lies_between" (top 26) ["depths","upper","lower"]
 zv1:Df K mg "levels" (top 28) ["telling"]
 zv2:Df K mg "gap_of" (top 30) ["tie"]
 zh0:Df K mg "finds_within" (top 31) ["telling"]
 zv3:Df K mg "floors" (top 32) ["telling"]
 zpu:Df K mg "ceilings" (top 33) ["telling"]
 zjr:Df K mg "bare_chains" (top 34) ["bounds"]
 zv4:Df K mg "led_up" (top 35) ["chain","tie"]
 zfq:Df K mg "one_tie_longer" (top 36) ["beneath","chains"]
 zfr:Df K mg "impossible_row" (top 37) ["telling"]
 zfs:Df K mg "refuse_undated" (top 38) ["telling"]
 zmv:Df K mg "chains_up" (top 40) ["telling"]
 zjs:Df K mg "chains_down" (top 41) ["telling"]
 zpv:Df K mg "led_down" (top 42) ["chain","tie"]
 zzb:Df K mg "spans" (top 44) ["telling"]
 zh1:Df K mg "_law_cell_at" (top 46) ["_law_script","_law_k"]
 zmw:Df K mg "_law_part" (top 47) ["_law_cell","_law_k","_law_many"]
 zlh:Df K mg "_law_names" (top 48) ["_law_one","_law_other","_law_many"]
 zpw:Df K mg "_law_tie" (top 49) ["_law_names_here","_law_cell"]
 zmx:Df K mg "_law_find" (top 50) ["_law_marks","_law_units","_law_many","_law_cell"]
 zli:Df K mg "_law_frame" (top 51) ["_law_cell"]
 zlj:Df K mg "_law_added" (top 52) ["_law_dig","_law_stands","_law_names_here","_law_marks","_law_cell"]
 zlk:Df K mg "_law_taken" (top 53) ["_law_dig","_law_stands","_law_cell"]
 zjt:Df K mg "_law_turned" (top 54) ["_law_some","_law_cell"]
 zll:Df K mg "_law_order" (top 55) ["_law_telling"]
 zlm:Df K mg "_law_spans" (top 56) ["_law_telling"]
 zh2:Df K mg "_law_answers" (top 57) ["_law_telling"]
 z3i:Df K mg "law" (top 58) ["_law_script"]
 min:mg "min" = none
 list:mg "list" = none
 sorted:mg "sorted" = none
 all:mg "all" = none
 any:mg "any" = none
 reversed:mg "reversed" = none
 range:mg "range" = none
 len:mg "len" = none
 max:mg "max" = none
theorem Tx.ex{K:aF}{mg:Str->Option ai}{w:World}{C_Dig:ah}{zk:ah}{zq:ah}{zg:ah}{zv:ah}{zo:ah}{zw:ah}{zp:ah}{zx:ah}(T:Tx K mg w C_Dig zk zq zg zv zo zw zp zx):∃C_Dig,∃zk,∃zq,∃zg,∃zv,∃zo,∃zw,∃zp,∃zx,Tx K mg w C_Dig zk zq zg zv zo zw zp zx:=⟨_,_,_,_,_,_,_,_,_,T⟩
theorem fB:aC ["units","ties","names","unit","tie"] ["units","ties"] (zm (top 12)):=er
theorem iC:aC ["names","first","second","least","unit"] ["names","first","second"] (zm (top 13)):=er
theorem mO:aC ["units","ties","names","members","unit"] ["units","ties"] (zm (top 14)):=er
theorem cQ:aC ["telling","names","beneath","members","tie"] ["telling"] (zm (top 15)):=er
theorem bR:aC ["telling","beneath","shortest","name","ties"] ["telling"] (zm (top 17)):=er
theorem bg:aC ["start","beneath","met","ways","longer","name","ties","lower","tie"] ["start","beneath"] (zm (top 18)):=er
theorem dB:aC ["telling","ties"] ["telling"] (zm (top 19)):=er
theorem gY:aC ["telling","beneath","placed"] ["telling"] (zm (top 20)):=er
theorem jI:aC ["beneath","placed","free"] ["beneath","placed"] (zm (top 21)):=er
theorem zmk:aC ["lowers","placed"] ["lowers","placed"] (zm (top 22)):=er
theorem cK:aC ["telling","straight","depths","name","lower","tie"] ["telling"] (zm (top 24)):=er
theorem fS:aC ["telling","straight","depths","pairs","name","lower","tie"] ["telling"] (zm (top 25)):=er
theorem zgs:aC ["depths","upper","lower"] ["depths","upper","lower"] (zm (top 26)):=er
theorem fF:aC ["telling","beneath","numbers","rows","name","number"] ["telling"] (zm (top 28)):=er
theorem zs2:aC ["tie"] ["tie"] (zm (top 30)):=er
theorem cR:aC ["telling","names","within","members","find"] ["telling"] (zm (top 31)):=er
theorem jm:aC ["telling","within","starts","name"] ["telling"] (zm (top 32)):=er
theorem gn:aC ["telling","within","ends","name"] ["telling"] (zm (top 33)):=er
theorem fT:aC ["bounds","chains","name"] ["bounds"] (zm (top 34)):=er
theorem zs3:aC ["chain","tie"] ["chain","tie"] (zm (top 35)):=er
theorem bS:aC ["beneath","chains","longer","name","lower","tie","chain"] ["beneath","chains"] (zm (top 36)):=er
theorem bT:aC ["telling","beneath","ends","chains","name"] ["telling"] (zm (top 37)):=er
theorem gp:aC ["telling","row"] ["telling"] (zm (top 38)):=er
theorem cO:aC ["telling","beneath","chains","name","lower","tie","chain"] ["telling"] (zm (top 40)):=er
theorem b8:aC ["telling","beneath","chains","name","lower","tie","chain"] ["telling"] (zm (top 41)):=er
theorem zml:aC ["chain","tie"] ["chain","tie"] (zm (top 42)):=er
theorem nV:aC ["telling","ups","downs"] ["telling"] (zm (top 44)):=er
theorem zgt:aC ["_law_script","_law_k"] ["_law_script","_law_k"] (zm (top 46)):=er
theorem zk9:aC ["_law_cell","_law_k","_law_many"] ["_law_cell","_law_k","_law_many"] (zm (top 47)):=er
theorem bu:aC ["_law_one","_law_other","_law_many","_law_signs","_law_size","_law_at","_law_names_here","_law_k","_law_name","_law_j","_law_number"] ["_law_one","_law_other","_law_many"] (zm (top 48)):=er
theorem c5:aC ["_law_names_here","_law_cell","_law_one","_law_other","_law_kind","_law_gap"] ["_law_names_here","_law_cell"] (zm (top 49)):=er
theorem fC:aC ["_law_marks","_law_units","_law_many","_law_cell","_law_low","_law_high"] ["_law_marks","_law_units","_law_many","_law_cell"] (zm (top 50)):=er
theorem jJ:aC ["_law_cell","_law_some"] ["_law_cell"] (zm (top 51)):=er
theorem bL:aC ["_law_dig","_law_stands","_law_names_here","_law_marks","_law_cell","_law_units","_law_ties","_law_finds","_law_fresh","_law_spare","_law_way","_law_find_here","_law_tie_here"] ["_law_dig","_law_stands","_law_names_here","_law_marks","_law_cell"] (zm (top 52)):=er
theorem bM:aC ["_law_dig","_law_stands","_law_cell","_law_units","_law_ties","_law_finds","_law_way","_law_used","_law_free","_law_k","_law_to"] ["_law_dig","_law_stands","_law_cell"] (zm (top 53)):=er
theorem fU:aC ["_law_some","_law_cell","_law_turned_here","_law_k"] ["_law_some","_law_cell"] (zm (top 54)):=er
theorem eF:aC ["_law_telling","_law_told"] ["_law_telling"] (zm (top 55)):=er
theorem eG:aC ["_law_telling","_law_told"] ["_law_telling"] (zm (top 56)):=er
theorem iK:aC ["_law_telling","_law_answers_here"] ["_law_telling"] (zm (top 57)):=er
theorem gF:aC ["_law_script","_law_names_here","_law_marks","_law_frame_here","_law_dig","_law_stands","_law_cell","_law_anew","_law_telling"] ["_law_script"] (zm (top 58)):=er
theorem zex:aC ["self","ties"] ["self","ties"] (zm (j5 (top 2) 0)):=er
theorem zdm:aC ["self","row"] ["self","row"] (zm (j5 (top 3) 0)):=er
theorem zgu:aC ["self","first","last"] ["self","first","last"] (zm (j5 (top 10) 0)):=er
theorem zgv:aC ["self","name"] ["self","name"] (zm (j5 (top 10) 1)):=er
theorem zfa:aC ["self","name"] ["self","name"] (zm (j5 (top 10) 2)):=er
theorem zhl:aC ["self","tie"] ["self","tie"] (zm (j5 (top 10) 3)):=er
theorem zgw:aC ["self","tie"] ["self","tie"] (zm (j5 (top 10) 4)):=er
theorem zgx:aC ["self","name","unit","low","high"] ["self","name","unit","low","high"] (zm (j5 (top 10) 5)):=er
theorem zfb:aC ["self","name","unit"] ["self","name","unit"] (zm (j5 (top 10) 6)):=er
theorem zfc:aC ["self","name"] ["self","name"] (zm (j5 (top 10) 7)):=er
theorem zhm:aC ["self"] ["self"] (zm (j5 (top 10) 8)):=er
theorem zfd:aC ["self","name"] ["self","name"] (zm (j5 (top 10) 9)):=er
theorem zfe:aC ["self","name"] ["self","name"] (zm (j5 (top 10) 10)):=er
theorem jg:aC ["self","name","by_tie"] ["self","name"] (zm (j5 (top 10) 11)):=er
section
variable{P:aU}{w:World}{K:aF}{mg:Str->Option ai}{base:Heap}{C_Dig:ah}{zk:ah}{zq:ah}{zg:ah}{zv:ah}{zo:ah}{zw:ah}{zp:ah}{zx:ah}
local macro_rules | `(tactic| walk_at "rd")=>`(tactic| repeat (first | refine⟨_,rfl,?_⟩ | refine⟨_,_,rfl,rfl,?_⟩ | refine⟨_,_,_,rfl,?_⟩))
local macro_rules | `(tactic| walk_at "rd")=>`(tactic| repeat (first | refine⟨_,rfl,?_⟩ | refine⟨_,_,rfl,rfl,?_⟩ | refine⟨_,_,_,rfl,?_⟩))
inductive vX(vs:List V)(H:Hp)(Q:VK):Prop
 | mk (a:ah) (ns:List Int) (i:Int) (_:vs = [.ref a,.int i]) (_:aH K H a (ns.map V.int)) (_:0<=i) (_:Q (.int (zC ns i)) H)
def zyv:Sp:=fun vs H Q _=>vX (K:=K) vs H Q
theorem Cy(T:Tx K mg w C_Dig zk zq zg zv zo zw zp zx):gk P w K mg base "_law_cell_at" ["_law_script","_law_k"] 1 (zyv (K:=K)):=by
 refine T.zh1.has zgt (fun vs H Q E h=>?_) (fun f bY A outer s H vs Q E hr h=>?_)
 ·obtain⟨a,ns,i,rfl,_⟩:=h;rfl
 ·obtain⟨a,ns,i,rfl,ha,h0,k⟩:=h;refine⟨_,(zc (gR (fh BS (pv 1) (ji (qI K rfl) (by rfl) T.len cH (za (pv 0) zd)) (fV _)) (zh (fW (bP (lZ K rfl) (pv 0) (pv 1)))) jc)
   (zh (fW zi))),?_⟩
  refine⟨_,rfl,_,rfl,a,_,rfl,.inl ha,_,_,rfl,rfl,_,rfl,?_⟩;refine cM (fun c=>?_) (fun c=>?_)
  ·have c:=bG c;rw[aq] at c;have hi:i.toNat<ns.length:=by lia
   refine⟨_,rfl,_,rfl,a,_,i,.int (zC ns i),rfl,rfl,ha,?_,k⟩;have e:zC ns i=ns[i.toNat]:=by unfold zC;rw[cW,aV hi];rfl
   have:=tE (xs:=ns.map V.int) (j:=i.toNat) (v:=.int (zC ns i)) (by rw[e];simp[hi]);rw[pB h0] at this;exact this
  ·have c:¬i<((ns.map V.int).length:Int):=fun z=>c (aP z)
   rw[aq] at c;have e:zC ns i=0:=by unfold zC;rw[cW,o9 (by lia)];rfl
   rw[e] at k;exact k
def zyw:Sp:=fun vs H Q _=>∃c k m:Int,vs = [.int c,.int k,.int m]/\0<m/\Q (.int (pt c k m)) H
theorem zz(T:Tx K mg w C_Dig zk zq zg zv zo zw zp zx):gk P w K mg base "_law_part" ["_law_cell","_law_k","_law_many"] 1 zyw:=by
 refine T.zmw.has zk9 (fun vs H Q E h=>?_) (fun f bY A outer s H vs Q E hr h=>?_)
 ·obtain⟨c,i,m,rfl,_⟩:=h;rfl
 ·obtain⟨c,i,m,rfl,hm,k⟩:=h;refine⟨_,(zh (fW (fR yX (fR yX (fR Dd (fR yX (fR Dd (fR sq (fR yX (pv 0) zi) zi) (fR sq zi (fR Dd zi (pv 1)))) zi) (fR sq (pv 1) zi)) zi) (pv 2)))),?_⟩;have b1:=lH c (show(99991:Int)≠0 by decide);have b2:=kZ c (show(0:Int)<99991 by decide);have b3:=lH ((c%99991+17) * (48271+7919 * i)) (show(65537:Int)≠0 by decide);have b4:=kZ ((c%99991+17) * (48271+7919 * i)) (show(0:Int)<65537 by decide)
  walk_at "rd"
  refine⟨(by decide:(0:Int)<99991),?_⟩
  walk_at "rd"
  refine⟨.inl ⟨by decide,by decide⟩,?_⟩
  walk_at "rd"
  refine⟨.inl ⟨by lia,by lia⟩,?_⟩
  walk_at "rd"
  refine⟨(by decide:(0:Int)<65537),?_⟩
  walk_at "rd"
  refine⟨.inl ⟨by lia,by lia⟩,?_⟩
  walk_at "rd"
  refine⟨(by decide:(0:Int)<8191),?_⟩
  walk_at "rd"
  exact⟨hm,k⟩
theorem EZ(z:Int)(one at':Int)(k j:Nat)(h:z=vG one at' k j):kB dJ.cps.toList (z%37)=some (qL one at' k j):=by
 obtain⟨h0,h1⟩:=tM z;subst h;have:=tE (xs:=co dJ) (j:=(vG one at' k j%37).toNat) (v:=qL one at' k j) (by unfold qL;rw[cW,aV h1];rfl);rw[pB h0] at this;exact this
def Lp(l:List Nat)(size:Int):V->V
 | .int z=>.str (Txt.slice (oQ l) none (some (size-z)))
 | _=>.cu
def zve:Sp:=fun vs H Q _=>∃(one other:Int)(n:Nat),vs = [.int one,.int other,.int n]/\n<=37/\∀(p:ah)(xs:List Str)(H':Hp),xs.length=n->xs.Nodup->(∀x∈xs,qK x=true)->H p=none->H' p=some (.lst (xs.map V.str))->ak H H'->Q (.ref p) H'
theorem QG(T:Tx K mg w C_Dig zk zq zg zv zo zw zp zx):gk P w K mg base "_law_names" ["_law_one","_law_other","_law_many"] 2 zve:=by
 refine T.zlh.has bu (fun vs H Q E h=>?_) (fun f bY A outer s H vs Q E hr h=>?_)
 ·obtain⟨one,other,n,rfl,_⟩:=h;rfl
 ·obtain⟨one,other,n,rfl,Lq,k⟩:=h;refine⟨_,(zc (sset (i:=3) bu.nd qi)
   (zc (sset (i:=4) bu.nd (fR sq zi (b7 (zz T) (za (pv 0) (za zi (za zi zd))))))
   (zc (sset (i:=5) bu.nd (b7 (zz T) (za (pv 1) (za zi (za (pv 4) zd)))))
   (zc (sset (i:=6) bu.nd (gZ zd))
   (zc (j3 bV rfl (Gi (by rfl) T.range (za (pv 2) zd)) (gE (i:=7) bu.nd) (zc (sset (i:=8) bu.nd qi)
    (zc (j3 bV rfl (Gi (by rfl) T.range (za (pv 4) zd)) (gE (i:=9) bu.nd) (zc (sset (i:=10) bu.nd (b7 (zz T) (za (pv 0) (za (fR sq (pv 9) zi) (za zi zd)))))
     (zc (gR (fh su (pv 9) (pv 5) (fV _)) (zh (sset (i:=10) bu.nd (fR sq (pv 10) (pv 7)))) jc)
     (zh (sset (i:=8) bu.nd (fR Tn (pv 8) (bP Ul (pv 3) (fR yX (pv 10) zi))))))))
    (zh (ig (rE K rfl PySem.F.plainAttrs_list PySem.F.slot_list_append PySem.F.type_list_append uP (pv 6) (za (pv 8) zd)))))))
   (zc (gR (PW.pt (xE (fh Ti (pv 4) (pv 2) (fV _)) (xD (fh su (fR yX (pv 1) zi) zi (fV _))))) (zh (fW (sI (own:=["_law_k"]) (cap:=["_law_names_here","_law_size"]) (ix:=[6,4]) (gA:=zm (top 48)) rfl ⟨rfl,by decide +kernel,by decide +kernel,by decide +kernel,by decide +kernel⟩ rfl (Gi (by rfl) T.range (za (pv 2) zd)) (fun _ _ _ _=>nX (i:=0) (show List.Nodup (["_law_k","_law_names_here","_law_size"]:List Str) by decide +kernel) rfl (Or.inl rfl)) (fun _ _ _ _=>sH) (fun _ _ _ _=>(Gu Vi (bP (lZ K rfl) (pv 1) zi) Na (BW (fR MO (pv 2) (pv 0)))))))) jc)
   (zh (fW (pv 6))))))))),?_⟩
  walk_at "rd"
  refine⟨by decide,?_⟩
  walk_at "rd"
  obtain⟨s1,s2⟩:=qq one 0 12 (by decide);have hs:∃size:Nat,1+pt one 0 12=(size:Int)/\1<=size/\size<=12:=⟨(1+pt one 0 12).toNat,by lia,by lia,by lia⟩;obtain⟨size,es,z1,z2⟩:=hs;rw[es];refine⟨by lia,?_⟩;obtain⟨a1,a2⟩:=qq other 1 (size:Int) (by lia);generalize pt other 1 (size:Int)=at' at a1 a2;refine⟨by decide,fun p hp=>?_⟩;refine⟨_,rfl,(n:Int),rfl,by lia,by lia,IX (lo:=0) (n:=n) (fun i σ H'=>∃v7 v8 v9 v10,σ = [some (.int one),some (.int other),some (.int n),some (.str dJ),some (.int size),some (.int at'),some (.ref p),v7,v8,v9,v10]/\ak H H'/\
   H' p=some (.lst (((List.range i).map fun k=>oQ (sL one at' k size)).map V.str))) ⟨none,none,none,none,(by rw[←es];rfl),ak.new hp,zb⟩ ?_ ?_⟩
  ·rintro i σ H1 hi ⟨v7,v8,v9,v10,rfl,q1,q2⟩;simp only[qZ];refine⟨_,rfl,(size:Int),rfl,by lia,by lia,IX (lo:=0) (n:=size) (fun j σ H2=>∃v9 v10,σ = [some (.int one),some (.int other),some (.int n),some (.str dJ),some (.int size),some (.int at'),some (.ref p),some (.int i),some (.str (oQ ((List.range j).map (qL one at' i)))),v9,v10]/\H2=H1)
    ⟨v9,v10,by rw[VH];rfl,rfl⟩ ?_ ?_⟩
   ·rintro j σ H2 hj ⟨v9,v10,rfl,rfl⟩;simp only[qZ]
    walk_at "rd"
    refine⟨by decide,?_⟩;refine⟨_,rfl,_,rfl,rfl,_,rfl,?_⟩;refine cM (fun c=>?_) (fun c=>?_)
    all_goals
     walk_at "rd"
     refine⟨(by decide:(0:Int)<37),dJ,_,qL one at' i j,rfl,rfl,by decide,?_,?_⟩
    ·refine EZ _ one at' i j ?_;have c:=bG c;have c:(j:Int)=at':=V.int.inj c;unfold vG;rw[av c]
    ·refine⟨_,_,rfl,rfl,?_,some (.int j),some (.int (pt one ((j:Int)+2) 37+i)),?_,rfl⟩
     ·rw[GO,aq,iW];exact bH (show j+1<=100 by lia) (by decide)
     ·rw[show(⟨#[qL one at' i j]⟩:Str)=oQ [qL one at' i j] from rfl,N8,List.range_succ,aL];rfl
    ·refine EZ _ one at' i j ?_;have c:¬(j:Int)=at':=fun z=>c (aP (bQ V.int z))
     unfold vG;rw[ao c]
    ·refine⟨_,_,rfl,rfl,?_,some (.int j),some (.int (pt one ((j:Int)+2) 37)),?_,rfl⟩
     ·rw[GO,aq,iW];exact bH (show j+1<=100 by lia) (by decide)
     ·rw[show(⟨#[qL one at' i j]⟩:Str)=oQ [qL one at' i j] from rfl,N8,List.range_succ,aL];rfl
   ·rintro σ H2 ⟨v9,v10,rfl,rfl⟩;refine⟨_,rfl,.inl ⟨rfl,_,aH.of q2⟩,_,rfl,p,_,_,rfl,rfl,q2,?_,?_⟩
    ·rw[aq,aq,iW];exact jr (by lia)
    ·refine⟨_,_,_,_,rfl,q1.upd hp,?_⟩;rw[zb,List.range_succ,aL,aL];rfl
  ·rintro σ H1 ⟨v7,v8,v9,v10,rfl,q1,q2⟩;obtain⟨n1,n2,n3⟩:=XG (n:=n) Lq (one:=one) a1 a2 z1 z2;have fin:Q (.ref p) H1:=k p _ H1 n3 n1 n2 hp q2 q1;refine⟨_,rfl,_,rfl,_,_,rfl,rfl,_,rfl,?_⟩;refine cM (fun c=>?_) (fun c=>?_)
   ·have c:=bG c
    walk_at "rd"
    refine⟨(by decide:(0:Int)<2),?_⟩;refine⟨rfl,_,rfl,?_⟩;refine cM (fun c2=>?_) (fun c2=>?_)
    ·obtain⟨m1,m2,m3⟩:=XH (n:=n) (one:=one) (at':=at') (size:=size) (by lia) z2;refine⟨_,rfl,(n:Int),rfl,by lia,by lia,fun D hD=>?_⟩;have npD:p≠D:=zj q2 hD;refine Ve (Vd (lo:=0) (n:=n)) (fun _=>true) (Lp (sL one at' 0 size) size) (fun _=>trivial) (by rw[aq,iW];exact lP (by lia)) (fun v hv ys Q' q=>q) (fun v hv _ ys Q' q=>?_) ?_
     ·obtain⟨z,hz,rfl⟩:=aK.mp hv;refine⟨_,rfl,p,_,0,.str (oQ (sL one at' 0 size)),rfl,rfl,aH.of (by rw[ze npD];exact q2),(by have hz:=d7.mp hz;exact tE (j:=0) (by rw[aN,aN,List.getElem?_range (by lia)];rfl)),?_⟩;refine⟨_,rfl,_,rfl,_,_,rfl,rfl,_,rfl,_,rfl,?_,q⟩;rw[GO,AN];exact bH z2 (by decide)
     ·refine k D _ _ m3 m1 m2 (q1.free hD) ?_ (q1.trans (ak.new hD));rw[zb]
      congr 2
      unfold EI;rw[List.filter_eq_self.mpr (fun _ _=>rfl),cz,cz];apply fH;intro i hi;have hi:=d7.mp hi;show V.str (Txt.slice (oQ (sL one at' 0 size)) none (some ((size:Int)-(0+(i:Int)))))=V.str (oQ ((sL one at' 0 size).take (size-i)));rw[VI _ _ (by lia) (by rw[AN];lia)]
      congr 3
      lia
    ·exact⟨_,rfl,fin⟩
   ·exact fj ⟨_,rfl,fin⟩
theorem c58:Aq 10 58:=⟨by decide,by decide,by decide⟩
theorem Bj:Aq 10 59:=⟨by decide,by decide,by decide⟩
theorem E2:(0:Int)<10 ^ (59:Int).toNat:=by decide
def E3:List V:=[.str "over",.str "cuts",.str "fills",.str "after",.str "after",.str "same"]
theorem zvf{i:Int}(h0:0<=i)(h1:i<6):∃kd:Str,kB E3 i=some (.str kd)/\(kd = "after"\/kd∈Eg):=by
 have h:i=0\/i=1\/i=2\/i=3\/i=4\/i=5:=by lia
 rcases h with rfl | rfl | rfl | rfl | rfl | rfl
 ·exact⟨_,rfl,.inr (by decide +kernel)⟩
 ·exact⟨_,rfl,.inr (by decide +kernel)⟩
 ·exact⟨_,rfl,.inr (by decide +kernel)⟩
 ·exact⟨_,rfl,.inl rfl⟩
 ·exact⟨_,rfl,.inl rfl⟩
 ·exact⟨_,rfl,.inr (by decide +kernel)⟩
theorem zpj:(Str.ofString "same" : Str)∈Eg:=by decide +kernel
theorem QH{xs:List Str}{i:Nat}(h:i<xs.length):kB (xs.map V.str) (i:Int)=some (.str xs[i]):=tE (by simp[h])
inductive tY(vs:List V)(H:Hp)(Q:VK):Prop
 | mk (pn:ah) (us:List Str) (c:Int) (_:vs = [.ref pn,.int c]) (_:aH K H pn (us.map V.str)) (_:1<=us.length) (_:∀(p:ah)(t:aT)(H':Hp),mH us t->H p=none->H' p=some (.tup (aW t))->ak H H'->Q (.ref p) H')
def zvg:Sp:=fun vs H Q _=>tY (K:=K) vs H Q
theorem zpk(T:Tx K mg w C_Dig zk zq zg zv zo zw zp zx):gk P w K mg base "_law_tie" ["_law_names_here","_law_cell"] 3 (zvg (K:=K)):=by
 refine T.zpw.has c5 (fun vs H Q E h=>?_) (fun f bY A outer s H vs Q E hr h=>?_)
 ·obtain⟨pn,us,c,rfl,_⟩:=h;rfl
 ·obtain⟨pn,us,c,rfl,hn,m1,k⟩:=h;refine⟨_,(zc (sset (i:=2) c5.nd (b7 (zz T) (za (pv 1) (za zi (za (ji (qI K rfl) (by rfl) T.len cH (za (pv 0) zd)) zd)))))
   (zc (sset (i:=3) c5.nd (b7 (zz T) (za (pv 1) (za zi (za (ji (qI K rfl) (by rfl) T.len cH (za (pv 0) zd)) zd)))))
   (zc (gR (fh BU (b7 (zz T) (za (pv 1) (za zi (za zi zd)))) zi (fV _)) (zh (SX (i:=2) (j:=3) rfl c5.nd rfl rfl (by decide) rfl rfl (za (ji (To rfl) (by rfl) T.max PyProof.Rows.boot_max (za (pv 2) (za (pv 3) zd))) (za (ji (Tp rfl) (by rfl) T.min qX (za (pv 2) (za (pv 3) zd))) zd)) rfl)) jc)
   (zc (sset (i:=4) c5.nd (bP (lZ K rfl) (gZ (za qi (za qi (za qi (za qi (za qi (za qi zd))))))) (b7 (zz T) (za (pv 1) (za zi (za zi zd))))))
   (zc (gR (PW.pt (xE (fh su (pv 2) (pv 3) (fV _)) (xD (fh BU (b7 (zz T) (za (pv 1) (za zi (za zi zd)))) zi (fV _))))) (zh (sset (i:=4) c5.nd qi)) jc)
   (zc (gR (fh su (pv 4) qi (fV _)) (zc (sset (i:=5) c5.nd (bP (lZ K rfl) (gZ (za (b7 (zz T) (za (pv 1) (za zi (za zi zd)))) (za (fR yX (fR Dd (pv 1) zi) (fR De zi zi)) zd))) (fR Tc (b7 (zz T) (za (pv 1) (za zi (za zi zd)))) zi)))
    (zh (fW (ko (za (pv 4) (za (bP (lZ K rfl) (pv 0) (pv 2)) (za (bP (lZ K rfl) (pv 0) (pv 3)) (za (pv 5) zd)))))))) jc)
   (zh (fW (ko (za (pv 4) (za (bP (lZ K rfl) (pv 0) (pv 2)) (za (bP (lZ K rfl) (pv 0) (pv 3)) zd)))))))))))),?_⟩
  have hm:(0:Int)<(us.length:Int):=by lia
  refine⟨_,rfl,_,rfl,pn,_,rfl,.inl hn,?_⟩;rw[aq];refine⟨_,_,_,rfl,hm,?_⟩;obtain⟨a0,ea,la⟩:∃a:Nat,pt c 2 us.length=(a:Int)/\a<us.length:=⟨(pt c 2 us.length).toNat,by have:=qq c 2 us.length hm;lia,by have:=qq c 2 us.length hm;lia⟩;rw[ea]
  try dsimp only[zy]
  refine⟨_,rfl,_,rfl,pn,_,rfl,.inl hn,?_⟩;rw[aq];refine⟨_,_,_,rfl,hm,?_⟩;obtain⟨b0,eb,lb⟩:∃a:Nat,pt c 3 us.length=(a:Int)/\a<us.length:=⟨(pt c 3 us.length).toNat,by have:=qq c 3 us.length hm;lia,by have:=qq c 3 us.length hm;lia⟩;rw[eb]
  try dsimp only[zy]
  refine Ks (fun aI=>∃a b:Nat,aI = [some (.ref pn),some (.int c),some (.int a),some (.int b),none,none]/\a<us.length/\b<us.length)
   (decide ((0:Int)<pt c 7 4)) (fun Q' hQ=>⟨_,rfl,_,_,_,rfl,by decide,_,_,rfl,rfl,_,rfl,hQ⟩)
   (fun e=>⟨_,⟨if(b0:Int) > a0 then b0 else a0,if(b0:Int)<a0 then b0 else a0,rfl,by split<;>lia,by split<;>lia⟩,fun h=>⟨_,rfl,_,rfl,_,_,rfl,_,rfl,_,rfl,_,_,rfl,_,_,rfl,?_⟩⟩)
   (fun e=>⟨_,⟨a0,b0,rfl,la,lb⟩,fun h=>h⟩) ?_
  ·have e1:(if(b0:Int) > a0 then(b0:Int) else a0)=((if(b0:Int) > a0 then b0 else a0:Nat):Int):=by split<;>rfl
   have e2:(if(b0:Int)<a0 then(b0:Int) else a0)=((if(b0:Int)<a0 then b0 else a0:Nat):Int):=by split<;>rfl
   rw[e1,e2];exact h
  clear la lb ea eb;rintro aI ⟨a,b,rfl,E4,hbm⟩;dsimp only;refine⟨(by show 6<=sizeLine;decide),fun p1 uT=>?_⟩;refine⟨_,rfl,_,_,_,rfl,by decide,?_⟩;obtain⟨kd,ek,hk⟩:=zvf (qq c 4 6 (by decide)).1 (qq c 4 6 (by decide)).2;have s1:ak H (upd H p1 (.lst E3)):=ak.new uT;refine⟨p1,E3,_,_,rfl,rfl,aH.of zb,ek,?_⟩
  try dsimp only[zy]
  show xF _ _ _ _ (upd H p1 (.lst E3));generalize upd H p1 (.lst E3)=H1 at s1;have xa:=QH (xs:=us) (i:=a) E4;have xb:=QH (xs:=us) (i:=b) hbm;have ma:us[a]∈us:=jB _;have mb:us[b]∈us:=jB _;refine Ks (fun aI=>∃zO:Str,aI = [some (.ref pn),some (.int c),some (.int a),some (.int b),some (.str zO),none]/\(zO = "after"\/zO∈Eg))
   (decide (V.int a=V.int b)&&decide ((0:Int)<pt c 8 6)) (fun Q' hQ=>?_) (fun e=>⟨_,⟨"same",rfl,.inr zpj⟩,fun h=>h⟩) (fun e=>⟨_,⟨kd,rfl,hk⟩,fun h=>h⟩) ?_
  ·refine⟨_,rfl,_,rfl,rfl,_,rfl,?_⟩;generalize decide (V.int (a:Int)=V.int (b:Int))=bb at hQ;cases bb with
   | false=>exact fj hQ
   | true=>
    refine lO ?_;exact⟨_,rfl,_,_,_,rfl,by decide,_,_,rfl,rfl,_,rfl,hQ⟩
  clear hk ek;rintro aI ⟨zO,rfl,gT⟩;dsimp only;refine⟨_,rfl,rfl,_,rfl,?_⟩;refine cM (fun c3=>?_) (fun c3=>?_)
  ·have c3:zO = "after":=V.str.inj (bG c3);refine⟨_,rfl,_,_,_,rfl,by decide,?_⟩;refine⟨_,rfl,_,_,rfl,rfl,.inr ⟨by decide,by decide⟩,_,_,rfl,rfl,Bj,_,_,rfl,rfl,E2,(by show 2<=sizeLine;decide),fun p2 sD=>?_⟩;obtain⟨z,ez⟩:∃z,z=c * 48271%10 ^ (59:Int).toNat:=⟨_,rfl⟩;have z0:=lH (c * 48271) (show(10 ^ (59:Int).toNat:Int)≠0 by decide);have z1:=kZ (c * 48271) E2;have e59:(10:Int) ^ (59:Int).toNat=10 ^ 59:=rfl;rw[←ez] at z0 z1;rw[e59] at z1;have s3:=ak.new (o:=.lst [.int (pt c 5 9),.int z]) sD;refine⟨_,rfl,_,_,_,rfl,by decide,_,_,rfl,rfl,⟨by decide,by decide⟩,?_⟩;obtain⟨d1,d2⟩:=qq c 5 9 (by decide);obtain⟨d3,d4⟩:=qq c 6 9 (by decide);obtain⟨v,hv,Di⟩:=VP (u:=.int (pt c 5 9)) (v:=.int z) (i:=pt c 6 9 / 8) (by lia) (by lia);obtain⟨g,rfl,g0,g1⟩:∃g:Int,v = .int g/\0<=g/\qM g:=by
    rcases Di with rfl | rfl
    ·exact⟨_,rfl,d1,by unfold qM;lia⟩
    ·exact⟨_,rfl,z0,by unfold qM;lia⟩
   refine⟨p2,_,_,_,rfl,rfl,aH.of (by rw[ez];exact zb),hv,?_⟩
   try dsimp only[zy]
   rw[←ez];have n3:=s1.trans s3;refine⟨_,rfl,_,rfl,_,rfl,pn,_,_,_,rfl,rfl,n3.seq hn,xa,_,rfl,_,rfl,pn,_,_,_,rfl,rfl,n3.seq hn,xb,_,rfl,(by show 4<=sizeLine;decide),fun p3 vY=>?_⟩;have tok:jH us (aW ⟨zO,us[a],us[b],some g⟩):=by rw[c3];exact .after ma mb g0 g1
   exact k p3 _ _ ⟨tok,ma,mb⟩ (n3.free vY) zb (n3.trans (ak.new vY))
  ·have c3:¬zO = "after":=fun z=>c3 (aP (bQ V.str z))
   refine⟨_,rfl,_,rfl,_,rfl,pn,_,_,_,rfl,rfl,s1.seq hn,xa,_,rfl,_,rfl,pn,_,_,_,rfl,rfl,s1.seq hn,xb,(by show 3<=sizeLine;decide),fun p3 vY=>?_⟩;have tok:jH us (aW ⟨zO,us[a],us[b],none⟩):=.plain (gT.resolve_left c3) ma mb;exact k p3 _ _ ⟨tok,ma,mb⟩ (s1.free vY) zb (s1.trans (ak.new vY))
theorem zyx{x y z u:V}{i:Int}(h0:0<=i)(h1:i<4):∃w,kB [x,y,z,u] i=some w/\(w=x\/w=y\/w=z\/w=u):=by
 have h:i=0\/i=1\/i=2\/i=3:=by lia
 rcases h with rfl | rfl | rfl | rfl
 ·exact⟨_,rfl,.inl rfl⟩
 ·exact⟨_,rfl,.inr (.inl rfl)⟩
 ·exact⟨_,rfl,.inr (.inr (.inl rfl))⟩
 ·exact⟨_,rfl,.inr (.inr (.inr rfl))⟩
def zpl:Sp:=fun vs H Q _=>∃c:Int,vs = [.int c]/\∀(p:ah)(lo hi:Int)(H':Hp),qM lo->qM hi->lo<=hi->H p=none->H' p=some (.tup [.int lo,.int hi])->ak H H'->Q (.ref p) H'
theorem zlb(T:Tx K mg w C_Dig zk zq zg zv zo zw zp zx):gk P w K mg base "_law_frame" ["_law_cell"] 2 zpl:=by
 refine T.zli.has jJ (fun vs H Q E h=>?_) (fun f bY A outer s H vs Q E hr h=>?_)
 ·obtain⟨c,rfl,_⟩:=h;rfl
 ·obtain⟨c,rfl,k⟩:=h;refine⟨_,(zc (sset (i:=1) jJ.nd (gZ (za (ko (za (I0 Jb zi) (za zi zd))) (za (ko (za zi (za zi zd))) (za (ko (za (I0 Jb (fR De zi zi)) (za (fR sq (fR De zi zi) (fR De zi zi)) zd))) (za (ko (za zi (za zi zd))) zd))))))
   (zh (fW (bP (lZ K rfl) (pv 1) (b7 (zz T) (za (pv 0) (za zi (za zi zd)))))))),?_⟩
  refine⟨_,rfl,(by show 2<=sizeLine;decide),fun p1 uT=>?_⟩;have s1:=ak.new (o:=.tup [.int (-5),.int 70]) uT;refine⟨(by show 2<=sizeLine;decide),fun p2 sD=>?_⟩;have s2:=ak.new (o:=.tup [.int 0,.int 9999]) sD;refine⟨_,_,rfl,rfl,Bj,_,rfl,_,_,rfl,rfl,Bj,_,_,rfl,rfl,c58,_,_,rfl,rfl,(by show 2<=sizeLine;decide),fun p3 vY=>?_⟩;have s3:=ak.new (o:=.tup [.int (-10 ^ (59:Int).toNat),.int (10 ^ (59:Int).toNat+10 ^ (58:Int).toNat)]) vY;refine⟨(by show 2<=sizeLine;decide),fun p4 oG=>?_⟩;have s4:=ak.new (o:=.tup [.int 0,.int 40]) oG;refine⟨(by show 4<=sizeLine;decide),fun p5 E5=>?_⟩;have s5:=ak.new (o:=.lst [.ref p1,.ref p2,.ref p3,.ref p4]) E5;obtain⟨v,hv,Di⟩:=zyx (x:=.ref p1) (y:=.ref p2) (z:=.ref p3) (u:=.ref p4) (qq c 12 4 (by decide)).1 (qq c 12 4 (by decide)).2;refine⟨_,rfl,_,rfl,_,_,_,rfl,by decide,p5,_,_,_,rfl,rfl,aH.of zb,hv,?_⟩;have q:=s1.trans (s2.trans (s3.trans (s4.trans s5)));rcases Di with rfl | rfl | rfl | rfl
  ·exact k _ _ _ _ (by unfold qM;decide) (by unfold qM;decide) (by decide) uT (s5 _ _ (s4 _ _ (s3 _ _ (s2 _ _ zb)))) q
  ·exact k _ _ _ _ (by unfold qM;decide) (by unfold qM;decide) (by decide) (s1.free sD) (s5 _ _ (s4 _ _ (s3 _ _ zb))) q
  ·exact k _ _ _ _ (by unfold qM;decide) (by unfold qM;decide) (by decide) (s1.free (s2.free vY)) (s5 _ _ (s4 _ _ zb)) q
  ·exact k _ _ _ _ (by unfold qM;decide) (by unfold qM;decide) (by decide) (s1.free (s2.free (s3.free oG))) (s5 _ _ zb) q
inductive rS(vs:List V)(H:Hp)(Q:VK):Prop
 | mk (pk pu:ah) (ms us:List Str) (m c:Int) (mk:Str) (_:vs = [.ref pk,.ref pu,.int m,.int c]) (_:aH K H pk (ms.map V.str)) (_:aH K H pu (us.map V.str)) (_:us≠[]) (_:us.length<=900) (_:kB (ms.map V.str) m=some (.str mk)) (_:qK mk=true) (_:∀(p:ah)(f:bN)(H':Hp),Cj us f->f.n=mk->H p=none->H' p=some (.tup (cZ f))->ak H H'->Q (.ref p) H')
def zs5:Sp:=fun vs H Q _=>rS (K:=K) vs H Q
theorem z3g{us:List Str}{i:Int}(h0:0<=i)(h1:i<us.length):∃x∈us,kB (us.map V.str) i=some (.str x):=by
 obtain⟨j,rfl⟩:∃j:Nat,i=(j:Int):=⟨i.toNat,by lia⟩;have hj:j<us.length:=by lia
 exact⟨us[j],jB _,tE (by rw[aN,aV hj];rfl)⟩
theorem HN{zs:List Str}{c k:Int}(h:zs≠[]):∃z∈zs,kB (zs.map V.str) (pt c k (zs.map V.str).length)=some (.str z):=by
 have l1:=fJ.mpr h;have hb:=qq c k ((zs.map V.str).length:Int) (by rw[aq];lia);rw[aq] at hb ⊢;exact z3g hb.1 hb.2
theorem zmm(T:Tx K mg w C_Dig zk zq zg zv zo zw zp zx):gk P w K mg base "_law_find" ["_law_marks","_law_units","_law_many","_law_cell"] 2 (zs5 (K:=K)):=by
 refine T.zmx.has fC (fun vs H Q E h=>?_) (fun f bY A outer s H vs Q E hr h=>?_)
 ·obtain⟨pk,pu,ms,us,m,c,mk,rfl,_⟩:=h;rfl
 ·obtain⟨pk,pu,ms,us,m,c,mk,rfl,hk,c7,mF,lu,am,hm,k⟩:=h;refine⟨_,(zc (sset (i:=4) fC.nd (b7 (zz T) (za (pv 3) (za zi (za zi zd)))))
   (zc (sset (i:=5) fC.nd (fR sq (pv 4) (b7 (zz T) (za (pv 3) (za zi (za zi zd))))))
   (zc (gR (fh su (b7 (zz T) (za (pv 3) (za zi (za zi zd)))) zi (fV _)) (zh (sset (i:=5) fC.nd (fR sq (pv 5) (fR yX (fR Dd (pv 3) zi) (fR De zi zi))))) jc)
   (zh (fW (ko (za (bP (lZ K rfl) (pv 0) (pv 2)) (za (bP (lZ K rfl) (pv 1) (b7 (zz T) (za (pv 3) (za zi (za (ji (qI K rfl) (by rfl) T.len cH (za (pv 1) zd)) zd))))) (za (pv 4) (za (pv 5) zd)))))))))),?_⟩
  obtain⟨a1,a2⟩:=qq c 9 40 (by decide);obtain⟨b1,b2⟩:=qq c 11 60 (by decide);obtain⟨x,hx,ex⟩:=HN (c:=c) (k:=2) mF;refine⟨_,rfl,_,_,_,rfl,by decide,?_⟩
  try dsimp only[zy]
  refine⟨_,rfl,_,rfl,_,_,_,rfl,by decide,_,_,rfl,rfl,?_⟩
  try dsimp only[zy]
  refine Ks (fun aI=>∃z:Int,aI = [some (.ref pk),some (.ref pu),some (.int m),some (.int c),some (.int (pt c 9 40)),some (.int (pt c 9 40+pt c 11 60+z))]/\0<=z/\z<10 ^ 59) (decide (pt c 10 6=1)) (fun Q' hQ=>?_) (fun hb=>?_) (fun hb=>?_) ?_
  ·refine⟨_,rfl,_,_,_,rfl,by decide,rfl,_,rfl,?_⟩;rw[show decide (V.int (pt c 10 6)=V.int 1)=decide (pt c 10 6=1) from iZ.mpr ⟨fun z=>V.int.inj z,fun z=>bQ V.int z⟩];exact hQ
  ·have z0:=lH (c * 48271) (show((10:Int) ^ (59:Int).toNat)≠0 by decide);have z1:=kZ (c * 48271) (show(0:Int)<(10:Int) ^ (59:Int).toNat by decide);exact⟨_,⟨c * 48271%10 ^ (59:Int).toNat,rfl,z0,z1⟩,fun h=>⟨_,rfl,_,rfl,_,_,rfl,rfl,.inr ⟨by decide,by decide⟩,_,_,rfl,rfl,⟨by decide,by decide,by decide⟩,_,_,rfl,rfl,(by decide:(0:Int)<10 ^ (59:Int).toNat),_,_,rfl,rfl,h⟩⟩
  ·exact⟨[some (.ref pk),some (.ref pu),some (.int m),some (.int c),some (.int (pt c 9 40)),some (.int (pt c 9 40+pt c 11 60))],⟨0,by rw[Int.add_zero],by decide,by decide⟩,fun h=>h⟩
  rintro aI ⟨z,rfl,z0,z1⟩
  try unfold Gf
  try dsimp only
  refine⟨_,rfl,_,rfl,pk,_,_,_,rfl,rfl,hk,am,_,rfl,_,rfl,_,rfl,pu,_,rfl,.inl c7,_,_,_,rfl,by rw[aq];have:=fJ.mpr mF;lia,pu,_,_,_,rfl,rfl,c7,ex,_,rfl,_,rfl,by show 4<=sizeLine;decide,fun p hp=>?_⟩;exact k p ⟨mk,x,pt c 9 40,pt c 9 40+pt c 11 60+z⟩ _ ⟨hm,hx,by show pt c 9 40<=pt c 9 40+pt c 11 60+z;lia,by show(pt c 9 40).natAbs<10 ^ 60;lia,by show(pt c 9 40+pt c 11 60+z).natAbs<10 ^ 60;lia⟩ rfl hp zb (ak.new hp)
theorem zP{xs:List Str}{i:Nat}{x:Str}(f:Str->Bool)(ex:xs[i]? = some x):(xs.take (i+1)).filter f=(xs.take i).filter f++(if f x=true then[x] else[]):=by
 rw[aS,ex,lW];cases hb:f x<;>simp[hb]
theorem Lr{H:Hp}:∀{as:List ah}{ts:List (List V)},(∀ws∈ts,∀v∈ws,Wd v)->Ef H as (jW ts)->bU H as ts
 | [],[],_,_=>.nil
 | a::as,ws::ts,hw,.cons h t=>by
  have h:H a=some (.tup ((ws.map kW).map kV)):=h;rw[EA (hw ws (e8 ..))] at h;exact .cons h (Lr (fun vs hv=>hw vs (bE _ hv)) t)
inductive tZ(vs:List V)(H:Hp)(Q:VK):Prop
 | mk (p pm du dt df:ah) (lo hi:Int) (us:List Str) (ts:List aT) (fs:List bN) (af:List ah) (x:Str) (_:vs = [.ref p,.str x]) (_:bZ C_Dig H p pm du dt df lo hi us ts fs af) (_:x∈us) (_:Q .cu H)
def QI:Sp:=fun vs H Q _=>tZ (C_Dig:=C_Dig) vs H Q
theorem zff(T:Tx K mg w C_Dig zk zq zg zv zo zw zp zx):iJ P w K mg base oN C_Dig "seek_unit" ["self","name"] 1 (QI (C_Dig:=C_Dig)):=by
 refine T.Z0.kO zfd (fun vs H Q E h=>?_) (fun f bY A outer s H vs Q E hr h=>?_)
 ·obtain⟨p,pm,du,dt,df,lo,hi,us,ts,fs,af,x,rfl,_⟩:=h;rfl
 ·obtain⟨p,pm,du,dt,df,lo,hi,us,ts,fs,af,x,rfl,R,hx,k⟩:=h;have hu:=kC hr;refine⟨_,(zh (gR (uN (B9 hu (pv 1) (oM (pv 0) rfl))) (zh yV) jc)),?_⟩;obtain⟨dx,h1⟩:=R.ob;refine⟨_,rfl,_,rfl,p,C_Dig,dx,_,_,rfl,h1,T.g8,T.Cw,EH _ _ _ _,du,_,rfl,ck.k (k:=Sum.inr x) R.u,_,rfl,?_⟩;rw[KS (rM.mpr hx)];exact fj k
theorem E6(T:Tx K mg w C_Dig zk zq zg zv zo zw zp zx):gS P w K mg base C_Dig "seek_unit" ["self","name"] 1 (QI (C_Dig:=C_Dig)):=(zff T).m
inductive t9(vs:List V)(H:Hp)(Q:VK):Prop
 | mk (p pm du dt df:ah) (lo hi:Int) (us:List Str) (ts:List aT) (fs:List bN) (af:List ah) (x:Str) (_:vs = [.ref p,.str x]) (_:bZ C_Dig H p pm du dt df lo hi us ts fs af) (_:x∈fs.map bN.n) (_:Q .cu H)
def QJ:Sp:=fun vs H Q _=>t9 (C_Dig:=C_Dig) vs H Q
theorem zfg(T:Tx K mg w C_Dig zk zq zg zv zo zw zp zx):iJ P w K mg base oN C_Dig "seek_find" ["self","name"] 1 (QJ (C_Dig:=C_Dig)):=by
 refine T.Z1.kO zfe (fun vs H Q E h=>?_) (fun f bY A outer s H vs Q E hr h=>?_)
 ·obtain⟨p,pm,du,dt,df,lo,hi,us,ts,fs,af,x,rfl,_⟩:=h;rfl
 ·obtain⟨p,pm,du,dt,df,lo,hi,us,ts,fs,af,x,rfl,R,hx,k⟩:=h;have hu:=kC hr;refine⟨_,(zh (gR (uN (B9 hu (pv 1) (oM (pv 0) rfl))) (zh yV) jc)),?_⟩;obtain⟨dx,h1⟩:=R.ob;refine⟨_,rfl,_,rfl,p,C_Dig,dx,_,_,rfl,h1,T.g8,T.yD,zI _ _ _ _,df,_,rfl,ck.k (k:=Sum.inr x) R.f,_,rfl,?_⟩;rw[KS ((Ld R.fZ).mpr hx)];exact fj k
theorem QK(T:Tx K mg w C_Dig zk zq zg zv zo zw zp zx):gS P w K mg base C_Dig "seek_find" ["self","name"] 1 (QJ (C_Dig:=C_Dig)):=(zfg T).m
theorem z3h(t:aT):nJ (aW t) (some 1) (some 3) = [.str t.a,.str t.b]/\¬(HT.dR (aW t).length 0 (some 1)=0/\HT.dR (aW t).length (aW t).length (some 3)=(aW t).length):=by
 obtain⟨k,a,b,g⟩:=t;cases g with
 | none=>exact⟨rfl,fun z=>absurd z.1 (show ¬HT.dR 3 0 (some 1)=0 by decide)⟩
 | some g=>exact⟨rfl,fun z=>absurd z.1 (show ¬HT.dR 4 0 (some 1)=0 by decide)⟩
theorem QL{α:Type}(f:α->Bool)(l:List α):((l.map f).any id)=l.any f:=by rw[List.any_map];rfl
inductive vZ(vs:List V)(H:Hp)(Q:VK):Prop
 | mk (p pm du dt df:ah) (lo hi:Int) (us:List Str) (ts:List aT) (fs:List bN) (af:List ah) (x:Str) (_:vs = [.ref p,.str x]) (_:bZ C_Dig H p pm du dt df lo hi us ts fs af) (_:gW us ts fs) (_:ts.length<=900) (_:fs.length<=900) (_:∀H',ak H H'->Q (.bl (yz ts fs x)) H')
def zyy:Sp:=fun vs H Q _=>vZ (C_Dig:=C_Dig) vs H Q
theorem zjg(T:Tx K mg w C_Dig zk zq zg zv zo zw zp zx):gS P w K mg base C_Dig "is_used" ["self","name"] 1 (zyy (C_Dig:=C_Dig)):=by
 refine T.Z2.has jg (fun vs H Q E h=>?_) (fun f bY A outer s H vs Q E hr h=>?_)
 ·obtain⟨p,pm,du,dt,df,lo,hi,us,ts,fs,af,x,rfl,_⟩:=h;rfl
 ·obtain⟨p,pm,du,dt,df,lo,hi,us,ts,fs,af,x,rfl,R,ok,tl,fl,k⟩:=h;refine⟨_,(zc (sset (i:=2) jg.nd (PV (ji (KL K rfl rfl) (by rfl) T.any PyProof.Rows.boot_any (za (sI (own:=["tie"]) (cap:=["name"]) (ix:=[1]) (gA:=zm (j5 (top 10) 11)) rfl ⟨rfl,by decide +kernel,by decide +kernel,by decide +kernel,by decide +kernel⟩ rfl (YZ (oM (pv 0) rfl)) (fun _ _ _ _=>nX (i:=0) (show List.Nodup (["tie","name"]:List Str) by decide +kernel) rfl (Or.inl rfl)) (fun _ _ _ _=>sH) (fun _ _ _ _=>(Jc (JZ K rfl) (pv 1) (Gu (NO K rfl) (pv 0) (BW zi) (BW zi)) (by with_unfolding_all rfl)))) zd))))
   (zh (fW (SJ (pv 2) (SH (PV (ji (KL K rfl rfl) (by rfl) T.any PyProof.Rows.boot_any (za (sI (own:=["find"]) (cap:=["name"]) (ix:=[1]) (gA:=zm (j5 (top 10) 11)) rfl ⟨rfl,by decide +kernel,by decide +kernel,by decide +kernel,by decide +kernel⟩ rfl (Ws (J2 K rfl PySem.F.plainAttrs_dict PySem.F.slot_dict_values PySem.F.type_dict_values J8 (oM (pv 0) rfl))) (fun _ _ _ _=>nX (i:=0) (show List.Nodup (["find","name"]:List Str) by decide +kernel) rfl (Or.inl rfl)) (fun _ _ _ _=>sH) (fun _ _ _ _=>(Jc su (pv 1) (bP (zr K rfl) (pv 0) zi) (fV _)))) zd)))))))),?_⟩
  obtain⟨dx,h1⟩:=R.ob;refine⟨dt,_,R.t,.t,_,rfl,p,C_Dig,dx,_,_,rfl,h1,T.g8,T.Bh,Cq _ _ _ _,dt,_,rfl,R.t,fun ob as kt D hD=>?_⟩;have tt:=Lr ok.tw kt;have lt:as.length=ts.length:=by have:=tt.len;rw[aq] at this;exact this
  have f1:upd H dt (.dw ob (.dT (jW (ts.map aW)))) dt=some (.dw ob (.dT (jW (ts.map aW)))):=zb;have k1:∀b o,H b=some o->b≠dt->upd H dt (.dw ob (.dT (jW (ts.map aW)))) b=some o:=fun b o e n=>by rw[ze n];exact e
  have QM:bU (upd H dt (.dw ob (.dT (jW (ts.map aW))))) as (ts.map aW):=tt.cP fun b xs e=>k1 b _ e (jE e R.t (fun z=>nomatch z))
  generalize upd H dt (.dw ob (.dT (jW (ts.map aW))))=H1 at f1 k1 QM hD;refine qa (Y0 (a:=dt) (ob:=ob) (kvs:=jW (ts.map aW)) (as:=as)) (fun i aI ys H'=>∃w0,aI = [w0,some (.str x)]/\ys=((ts.take i).map (zN x)).map V.bl/\ak H1 H'/\H' D=some (.lst ys))
   ⟨none,rfl,by simp,ak.new hD,zb⟩ (fun i aI ys H' h=>?_) (by rw[aq];exact lP (by lia)) ?_ ?_
  ·obtain⟨_,_,rfl,q,hd⟩:=h;refine⟨q _ _ f1,hd,?_⟩;rw[aq,aq,bw];lia
  ·rintro i v aI ys H' hx ⟨w0,rfl,rfl,q,hd⟩;obtain⟨r,t,rfl,ht,oX,uU⟩:=Cf (QM.same q) hx;have c6:=iy hx
   try dsimp only[zy]
   unfold kD;dsimp only;rw[av rfl];obtain⟨c1,c2⟩:=z3h t;refine⟨_,rfl,_,rfl,_,rfl,_,rfl,r,_,rfl,bx.of uU,c2,fun p6 Cz=>?_⟩;rw[c1];have t6:=ak.new (o:=.tup [.str t.a,.str t.b]) Cz;have jv:=t6 _ _ hd;refine⟨p6,_,rfl,.inr (bx.of zb),rfl,rfl,?_⟩;refine⟨jv,mG (by exact c6) ⟨_,rfl,?_,(q.trans t6).upd hD,zb⟩⟩;rw[aS,ht,aL,aL];rfl
  rintro aI ys H2 ⟨w0,rfl,rfl,q2,hd2⟩;rw[aq,lt,bh] at hd2;refine⟨D,_,rfl,aH.of hd2,?_⟩;rw[QL];refine⟨ob,_,q2 _ _ f1,.t,?_⟩;have s2:ak H (upd H2 dt (.dT (jW (ts.map aW)))):=fun b o e=>by
   by_cases c:b=dt
   ·subst c;rw[R.t] at e;cases e;exact zb
   ·rw[ze c];exact q2 _ _ (k1 b o e c)
  generalize upd H2 dt (.dT (jW (ts.map aW)))=H3 at s2;have R3:=R.same s2
  try dsimp only[zy]
  refine⟨_,rfl,_,rfl,?_⟩;unfold yz at k;cases hb:ts.any (zN x) with
  | true=>
   rw[av rfl];rw[hb] at k;exact k _ s2
  | false=>
   rw[hb] at k;rw[ao bJ];refine⟨df,_,R3.f,.k,_,rfl,p,C_Dig,dx,_,_,rfl,s2 _ _ h1,T.g8,T.yD,zI _ _ _ _,.inr (.inr (.inl ⟨rfl,.inl ⟨_,R3.f⟩⟩)),df,_,rfl,rfl,R3.f,fun pv E8=>?_⟩;have t3:=ak.new (o:=yc pv df) E8;have R4:=R3.same t3;refine⟨pv,df,_,rfl,zb,R4.f,fun rT D' HP=>?_⟩;generalize upd H3 pv (yc pv df)=H4 at t3 R4 HP;have f4:upd H4 df (.dw rT (.dK (gH fs af))) df=some (.dw rT (.dK (gH fs af))):=zb;have k4:∀b o,H4 b=some o->b≠df->upd H4 df (.dw rT (.dK (gH fs af))) b=some o:=fun b o e n=>by rw[ze n];exact e
   have QN:bU (upd H4 df (.dw rT (.dK (gH fs af)))) af (fs.map cZ):=R4.ft.cP fun b xs e=>k4 b _ e (jE e R4.f (fun z=>nomatch z))
   generalize upd H4 df (.dw rT (.dK (gH fs af)))=H5 at f4 k4 QN HP;have ev:=HE R.fZ;have lf:=R.fZ;refine qa (Wv (a:=df) (ob:=rT) (kvs:=gH fs af)) (fun i aI ys H'=>∃w0,aI = [w0,some (.str x)]/\ys=((fs.take i).map (EU x)).map V.bl/\ak H5 H'/\H' D'=some (.lst ys))
    ⟨none,rfl,by simp,ak.new HP,zb⟩ (fun i aI ys H' h=>?_) (by rw[ev,aq];exact lP (by lia)) ?_ ?_
   ·obtain⟨_,_,rfl,q,hd⟩:=h;refine⟨q _ _ f4,hd,?_⟩;rw[aq,aq,bw];lia
   ·rintro i v aI ys H' hx ⟨w0,rfl,rfl,q,hd⟩;have c6:=iy hx;rw[ev] at hx;obtain⟨r,f,rfl,ht,oX,uU⟩:=Cf (QN.same q) hx
    try dsimp only[zy]
    unfold kD;dsimp only;rw[av rfl];refine⟨_,rfl,_,rfl,r,_,_,_,rfl,rfl,bx.of uU,rfl,rfl,?_⟩;refine⟨hd,mG (by exact c6) ⟨_,rfl,?_,q.upd HP,zb⟩⟩;rw[aS,ht,aL,aL];rfl
   rintro aI ys H6 ⟨w0,rfl,rfl,q6,jv⟩;rw[ev,aq,lf,bh] at jv;refine⟨D',_,rfl,aH.of jv,?_⟩;rw[QL];refine⟨rT,_,q6 _ _ f4,.k,?_⟩;have s6:ak H4 (upd H6 df (.dK (gH fs af))):=fun b o e=>by
    by_cases c:b=df
    ·subst c;rw[R4.f] at e;cases e;exact zb
    ·rw[ze c];exact q6 _ _ (k4 b o e c)
   exact k _ (s2.trans (t3.trans s6))
inductive uc(vs:List V)(H:Hp)(Q:VK):Prop
 | mk (p dx:ah) (lo hi:Int) (_:vs = [.ref p,.int lo,.int hi]) (_:H p=some (.ins C_Dig dx [])) (_:∀(pm du dt df:ah)(H':Hp),H du=none->H dt=none->H df=none->bZ C_Dig H' p pm du dt df lo hi [] [] [] []->(∀b o,H b=some o->b≠p->H' b=some o)->Q .cu H')
def zvh:Sp:=fun vs H Q _=>uc (C_Dig:=C_Dig) vs H Q
theorem zhn(T:Tx K mg w C_Dig zk zq zg zv zo zw zp zx):gS P w K mg base C_Dig "__init__" ["self","first","last"] 1 (zvh (C_Dig:=C_Dig)):=by
 refine T.ZR.has zgu (fun vs H Q E h=>?_) (fun f bY A outer s H vs Q E hr h=>?_)
 ·obtain⟨p,dx,lo,hi,rfl,_⟩:=h;rfl
 ·obtain⟨p,dx,lo,hi,rfl,hp,k⟩:=h;refine⟨_,(zc (Gk (pv 0) (ko (za (pv 1) (za (pv 2) zd))) rfl)
   (zc (Gk (pv 0) ql rfl)
   (zc (Gk (pv 0) Nq rfl)
   (zh (Gk (pv 0) ql rfl))))),?_⟩
  refine⟨_,rfl,_,rfl,(by show 2<=sizeLine;decide),fun pm E9=>?_⟩;have n0:p≠pm:=zj hp E9;have tm:=ak.new (o:=.tup [.int lo,.int hi]) E9;have Fb:=tm _ _ hp;have em:upd H pm (.tup [.int lo,.int hi]) pm=some (.tup [.int lo,.int hi]):=zb;generalize upd H pm (.tup [.int lo,.int hi])=G at tm Fb em;refine⟨_,rfl,p,C_Dig,dx,[],rfl,Fb,T.g8,T.Qx,(by show 0<1000;decide),?_⟩;intro du QO;have n1:p≠du:=zj zb QO;refine⟨_,rfl,p,C_Dig,dx,_,rfl,by rw[ze n1,zb],T.g8,T.Cw,(by show 1<1000;decide),?_⟩;intro dt A6;have n2:p≠dt:=zj zb A6;refine⟨_,rfl,p,C_Dig,dx,_,rfl,by rw[ze n2,zb],T.g8,T.Bh,?_,?_⟩
  ·exact jM (Dj _ _ _) (by show 1+1<1000;decide)
  intro df uQ;have n3:p≠df:=zj zb uQ;refine⟨_,rfl,p,C_Dig,dx,_,rfl,by rw[ze n3,zb],T.g8,T.yD,?_,?_⟩
  ·exact jM (Dj _ _ _) (jM (Nat.succ_le_succ (Dj _ _ _)) (by show 1+1+1<1000;decide))
  have a0:∀{b:ah}{o:HO}{G:Hp},upd G p o b=none->b≠p->G b=none:=fun h n=>by rwa [ze n] at h
  have f1:G du=none:=a0 QO n1.symm;have e1:upd (upd (upd G p (.ins C_Dig dx (bX "frame" (.ref pm) []))) du (.dK [])) p (.ins C_Dig dx (bX "units" (.ref du) (bX "frame" (.ref pm) []))) du=some (.dK []):=by rw[ze n1.symm,zb]
  have Ls:du≠dt:=zj e1 A6;have f2:G dt=none:=by
   have:=a0 A6 n2.symm;rw[ze Ls.symm] at this;exact a0 this n2.symm
  have e2:=zj (H:=upd (upd (upd (upd (upd G p (.ins C_Dig dx (bX "frame" (.ref pm) []))) du (.dK [])) p (.ins C_Dig dx (bX "units" (.ref du) (bX "frame" (.ref pm) [])))) dt (.dT [])) p (.ins C_Dig dx (bX "ties" (.ref dt) (bX "units" (.ref du) (bX "frame" (.ref pm) []))))) (a:=dt) (b:=df) (o:=.dT []) (by rw[ze n2.symm,zb]) uQ;have e3:=zj (H:=upd (upd (upd (upd (upd G p (.ins C_Dig dx (bX "frame" (.ref pm) []))) du (.dK [])) p (.ins C_Dig dx (bX "units" (.ref du) (bX "frame" (.ref pm) [])))) dt (.dT [])) p (.ins C_Dig dx (bX "ties" (.ref dt) (bX "units" (.ref du) (bX "frame" (.ref pm) []))))) (a:=du) (b:=df) (o:=.dK []) (by rw[ze n1.symm,ze Ls,e1]) uQ;have f3:G df=none:=by
   have:=a0 uQ n3.symm;rw[ze e2.symm] at this;have:=a0 this n3.symm;rw[ze e3.symm] at this;exact a0 this n3.symm
  have fin:∀b o,G b=some o->b≠p->upd (upd (upd (upd (upd (upd (upd G p (.ins C_Dig dx (bX "frame" (.ref pm) []))) du (.dK [])) p (.ins C_Dig dx (bX "units" (.ref du) (bX "frame" (.ref pm) [])))) dt (.dT [])) p (.ins C_Dig dx (bX "ties" (.ref dt) (bX "units" (.ref du) (bX "frame" (.ref pm) []))))) df (.dK [])) p (.ins C_Dig dx (bX "finds" (.ref df) (bX "ties" (.ref dt) (bX "units" (.ref du) (bX "frame" (.ref pm) []))))) b=some o:=fun b o e hb=>by
   rw[ze hb,ze (zj e f3),ze hb,ze (zj e f2),ze hb,ze (zj e f1),ze hb];exact e
  refine k pm du dt df _ (tm.free f1) (tm.free f2) (tm.free f3) ⟨⟨dx,?_⟩,?_,?_,?_,?_,.nil,e3⟩ fun b o e hb=>fin b o (tm _ _ e) hb
  ·rw[zb,XA]
  ·exact fin pm _ em n0.symm
  ·rw[ze n1.symm,ze e3,ze n1.symm,ze Ls,e1];rfl
  ·rw[ze n2.symm,ze e2,ze n2.symm,zb];rfl
  ·rw[ze n3.symm,zb];rfl
inductive wc(vs:List V)(H:Hp)(Q:VK):Prop
 | mk (p pm du dt df:ah) (lo hi:Int) (us:List Str) (ts:List aT) (fs:List bN) (af:List ah) (x:Str) (_:vs = [.ref p,.str x]) (_:bZ C_Dig H p pm du dt df lo hi us ts fs af) (_:x ∉ us) (_:us.length<=900) (_:Q .cu (upd H du (.dK (dU (us++[x])))))
def QS:Sp:=fun vs H Q _=>wc (C_Dig:=C_Dig) vs H Q
theorem zgy(T:Tx K mg w C_Dig zk zq zg zv zo zw zp zx):iJ P w K mg base oN C_Dig "add_unit" ["self","name"] 1 (QS (C_Dig:=C_Dig)):=by
 refine T.ZS.kO zgv (fun vs H Q E h=>?_) (fun f bY A outer s H vs Q E hr h=>?_)
 ·obtain⟨p,pm,du,dt,df,lo,hi,us,ts,fs,af,x,rfl,_⟩:=h;rfl
 ·obtain⟨p,pm,du,dt,df,lo,hi,us,ts,fs,af,x,rfl,R,hn,hl,k⟩:=h;have hu:=kC hr;refine⟨_,(zc (gR (uN (B8 hu (pv 1) (oM (pv 0) rfl))) (zh yV) jc)
   (zh (oq hu (oM (pv 0) rfl) (pv 1) yU rfl))),?_⟩
  obtain⟨dx,h1⟩:=R.ob;refine⟨_,rfl,_,rfl,p,C_Dig,dx,_,_,rfl,h1,T.g8,T.Cw,EH _ _ _ _,du,_,rfl,ck.k (k:=Sum.inr x) R.u,_,rfl,?_⟩;rw[Cp (fun z=>hn (rM.mp z))];refine fj ⟨_,rfl,p,C_Dig,dx,_,_,rfl,h1,T.g8,T.Cw,EH _ _ _ _,_,rfl,du,_,rfl,eO.k (k:=Sum.inr x) R.u ?_,?_⟩
  ·unfold dU;rw[aq];exact jr (by lia)
  ·rw[XD hn];exact k
theorem zho(T:Tx K mg w C_Dig zk zq zg zv zo zw zp zx):gS P w K mg base C_Dig "add_unit" ["self","name"] 1 (QS (C_Dig:=C_Dig)):=(zgy T).m
inductive ue(vs:List V)(H:Hp)(Q:VK):Prop
 | mk (p pm du dt df:ah) (lo hi:Int) (us:List Str) (ts:List aT) (fs:List bN) (af:List ah) (x:Str) (j:Nat) (_:vs = [.ref p,.str x]) (_:bZ C_Dig H p pm du dt df lo hi us ts fs af) (_:gW us ts fs) (_:ts.length<=900) (_:fs.length<=900) (_:us[j]? = some x) (_:yz ts fs x=false) (_:∀H',ak H H'->Q .cu (upd H' du (.dK (dU (us.eraseIdx j)))))
def QT:Sp:=fun vs H Q _=>ue (C_Dig:=C_Dig) vs H Q
theorem zfh(T:Tx K mg w C_Dig zk zq zg zv zo zw zp zx):iJ P w K mg base oN C_Dig "drop_unit" ["self","name"] 2 (QT (C_Dig:=C_Dig)):=by
 refine T.ZT.kO zfa (fun vs H Q E h=>?_) (fun f bY A outer s H vs Q E hr h=>?_)
 ·obtain⟨p,pm,du,dt,df,lo,hi,us,ts,fs,af,x,j,rfl,_⟩:=h;rfl
 ·obtain⟨p,pm,du,dt,df,lo,hi,us,ts,fs,af,x,j,rfl,R,ok,tl,fl,hj,nu,k⟩:=h;refine⟨_,(zc (ig (rF (E6 T) T.g8 (hr.mono (by decide)) (pv 0) (za (pv 1) zd)))
   (zc (gR (II (rF (zjg T) T.g8 (hr.mono (by decide)) (pv 0) (za (pv 1) zd))) (zh yV) jc)
   (zh (ig (Nt (oM (pv 0) rfl) (pv 1) ⟨rfl,rfl,rfl,rfl⟩))))),?_⟩
  obtain⟨dx,h1⟩:=R.ob;have hx:=bC hj;refine⟨_,rfl,p,dx,_,rfl,h1,qO _ _ _ _ (by decide +kernel),_,rfl,p,pm,du,dt,df,lo,hi,us,ts,fs,af,x,rfl,R,hx,?_⟩
  try dsimp only
  refine⟨_,rfl,p,dx,_,rfl,h1,qO _ _ _ _ (by decide +kernel),_,rfl,p,pm,du,dt,df,lo,hi,us,ts,fs,af,x,rfl,R,ok,tl,fl,fun H1 s1=>⟨_,rfl,?_⟩⟩;rw[nu];refine fj ?_;have R1:=R.same s1;refine⟨_,rfl,p,C_Dig,dx,_,_,rfl,s1 _ _ h1,T.g8,T.Cw,EH _ _ _ _,du,rfl,.inl ⟨_,.inl R1.u⟩,_,rfl,_,Sum.inr x,.bl true,R1.u,rfl,?_,?_⟩
  ·exact HH (j:=j) (by rw[P0];exact Lc (fun a b e=>gq e) ok.nd) (by unfold dU;rw[aN,hj];rfl)
  ·rw[Ze ok.nd hj];exact k _ s1
theorem zgz(T:Tx K mg w C_Dig zk zq zg zv zo zw zp zx):gS P w K mg base C_Dig "drop_unit" ["self","name"] 2 (QT (C_Dig:=C_Dig)):=(zfh T).m
inductive we(vs:List V)(H:Hp)(Q:VK):Prop
 | mk (p pm du dt df a:ah) (lo hi:Int) (us:List Str) (ts:List aT) (fs:List bN) (af:List ah) (t:aT) (_:vs = [.ref p,.ref a]) (_:bZ C_Dig H p pm du dt df lo hi us ts fs af) (_:gW us ts fs) (_:H a=some (.tup (aW t))) (_:mH us t) (_:t ∉ ts) (_:ts.length<=900) (_:Q .cu (upd H dt (.dT (jW ((ts++[t]).map aW)))))
def QU:Sp:=fun vs H Q _=>we (C_Dig:=C_Dig) vs H Q
theorem zhp(T:Tx K mg w C_Dig zk zq zg zv zo zw zp zx):iJ P w K mg base oN C_Dig "add_tie" ["self","tie"] 2 (QU (C_Dig:=C_Dig)):=by
 refine T.ZU.kO zhl (fun vs H Q E h=>?_) (fun f bY A outer s H vs Q E hr h=>?_)
 ·obtain⟨p,pm,du,dt,df,a,lo,hi,us,ts,fs,af,t,rfl,_⟩:=h;rfl
 ·obtain⟨p,pm,du,dt,df,a,lo,hi,us,ts,fs,af,t,rfl,R,ok,ha,tok,hn,hl,k⟩:=h;have hu:=kC hr;refine⟨_,(zc (ig (rF (E6 T) T.g8 (hr.mono (by decide)) (pv 0) (za (bP (zr K rfl) (pv 1) zi) zd)))
   (zc (ig (rF (E6 T) T.g8 (hr.mono (by decide)) (pv 0) (za (bP (zr K rfl) (pv 1) zi) zd)))
   (zc (gR (uN (B8 hu (pv 1) (oM (pv 0) rfl))) (zh yV) jc)
   (zh (oq hu (oM (pv 0) rfl) (pv 1) yU rfl))))),?_⟩
  obtain⟨dx,h1⟩:=R.ob;have hw:=(tok.ok.words ok.nm).1;have nZ:H a=some (.tup (((aW t).map kW).map kV)):=by rw[EA hw];exact ha
  refine⟨_,rfl,p,dx,_,rfl,h1,qO _ _ _ _ (by decide +kernel),_,rfl,a,_,_,_,rfl,rfl,bx.of ha,GP t,p,pm,du,dt,df,lo,hi,us,ts,fs,af,t.a,rfl,R,tok.a,?_⟩
  try dsimp only
  refine⟨_,rfl,p,dx,_,rfl,h1,qO _ _ _ _ (by decide +kernel),_,rfl,a,_,_,_,rfl,rfl,bx.of ha,GQ t,p,pm,du,dt,df,lo,hi,us,ts,fs,af,t.b,rfl,R,tok.b,?_⟩
  try dsimp only
  have nt:aW t ∉ ts.map aW:=fun z=>by
   obtain⟨u,hu,e⟩:=aK.mp z;exact hn (Ko e▸hu)
  refine⟨_,rfl,_,rfl,p,C_Dig,dx,_,_,rfl,h1,T.g8,T.Bh,Cq _ _ _ _,dt,_,rfl,ck.t R.t nZ,_,rfl,?_⟩;rw[Cp (fun z=>nt ((KU ok.tw hw).mp z))];refine fj ⟨_,rfl,p,C_Dig,dx,_,_,rfl,h1,T.g8,T.Bh,Cq _ _ _ _,_,rfl,dt,_,rfl,eO.t R.t nZ ?_,?_⟩
  ·unfold jW;rw[aq,aq];exact jr (by lia)
  ·rw[XE ok.tw hw nt,show ts.map aW++[aW t]=(ts++[t]).map aW by rw[aL];rfl];exact k
theorem zjh(T:Tx K mg w C_Dig zk zq zg zv zo zw zp zx):gS P w K mg base C_Dig "add_tie" ["self","tie"] 2 (QU (C_Dig:=C_Dig)):=(zhp T).m
inductive uf(vs:List V)(H:Hp)(Q:VK):Prop
 | mk (p pm du dt df a:ah) (lo hi:Int) (us:List Str) (ts:List aT) (fs:List bN) (af:List ah) (t:aT) (j:Nat) (_:vs = [.ref p,.ref a]) (_:bZ C_Dig H p pm du dt df lo hi us ts fs af) (_:gW us ts fs) (_:H a=some (.tup (aW t))) (_:ts[j]? = some t) (_:Q .cu (upd H dt (.dT (jW ((ts.eraseIdx j).map aW)))))
def QV:Sp:=fun vs H Q _=>uf (C_Dig:=C_Dig) vs H Q
theorem zg0(T:Tx K mg w C_Dig zk zq zg zv zo zw zp zx):iJ P w K mg base oN C_Dig "drop_tie" ["self","tie"] 1 (QV (C_Dig:=C_Dig)):=by
 refine T.ZV.kO zgw (fun vs H Q E h=>?_) (fun f bY A outer s H vs Q E hr h=>?_)
 ·obtain⟨p,pm,du,dt,df,a,lo,hi,us,ts,fs,af,t,j,rfl,_⟩:=h;rfl
 ·obtain⟨p,pm,du,dt,df,a,lo,hi,us,ts,fs,af,t,j,rfl,R,ok,ha,hj,k⟩:=h;have hu:=kC hr;refine⟨_,(zc (gR (uN (B9 hu (pv 1) (oM (pv 0) rfl))) (zh yV) jc)
   (zh (ig (YT hu (oM (pv 0) rfl) (pv 1) ⟨rfl,rfl,rfl,rfl⟩)))),?_⟩
  obtain⟨dx,h1⟩:=R.ob;have ht:=bC hj;have hw:=ok.tw _ (aK.mpr ⟨t,ht,rfl⟩);have nZ:H a=some (.tup (((aW t).map kW).map kV)):=by rw[EA hw];exact ha
  refine⟨_,rfl,_,rfl,p,C_Dig,dx,_,_,rfl,h1,T.g8,T.Bh,Cq _ _ _ _,dt,_,rfl,ck.t R.t nZ,_,rfl,?_⟩;have ek:(jW (ts.map aW)).map (·.1)=ts.map fun t=>(aW t).map kW:=by unfold jW;rw[cz,cz];rfl
  have nd:((jW (ts.map aW)).map (·.1)).Nodup:=by
   rw[ek];have:=ok.yr;unfold List.Nodup at *;rw[List.pairwise_map];refine this.imp_of_mem fun{x y}hx hy hxy e=>hxy (Ko ?_)
   exact KR (ok.tw _ (aK.mpr ⟨x,hx,rfl⟩)) (ok.tw _ (aK.mpr ⟨y,hy,rfl⟩)) e
  rw[KS ((KU ok.tw hw).mpr (aK.mpr ⟨t,ht,rfl⟩))];refine fj ⟨_,rfl,p,C_Dig,dx,_,_,rfl,h1,T.g8,T.Bh,Cq _ _ _ _,dt,rfl,.inr ⟨_,.inl R.t⟩,_,rfl,_,(aW t).map kW,a,.bl true,R.t,rfl,nZ,?_,?_⟩
  ·exact HH (j:=j) nd (by unfold jW;rw[aN,aN,hj];rfl)
  ·rw[Zf ok.tw ok.yr (fun x y e=>Ko e) hj];exact k
theorem zhq(T:Tx K mg w C_Dig zk zq zg zv zo zw zp zx):gS P w K mg base C_Dig "drop_tie" ["self","tie"] 1 (QV (C_Dig:=C_Dig)):=(zg0 T).m
inductive wg(vs:List V)(H:Hp)(Q:VK):Prop
 | mk (p pm du dt df:ah) (lo hi:Int) (us:List Str) (ts:List aT) (fs:List bN) (af:List ah) (f:bN) (_:vs = [.ref p,.str f.n,.str f.u,.int f.lo,.int f.hi]) (_:bZ C_Dig H p pm du dt df lo hi us ts fs af) (_:f.n ∉ fs.map bN.n) (_:f.u∈us) (_:fs.length<=900) (_:∀a,H a=none->Q .cu (upd (upd H a (.tup (cZ f))) df (.dK (gH (fs++[f]) (af++[a])))))
def QW:Sp:=fun vs H Q _=>wg (C_Dig:=C_Dig) vs H Q
theorem zg1(T:Tx K mg w C_Dig zk zq zg zv zo zw zp zx):iJ P w K mg base oN C_Dig "add_find" ["self","name","unit","low","high"] 2 (QW (C_Dig:=C_Dig)):=by
 refine T.ZW.kO zgx (fun vs H Q E h=>?_) (fun f bY A outer s H vs Q E hr h=>?_)
 ·obtain⟨p,pm,du,dt,df,lo,hi,us,ts,fs,af,f,rfl,_⟩:=h;rfl
 ·obtain⟨p,pm,du,dt,df,lo,hi,us,ts,fs,af,f,rfl,R,hn,c7,hl,k⟩:=h;have hu:=kC hr;refine⟨_,(zc (gR (uN (B8 hu (pv 1) (oM (pv 0) rfl))) (zh yV) jc)
   (zc (ig (rF (E6 T) T.g8 (hr.mono (by decide)) (pv 0) (za (pv 2) zd)))
   (zh (oq hu (oM (pv 0) rfl) (pv 1) (ko (za (pv 1) (za (pv 2) (za (pv 3) (za (pv 4) zd))))) rfl)))),?_⟩
  obtain⟨dx,h1⟩:=R.ob;refine⟨_,rfl,_,rfl,p,C_Dig,dx,_,_,rfl,h1,T.g8,T.yD,zI _ _ _ _,df,_,rfl,ck.k (k:=Sum.inr f.n) R.f,_,rfl,?_⟩;rw[Cp (fun z=>hn ((Ld R.fZ).mp z))];refine fj ⟨_,rfl,p,dx,_,rfl,h1,qO _ _ _ _ (by decide +kernel),_,rfl,p,pm,du,dt,df,lo,hi,us,ts,fs,af,f.u,rfl,R,c7,?_⟩
  try dsimp only
  refine⟨_,rfl,_,rfl,_,rfl,_,rfl,(by show 4<=sizeLine;decide),fun a ha=>?_⟩;have t1:=ak.new (o:=.tup (cZ f)) ha;have R1:=R.same t1;refine⟨_,rfl,p,C_Dig,dx,_,_,rfl,t1 _ _ h1,T.g8,T.yD,zI _ _ _ _,_,rfl,df,_,rfl,eO.k (k:=Sum.inr f.n) R1.f ?_,?_⟩
  ·have:=bQ List.length (HE R.fZ);rw[aq,aq] at this;rw[this,R.fZ];exact jr (by lia)
  ·rw[Zi R.fZ hn];exact k a ha
theorem zhr(T:Tx K mg w C_Dig zk zq zg zv zo zw zp zx):gS P w K mg base C_Dig "add_find" ["self","name","unit","low","high"] 2 (QW (C_Dig:=C_Dig)):=(zg1 T).m
inductive ug(vs:List V)(H:Hp)(Q:VK):Prop
 | mk (p pm du dt df:ah) (lo hi:Int) (us:List Str) (ts:List aT) (fs:List bN) (af:List ah) (f:bN) (j:Nat) (x:Str) (_:vs = [.ref p,.str f.n,.str x]) (_:bZ C_Dig H p pm du dt df lo hi us ts fs af) (_:gW us ts fs) (_:fs[j]? = some f) (_:x∈us) (_:fs.length<=900) (_:∀a H',ak H H'->H a=none->H' a=some (.tup (cZ ⟨f.n,x,f.lo,f.hi⟩))->Q .cu (upd H' df (.dK (gH (fs.set j ⟨f.n,x,f.lo,f.hi⟩) (af.set j a)))))
def QX:Sp:=fun vs H Q _=>ug (C_Dig:=C_Dig) vs H Q
theorem zfi(T:Tx K mg w C_Dig zk zq zg zv zo zw zp zx):iJ P w K mg base oN C_Dig "move_find" ["self","name","unit"] 2 (QX (C_Dig:=C_Dig)):=by
 refine T.ZX.kO zfb (fun vs H Q E h=>?_) (fun f bY A outer s H vs Q E hr h=>?_)
 ·obtain⟨p,pm,du,dt,df,lo,hi,us,ts,fs,af,f,j,x,rfl,_⟩:=h;rfl
 ·obtain⟨p,pm,du,dt,df,lo,hi,us,ts,fs,af,f,j,x,rfl,R,ok,hj,hx,hl,k⟩:=h;have hu:=kC hr;refine⟨_,(zc (ig (rF (QK T) T.g8 (hr.mono (by decide)) (pv 0) (za (pv 1) zd)))
   (zc (ig (rF (E6 T) T.g8 (hr.mono (by decide)) (pv 0) (za (pv 2) zd)))
   (zh (oq hu (oM (pv 0) rfl) (pv 1) (fR (NP K rfl) (ko (za (pv 1) (za (pv 2) zd))) (Gu (NO K rfl) (g7 hu (oM (pv 0) rfl) (pv 1) (fun _ _=>rfl)) (BW zi) Na)) rfl)))),?_⟩
  obtain⟨dx,h1⟩:=R.ob;have PU:=(bI.mp hj).1;have lf:=R.fZ;have hm:f.n∈fs.map bN.n:=aK.mpr ⟨f,bC hj,rfl⟩;refine⟨_,rfl,p,dx,_,rfl,h1,qO _ _ _ _ (by decide +kernel),_,rfl,p,pm,du,dt,df,lo,hi,us,ts,fs,af,f.n,rfl,R,hm,?_⟩
  try dsimp only
  refine⟨_,rfl,p,dx,_,rfl,h1,qO _ _ _ _ (by decide +kernel),_,rfl,p,pm,du,dt,df,lo,hi,us,ts,fs,af,x,rfl,R,hx,?_⟩
  try dsimp only
  have Lu:af[j]? = some (af[j]'(by lia)):=aV (by lia);have uU:H (af[j]'(by lia))=some (.tup (cZ f)):=by
   obtain⟨ws,h2,h3⟩:=Paired.get' R.ft Lu;rw[aN,hj] at h2;cases h2;exact h3
  generalize af[j]'(by lia)=r at Lu uU;refine⟨_,rfl,_,rfl,(by show 2<=sizeLine;decide),fun a1 Bl=>?_⟩;have t1:=ak.new (o:=.tup [.str f.n,.str x]) Bl;have R1:=R.same t1;have g:=ck.k (k:=Sum.inr f.n) R1.f;rw[HH (j:=j) (HG lf ok.vR) (HF hj Lu)] at g;refine⟨_,rfl,p,C_Dig,dx,_,_,rfl,t1 _ _ h1,T.g8,T.yD,zI _ _ _ _,_,rfl,df,.ref r,rfl,g,_,rfl,r,_,rfl,bx.of (t1 _ _ uU),(fun z=>absurd z.1 (show ¬HT.dR 4 0 (some 2)=0 by decide)),fun a2 HQ=>?_⟩;rw[show nJ (cZ f) (some 2) none = [.int f.lo,.int f.hi] from rfl];have t2:=ak.new (o:=.tup [.int f.lo,.int f.hi]) HQ;refine⟨a1,a2,_,_,rfl,rfl,bx.of (t2 _ _ zb),bx.of zb,(fun z=>nomatch z),(by show 4<=sizeLine;decide),(fun z=>nomatch z),fun _ a3 xw=>?_⟩;have t3:=ak.new (o:=.tup (cZ ⟨f.n,x,f.lo,f.hi⟩)) xw;have q3:=t1.trans (t2.trans t3);have R3:=R.same q3;refine⟨_,rfl,p,C_Dig,dx,_,_,rfl,q3 _ _ h1,T.g8,T.yD,zI _ _ _ _,_,rfl,df,_,rfl,eO.k (k:=Sum.inr f.n) R3.f ?_,?_⟩
  ·have:=bQ List.length (HE R.fZ);rw[aq,aq] at this;rw[this,R.fZ];exact jr (by lia)
  ·rw[Zl (f':=⟨f.n,x,f.lo,f.hi⟩) lf ok.vR hj rfl];exact k a3 _ q3 (t1.free (t2.free xw)) zb
theorem zg2(T:Tx K mg w C_Dig zk zq zg zv zo zw zp zx):gS P w K mg base C_Dig "move_find" ["self","name","unit"] 2 (QX (C_Dig:=C_Dig)):=(zfi T).m
inductive uh(vs:List V)(H:Hp)(Q:VK):Prop
 | mk (p pm du dt df:ah) (lo hi:Int) (us:List Str) (ts:List aT) (fs:List bN) (af:List ah) (f:bN) (j:Nat) (_:vs = [.ref p,.str f.n]) (_:bZ C_Dig H p pm du dt df lo hi us ts fs af) (_:gW us ts fs) (_:fs[j]? = some f) (_:Q .cu (upd H df (.dK (gH (fs.eraseIdx j) (af.eraseIdx j)))))
def QY:Sp:=fun vs H Q _=>uh (C_Dig:=C_Dig) vs H Q
theorem zfj(T:Tx K mg w C_Dig zk zq zg zv zo zw zp zx):iJ P w K mg base oN C_Dig "drop_find" ["self","name"] 2 (QY (C_Dig:=C_Dig)):=by
 refine T.ZY.kO zfc (fun vs H Q E h=>?_) (fun f bY A outer s H vs Q E hr h=>?_)
 ·obtain⟨p,pm,du,dt,df,lo,hi,us,ts,fs,af,f,j,rfl,_⟩:=h;rfl
 ·obtain⟨p,pm,du,dt,df,lo,hi,us,ts,fs,af,f,j,rfl,R,ok,hj,k⟩:=h;refine⟨_,(zc (ig (rF (QK T) T.g8 (hr.mono (by decide)) (pv 0) (za (pv 1) zd)))
   (zh (ig (Nt (oM (pv 0) rfl) (pv 1) ⟨rfl,rfl,rfl,rfl⟩)))),?_⟩
  obtain⟨dx,h1⟩:=R.ob;have PU:=(bI.mp hj).1;have lf:=R.fZ;have hm:f.n∈fs.map bN.n:=aK.mpr ⟨f,bC hj,rfl⟩;refine⟨_,rfl,p,dx,_,rfl,h1,qO _ _ _ _ (by decide +kernel),_,rfl,p,pm,du,dt,df,lo,hi,us,ts,fs,af,f.n,rfl,R,hm,?_⟩
  try dsimp only
  refine⟨_,rfl,p,C_Dig,dx,_,_,rfl,h1,T.g8,T.yD,zI _ _ _ _,df,rfl,.inl ⟨_,.inl R.f⟩,_,rfl,_,Sum.inr f.n,.ref (af[j]'(by lia)),R.f,rfl,?_,?_⟩
  ·exact HH (j:=j) (HG lf ok.vR) (HF hj (aV (by lia)))
  ·rw[Zh lf ok.vR hj];exact k
theorem zg3(T:Tx K mg w C_Dig zk zq zg zv zo zw zp zx):gS P w K mg base C_Dig "drop_find" ["self","name"] 2 (QY (C_Dig:=C_Dig)):=(zfj T).m
inductive um(vs:List V)(H:Hp)(Q:VK):Prop
 | mk (p pm du dt df:ah) (lo hi:Int) (us:List Str) (ts:List aT) (fs:List bN) (af:List ah) (_:vs = [.ref p]) (_:bZ C_Dig H p pm du dt df lo hi us ts fs af) (_:gW us ts fs) (_:∀(tl pu pt pf:ah)(at':List ah)(H':Hp),H tl=none->H pu=none->H pt=none->H pf=none->H' tl=some (.tup [.ref pm,.ref pu,.ref pt,.ref pf])->H' pu=some (.lst (us.map V.str))->H' pt=some (.lst (at'.map V.ref))->bU H' at' (ts.map aW)->H' pf=some (.lst (af.map V.ref))->pu≠pt->pu≠pf->pt≠pf->ak H H'->Q (.ref tl) H')
def zvi:Sp:=fun vs H Q _=>um (C_Dig:=C_Dig) vs H Q
theorem zji(T:Tx K mg w C_Dig zk zq zg zv zo zw zp zx):gS P w K mg base C_Dig "telling" ["self"] 1 (zvi (C_Dig:=C_Dig)):=by
 refine T.ZZ.has zhm (fun vs H Q E h=>?_) (fun f bY A outer s H vs Q E hr h=>?_)
 ·obtain⟨p,pm,du,dt,df,lo,hi,us,ts,fs,af,rfl,_⟩:=h;rfl
 ·obtain⟨p,pm,du,dt,df,lo,hi,us,ts,fs,af,rfl,R,ok,k⟩:=h;refine⟨_,(zh (fW (ko (za (oM (pv 0) rfl) (za (xO (GK rfl) (by rfl) T.list j7 (za (oM (pv 0) rfl) zd)) (za (xO (Vy rfl) (by rfl) T.list j7 (za (oM (pv 0) rfl) zd)) (za (xO (NX rfl) (by rfl) T.list j7 (za (J2 K rfl PySem.F.plainAttrs_dict PySem.F.slot_dict_values PySem.F.type_dict_values J8 (oM (pv 0) rfl)) zd)) zd))))))),?_⟩;obtain⟨dx,h1⟩:=R.ob;refine⟨_,rfl,p,C_Dig,dx,_,_,rfl,h1,T.g8,T.Qx,XC _ _ _ _,?_⟩;refine⟨_,rfl,p,C_Dig,dx,_,_,rfl,h1,T.g8,T.Cw,EH _ _ _ _,du,_,rfl,R.u,fun pu QZ=>?_⟩;have s1:=ak.new (o:=.lst ((dU us).map fun kv=>kV kv.1)) QZ;have e1:upd H pu (.lst ((dU us).map fun kv=>kV kv.1)) pu=some (.lst (us.map V.str)):=by
   rw[zb];unfold dU;rw[cz];rfl
  generalize upd H pu (.lst ((dU us).map fun kv=>kV kv.1))=H1 at s1 e1;refine⟨_,rfl,p,C_Dig,dx,_,_,rfl,s1 _ _ h1,T.g8,T.Bh,Cq _ _ _ _,dt,_,rfl,s1 _ _ R.t,fun jK as kt zQ=>?_⟩;have tt:=Lr ok.tw kt;have s2:=ak.new (o:=.lst (as.map V.ref)) zQ;have q2:=s1.trans s2;have hf:=R.f;refine⟨_,rfl,p,C_Dig,dx,_,_,rfl,q2 _ _ h1,T.g8,T.yD,zI _ _ _ _,.inr (.inr (.inl ⟨rfl,.inl ⟨_,q2 _ _ hf⟩⟩)),df,_,rfl,rfl,q2 _ _ hf,fun pv E8=>?_⟩;have s3:=ak.new (o:=yc pv df) E8;refine⟨pv,df,_,rfl,zb,s3 _ _ (q2 _ _ hf),fun pf zR=>?_⟩;rw[HE R.fZ];have s4:=ak.new (o:=.lst (af.map V.ref)) zR;have q4:=q2.trans (s3.trans s4);refine⟨(by show 4<=sizeLine;decide),fun tl Bm=>?_⟩;have s5:=ak.new (o:=.tup [.ref pm,.ref pu,.ref jK,.ref pf]) Bm;have g1:=s2 _ _ e1;have g2:upd H1 jK (.lst (as.map V.ref)) jK=_:=zb;have n1:pu≠jK:=zj e1 zQ;have n2:pu≠pf:=zj (s3 _ _ g1) zR;have n3:jK≠pf:=zj (s3 _ _ g2) zR;exact k tl pu jK pf as _ (q4.free Bm) QZ (s1.free zQ) ((q2.trans s3).free zR) zb (s5 _ _ (s4 _ _ (s3 _ _ g1))) (s5 _ _ (s4 _ _ (s3 _ _ g2))) (tt.same (s2.trans (s3.trans (s4.trans s5)))) (s5 _ _ zb) n1 n2 n3 (q4.trans s5)
inductive uo(vs:List V)(H:Hp)(Q:VK):Prop
 | mk (p pm du dt df ps pu pt pf pn pk:ah) (lo hi:Int) (xs ms:List Str) (s:SD) (n:Nat) (c:Int) (_:vs = [.ref p,.ref ps,.ref pn,.ref pk,.int c]) (_:eT C_Dig K H p pm du dt df ps pu pt pf lo hi xs s n) (_:n<=300) (_:aH K H pn (xs.map V.str)) (_:aH K H pk (ms.map V.str)) (_:xs.length=7) (_:ms.length=7) (_:(∀x∈xs,qK x=true)) (_:(∀x∈ms,qK x=true)) (_:∀(H':Hp)(s':SD),eT C_Dig K H' p pm du dt df ps pu pt pf lo hi xs s' (n+1)->HK H H' du dt df pu pt pf->Q .cu H')
def zvj:Sp:=fun vs H Q _=>uo (C_Dig:=C_Dig) (K:=K) vs H Q
theorem zlc(T:Tx K mg w C_Dig zk zq zg zv zo zw zp zx):gk P w K mg base "_law_added" ["_law_dig","_law_stands","_law_names_here","_law_marks","_law_cell"] 4 (zvj (C_Dig:=C_Dig) (K:=K)):=by
 refine T.zlj.has bL (fun vs H Q E h=>?_) (fun f bY A outer s H vs Q E hr h=>?_)
 ·obtain⟨p,pm,du,dt,df,ps,pu,jK,pf,pn,pk,lo,hi,xs,ms,s,n,c,rfl,_⟩:=h;rfl
 ·obtain⟨p,pm,du,dt,df,ps,pu,jK,pf,pn,pk,lo,hi,xs,ms,st,n,c,rfl,O,n3,hn,hk,x7,m7,wj,Lw,k⟩:=h;refine⟨_,(zc (IT (pv 1) (vE K rfl rfl (mD (gE (i:=5) bL.nd) (mD (gE (i:=6) bL.nd) (mD (gE (i:=7) bL.nd) u9)))))
   (zc (GG (i:=8) (own:=["_law_name"]) (cap:=["_law_units"]) (ix:=[5]) (gA:=zm (top 52)) rfl bL.nd rfl rfl rfl ⟨rfl,by decide +kernel,by decide +kernel,by decide +kernel,by decide +kernel⟩ rfl (jG K rfl (pv 2)) (fun _ _ _ _=>nX (i:=0) (show List.Nodup (["_law_name","_law_units"]:List Str) by decide +kernel) rfl (Or.inl rfl)) (fun _ _ _ _=>DP (fh (J0 K rfl) (pv 0) (pv 1) (by with_unfolding_all rfl))) (fun _ _ _ _=>(pv 0)))
   (zc (GG (i:=9) (own:=["_law_name"]) (cap:=["_law_finds"]) (ix:=[7]) (gA:=zm (top 52)) rfl bL.nd rfl rfl rfl ⟨rfl,by decide +kernel,by decide +kernel,by decide +kernel,by decide +kernel⟩ rfl (jG K rfl (pv 3)) (fun _ _ _ _=>nX (i:=0) (show List.Nodup (["_law_name","_law_finds"]:List Str) by decide +kernel) rfl (Or.inl rfl)) (fun _ _ _ _=>DP (fh (J0 K rfl) (pv 0) (Zc (own:=["_law_find_here"]) (cap:=[]) (ix:=[]) (gA:=Zd (top 52) 2) rfl ⟨rfl,by decide +kernel,by decide +kernel,by decide +kernel,by decide +kernel⟩ rfl (jG K rfl (pv 1)) (fun _ _ _ _=>nX (i:=0) (show List.Nodup (["_law_find_here"]:List Str) by decide +kernel) rfl (Or.inl rfl)) (fun _ _ _ _=>sH) (fun _ _ _ _=>(bP (zr K rfl) (pv 0) zi))) (by with_unfolding_all rfl))) (fun _ _ _ _=>(pv 0)))
   (zc (sset (i:=10) bL.nd (b7 (zz T) (za (pv 4) (za zi (za zi zd)))))
   (zh (gR (PW.pt (xE (PW.pt (C3 (fh BS (pv 10) zi (fV _)) (Ge (fh (J1 K rfl (iM hr)) (pv 5) (gZ zd) (fV _))))) (xD (fh (sJ K rfl (iM hr)) (pv 8) (gZ zd) (fV _))))) (zc (ig (rE K rfl PySem.F.plainAttrs_list PySem.F.slot_list_append PySem.F.type_list_append uP (pv 5) (za (bP (lZ K rfl) (pv 8) (b7 (zz T) (za (pv 4) (za zi (za (ji (qI K rfl) (by rfl) T.len cH (za (pv 8) zd)) zd))))) zd)))
    (zh (ig (rF (zho T) T.g8 (hr.mono (by decide)) (pv 0) (za (bP (lZ K rfl) (pv 5) (I0 Jb zi)) zd))))) (zh (gR (PW.pt (xE (fh su (pv 10) zi (fV _)) (xD (fh (sJ K rfl (iM hr)) (pv 9) (gZ zd) (fV _))))) (zc (sset (i:=11) bL.nd (b7 (zmm T) (za (pv 9) (za (pv 5) (za (b7 (zz T) (za (pv 4) (za zi (za (ji (qI K rfl) (by rfl) T.len cH (za (pv 9) zd)) zd)))) (za (pv 4) zd))))))
     (zc (ig (rE K rfl PySem.F.plainAttrs_list PySem.F.slot_list_append PySem.F.type_list_append uP (pv 7) (za (pv 11) zd)))
     (zh (ig (rF (zhr T) T.g8 (hr.mono (by decide)) (pv 0) (za (bP (zr K rfl) (pv 11) zi) (za (bP (zr K rfl) (pv 11) zi) (za (bP (zr K rfl) (pv 11) zi) (za (bP (zr K rfl) (pv 11) zi) zd))))))))) (zh (gR (fh (sJ K rfl (iM hr)) (pv 5) (gZ zd) (fV _)) (zc (sset (i:=12) bL.nd (b7 (zpk T) (za (sI (own:=["_law_name"]) (cap:=["_law_units"]) (ix:=[5]) (gA:=zm (top 52)) rfl ⟨rfl,by decide +kernel,by decide +kernel,by decide +kernel,by decide +kernel⟩ rfl (jG K rfl (pv 2)) (fun _ _ _ _=>nX (i:=0) (show List.Nodup (["_law_name","_law_units"]:List Str) by decide +kernel) rfl (Or.inl rfl)) (fun _ _ _ _=>DP (fh (JZ K rfl) (pv 0) (pv 1) (by with_unfolding_all rfl))) (fun _ _ _ _=>(pv 0))) (za (pv 4) zd))))
      (zh (gR (fh (Vs K rfl (J3 hr)) (pv 12) (pv 6) (by with_unfolding_all rfl)) (zc (ig (rE K rfl PySem.F.plainAttrs_list PySem.F.slot_list_append PySem.F.type_list_append uP (pv 6) (za (pv 12) zd)))
       (zh (ig (rF (zjh T) T.g8 (hr.mono (by decide)) (pv 0) (za (pv 12) zd))))) jc))) jc)))))))))),?_⟩
  obtain⟨af,R⟩:=O.dig;obtain⟨at',ag,L⟩:=O.ls;obtain⟨b1,b2,b3⟩:=O.len;have lt':=L.Be;have CA:=L.fZ;refine⟨_,rfl,ps,_,rfl,bx.of O.tup,rfl,_,_,rfl,_,_,rfl,_,_,rfl,rfl,?_⟩
  try dsimp only[zy]
  refine⟨_,rfl,pn,rfl,⟨_,hn⟩,fun D hD=>?_⟩;refine qa (tH (K:=K) (a:=pn) (xs:=xs.map V.str)) (fun i aI ys H'=>∃w0,aI = [w0,some (.ref pu)]/\ys=((xs.take i).filter fun x=>!decide (x∈st.us)).map V.str/\ak H H'/\H' D=some (.lst ys))
   ⟨none,rfl,by simp,ak.new hD,zb⟩ (fun i aI ys H' h=>?_) (by rw[aq];exact lP (by lia)) ?_ ?_
  ·obtain⟨_,_,rfl,q,hd⟩:=h;refine⟨q.seq hn,hd,?_⟩;rw[aq];exact bH (e7 _ _) (by rw[bw];lia)
  ·rintro i v aI ys H1 hx ⟨w0,rfl,rfl,q1,hd⟩;have c6:=iy hx;rw[aq] at c6;have ex:xs[i]? = some xs[i]:=aV c6;rw[aN,ex] at hx;cases hx;generalize xs[i]=x at ex
   try dsimp only[zy]
   refine⟨_,rfl,_,rfl,pu,_,rfl,.inl (aH.of (q1 _ _ L.u)),rfl,HJ,_,rfl,?_⟩;rw[av rfl,Co];refine cM (fun c=>?_) (fun c=>?_)
   ·refine⟨_,rfl,hd,mG (by rw[aq];exact c6) ⟨_,rfl,?_,q1.upd hD,zb⟩⟩;rw[zP _ ex,av c,aL];rfl
   ·refine⟨hd,mG (by rw[aq];exact c6) ⟨_,rfl,?_,q1,hd⟩⟩;rw[zP _ ex,ao c,fL]
  rintro aI ys H1 ⟨w0,rfl,rfl,s1,mJ⟩;rw[aq,bh] at mJ;obtain⟨fr,CB⟩:∃fr,fr=xs.filter fun x=>!decide (x∈st.us):=⟨_,rfl⟩
  rw[←CB] at mJ
  try dsimp only[zy]
  refine⟨_,rfl,pk,rfl,⟨_,s1.seq hk⟩,fun D2 Q0=>?_⟩;refine qa (tH (K:=K) (a:=pk) (xs:=ms.map V.str)) (fun i aI ys H'=>∃w0,aI = [w0,some (.ref pf)]/\ys=((ms.take i).filter fun x=>!decide (x∈st.fs.map bN.n)).map V.str/\ak H1 H'/\H' D2=some (.lst ys))
   ⟨none,rfl,by simp,ak.new Q0,zb⟩ (fun i aI ys H' h=>?_) (by rw[aq];exact lP (by lia)) ?_ ?_
  ·obtain⟨_,_,rfl,q,hd⟩:=h;refine⟨(s1.trans q).seq hk,hd,?_⟩;rw[aq];exact bH (e7 _ _) (by rw[bw];lia)
  ·rintro i v aI ys H2 hx ⟨w0,rfl,rfl,q2,hd⟩;have c6:=iy hx;rw[aq] at c6;have ex:ms[i]? = some ms[i]:=aV c6;rw[aN,ex] at hx;cases hx;generalize ms[i]=x at ex;have L2:=L.same (s1.trans q2)
   try dsimp only[zy]
   refine⟨_,rfl,_,rfl,pf,rfl,⟨_,aH.of L2.f⟩,fun D3 Q2=>?_⟩;refine qa (tH (K:=K) (a:=pf) (xs:=ag.map V.ref)) (fun i aI ys H'=>∃w0,aI = [w0]/\ys=((st.fs.take i).map bN.n).map V.str/\ak H2 H'/\H' D3=some (.lst ys))
    ⟨none,rfl,by simp,ak.new Q2,zb⟩ (fun i aI ys H' h=>?_) (by rw[aq];exact lP (by lia)) ?_ ?_
   ·obtain⟨_,_,rfl,q,hd⟩:=h;refine⟨aH.of (q _ _ L2.f),hd,?_⟩;rw[aq,aq,bw];lia
   ·rintro i v aI ys H' oK ⟨w0,rfl,rfl,q',pY⟩;obtain⟨r,f,rfl,ht,oX,uU⟩:=Cf (L2.ff.same q') oK;have c6:=iy oK
    try dsimp only[zy]
    unfold kD;dsimp only;rw[av rfl];refine⟨_,rfl,r,_,_,_,rfl,rfl,bx.of uU,rfl,?_⟩;refine⟨pY,mG (by exact c6) ⟨_,rfl,?_,q'.upd Q2,zb⟩⟩;rw[aS,ht,aL,aL];rfl
   rintro aI ys H3 ⟨Lx,rfl,rfl,q3,f7⟩;rw[aq,CA,bh] at f7;have Fc:=q3 _ _ hd;refine⟨D3,_,rfl,.inl (aH.of f7),rfl,HJ,_,rfl,?_⟩;rw[av rfl,Co];refine cM (fun c=>?_) (fun c=>?_)
   ·refine⟨_,rfl,Fc,mG (by rw[aq];exact c6) ⟨_,rfl,?_,(q2.trans q3).upd Q0,zb⟩⟩;rw[zP _ ex,av c,aL];rfl
   ·refine⟨Fc,mG (by rw[aq];exact c6) ⟨_,rfl,?_,q2.trans q3,Fc⟩⟩;rw[zP _ ex,ao c,fL]
  rintro aI ys H2 ⟨w0,rfl,rfl,s2,hd2⟩;rw[aq,bh] at hd2;obtain⟨sp,Q3⟩:∃sp,sp=ms.filter fun x=>!decide (x∈st.fs.map bN.n):=⟨_,rfl⟩
  rw[←Q3] at hd2;have Bo:=s2 _ _ mJ;have q2:=s1.trans s2;have R2:=R.same q2;have L2:=L.same q2;have O2:=O.same q2;have Ly:∀b o,H b=some o->H2 b=some o:=fun b o e=>q2 _ _ e
  clear mJ
  try dsimp only[zy]
  refine⟨_,rfl,_,_,_,rfl,by decide,?_⟩;generalize pt c 0 6=way
  try dsimp only[zy]
  obtain⟨dx,sD⟩:=R2.ob;refine vF ((decide (way<2)||decide (st.us.map V.str = [])) && !decide (fr.map V.str = [])) (fun Q' hQ=>?_) (fun H3 s3=>?_)
  ·refine⟨_,rfl,_,_,rfl,rfl,_,rfl,?_⟩;generalize decide (way<2)=w0 at hQ;cases w0 with
   | true=>
    refine lO ?_;dsimp only;refine lO ?_;exact⟨_,rfl,by decide,fun e he=>⟨D,e,_,rfl,rfl,cV.kG (aH.of (ak.new he _ _ Bo)) (aH.of zb),_,rfl,hQ _ (ak.new he)⟩⟩
   | false=>
    refine fj ?_;refine⟨_,rfl,by decide,fun e he=>⟨pu,e,_,rfl,rfl,cV.kG (aH.of (ak.new he _ _ L2.u)) (aH.of zb),_,rfl,?_⟩⟩;generalize decide (st.us.map V.str = [])=w1 at hQ;cases w1 with
    | true=>
     refine lO ?_;exact⟨_,rfl,by decide,fun e' EL=>⟨D,e',_,rfl,rfl,cV.kG (aH.of (ak.new EL _ _ (ak.new he _ _ Bo))) (aH.of zb),_,rfl,hQ _ ((ak.new he).trans (ak.new EL))⟩⟩
    | false=>exact fj (hQ _ (ak.new he))
  have q3:=q2.trans s3;have L3:=L2.same s3;have R3:=R2.same s3;have O3:=O2.same s3;have vY:=s3 _ _ sD;refine cM (fun c1=>?_) (fun c1=>?_)
  ·have iu:fr≠[]:=fun z=>by rw[z] at c1;simp at c1
   obtain⟨x,hx,ex⟩:=HN (c:=c) (k:=1) iu;have oK:x∈xs/\x ∉ st.us:=by
    rw[CB] at hx;have:=cy.mp hx;exact⟨this.1,by simpa using this.2⟩
   have f7:=s3 _ _ Bo;refine⟨_,rfl,.inl ⟨rfl,_,aH.of L3.u⟩,_,rfl,_,rfl,_,rfl,D,_,rfl,.inl (aH.of f7),_,_,_,rfl,by rw[aq];have:=fJ.mpr iu;lia,D,_,_,_,rfl,rfl,aH.of f7,ex,pu,_,_,rfl,rfl,L3.u,by rw[aq];exact jr (by lia),?_⟩;rw[show st.us.map V.str++[V.str x]=(st.us++[x]).map V.str by rw[aL];rfl];have L4:=L3.vS (st.us++[x]);have R4:=R3.lst (ys:=(st.us++[x]).map V.str) L3.u;obtain⟨Bp,oG⟩:=R4.ob
   try dsimp only
   refine⟨_,rfl,p,Bp,_,rfl,oG,qO _ _ _ _ (by decide +kernel),_,rfl,_,rfl,pu,_,_,_,rfl,rfl,aH.of L4.u,by rw[aL];exact Uh _ _,p,pm,du,dt,df,lo,hi,st.us,st.ts,st.fs,af,x,rfl,R4,oK.2,by lia,?_⟩;refine k _ ⟨st.us++[x],st.ts,st.fs⟩ (O3.next wj (ms:=ms) (.unit oK.2) (.unit oK.1) ⟨af,R4.vS⟩ ⟨at',ag,L4.dict R4.u .k⟩ ?_) fun b o e b1 b2 b3 b4 b5 b6=>?_
   ·rw[ze (jE (lQ L3.u _ _ O3.tup) R4.u (fun z=>nomatch z))];exact lQ L3.u _ _ O3.tup
   ·rw[ze b1,ze b4];exact q3 _ _ e
  refine vF (decide (V.int way=V.int 2) && !decide (sp.map V.str = [])) (fun Q' hQ=>?_) (fun H4 s4=>?_)
  ·refine⟨_,rfl,rfl,_,rfl,?_⟩;generalize decide (V.int way=V.int 2)=w0 at hQ;cases w0 with
   | false=>exact fj (hQ _ (ak.refl _))
   | true=>
    refine lO ?_;exact⟨_,rfl,by decide,fun e he=>⟨D2,e,_,rfl,rfl,cV.kG (aH.of (ak.new he _ _ (s3 _ _ hd2))) (aH.of zb),_,rfl,hQ _ (ak.new he)⟩⟩
  have q4:=q3.trans s4;have L4:=L3.same s4;have R4:=R3.same s4;have O4:=O3.same s4;refine cM (fun c2=>?_) (fun c2=>?_)
  ·have rq:sp≠[]:=fun z=>by rw[z] at c2;simp at c2
   have CC:st.us≠[]:=fun z=>by
    rw[z] at c1;have:fr≠[]:=by
     rw[CB,z];intro z2;have:xs.filter (fun x=>!decide (x∈([]:List Str)))=xs:=List.filter_eq_self.mpr fun _ _=>by simp
     rw[this] at z2;rw[z2] at x7;cases x7
    apply c1;simp[this]
   obtain⟨mk,HD,emk⟩:=HN (c:=c) (k:=1) rq;have yE:mk∈ms/\mk ∉ st.fs.map bN.n:=by
    rw[Q3] at HD;have:=cy.mp HD;exact⟨this.1,by simpa using this.2⟩
   have j0:=s4 _ _ (s3 _ _ hd2);refine⟨_,rfl,_,rfl,_,rfl,_,rfl,D2,_,rfl,.inl (aH.of j0),_,_,_,rfl,by rw[aq];have:=fJ.mpr rq;lia,_,rfl,D2,pu,sp,st.us,_,c,mk,rfl,aH.of j0,aH.of L4.u,CC,by lia,emk,Lw _ yE.1,fun a f H5 rO efn fpa ea s5=>?_⟩;subst efn;have q5:=q4.trans s5;have L5:=L4.same s5;have R5:=R4.same s5;have O5:=O4.same s5
   try dsimp only[zy]
   refine⟨_,rfl,.inl ⟨rfl,_,aH.of L5.f⟩,_,rfl,pf,_,_,rfl,rfl,L5.f,by rw[aq];exact jr (by lia),?_⟩;rw[show ag.map V.ref++[V.ref a]=(ag++[a]).map V.ref by rw[aL];rfl];have L7:=L5.rP (st.fs++[f]) (ag++[a]) (by rw[aL];exact bU.snoc L5.ff ea);have R7:=R5.lst (ys:=(ag++[a]).map V.ref) L5.f;have HR:=lQ (ys:=(ag++[a]).map V.ref) L5.f _ _ ea;obtain⟨Lz,LA⟩:=R7.ob
   try dsimp only
   refine⟨_,rfl,p,Lz,_,rfl,LA,qO _ _ _ _ (by decide +kernel),_,rfl,a,_,_,_,rfl,rfl,bx.of HR,rfl,_,rfl,a,_,_,_,rfl,rfl,bx.of HR,rfl,_,rfl,a,_,_,_,rfl,rfl,bx.of HR,rfl,_,rfl,a,_,_,_,rfl,rfl,bx.of HR,rfl,p,pm,du,dt,df,lo,hi,st.us,st.ts,st.fs,af,f,rfl,R7,yE.2,rO.u,by lia,fun b hb=>?_⟩;have t8:=ak.new (o:=.tup (cZ f)) hb;have R8:=R7.same t8;have Q4:=bU.snoc R8.ft (zb (H:=upd H5 pf (.lst ((ag++[a]).map V.ref))) (a:=b) (o:=.tup (cZ f)));rw[show st.fs.map cZ++[cZ f]=(st.fs++[f]).map cZ by rw[aL];rfl] at Q4;refine k _ ⟨st.us,st.ts,st.fs++[f]⟩ (O5.next wj (ms:=ms) (.find yE.2 rO.u) (.find (rO.mono O.sub) yE.1) ⟨af++[b],R8.rP Q4⟩ ⟨at',ag++[a],(L7.same t8).dict R8.f .k⟩ ?_) fun b' o e b1 b2 b3 b4 b5 b6=>?_
   ·have h1:=t8 _ _ (lQ (ys:=(ag++[a]).map V.ref) L5.f _ _ O5.tup);rw[ze (jE h1 R8.f (fun z=>nomatch z))];exact h1
   ·rw[ze b3];refine t8 _ _ ?_;rw[ze b6];exact q5 _ _ e
  refine vF (!decide (st.us.map V.str = [])) (fun Q' hQ=>⟨_,rfl,by decide,fun e he=>⟨pu,e,_,rfl,rfl,cV.kG (aH.of (ak.new he _ _ L4.u)) (aH.of zb),_,rfl,hQ _ (ak.new he)⟩⟩) (fun H5 s5=>?_);have q5:=q4.trans s5;have L5:=L4.same s5;have R5:=R4.same s5;have O5:=O4.same s5;have cP:∀(G:Hp),ak H5 G->Q .cu G:=fun G s=>k G st ((O5.same s).le (by lia)) fun b o e _ _ _ _ _ _=>s _ _ (q5 _ _ e)
  refine cM (fun c3=>?_) (fun c3=>cP _ (ak.refl _));have CC:st.us≠[]:=fun z=>by rw[z] at c3;simp at c3
  refine⟨_,rfl,pn,rfl,⟨_,q5.seq hn⟩,fun D9 Q5=>?_⟩;refine qa (tH (K:=K) (a:=pn) (xs:=xs.map V.str)) (fun i aI ys H'=>∃w0,aI = [w0,some (.ref pu)]/\ys=((xs.take i).filter fun x=>decide (x∈st.us)).map V.str/\ak H5 H'/\H' D9=some (.lst ys))
   ⟨none,rfl,by simp,ak.new Q5,zb⟩ (fun i aI ys H' h=>?_) (by rw[aq];exact lP (by lia)) ?_ ?_
  ·obtain⟨_,_,rfl,q,hd⟩:=h;refine⟨(q5.trans q).seq hn,hd,?_⟩;rw[aq];exact bH (e7 _ _) (by rw[bw];lia)
  ·rintro i v aI ys H6 hx ⟨w0,rfl,rfl,q6,hd⟩;have c6:=iy hx;rw[aq] at c6;have ex:xs[i]? = some xs[i]:=aV c6;rw[aN,ex] at hx;cases hx;generalize xs[i]=x at ex
   try dsimp only[zy]
   refine⟨_,rfl,_,rfl,pu,_,rfl,.inl (aH.of (q6 _ _ L5.u)),rfl,HJ,_,rfl,?_⟩;rw[ao bJ,Co];refine cM (fun c=>?_) (fun c=>?_)
   ·refine⟨_,rfl,hd,mG (by rw[aq];exact c6) ⟨_,rfl,?_,q6.upd Q5,zb⟩⟩;rw[zP _ ex,av c,aL];rfl
   ·refine⟨hd,mG (by rw[aq];exact c6) ⟨_,rfl,?_,q6,hd⟩⟩;rw[zP _ ex,ao c,fL]
  rintro aI ys H5' ⟨Lx,rfl,rfl,HS,LB⟩;rw[aq,bh] at LB;obtain⟨un,LC⟩:∃un,un=xs.filter fun x=>decide (x∈st.us):=⟨_,rfl⟩
  rw[←LC] at LB;have unu:∀x∈un,x∈st.us:=fun x hx=>by rw[LC] at hx;exact bG (cy.mp hx).2
  have une:un≠[]:=fun z=>by
   obtain⟨x,r,Q6⟩:∃x r,st.us=x::r:=by
    cases e:st.us with
    | nil=>exact absurd e CC
    | cons x r=>exact⟨x,r,rfl⟩
   have hx:x∈un:=by rw[LC];exact cy.mpr ⟨O.sub x (by rw[Q6];exact e8 ..),aP (by rw[Q6];exact e8 ..)⟩
   rw[z] at hx;cases hx
  have q5:=q5.trans HS;have L5:=L5.same HS;have R5:=R5.same HS;have O5:=O5.same HS;have cP:∀(G:Hp),ak H5' G->Q .cu G:=fun G s=>k G st ((O5.same s).le (by lia)) fun b o e _ _ _ _ _ _=>s _ _ (q5 _ _ e)
  refine⟨_,rfl,D9,un,c,rfl,aH.of LB,fJ.mpr une,fun a t H6 tok fa ha s6=>?_⟩;have tok:=tok.mono unu;have q6:=q5.trans s6;have L6:=L5.same s6;have R6:=R5.same s6;have O6:=O5.same s6;have hw:=(tok.ok.words O.ok.nm).1
  try dsimp only[zy]
  refine⟨_,rfl,_,rfl,jK,_,_,rfl,.inl (aH.of L6.t),L6.tt.VO (n:=7) O.ok.tw ha hw,_,rfl,?_⟩;rw[av rfl,L6.tt.Kc];refine cM (fun c4=>?_) (fun c4=>cP _ s6);have ht:t ∉ st.ts:=fun z=>by
   have:aW t∈st.ts.map aW:=aK.mpr ⟨t,z,rfl⟩;simp[this] at c4
  refine⟨_,rfl,.inl ⟨rfl,_,aH.of L6.t⟩,_,rfl,jK,_,_,rfl,rfl,L6.t,by rw[aq];exact jr (by lia),?_⟩;rw[show at'.map V.ref++[V.ref a]=(at'++[a]).map V.ref by rw[aL];rfl];have L7:=L6.vU (st.ts++[t]) (at'++[a]) (by rw[aL];exact bU.snoc L6.tt ha);have R7:=R6.lst (ys:=(at'++[a]).map V.ref) L6.t;have ha7:=lQ (ys:=(at'++[a]).map V.ref) L6.t _ _ ha;obtain⟨Lz,LA⟩:=R7.ob
  try dsimp only
  refine⟨_,rfl,p,Lz,_,rfl,LA,qO _ _ _ _ (by decide +kernel),_,rfl,p,pm,du,dt,df,a,lo,hi,st.us,st.ts,st.fs,af,t,rfl,R7,O.ok,ha7,tok,ht,by lia,?_⟩;refine k _ ⟨st.us,st.ts++[t],st.fs⟩ (O6.next wj (ms:=ms) (.xr tok.a tok.b ht) (.xr (tok.mono O.sub)) ⟨af,R7.vU⟩ ⟨at'++[a],ag,L7.dict R7.t .t⟩ ?_) fun b o e b1 b2 b3 b4 b5 b6=>?_
  ·have h1:=lQ (ys:=(at'++[a]).map V.ref) L6.t _ _ O6.tup;rw[ze (jE h1 R7.t (fun z=>nomatch z))];exact h1
  ·rw[ze b2,ze b5];exact q6 _ _ e
inductive uq(vs:List V)(H:Hp)(Q:VK):Prop
 | mk (p pm du dt df ps pu pt pf:ah) (lo hi:Int) (xs:List Str) (s:SD) (n:Nat) (c:Int) (_:vs = [.ref p,.ref ps,.int c]) (_:eT C_Dig K H p pm du dt df ps pu pt pf lo hi xs s n) (_:n<=300) (_:(∀x∈xs,qK x=true)) (_:∀(H':Hp)(s':SD),eT C_Dig K H' p pm du dt df ps pu pt pf lo hi xs s' (n+1)->HK H H' du dt df pu pt pf->Q .cu H')
def zvk:Sp:=fun vs H Q _=>uq (C_Dig:=C_Dig) (K:=K) vs H Q
theorem LD{l:Nat}{c k:Int}(h:0<l):∃j:Nat,pt c k (l:Int)=(j:Int)/\j<l:=by
 have hb:=qq c k (l:Int) (by lia);exact⟨(pt c k (l:Int)).toNat,by lia,by lia⟩
theorem Bq{H:Hp}{ag:List ah}{fs:List bN}{j:Nat}(t:bU H ag (fs.map cZ))(hj:j<fs.length):∃r f,ag[j]? = some r/\fs[j]? = some f/\H r=some (.tup (cZ f)):=by
 have l1:=t.len;rw[aq] at l1;have e1:ag[j]? = some (ag[j]'(by lia)):=aV (by lia);have e2:fs[j]? = some fs[j]:=aV hj;obtain⟨ws,h1,h2⟩:=Paired.get' t e1;rw[aN,e2] at h1;cases h1;exact⟨_,_,e1,e2,h2⟩
theorem Br{H:Hp}{at':List ah}{ts:List aT}{j:Nat}(t:bU H at' (ts.map aW))(hj:j<ts.length):∃r u,at'[j]? = some r/\ts[j]? = some u/\H r=some (.tup (aW u)):=by
 have l1:=t.len;rw[aq] at l1;have e1:at'[j]? = some (at'[j]'(by lia)):=aV (by lia);have e2:ts[j]? = some ts[j]:=aV hj;obtain⟨ws,h1,h2⟩:=Paired.get' t e1;rw[aN,e2] at h1;cases h1;exact⟨_,_,e1,e2,h2⟩
theorem zyz{ts:List aT}{fs:List bN}{x:Str}(h:x ∉ ts.map aT.a++ts.map aT.b++fs.map bN.u):yz ts fs x=false:=by
 rw[bz,bz] at h;unfold yz;rw[Bool.or_eq_false_iff,List.any_eq_false,List.any_eq_false];refine⟨fun t ht z=>h (.inl ?_),fun f hf z=>h (.inr ?_)⟩
 ·unfold zN at z;rw[show[V.str t.a,V.str t.b] = [t.a,t.b].map V.str from rfl,Co] at z;have:=bG z;simp at this;rcases this with rfl | rfl
  ·exact .inl (aK.mpr ⟨t,ht,rfl⟩)
  ·exact .inr (aK.mpr ⟨t,ht,rfl⟩)
 ·unfold EU at z;rw[V.str.inj (bG z)];exact aK.mpr ⟨f,hf,rfl⟩
theorem HU{s t:TS}{D:Ends}{σ:St}{H:Hp}(h:∀N:St->Hp->Prop,(∀aI H',t D aI H'->N aI H')->s { D with nx:=N } σ H):xF s t D σ H:=h _ fun _ _ q=>q
theorem zld(T:Tx K mg w C_Dig zk zq zg zv zo zw zp zx):gk P w K mg base "_law_taken" ["_law_dig","_law_stands","_law_cell"] 4 (zvk (C_Dig:=C_Dig) (K:=K)):=by
 refine T.zlk.has bM (fun vs H Q E h=>?_) (fun f bY A outer s H vs Q E hr h=>?_)
 ·obtain⟨p,pm,du,dt,df,ps,pu,jK,pf,lo,hi,xs,s,n,c,rfl,_⟩:=h;rfl
 ·obtain⟨p,pm,du,dt,df,ps,pu,jK,pf,lo,hi,xs,st,n,c,rfl,O,n3,wj,k⟩:=h;refine⟨_,(zc (IT (pv 1) (vE K rfl rfl (mD (gE (i:=3) bM.nd) (mD (gE (i:=4) bM.nd) (mD (gE (i:=5) bM.nd) u9)))))
   (zc (sset (i:=6) bM.nd (b7 (zz T) (za (pv 2) (za zi (za zi zd)))))
   (zc (sset (i:=7) bM.nd (fR (K6 K rfl) (fR (K6 K rfl) (sI (own:=["_law_tie_here"]) (cap:=[]) (ix:=[]) (gA:=zm (top 53)) rfl ⟨rfl,by decide +kernel,by decide +kernel,by decide +kernel,by decide +kernel⟩ rfl (jG K rfl (pv 4)) (fun _ _ _ _=>nX (i:=0) (show List.Nodup (["_law_tie_here"]:List Str) by decide +kernel) rfl (Or.inl rfl)) (fun _ _ _ _=>sH) (fun _ _ _ _=>(bP (zr K rfl) (pv 0) zi))) (sI (own:=["_law_tie_here"]) (cap:=[]) (ix:=[]) (gA:=zm (top 53)) rfl ⟨rfl,by decide +kernel,by decide +kernel,by decide +kernel,by decide +kernel⟩ rfl (jG K rfl (pv 4)) (fun _ _ _ _=>nX (i:=0) (show List.Nodup (["_law_tie_here"]:List Str) by decide +kernel) rfl (Or.inl rfl)) (fun _ _ _ _=>sH) (fun _ _ _ _=>(bP (zr K rfl) (pv 0) zi)))) (sI (own:=["_law_find_here"]) (cap:=[]) (ix:=[]) (gA:=zm (top 53)) rfl ⟨rfl,by decide +kernel,by decide +kernel,by decide +kernel,by decide +kernel⟩ rfl (jG K rfl (pv 5)) (fun _ _ _ _=>nX (i:=0) (show List.Nodup (["_law_find_here"]:List Str) by decide +kernel) rfl (Or.inl rfl)) (fun _ _ _ _=>sH) (fun _ _ _ _=>(bP (zr K rfl) (pv 0) zi)))))
   (zc (GG (i:=8) (own:=["_law_name"]) (cap:=["_law_used"]) (ix:=[7]) (gA:=zm (top 53)) rfl bM.nd rfl rfl rfl ⟨rfl,by decide +kernel,by decide +kernel,by decide +kernel,by decide +kernel⟩ rfl (jG K rfl (pv 3)) (fun _ _ _ _=>nX (i:=0) (show List.Nodup (["_law_name","_law_used"]:List Str) by decide +kernel) rfl (Or.inl rfl)) (fun _ _ _ _=>DP (fh (J0 K rfl) (pv 0) (pv 1) (by with_unfolding_all rfl))) (fun _ _ _ _=>(pv 0)))
   (zh (gR (PW.pt (xE (fh su (pv 6) zi (fV _)) (xD (fh (sJ K rfl (iM hr)) (pv 5) (gZ zd) (fV _))))) (zc (sset (i:=9) bM.nd (b7 (zz T) (za (pv 2) (za zi (za (ji (qI K rfl) (by rfl) T.len cH (za (pv 5) zd)) zd)))))
    (zc (sset (i:=10) bM.nd (bP (lZ K rfl) (pv 3) (b7 (zz T) (za (pv 2) (za zi (za (ji (qI K rfl) (by rfl) T.len cH (za (pv 3) zd)) zd))))))
    (zc (IT (ko (za (bP (zr K rfl) (bP (lZ K rfl) (pv 5) (pv 9)) zi) (za (pv 10) (za (bP (zr K rfl) (bP (lZ K rfl) (pv 5) (pv 9)) zi) (za (bP (zr K rfl) (bP (lZ K rfl) (pv 5) (pv 9)) zi) zd))))) (SV (pv 5) (pv 9) Uq))
    (zh (ig (rF (zg2 T) T.g8 (hr.mono (by decide)) (pv 0) (za (bP (zr K rfl) (bP (lZ K rfl) (pv 5) (pv 9)) zi) (za (pv 10) zd)))))))) (zh (gR (PW.pt (xE (fh su (pv 6) zi (fV _)) (xD (fh (sJ K rfl (iM hr)) (pv 5) (gZ zd) (fV _))))) (zh (ig (rF (zg3 T) T.g8 (hr.mono (by decide)) (pv 0) (za (bP (zr K rfl) (rE K rfl PySem.F.plainAttrs_list PySem.F.slot_list_pop PySem.F.type_list_pop Nl (pv 5) (za (b7 (zz T) (za (pv 2) (za zi (za (ji (qI K rfl) (by rfl) T.len cH (za (pv 5) zd)) zd)))) zd)) zi) zd)))) (zh (gR (PW.pt (xE (fh su (pv 6) zi (fV _)) (xD (fh (sJ K rfl (iM hr)) (pv 4) (gZ zd) (fV _))))) (zh (ig (rF (zhq T) T.g8 (hr.mono (by decide)) (pv 0) (za (rE K rfl PySem.F.plainAttrs_list PySem.F.slot_list_pop PySem.F.type_list_pop Nl (pv 4) (za (b7 (zz T) (za (pv 2) (za zi (za (ji (qI K rfl) (by rfl) T.len cH (za (pv 4) zd)) zd)))) zd)) zd)))) (zh (gR (fh (sJ K rfl (iM hr)) (pv 8) (gZ zd) (fV _)) (zc (ig (rE K rfl PySem.F.plainAttrs_list PySem.F.slot_list_remove PySem.F.type_list_remove YU (pv 3) (za (bP (lZ K rfl) (pv 8) zi) zd)))
       (zh (ig (rF (zgz T) T.g8 (hr.mono (by decide)) (pv 0) (za (bP (lZ K rfl) (pv 8) zi) zd))))) jc)))))))))))),?_⟩
  obtain⟨af,R⟩:=O.dig;obtain⟨at',ag,L⟩:=O.ls;obtain⟨b1,b2,b3⟩:=O.len;have lt':=L.Be;have CA:=L.fZ;refine HU fun N kN=>?_
  refine⟨_,rfl,ps,_,rfl,bx.of O.tup,rfl,_,_,rfl,_,_,rfl,_,_,rfl,rfl,kN _ _ ?_⟩;clear N kN
  try dsimp only[zy]
  refine HU fun N kN=>?_
  refine⟨_,rfl,_,_,_,rfl,by decide,kN _ _ ?_⟩;clear N kN;generalize pt c 13 4=way
  try dsimp only[zy]
  refine HU fun N kN=>?_
  refine⟨_,rfl,jK,rfl,⟨_,aH.of L.t⟩,fun A hA=>?_⟩;refine qa (tH (K:=K) (a:=jK) (xs:=at'.map V.ref)) (fun i aI ys H'=>∃w0,aI = [w0]/\ys=((st.ts.take i).map aT.a).map V.str/\ak H H'/\H' A=some (.lst ys))
   ⟨none,rfl,by simp,ak.new hA,zb⟩ (fun i aI ys H' h=>?_) (by rw[aq];exact lP (by lia)) ?_ ?_
  ·obtain⟨_,_,rfl,q,hd⟩:=h;refine⟨aH.of (q _ _ L.t),hd,?_⟩;rw[aq,aq,bw];lia
  ·rintro i v aI ys H' hx ⟨w0,rfl,rfl,q',pY⟩;have c6:=iy hx;rw[aq] at c6;obtain⟨r,u,oX,hu,hr⟩:=Br (L.tt.same q') (j:=i) (by lia);rw[aN,oX] at hx;cases hx
   try dsimp only[zy]
   unfold kD;dsimp only;rw[av rfl];refine⟨_,rfl,r,_,_,_,rfl,rfl,bx.of hr,GP u,pY,mG (by rw[aq];exact c6) ⟨_,rfl,?_,q'.upd hA,zb⟩⟩;rw[aS,hu,aL,aL];rfl
  rintro aI ys G1 ⟨w0,rfl,rfl,sA,eA⟩;rw[aq,lt',bh] at eA;have L1:=L.same sA;refine⟨_,rfl,jK,rfl,⟨_,aH.of L1.t⟩,fun B hB=>?_⟩;refine qa (tH (K:=K) (a:=jK) (xs:=at'.map V.ref)) (fun i aI ys H'=>∃w0,aI = [w0]/\ys=((st.ts.take i).map aT.b).map V.str/\ak G1 H'/\H' B=some (.lst ys))
   ⟨none,rfl,by simp,ak.new hB,zb⟩ (fun i aI ys H' h=>?_) (by rw[aq];exact lP (by lia)) ?_ ?_
  ·obtain⟨_,_,rfl,q,hd⟩:=h;refine⟨aH.of (q _ _ L1.t),hd,?_⟩;rw[aq,aq,bw];lia
  ·rintro i v aI ys H' hx ⟨w0,rfl,rfl,q',pY⟩;have c6:=iy hx;rw[aq] at c6;obtain⟨r,u,oX,hu,hr⟩:=Br (L1.tt.same q') (j:=i) (by lia);rw[aN,oX] at hx;cases hx
   try dsimp only[zy]
   unfold kD;dsimp only;rw[av rfl];refine⟨_,rfl,r,_,_,_,rfl,rfl,bx.of hr,GQ u,pY,mG (by rw[aq];exact c6) ⟨_,rfl,?_,q'.upd hB,zb⟩⟩;rw[aS,hu,aL,aL];rfl
  rintro aI ys G2 ⟨w0,rfl,rfl,sB,eB⟩;rw[aq,lt',bh] at eB;have L2:=L1.same sB;refine⟨A,B,_,_,rfl,rfl,aH.of (sB _ _ eA),aH.of eB,by rw[aq,aq,aq,aq];exact lP (by lia),fun U hU=>?_⟩;have sU:=ak.new (o:=.lst ((st.ts.map aT.a).map V.str++(st.ts.map aT.b).map V.str)) hU;have L3:=L2.same sU;refine⟨_,rfl,pf,rfl,⟨_,aH.of L3.f⟩,fun E hE=>?_⟩;refine qa (tH (K:=K) (a:=pf) (xs:=ag.map V.ref)) (fun i aI ys H'=>∃w0,aI = [w0]/\ys=((st.fs.take i).map bN.u).map V.str/\ak (upd G2 U (.lst ((st.ts.map aT.a).map V.str++(st.ts.map aT.b).map V.str))) H'/\H' E=some (.lst ys))
   ⟨none,rfl,by simp,ak.new hE,zb⟩ (fun i aI ys H' h=>?_) (by rw[aq];exact lP (by lia)) ?_ ?_
  ·obtain⟨_,_,rfl,q,hd⟩:=h;refine⟨aH.of (q _ _ L3.f),hd,?_⟩;rw[aq,aq,bw];lia
  ·rintro i v aI ys H' hx ⟨w0,rfl,rfl,q',pY⟩;have c6:=iy hx;rw[aq] at c6;obtain⟨r,u,oX,hu,hr⟩:=Bq (L3.ff.same q') (j:=i) (by lia);rw[aN,oX] at hx;cases hx
   try dsimp only[zy]
   unfold kD;dsimp only;rw[av rfl];refine⟨_,rfl,r,_,_,_,rfl,rfl,bx.of hr,rfl,pY,mG (by rw[aq];exact c6) ⟨_,rfl,?_,q'.upd hE,zb⟩⟩;rw[aS,hu,aL,aL];rfl
  rintro aI ys G3 ⟨w0,rfl,rfl,sE,eE⟩;rw[aq,CA,bh] at eE;refine⟨U,E,_,_,rfl,rfl,aH.of (sE _ _ zb),aH.of eE,by rw[cG,aq,aq,aq,aq,aq,aq];exact lP (by lia),fun W hW=>?_⟩;obtain⟨ud,Q7⟩:∃ud,ud=st.ts.map aT.a++st.ts.map aT.b++st.fs.map bN.u:=⟨_,rfl⟩;rw[←aL,←aL,←Q7];have t4:=((sA.trans sB).trans (sU.trans sE)).trans (ak.new (o:=.lst (ud.map V.str)) hW);have eW:upd G3 W (.lst (ud.map V.str)) W=some (.lst (ud.map V.str)):=zb;generalize upd G3 W (.lst (ud.map V.str))=G4 at t4 eW;have L4:=L.same t4;refine kN _ _ ?_;clear N kN
  try dsimp only[zy]
  refine HU fun N kN=>?_
  refine⟨_,rfl,pu,rfl,⟨_,aH.of L4.u⟩,fun D HV=>?_⟩;have Dpu:D≠pu:=fun z=>by rw[z,L4.u] at HV;cases HV
  refine qa (tH (K:=K) (a:=pu) (xs:=st.us.map V.str)) (fun i aI ys H'=>∃w0,aI = [w0,some (.ref W)]/\ys=((st.us.take i).filter fun x=>!decide (x∈ud)).map V.str/\ak G4 H'/\H' D=some (.lst ys))
   ⟨none,rfl,by simp,ak.new HV,zb⟩ (fun i aI ys H' h=>?_) (by rw[aq];exact lP (by lia)) ?_ ?_
  ·obtain⟨_,_,rfl,q,hd⟩:=h;refine⟨aH.of (q _ _ L4.u),hd,?_⟩;rw[aq];exact bH (e7 _ _) (by rw[bw];lia)
  ·rintro i v aI ys H1 hx ⟨w0,rfl,rfl,q1,hd⟩;have c6:=iy hx;rw[aq] at c6;have ex:st.us[i]? = some st.us[i]:=aV c6;rw[aN,ex] at hx;cases hx;generalize st.us[i]=x at ex
   try dsimp only[zy]
   refine⟨_,rfl,_,rfl,W,_,rfl,.inl (aH.of (q1 _ _ eW)),rfl,HJ,_,rfl,?_⟩;rw[av rfl,Co];refine cM (fun c=>?_) (fun c=>?_)
   ·refine⟨_,rfl,hd,mG (by rw[aq];exact c6) ⟨_,rfl,?_,q1.upd HV,zb⟩⟩;rw[zP _ ex,av c,aL];rfl
   ·refine⟨hd,mG (by rw[aq];exact c6) ⟨_,rfl,?_,q1,hd⟩⟩;rw[zP _ ex,ao c,fL]
  rintro aI ys H1 ⟨w0,rfl,rfl,s5,hD⟩;rw[aq,bh] at hD;have s1:=t4.trans s5;obtain⟨fr,CB⟩:∃fr,fr=st.us.filter fun x=>!decide (x∈ud):=⟨_,rfl⟩
  rw[←CB] at hD;have L1:=L.same s1;have R1:=R.same s1;have O1:=O.same s1;refine kN _ _ ?_;clear N kN
  try dsimp only[zy]
  refine vF (decide (V.int way=V.int 0) && !decide (ag.map V.ref = [])) (fun Q' hQ=>?_) (fun H2 s2=>?_)
  ·refine⟨_,rfl,rfl,_,rfl,?_⟩;generalize decide (V.int way=V.int 0)=w0 at hQ;cases w0 with
   | false=>exact fj (hQ _ (ak.refl _))
   | true=>
    refine lO ?_;exact⟨_,rfl,by decide,fun e he=>⟨pf,e,_,rfl,rfl,cV.kG (aH.of (ak.new he _ _ L1.f)) (aH.of zb),_,rfl,hQ _ (ak.new he)⟩⟩
  have q2:=s1.trans s2;have L2:=L1.same s2;have R2:=R1.same s2;have O2:=O1.same s2;refine cM (fun c1=>?_) (fun c1=>?_)
  ·have LF:ag≠[]:=fun z=>by rw[z] at c1;simp at c1
   have lg:=fJ.mpr LF;obtain⟨j,ej,hj⟩:=LD (l:=ag.length) (c:=c) (k:=1) lg;obtain⟨r,f,oX,zS,Fd⟩:=Bq L2.ff (j:=j) (by lia);have HW:f.u∈st.us:=(O.ok.rO f (bC zS)).u;have CC:st.us≠[]:=fun z=>by rw[z] at HW;cases HW
   obtain⟨x,hx,ex⟩:=HN (c:=c) (k:=2) CC;have LG:kB (ag.map V.ref) (j:Int)=some (.ref r):=tE (by rw[aN,oX];rfl);refine⟨_,rfl,_,rfl,pf,_,rfl,.inl (aH.of L2.f),_,_,_,rfl,by rw[aq];lia,?_⟩;rw[aq,ej]
   try dsimp only[zy]
   refine⟨_,rfl,_,rfl,_,rfl,pu,_,rfl,.inl (aH.of L2.u),_,_,_,rfl,by rw[aq];have:=fJ.mpr CC;lia,pu,_,_,_,rfl,rfl,aH.of L2.u,ex,?_⟩
   try dsimp only[zy]
   have hf:bx K H2 r (cZ f):=bx.of Fd;refine⟨_,rfl,_,rfl,pf,_,_,_,rfl,rfl,aH.of L2.f,LG,r,_,_,_,rfl,rfl,hf,rfl,_,rfl,_,rfl,_,rfl,pf,_,_,_,rfl,rfl,aH.of L2.f,LG,r,_,_,_,rfl,rfl,hf,rfl,_,rfl,_,rfl,pf,_,_,_,rfl,rfl,aH.of L2.f,LG,r,_,_,_,rfl,rfl,hf,rfl,by show 4<=sizeLine;decide,fun a ha=>?_⟩;have t3:=ak.new (o:=.tup (cZ ⟨f.n,x,f.lo,f.hi⟩)) ha;have L3:=L2.same t3;have R3:=R2.same t3;have O3:=O2.same t3;have ea:upd H2 a (.tup (cZ ⟨f.n,x,f.lo,f.hi⟩)) a=some (.tup (cZ ⟨f.n,x,f.lo,f.hi⟩)):=zb;refine⟨_,rfl,_,rfl,pf,_,_,j,rfl,rfl,L3.f,Qc (by rw[aq];lia),?_⟩;rw[show(ag.map V.ref).set j (V.ref a)=(ag.set j a).map V.ref by rw[List.map_set]];have L4:=L3.rP (st.fs.set j ⟨f.n,x,f.lo,f.hi⟩) (ag.set j a) (Qa L3.ff zS ea);have R4:=R3.lst (ys:=(ag.set j a).map V.ref) L3.f;have ea4:=lQ (ys:=(ag.set j a).map V.ref) L3.f _ _ ea;have at4:kB ((ag.set j a).map V.ref) (j:Int)=some (.ref a):=tE (by rw[aN,qS hj];rfl);obtain⟨Bp,oG⟩:=R4.ob
   try dsimp only
   refine⟨_,rfl,p,Bp,_,rfl,oG,qO _ _ _ _ (by decide +kernel),_,rfl,_,rfl,pf,_,_,_,rfl,rfl,aH.of L4.f,at4,a,_,_,_,rfl,rfl,bx.of ea4,rfl,_,rfl,p,pm,du,dt,df,lo,hi,st.us,st.ts,st.fs,af,f,j,x,rfl,R4,O.ok,zS,hx,by lia,fun b H5 s5 hb eb=>?_⟩;have R5:=R4.same s5;refine k _ ⟨st.us,st.ts,st.fs.set j ⟨f.n,x,f.lo,f.hi⟩⟩ (O3.next wj (ms:=[f.n]) (.move zS hx) (.move (iT.mpr rfl) (O.sub x hx)) ⟨af.set j b,R5.rP (Qa R5.ft zS eb)⟩ ⟨at',ag.set j a,(L4.same s5).dict R5.f .k⟩ ?_) fun b' o e b1 b2 b3 b4 b5 b6=>?_
   ·have h1:=s5 _ _ (lQ (ys:=(ag.set j a).map V.ref) L3.f _ _ O3.tup);rw[ze (jE h1 R5.f (fun z=>nomatch z))];exact h1
   ·rw[ze b3];refine s5 _ _ ?_;rw[ze b6];exact t3 _ _ (q2 _ _ e)
  refine vF (decide (V.int way=V.int 1) && !decide (ag.map V.ref = [])) (fun Q' hQ=>?_) (fun H3 s3=>?_)
  ·refine⟨_,rfl,rfl,_,rfl,?_⟩;generalize decide (V.int way=V.int 1)=w0 at hQ;cases w0 with
   | false=>exact fj (hQ _ (ak.refl _))
   | true=>
    refine lO ?_;exact⟨_,rfl,by decide,fun e he=>⟨pf,e,_,rfl,rfl,cV.kG (aH.of (ak.new he _ _ L2.f)) (aH.of zb),_,rfl,hQ _ (ak.new he)⟩⟩
  have q3:=q2.trans s3;have L3:=L2.same s3;have R3:=R2.same s3;have O3:=O2.same s3;refine cM (fun c2=>?_) (fun c2=>?_)
  ·have LF:ag≠[]:=fun z=>by rw[z] at c2;simp at c2
   have lg:=fJ.mpr LF;obtain⟨j,ej,hj⟩:=LD (l:=ag.length) (c:=c) (k:=1) lg;obtain⟨r,f,oX,zS,hr3⟩:=Bq L3.ff (j:=j) (by lia);obtain⟨dx3,vY⟩:=R3.ob;refine⟨_,rfl,p,dx3,_,rfl,vY,qO _ _ _ _ (by decide +kernel),_,rfl,.inl ⟨rfl,_,aH.of L3.f⟩,_,rfl,_,rfl,pf,_,rfl,.inl (aH.of L3.f),_,_,_,rfl,by rw[aq];lia,?_⟩;rw[aq,ej];refine⟨pf,_,_,j,.ref r,rfl,rfl,L3.f,by lia,by lia,Qd (by rw[aq];lia),by rw[aN,oX];rfl,?_⟩;rw[qw.dO];have L4:=L3.rP (st.fs.eraseIdx j) (ag.eraseIdx j) (zev L3.ff);have R4:=R3.lst (ys:=(ag.eraseIdx j).map V.ref) L3.f;have yF:=lQ (ys:=(ag.eraseIdx j).map V.ref) L3.f _ _ hr3;refine⟨r,_,_,_,rfl,rfl,bx.of yF,rfl,p,pm,du,dt,df,lo,hi,st.us,st.ts,st.fs,af,f,j,rfl,R4,O.ok,zS,?_⟩;refine k _ ⟨st.us,st.ts,st.fs.eraseIdx j⟩ (O3.next wj (ms:=[f.n]) (.pX zS) (.pX (iT.mpr rfl)) ⟨af.eraseIdx j,R4.rP (zev R4.ft)⟩ ⟨at',ag.eraseIdx j,L4.dict R4.f .k⟩ ?_) fun b' o e b1 b2 b3 b4 b5 b6=>?_
   ·have h1:=lQ (ys:=(ag.eraseIdx j).map V.ref) L3.f _ _ O3.tup;rw[ze (jE h1 R4.f (fun z=>nomatch z))];exact h1
   ·rw[ze b3,ze b6];exact q3 _ _ e
  refine vF (decide (V.int way=V.int 2) && !decide (at'.map V.ref = [])) (fun Q' hQ=>?_) (fun H4 s4=>?_)
  ·refine⟨_,rfl,rfl,_,rfl,?_⟩;generalize decide (V.int way=V.int 2)=w0 at hQ;cases w0 with
   | false=>exact fj (hQ _ (ak.refl _))
   | true=>
    refine lO ?_;exact⟨_,rfl,by decide,fun e he=>⟨jK,e,_,rfl,rfl,cV.kG (aH.of (ak.new he _ _ L3.t)) (aH.of zb),_,rfl,hQ _ (ak.new he)⟩⟩
  have q4:=q3.trans s4;have L4:=L3.same s4;have R4:=R3.same s4;have O4:=O3.same s4;refine cM (fun c3=>?_) (fun c3=>?_)
  ·have A0:at'≠[]:=fun z=>by rw[z] at c3;simp at c3
   have lg:=fJ.mpr A0;obtain⟨j,ej,hj⟩:=LD (l:=at'.length) (c:=c) (k:=1) lg;obtain⟨r,t,oX,LH,yF⟩:=Br L4.tt (j:=j) (by lia);obtain⟨Bp,oG⟩:=R4.ob;refine⟨_,rfl,p,Bp,_,rfl,oG,qO _ _ _ _ (by decide +kernel),_,rfl,.inl ⟨rfl,_,aH.of L4.t⟩,_,rfl,_,rfl,jK,_,rfl,.inl (aH.of L4.t),_,_,_,rfl,by rw[aq];lia,?_⟩;rw[aq,ej];refine⟨jK,_,_,j,.ref r,rfl,rfl,L4.t,by lia,by lia,Qd (by rw[aq];lia),by rw[aN,oX];rfl,?_⟩;rw[qw.dO];have L5:=L4.vU (st.ts.eraseIdx j) (at'.eraseIdx j) (zev L4.tt);have R5:=R4.lst (ys:=(at'.eraseIdx j).map V.ref) L4.t;have uV:=lQ (ys:=(at'.eraseIdx j).map V.ref) L4.t _ _ yF;refine⟨p,pm,du,dt,df,r,lo,hi,st.us,st.ts,st.fs,af,t,j,rfl,R5,O.ok,uV,LH,?_⟩;refine k _ ⟨st.us,st.ts.eraseIdx j,st.fs⟩ (O4.next wj (ms:=[]) (.kP LH) (.kP ((O.ok.tok t (bC LH)).mono O.sub)) ⟨af,R5.vU⟩ ⟨at'.eraseIdx j,ag,L5.dict R5.t .t⟩ ?_) fun b' o e b1 b2 b3 b4 b5 b6=>?_
   ·have h1:=lQ (ys:=(at'.eraseIdx j).map V.ref) L4.t _ _ O4.tup;rw[ze (jE h1 R5.t (fun z=>nomatch z))];exact h1
   ·rw[ze b2,ze b5];exact q4 _ _ e
  have Q8:=s4 _ _ (s3 _ _ (s2 _ _ hD));refine vF (!decide (fr.map V.str = [])) (fun Q' hQ=>⟨_,rfl,by decide,fun e he=>⟨D,e,_,rfl,rfl,cV.kG (aH.of (ak.new he _ _ Q8)) (aH.of zb),_,rfl,hQ _ (ak.new he)⟩⟩) (fun H5 s5=>?_);have q5:=q4.trans s5;have L5:=L4.same s5;have R5:=R4.same s5;have O5:=O4.same s5;refine cM (fun c4=>?_) (fun c4=>k _ st (O5.le (by lia)) fun b o e _ _ _ _ _ _=>q5 _ _ e);obtain⟨x,fr',Ad⟩:∃x r,fr=x::r:=by
   cases e:fr with
   | nil=>rw[e] at c4;simp at c4
   | cons x r=>exact⟨x,r,rfl⟩
  have oK:x∈st.us/\yz st.ts st.fs x=false:=by
   have hx:x∈fr:=by rw[Ad];exact e8 ..
   rw[CB] at hx;have:=cy.mp hx;exact⟨this.1,zyz (by rw[←Q7];simpa using this.2)⟩
  have GF:=s5 _ _ Q8;have ex:kB (fr.map V.str) 0=some (.str x):=by rw[Ad];exact D8
  obtain⟨j,hj,ejx⟩:=List.getElem_of_mem oK.1;have LI:st.us[j]? = some x:=by rw[aV hj,ejx]
  refine⟨_,rfl,.inl ⟨rfl,_,aH.of L5.u⟩,_,rfl,D,_,_,_,rfl,rfl,aH.of GF,ex,pu,st.us,x,j,rfl,rfl,L5.u,LI,O.ok.nd,?_⟩;have L6:=L5.vS (st.us.eraseIdx j);have R6:=R5.lst (ys:=(st.us.eraseIdx j).map V.str) L5.u;obtain⟨dx6,Cz⟩:=R6.ob
  try dsimp only
  have hD6:upd H5 pu (.lst ((st.us.eraseIdx j).map V.str)) D=some (.lst (fr.map V.str)):=by rw[ze Dpu];exact GF
  refine⟨_,rfl,p,dx6,_,rfl,Cz,qO _ _ _ _ (by decide +kernel),_,rfl,D,_,_,_,rfl,rfl,aH.of hD6,ex,p,pm,du,dt,df,lo,hi,st.us,st.ts,st.fs,af,x,j,rfl,R6,O.ok,by lia,by lia,LI,oK.2,fun H7 s7=>?_⟩;have R7:=R6.same s7;refine k _ ⟨st.us.eraseIdx j,st.ts,st.fs⟩ (O5.next wj (ms:=[]) (.drop LI oK.2) (.drop (O.sub x oK.1)) ⟨af,R7.vS⟩ ⟨at',ag,(L6.same s7).dict R7.u .k⟩ ?_) fun b' o e b1 b2 b3 b4 b5 b6=>?_
  ·have h1:=s7 _ _ (lQ (ys:=(st.us.eraseIdx j).map V.str) L5.u _ _ O5.tup);rw[ze (jE h1 R7.u (fun z=>nomatch z))];exact h1
  ·rw[ze b1];refine s7 _ _ ?_;rw[ze b4];exact q5 _ _ e
theorem zs9{α:Type}{us ys:List α}{i n:Nat}{x:α}(h:ys.Perm (us.take i))(hx:us[i]? = some x):(ys.take n++x::ys.drop n).Perm (us.take (i+1)):=by
 rw[aS,hx];refine List.Perm.trans List.perm_middle ?_;rw[qV];refine List.Perm.trans (h.cons x) ?_;exact(List.perm_append_singleton x (us.take i)).symm
inductive rV(vs:List V)(H:Hp)(Q:VK):Prop
 | mk (α:Type) (f:α->V) (p:ah) (us:List α) (c:Int) (_:vs = [.ref p,.int c]) (_:aH K H p (us.map f)) (_:us.length<=100) (_:∀(q:ah)(ys:List α)(H':Hp),ys.Perm us->H q=none->H' q=some (.lst (ys.map f))->ak H H'->Q (.ref q) H')
def zta:Sp:=fun vs H Q _=>rV (K:=K) vs H Q
theorem LJ(T:Tx K mg w C_Dig zk zq zg zv zo zw zp zx):gk P w K mg base "_law_turned" ["_law_some","_law_cell"] 2 (zta (K:=K)):=by
 refine T.zjt.has fU (fun vs H Q E h=>?_) (fun f bY A outer s H vs Q E hr h=>?_)
 ·obtain⟨α,g,p,us,c,rfl,_⟩:=h;rfl
 ·obtain⟨α,g,p,us,c,rfl,hp,hl,k⟩:=h;refine⟨_,(zc (sset (i:=2) fU.nd (gZ zd))
   (zc (j3 bV rfl (Gi (by rfl) T.range (za (ji (qI K rfl) (by rfl) T.len cH (za (pv 0) zd)) zd)) (gE (i:=3) fU.nd) (zh (ig (rE K rfl PySem.F.plainAttrs_list PySem.F.slot_list_insert PySem.F.type_list_insert Wg (pv 2) (za (b7 (zz T) (za (pv 1) (za (pv 3) (za (fR sq (ji (qI K rfl) (by rfl) T.len cH (za (pv 2) zd)) zi) zd)))) (za (bP (lZ K rfl) (pv 0) (pv 3)) zd))))))
   (zh (fW (pv 2))))),?_⟩
  refine⟨by decide,fun jK zQ=>?_⟩;have lu:(us.map g).length=us.length:=aq _;refine⟨_,rfl,p,_,rfl,.inl ((ak.new zQ).seq hp),((us.map g).length:Int),rfl,by lia,by lia,IX (lo:=0) (n:=(us.map g).length) (fun i σ H'=>∃v3 ys,σ = [some (.ref p),some (.int c),some (.ref jK),v3]/\ak H H'/\H' jK=some (.lst (ys.map g))/\ys.Perm (us.take i))
   ⟨none,[],rfl,ak.new zQ,zb,by simp⟩ ?_ ?_⟩
  ·rintro i σ H1 hi ⟨v3,ys,rfl,q,hy,pm⟩;rw[lu] at hi;have hyl:ys.length=i:=by rw[pm.length_eq,bw];lia
   have ly:(ys.map g).length=ys.length:=aq _;have ex:us[i]? = some us[i]:=aV hi;have kM:(0:Int)<((ys.map g).length:Int)+1:=by lia
   obtain⟨b1,b2⟩:=qq c (0+(i:Int)) _ kM
   try dsimp only[zy]
   refine⟨_,rfl,.inl ⟨rfl,_,aH.of hy⟩,_,rfl,_,rfl,_,rfl,jK,_,rfl,.inl (aH.of hy),_,_,rfl,rfl,_,_,_,rfl,kM,?_⟩;refine⟨_,rfl,_,rfl,p,_,_,g us[i],rfl,rfl,q.seq hp,?_,?_⟩
   ·have:=tE (xs:=us.map g) (j:=i) (v:=g us[i]) (by simp[hi]);rw[qZ];exact this
   ·generalize pt c (0+(i:Int)) (((ys.map g).length:Int)+1)=z at b1 b2;refine⟨jK,_,z,_,rfl,rfl,hy,b1,by lia,jr (by lia),?_⟩;refine⟨_,_,rfl,q.upd zQ,?_,zs9 (n:=z.toNat) pm ex⟩;rw[zb,aL,cE,pL,List.map_drop]
  ·rintro σ H1 ⟨v3,ys,rfl,q,hy,pm⟩;rw[lu,bh] at pm;exact⟨_,rfl,k jK ys _ pm zQ hy q⟩
inductive wm(vs:List V)(H:Hp)(Q:VK):Prop
 | mk (pd:ah) (us:List Str) (cL:Str->Str) (f s:Str) (_:vs = [.ref pd,.str f,.str s]) (_:H pd=some (.dK (dN us cL))) (_:us.Nodup) (_:us.length<=1000) (_:∀H':Hp,H' pd=some (.dK (dN us (jn cL f s)))->(∀b o,b≠pd->H b=some o->H' b=some o)->Q .cu H')
def zy0:Sp:=fun vs H Q _=>wm vs H Q
theorem zmo(T:Tx K mg w C_Dig zk zq zg zv zo zw zp zx):gk P w K mg base "join_ones" ["names","first","second"] 1 zy0:=by
 refine T.zmu.has iC (fun vs H Q E h=>?_) (fun f bY A outer s H vs Q E hr h=>?_)
 ·obtain⟨pd,us,cL,f,s,rfl,_⟩:=h;rfl
 ·obtain⟨pd,us,cL,f,s',rfl,hd,nd,hl,k⟩:=h;have hu:=kC hr;refine⟨_,(zc (sset (i:=3) iC.nd (ji (Wf rfl) (by rfl) T.min qX (za (pv 1) (za (pv 2) zd))))
   (zh (j3 bV rfl (jG K rfl (xO (GK rfl) (by rfl) T.list j7 (za (pv 0) zd))) (gE (i:=4) iC.nd) (zh (gR (fh (JZ K rfl) (g7 hu (pv 0) (pv 4) (fun _ _=>rfl)) (ko (za (pv 1) (za (pv 2) zd))) (by with_unfolding_all rfl)) (zh (oq hu (pv 0) (pv 4) (pv 3) rfl)) jc))))),?_⟩
  refine⟨_,rfl,_,rfl,_,_,rfl,?_⟩;refine⟨_,rfl,pd,_,rfl,hd,fun l gz=>?_⟩;rw[VY];have zE:pd≠l:=zj hd gz;refine⟨l,rfl,⟨_,aH.of zb⟩,pP (xs:=us.map V.str) (fun i σ H'=>∃v4,σ = [some (.ref pd),some (.str f),some (.str s'),some (.str (nQ f s')),v4]/\(∀b o,b≠pd->H b=some o->H' b=some o)/\H' l=some (.lst (us.map V.str))/\
   H' pd=some (.dK (dN us fun x=>if x∈us.take i then jn cL f s' x else cL x)))
   ⟨none,rfl,fun b o _ e=>ak.new gz _ _ e,zb,?_⟩ (fun i σ H' _ h=>by obtain⟨_,_,_,q,_⟩:=h;exact aH.of q) ?_ ?_⟩
  ·rw[ze zE,hd,GU (f:=fun x=>if x∈us.take 0 then jn cL f s' x else cL x) (g:=cL) fun x _=>by simp]
  ·rintro i x σ H1 hx ⟨v4,rfl,kp,qu,mJ⟩;rw[aN] at hx;cases eu:us[i]? with
   | none=>rw[eu] at hx;cases hx
   | some u=>
    rw[eu] at hx;cases hx;have c7:u∈us:=bC eu;have hi:=iy eu;have iu:u ∉ us.take i:=by
     have:=vH nd i hi;rw[show us[i]=u from(bI.mp eu).2] at this;exact this
    have hg:=ck.k (k:=Sum.inr u) mJ;rw[AQ c7,ao iu] at hg;dsimp only[zy];refine vF (decide (cL u=f\/cL u=s')) (fun Q' hQ=>?_) (fun H2 t2=>?_)
    ·refine⟨_,rfl,_,rfl,pd,_,rfl,hg,_,rfl,_,rfl,(by show 2<=sizeLine;decide),fun p hp=>?_⟩;refine⟨p,_,rfl,.inr (bx.of zb),rfl,rfl,_,rfl,?_⟩;have e:xQ (.str (cL u)) [.str f,.str s']=decide (cL u=f\/cL u=s'):=by
      rw[show([.str f,.str s']:List V) = [f,s'].map V.str from rfl,Co];apply iZ.mpr;simp
     show Q' (xQ (.str (cL u)) [.str f,.str s']) _;rw[e];exact hQ _ (ak.new hp)
    ·have hd2:=t2 _ _ mJ;have Ly:∀b o,b≠pd->H b=some o->H2 b=some o:=fun b o n e=>t2 _ _ (kp b o n e)
     refine cM (fun c=>?_) (fun c=>?_)
     ·have c:=bG c;refine⟨_,rfl,_,rfl,_,rfl,pd,_,rfl,eO.k (k:=Sum.inr u) hd2 (by rw[Og];exact jr hl),?_⟩;refine⟨_,rfl,fun b o n e=>by rw[ze n];exact Ly b o n e,?_,?_⟩
      ·rw[ze zE.symm];exact t2 _ _ qu
      ·rw[zb,VW c7]
       congr 2
       refine GU fun z hz=>?_
       have ht:z∈us.take (i+1)↔z∈us.take i\/z=u:=by
        rw[aS,eu];simp
       by_cases e:z=u
       ·subst e;rw[av rfl,av (ht.mpr (.inr rfl))];exact(av c).symm
       ·rw[ao e]
        by_cases e2:z∈us.take i
        ·rw[av e2,av (ht.mpr (.inl e2))]
        ·rw[ao e2,ao (fun q=>(ht.mp q).elim e2 e)]
     ·have c:¬(cL u=f\/cL u=s'):=fun z=>c (aP z)
      refine⟨_,rfl,Ly,t2 _ _ qu,?_⟩;rw[hd2]
      congr 2
      refine GU fun z hz=>?_
      have ht:z∈us.take (i+1)↔z∈us.take i\/z=u:=by
       rw[aS,eu];simp
      by_cases e:z=u
      ·subst e;rw[ao iu,av (ht.mpr (.inr rfl))];exact(ao c).symm
      ·by_cases e2:z∈us.take i
       ·rw[av e2,av (ht.mpr (.inl e2))]
       ·rw[ao e2,ao (fun q=>(ht.mp q).elim e2 e)]
  ·rintro σ H1 ⟨v4,rfl,kp,qu,mJ⟩;refine k _ ?_ kp;rw[mJ,aq,bh]
   congr 2
   exact GU fun z hz=>av hz
inductive yG(vs:List V)(H:Hp)(Q:VK):Prop
 | mk (pu pt:ah) (us:List Str) (aA:List ah) (ts:List aT) (_:vs = [.ref pu,.ref pt]) (_:aH K H pu (us.map V.str)) (_:aH K H pt (aA.map V.ref)) (_:bU H aA (ts.map aW)) (_:us.Nodup) (_:us.length<=1000) (_:(∀t∈ts,t.a∈us/\t.b∈us)) (_:∀(pd:ah)(H':Hp),H pd=none->H' pd=some (.dK (dN us (aR ts)))->ak H H'->Q (.ref pd) H')
def z1g:Sp:=fun vs H Q _=>yG (K:=K) vs H Q
theorem LK(T:Tx K mg w C_Dig zk zq zg zv zo zw zp zx):gk P w K mg base "one_names" ["units","ties"] 2 (z1g (K:=K)):=by
 refine T.zmt.has fB (fun vs H Q E h=>?_) (fun f bY A outer s H vs Q E hr h=>?_)
 ·obtain⟨pu,pt,us,aA,ts,rfl,_⟩:=h;rfl
 ·obtain⟨pu,pt,us,aA,ts,rfl,wo,oR,tp,nd,hl,l6,k⟩:=h;have hu:=kC hr;refine⟨_,(zc (sset (i:=2) fB.nd ql)
   (zc (j3 bV rfl (jG K rfl (pv 0)) (gE (i:=3) fB.nd) (zh (oq hu (pv 2) (pv 3) (pv 3) rfl)))
   (zc (j3 bV rfl (jG K rfl (pv 1)) (gE (i:=4) fB.nd) (zh (gR (fh su (bP (zr K rfl) (pv 4) zi) qi (fV _)) (zh (ig (b7 (zmo T) (za (pv 2) (za (g7 hu (pv 2) (bP (zr K rfl) (pv 4) zi) (fun _ _=>rfl)) (za (g7 hu (pv 2) (bP (zr K rfl) (pv 4) zi) (fun _ _=>rfl)) zd)))))) jc)))
   (zh (fW (pv 2)))))),?_⟩
  have hlen:aA.length=ts.length:=by have:=tp.len;rw[aq] at this;exact this
  refine fun pd gG=>?_
  have s0:=ak.new (o:=.dK []) gG;refine⟨_,rfl,pu,rfl,⟨_,s0.seq wo⟩,pP (xs:=us.map V.str) (fun i σ H'=>∃v3,σ = [some (.ref pu),some (.ref pt),some (.ref pd),v3,none]/\ak H H'/\H' pd=some (.dK (dN (us.take i) id)))
   ⟨none,rfl,s0,zb⟩ (fun i σ H' _ h=>by obtain⟨_,_,q,_⟩:=h;exact q.seq wo) ?_ ?_⟩
  ·rintro i x σ H1 hx ⟨v3,rfl,q,hd⟩;rw[aN] at hx;cases eu:us[i]? with
   | none=>rw[eu] at hx;cases hx
   | some u=>
    rw[eu] at hx;cases hx;have hi:=iy eu;have iu:u ∉ us.take i:=by
     have:=vH nd i hi;rw[show us[i]=u from(bI.mp eu).2] at this;exact this
    dsimp only[zy];refine⟨_,rfl,_,rfl,_,rfl,pd,_,rfl,eO.k (k:=Sum.inr u) hd (by rw[Og,bw];exact jr (by lia)),?_⟩;refine⟨_,rfl,q.upd gG,?_⟩;rw[zb,aS,eu]
    congr 2
    exact VX iu
  ·rintro σ H1 ⟨v3,rfl,q,hd⟩;rw[aq,bh] at hd;refine⟨_,rfl,pt,rfl,⟨_,q.seq oR⟩,pP (xs:=aA.map V.ref) (fun i σ H'=>∃v4,σ = [some (.ref pu),some (.ref pt),some (.ref pd),v3,v4]/\ak H H'/\H' pd=some (.dK (dN us (aR (ts.take i)))))
    ⟨none,rfl,q,hd⟩ (fun i σ H' _ h=>by obtain⟨_,_,q,_⟩:=h;exact q.seq oR) ?_ ?_⟩
   ·rintro i x σ H2 hx ⟨v4,rfl,q2,hd2⟩;obtain⟨r,t,rfl,ht,_,hr⟩:=Cf tp hx;have Fd:=q2 _ _ hr;have mj:=l6 t (bC ht);dsimp only[zy];refine⟨_,rfl,r,_,_,_,rfl,rfl,bx.of Fd,Kd t,rfl,_,rfl,?_⟩;refine cM (fun c=>?_) (fun c=>?_)
    ·have c:t.k=iz:=V.str.inj (bG c);have g1:=ck.k (k:=Sum.inr t.a) hd2;have g2:=ck.k (k:=Sum.inr t.b) hd2;rw[AQ mj.1] at g1;rw[AQ mj.2] at g2;refine⟨_,rfl,_,rfl,_,rfl,r,_,_,_,rfl,rfl,bx.of Fd,GP t,pd,_,rfl,g1,_,rfl,_,rfl,r,_,_,_,rfl,rfl,bx.of Fd,GQ t,pd,_,rfl,g2,?_⟩;refine⟨pd,us,_,_,_,rfl,hd2,nd,hl,fun H3 f7 kp=>?_⟩;refine⟨_,rfl,fun b o e=>kp b o (zj e gG) (q2 b o e),?_⟩;rw[f7,Oe ht];unfold yd;rw[av c]
    ·have c:¬t.k=iz:=fun z=>c (aP (bQ V.str z))
     refine⟨_,rfl,q2,?_⟩;rw[hd2,Oe ht];unfold yd;rw[ao c]
   ·rintro σ H2 ⟨v4,rfl,q2,hd2⟩;rw[aq,hlen,bh] at hd2;exact⟨_,rfl,k pd _ gG hd2 q2⟩
abbrev Fe(H:Hp):List ah->List (List Str)->Prop:=Paired fun a g=>H a=some (.lst (g.map V.str))
theorem Q9{H:Hp}{ad:Str->ah}{g:Str->List Str}:∀{ks:List Str},(∀k∈ks,H (ad k)=some (.lst ((g k).map V.str)))->Fe H (ks.map ad) (ks.map g)
 | [],_=>.nil
 | k::r,h=>.cons (h k (by simp)) (Q9 fun z hz=>h z (bE _ hz))
inductive wu(vs:List V)(H:Hp)(Q:VK):Prop
 | mk (pu pt:ah) (us:List Str) (aA:List ah) (ts:List aT) (_:vs = [.ref pu,.ref pt]) (_:aH K H pu (us.map V.str)) (_:aH K H pt (aA.map V.ref)) (_:bU H aA (ts.map aW)) (_:us.Nodup) (_:us.length<64) (_:(∀t∈ts,t.a∈us/\t.b∈us)) (_:∀(p:ah)(as:List ah)(H':Hp),H p=none->(∀a∈as,H a=none)->p ∉ as->as.Nodup->H' p=some (.lst (as.map V.ref))->Fe H' as (qb us ts)->ak H H'->Q (.ref p) H')
def zy1:Sp:=fun vs H Q _=>wu (K:=K) vs H Q
theorem LL(T:Tx K mg w C_Dig zk zq zg zv zo zw zp zx):gk P w K mg base "ones" ["units","ties"] 3 (zy1 (K:=K)):=by
 refine T.z1q.has mO (fun vs H Q E h=>?_) (fun f bY A outer s H vs Q E hr h=>?_)
 ·obtain⟨pu,pt,us,aA,ts,rfl,_⟩:=h;rfl
 ·obtain⟨pu,pt,us,aA,ts,rfl,wo,oR,tp,nd,hl,l6,k⟩:=h;have hu:=kC hr;refine⟨_,(zc (sset (i:=2) mO.nd (b7 (LK T) (za (pv 0) (za (pv 1) zd))))
   (zc (sset (i:=3) mO.nd ql)
   (zc (j3 bV rfl (jG K rfl (ji (Hi (K:=K) rfl) (by rfl) T.sorted mV (za (pv 0) zd))) (gE (i:=4) mO.nd) (zh (ig (rE K rfl PySem.F.plainAttrs_list PySem.F.slot_list_append PySem.F.type_list_append uP (Wj (pv 3) (g7 hu (pv 2) (pv 4) (fun _ _=>rfl)) (gZ zd) ⟨rfl,rfl,rfl,rfl⟩) (za (pv 4) zd)))))
   (zh (fW (xO (NX rfl) (by rfl) T.list j7 (za (J2 K rfl PySem.F.plainAttrs_dict PySem.F.slot_dict_values PySem.F.type_dict_values J8 (pv 3)) zd))))))),?_⟩
  refine⟨_,rfl,_,rfl,pu,pt,us,aA,ts,rfl,wo,oR,tp,nd,by lia,l6,fun pn H1 LM hn s1=>?_⟩
  try dsimp only[zy]
  refine fun pd gG=>?_
  have s2:=ak.new (o:=.dK []) gG;refine⟨_,rfl,pu,us,rfl,(s1.trans s2).seq wo,hl,fun l ms gz pm rs=>?_⟩;have em:=Ci pm rs;subst em;have s3:=ak.new (o:=.lst ((aM us).map V.str)) gz;have sS:H pd=none:=s1.free gG;have fl:H l=none:=(s1.trans s2).free gz;have n1:pd≠l:=zj zb gz;have n2:pn≠pd:=zj hn gG;have n3:pn≠l:=zj (s2 _ _ hn) gz;refine⟨l,rfl,⟨_,aH.of zb⟩,pP (xs:=(aM us).map V.str) (fun i σ H'=>∃v4 ad,σ = [some (.ref pu),some (.ref pt),some (.ref pn),some (.ref pd),v4]/\ak H H'/\H' l=some (.lst ((aM us).map V.str))/\H' pn=some (.dK (dN us (aR ts)))/\
   H' pd=some (.dK (dV (zn ts ((aM us).take i)) fun k=>.ref (ad k)))/\(∀k∈zn ts ((aM us).take i),H' (ad k)=some (.lst ((pS ts ((aM us).take i) k).map V.str))/\H (ad k)=none/\ad k≠pd/\ad k≠l/\ad k≠pn)/\
   (∀k∈zn ts ((aM us).take i),∀k'∈zn ts ((aM us).take i),ad k=ad k'->k=k'))
   ⟨none,fun _=>0,rfl,s1.trans (s2.trans s3),zb,s3 _ _ (s2 _ _ hn),s3 _ _ zb,(fun k hk=>by simp[zn] at hk),fun k hk=>by simp[zn] at hk⟩ (fun i σ H' _ h=>by obtain⟨_,_,_,_,q,_⟩:=h;exact aH.of q) ?_ ?_⟩
  ·rintro i v σ H2 hx ⟨v4,ad,rfl,q,nY,uO,hd2,wz,zT⟩;rw[aN] at hx;cases eu:(aM us)[i]? with
   | none=>rw[eu] at hx;cases hx
   | some u=>
    rw[eu] at hx;cases hx;have c7:u∈us:=kJ.mp (bC eu);have hi:=iy eu;have hkl:(zn ts ((aM us).take i)).length<=63:=by
     have h1:(zn ts ((aM us).take i)).length<=((aM us).take i).length:=e7 _ _;have h2:((aM us).take i).length<=(aM us).length:=by rw[bw];lia
     rw[Kh] at h2;lia
    have hgl:∀k,(pS ts ((aM us).take i) k).length<=63:=fun k=>by
     have h1:(pS ts ((aM us).take i) k).length<=((aM us).take i).length:=e7 _ _;have h2:((aM us).take i).length<=(aM us).length:=by rw[bw];lia
     rw[Kh] at h2;lia
    have g:=ck.k (k:=Sum.inr u) uO;rw[AQ c7] at g;obtain⟨LN,LO⟩:=V3 (ts:=ts) nd eu
    try dsimp only[zy]
    refine⟨_,rfl,pd,rfl,.inl ⟨_,.inl hd2⟩,_,rfl,_,rfl,pn,_,rfl,g,by decide,fun q0 aQ=>?_⟩;have t0:=ak.new (o:=.lst []) aQ;have f7:=t0 _ _ hd2;have nq:pd≠q0:=zj hd2 aQ;refine⟨_,Sum.inr (aR ts u),f7,rfl,by rw[jV];exact jr (by lia),fun v hv=>?_,fun hv=>?_⟩
    ·have jt:aR ts u∈zn ts ((aM us).take i):=fG fun z=>by rw[AS z] at hv;cases hv
     rw[pR jt] at hv;cases hv;obtain⟨h1,h2,h3,h4,h5⟩:=wz _ jt;have mF:¬aR ts u=u:=fun e=>by rw[e] at jt;exact LN jt
     have zF:=t0 _ _ h1;refine⟨.inl ⟨rfl,_,aH.of zF⟩,_,rfl,ad (aR ts u),_,_,rfl,rfl,zF,by rw[aq];exact jr (by have:=hgl (aR ts u);lia),?_⟩;have ks:zn ts ((aM us).take (i+1))=zn ts ((aM us).take i):=by rw[Ol eu,ao mF,fL]
     refine⟨_,ad,rfl,(q.trans t0).upd h2,?_,?_,?_,?_,?_⟩
     ·rw[ze (aE h4)];exact t0 _ _ nY
     ·rw[ze (aE h5)];exact t0 _ _ uO
     ·rw[ze (aE h3),ks];exact f7
     ·rw[ks];intro k hk;obtain⟨b1,b2,b3,b4,b5⟩:=wz k hk;refine⟨?_,b2,b3,b4,b5⟩;rw[Kl eu]
      by_cases e:aR ts u=k
      ·subst e;rw[av rfl,zb,aL];rfl
      ·rw[ao e,fL,ze (fun z=>e (zT _ jt _ hk z.symm))];exact t0 _ _ b1
     ·rw[ks];exact zT
    ·have jt:aR ts u ∉ zn ts ((aM us).take i):=fun z=>by rw[pR z] at hv;cases hv
     have he:aR ts u=u:=fG fun z=>jt (V1 nd l6 eu z)
     rw[he];rw[he] at jt;have e3:upd (upd H2 q0 (.lst [])) pd (.dK (putK (dV (zn ts ((aM us).take i)) fun k=>.ref (ad k)) (Sum.inr u) (.ref q0))) q0=some (.lst []):=by rw[ze (aE nq),zb]
     refine⟨.inl ⟨rfl,_,aH.of e3⟩,_,rfl,q0,_,_,rfl,rfl,e3,by decide,?_⟩;have ks:zn ts ((aM us).take (i+1))=zn ts ((aM us).take i)++[u]:=by rw[Ol eu,av he]
     have nl:l≠q0:=zj nY aQ;have nn:pn≠q0:=zj uO aQ;have zU:H q0=none:=q.free aQ;refine⟨_,fun z=>if z=u then q0 else ad z,rfl,((q.trans t0).upd sS).upd zU,?_,?_,?_,?_,?_⟩
     ·rw[ze nl,ze (aE n1)];exact t0 _ _ nY
     ·rw[ze nn,ze n2];exact t0 _ _ uO
     ·rw[ze nq,zb,wZ jt,ks]
      congr 2
      refine tO fun z hz=>?_
      dsimp only
      by_cases e:z=u
      ·rw[av e,av e]
      ·rw[ao e,ao e]
     ·rw[ks];intro k hk;dsimp only
      by_cases e:k=u
      ·subst e;rw[av rfl];refine⟨?_,zU,aE nq,aE nl,aE nn⟩;rw[zb,Kl eu,av he,LO he];rfl
      ·rw[ao e];have gT:k∈zn ts ((aM us).take i):=by
        rcases bz.mp hk with h | h
        ·exact h
        ·exact absurd (by simpa using h) e
       obtain⟨b1,b2,b3,b4,b5⟩:=wz k gT;refine⟨?_,b2,b3,b4,b5⟩;have nk:ad k≠q0:=zj b1 aQ;rw[ze nk,ze b3,Kl eu,ao (fun z=>e (z.symm.trans he)),fL];exact t0 _ _ b1
     ·rw[ks];intro k hk k' gT z;dsimp only at z;have sV:∀z,z∈zn ts ((aM us).take i)++[u]->z≠u->z∈zn ts ((aM us).take i):=fun z hz e=>by
       rcases bz.mp hz with h | h
       ·exact h
       ·exact absurd (by simpa using h) e
      by_cases e:k=u
      ·by_cases e':k'=u
       ·rw[e,e']
       ·rw[av e,ao e'] at z;have:=(wz k' (sV _ gT e')).1;exact absurd z.symm (zj this aQ)
      ·by_cases e':k'=u
       ·rw[ao e,av e'] at z;have:=(wz k (sV _ hk e)).1;exact absurd z (zj this aQ)
       ·rw[ao e,ao e'] at z;exact zT k (sV _ hk e) k' (sV _ gT e') z
  ·rintro σ H2 ⟨v4,ad,rfl,q,nY,uO,hd2,wz,zT⟩;rw[aq,bh] at hd2 wz zT;refine⟨_,rfl,.inr (.inr (.inl ⟨rfl,.inl ⟨_,hd2⟩⟩)),pd,_,rfl,rfl,hd2,fun pv E8=>?_⟩;have s3:=ak.new (o:=yc pv pd) E8;refine⟨pv,pd,_,rfl,zb,s3 _ _ hd2,fun pf zR=>?_⟩;rw[V0];have em:(zn ts (aM us)).map (fun k=>V.ref (ad k))=((zn ts (aM us)).map ad).map V.ref:=by rw[cz];rfl
   rw[em];have s4:=ak.new (o:=.lst (((zn ts (aM us)).map ad).map V.ref)) zR;have q4:=s3.trans s4;have knd:(zn ts (aM us)).Nodup:=(Kg nd).sublist (jL ..);refine k pf ((zn ts (aM us)).map ad) _ (q.free (s3.free zR)) (fun a ha=>?_) (fun z=>?_) ?_ zb (Q9 fun x hx=>q4 _ _ (wz x hx).1) (q.trans q4)
   ·obtain⟨x,hx,rfl⟩:=aK.mp ha;exact(wz x hx).2.1
   ·obtain⟨x,hx,e⟩:=aK.mp z;have:=s3 _ _ (wz x hx).1;rw[e,zR] at this;cases this
   ·clear wz hd2 s4 q4 em;generalize zn ts (aM us)=ks at zT knd
    induction ks with
    | nil=>exact List.nodup_nil
    | cons x r ih=>
     rw[fM] at knd;rw[cE,fM];refine⟨fun z=>?_,ih (fun a ha b hb=>zT a (bE _ ha) b (bE _ hb)) knd.2⟩;obtain⟨y,hy,e⟩:=aK.mp z;have:=zT y (bE _ hy) x (by simp) e;subst this;exact knd.1 hy
inductive ur(vs:List V)(H:Hp)(Q:VK):Prop
 | mk (p pu pt:ah) (x y:V) (us:List Str) (aA:List ah) (ts:List aT) (_:vs = [.ref p]) (_:oz K H p pu pt x y us aA ts) (_:∀(pd:ah)(ob:Obj)(ad:Str->ah)(bs:Str->List ah)(H':Hp),ak H H'->H pd=none->Bn H' pd ob (zn ts (aM us)) (dj ts (ts.zip aA)) ad bs->Q (.ref pd) H')
def zvm:Sp:=fun vs H Q _=>ur (K:=K) vs H Q
theorem yH(T:Tx K mg w C_Dig zk zq zg zv zo zw zp zx):gk P w K mg base "ties_beneath" ["telling"] 4 (zvm (K:=K)):=by
 refine T.zhy.has cQ (fun vs H Q E h=>?_) (fun f bY A outer s H vs Q E hr h=>?_)
 ·obtain⟨p,pu,pt,x,y,us,aA,ts,rfl,_⟩:=h;rfl
 ·obtain⟨p,pu,pt,x,y,us,aA,ts,rfl,hT,k⟩:=h;have hu:=kC hr;refine⟨_,(zc (sset (i:=1) cQ.nd (b7 (LK T) (za (bP (zr K rfl) (pv 0) zi) (za (bP (zr K rfl) (pv 0) zi) zd))))
   (zc (sset (i:=2) cQ.nd ql)
   (zc (j3 bV rfl (jG K rfl (b7 (LL T) (za (bP (zr K rfl) (pv 0) zi) (za (bP (zr K rfl) (pv 0) zi) zd)))) (gE (i:=3) cQ.nd) (zh (oq hu (pv 2) (bP (lZ K rfl) (pv 3) zi) (gZ zd) rfl)))
   (zc (j3 bV rfl (jG K rfl (bP (zr K rfl) (pv 0) zi)) (gE (i:=4) cQ.nd) (zh (gR (fh Th (bP (zr K rfl) (pv 4) zi) qi (fV _)) (zh (ig (rE K rfl PySem.F.plainAttrs_list PySem.F.slot_list_append PySem.F.type_list_append uP (g7 hu (pv 2) (g7 hu (pv 1) (bP (zr K rfl) (pv 4) zi) (fun _ _=>rfl)) (fun _ _=>rfl)) (za (ko (za (g7 hu (pv 1) (bP (zr K rfl) (pv 4) zi) (fun _ _=>rfl)) (za (pv 4) zd))) zd)))) jc)))
   (zh (zG (fW (pv 2)))))))),?_⟩
  have l6:=hT.ends;obtain⟨hp,wo,oR,tp,nd,hl,tl,_⟩:=hT;have hlen:aA.length=ts.length:=by have:=tp.len;rw[aq] at this;exact this
  refine⟨_,rfl,p,_,_,_,rfl,rfl,hp,rfl,_,rfl,p,_,_,_,rfl,rfl,hp,rfl,pu,pt,us,aA,ts,rfl,wo,oR,tp,nd,by lia,l6,fun pn H1 LM hn s1=>?_⟩
  try dsimp only[zy]
  refine fun pd gG=>?_
  have s2:=ak.new (o:=.dK []) gG;have q2:=s1.trans s2;refine⟨_,rfl,p,_,_,_,rfl,rfl,q2.tup hp,rfl,_,rfl,p,_,_,_,rfl,rfl,q2.tup hp,rfl,pu,pt,us,aA,ts,rfl,q2.seq wo,q2.seq oR,tp.same q2,nd,hl,l6,fun po as H3 Bs fas Ff LP uu Fg s3=>?_⟩;have CD:=s3 _ _ (s2 _ _ hn);have f7:=s3 _ _ (zb (H:=H1) (a:=pd) (o:=.dK []));have q3:=q2.trans s3;have sS:H pd=none:=s1.free gG;have HX:pn≠pd:=zj hn gG;have lk:as.length=(zn ts (aM us)).length:=by have:=Paired.length Fg;unfold qb at this;rw[aq] at this;exact this
  have Bt:(zn ts (aM us)).length<=63:=by
   have:=Kn (us:=us) (ts:=ts) nd;unfold qb at this;rw[aq] at this;lia
  have hz:∀{i:Nat}{t:aT}{r:ah},ts[i]? = some t->aA[i]? = some r->(ts.zip aA)[i]? = some (t,r):=fun h1 h2=>j6.mpr ⟨h1,h2⟩
  generalize ek:zn ts (aM us)=keys at lk Bt k;have knd:keys.Nodup:=ek▸vJ nd;have CF:qb us ts=keys.map (pS ts (aM us)):=by unfold qb;rw[ek]
  refine⟨po,rfl,⟨_,aH.of uu⟩,pP (xs:=as.map V.ref) (fun i σ H'=>∃(v3:Option V)(ad:Str->ah),σ = [some (.ref p),some (.ref pn),some (.ref pd),v3,none]/\(∀b o,b≠pd->H3 b=some o->H' b=some o)/\
   H' pd=some (.dK (dV (keys.take i) fun k=>.ref (ad k)))/\(∀k∈keys.take i,H' (ad k)=some (.lst [])/\H3 (ad k)=none)/\(∀k∈keys.take i,∀k'∈keys.take i,ad k=ad k'->k=k'))
   ⟨none,fun _=>0,rfl,fun b o _ e=>e,f7,(fun k hk=>by simp at hk),fun k hk=>by simp at hk⟩ (fun i σ H' _ h=>by obtain⟨_,_,_,q,_⟩:=h;exact aH.of (q _ _ (jE uu f7 (by simp)) uu)) ?_ ?_⟩
  ·rintro i v σ H4 hx ⟨v3,ad,rfl,kp,j0,jw,inj⟩;obtain⟨r,g,rfl,hg,oX,hr⟩:=tP Fg hx;rw[CF,aN] at hg;cases eu:keys[i]? with
   | none=>rw[eu] at hg;cases hg
   | some u=>
    rw[eu] at hg;cases hg;have c7:u∈keys:=bC eu;have hi:=iy eu;have iu:u ∉ keys.take i:=by
     have:=vH knd i hi;rw[show keys[i]=u from(bI.mp eu).2] at this;exact this
    obtain⟨gr,LQ⟩:=Oq (us:=us) (ts:=ts) nd (k:=u) (ek▸c7);rw[LQ] at hr;have yF:=kp _ _ (jE hr f7 (by simp)) hr
    try dsimp only[zy]
    refine⟨by decide,fun q0 aQ=>?_⟩;have t0:=ak.new (o:=.lst []) aQ;have gI:=t0 _ _ j0;have nq:pd≠q0:=zj j0 aQ;refine⟨_,rfl,_,rfl,r,_,_,_,rfl,rfl,aH.of (t0 _ _ yF),D8,pd,_,rfl,eO.k (k:=Sum.inr u) gI (by rw[jV,bw];exact jr (by lia)),?_⟩;have fq:H3 q0=none:=by
     cases e:H3 q0 with
     | none=>rfl
     | some o=>rw[kp _ _ (aE nq) e] at aQ;cases aQ
    refine⟨_,fun z=>if z=u then q0 else ad z,rfl,fun b o n e=>by rw[ze n];exact t0 _ _ (kp b o n e),?_,?_,?_⟩
    ·rw[zb,wZ iu,aS,eu]
     congr 2
     refine tO fun z hz=>?_
     dsimp only
     by_cases e:z=u
     ·rw[av e,av e]
     ·rw[ao e,ao e]
    ·intro k hk;rw[aS,eu,bz] at hk;dsimp only
     by_cases e:k=u
     ·rw[av e];exact⟨by rw[ze (aE nq),zb],fq⟩
     ·rw[ao e];have gT:k∈keys.take i:=hk.elim id fun z=>absurd (by simpa using z) e
      obtain⟨h1,h2⟩:=jw k gT;refine⟨?_,h2⟩;rw[ze (fun z=>by rw[z,j0] at h1;cases h1)];exact t0 _ _ h1
    ·intro k hk k' gT e;rw[aS,eu,bz] at hk gT;dsimp only at e
     by_cases c1:k=u<;>by_cases c2:k'=u
     ·rw[c1,c2]
     ·rw[av c1,ao c2] at e;have h2:=(jw k' (gT.elim id fun z=>absurd (by simpa using z) c2)).1;rw[←e,aQ] at h2;cases h2
     ·rw[ao c1,av c2] at e;have h2:=(jw k (hk.elim id fun z=>absurd (by simpa using z) c1)).1;rw[e,aQ] at h2;cases h2
     ·rw[ao c1,ao c2] at e;exact inj k (hk.elim id fun z=>absurd (by simpa using z) c1) k' (gT.elim id fun z=>absurd (by simpa using z) c2) e
  ·rintro σ H4 ⟨v3,ad,rfl,kp,j0,jw,inj⟩;rw[aq,lk,bh] at j0 jw inj;have yI:∀{H':Hp},(∀b o,b≠pd->H3 b=some o->H' b=some o)->ak H H':=fun D4 b o e=>D4 b o (zj e sS) (q3 _ _ e)
   have q4:=yI kp;refine⟨_,rfl,p,_,_,_,rfl,rfl,q4.tup hp,rfl,pt,rfl,⟨_,q4.seq oR⟩,pP (xs:=aA.map V.ref) (fun i σ H'=>∃(v4:Option V)(bs:Str->List ah),σ = [some (.ref p),some (.ref pn),some (.ref pd),v3,v4]/\(∀b o,b≠pd->H3 b=some o->H' b=some o)/\
    H' pd=some (.dK (dV keys fun k=>.ref (ad k)))/\∀k∈keys,H' (ad k)=some (.lst ((bs k).map V.ref))/\Paired (fun b(p:Str×ah)=>H' b=some (.tup [.str p.1,.ref p.2])) (bs k) (dj ts ((ts.zip aA).take i) k))
    ⟨none,fun _=>[],rfl,kp,j0,fun k hk=>⟨(jw k hk).1,.nil⟩⟩ (fun i σ H' _ h=>by obtain⟨_,_,_,q,_⟩:=h;exact(yI q).seq oR) ?_ ?_⟩
   ·rintro i x σ H5 hx ⟨v4,bs,rfl,mC,gI,oH⟩;obtain⟨r,t,rfl,ht,oX,hr⟩:=Cf tp hx;have q5:=yI mC;have uV:=q5 _ _ hr;have mj:=l6 t (bC ht);have hit:=iy ht;have HY:=hz ht oX
    try dsimp only[zy]
    refine⟨_,rfl,r,_,_,_,rfl,rfl,bx.of uV,Kd t,rfl,_,rfl,?_⟩;refine cM (fun c=>?_) (fun c=>?_)
    ·have c:t.k≠iz:=by
      intro z;simp[z,iz] at c
     have g1:=ck.k (k:=Sum.inr t.a) (mC _ _ HX CD);have g2:=ck.k (k:=Sum.inr t.b) (mC _ _ HX CD);rw[AQ mj.1] at g1;rw[AQ mj.2] at g2;have yJ:aR ts t.a∈keys:=ek▸Ei l6 mj.1;have g3:=ck.k (k:=Sum.inr (aR ts t.a)) gI;rw[pR yJ] at g3;obtain⟨qy,LR⟩:=oH _ yJ;refine⟨_,rfl,_,rfl,_,rfl,r,_,_,_,rfl,rfl,bx.of uV,GP t,pn,_,rfl,g1,pd,_,rfl,g3,?_⟩;refine⟨.inl ⟨rfl,_,aH.of qy⟩,_,rfl,_,rfl,r,_,_,_,rfl,rfl,bx.of uV,GQ t,pn,_,rfl,g2,_,rfl,(by show 2<=sizeLine;decide),fun b0 wA=>?_⟩;have t0:=ak.new (o:=.tup [.str (aR ts t.b),.ref r]) wA;have Bu:=t0 _ _ qy;have lb:(bs (aR ts t.a)).length<=900:=by
      have h1:=Paired.length LR;have h2:=G0 (ts:=ts) (z:=(ts.zip aA).take i) (k:=aR ts t.a);rw[bw,fO] at h2;lia
     refine⟨ad (aR ts t.a),_,_,rfl,rfl,Bu,by rw[aq];exact jr (by lia),?_⟩;have st:∀b vs,H5 b=some (.tup vs)->upd (upd H5 b0 (.tup [.str (aR ts t.b),.ref r])) (ad (aR ts t.a)) (.lst ((bs (aR ts t.a)).map V.ref++[.ref b0])) b=some (.tup vs):=fun b vs e=>lQ Bu _ _ (t0 _ _ e)
     refine⟨_,fun z=>if z=aR ts t.a then bs z++[b0] else bs z,rfl,fun b o n e=>?_,?_,fun k hk=>?_⟩
     ·rw[ze (fun z=>by rw[z,(jw _ yJ).2] at e;cases e)];exact t0 _ _ (mC b o n e)
     ·rw[ze (fun z=>by rw[←z,gI] at qy;cases qy)];exact t0 _ _ gI
     ·obtain⟨b1,b2⟩:=oH k hk;have Ra:=Paired.gy b2 fun b p e=>st b _ e
      rw[Ot HY];dsimp only
      by_cases e:k=aR ts t.a
      ·subst e;rw[av rfl,av ⟨c,rfl⟩];refine⟨by rw[zb,aL];rfl,Paired.snoc Ra ?_⟩;exact lQ Bu _ _ zb
      ·rw[ao e,ao (fun z=>e z.2.symm),fL];refine⟨?_,Ra⟩;rw[ze (fun z=>e (inj _ hk _ yJ z))];exact t0 _ _ b1
    ·have c:t.k=iz:=by
      simpa[iz] using c
     refine⟨_,bs,rfl,mC,gI,fun k hk=>?_⟩;rw[Ot HY,ao (fun z=>z.1 c),fL];exact oH k hk
   ·rintro σ H5 ⟨v4,bs,rfl,mC,gI,oH⟩;rw[aq] at oH;have ez:(ts.zip aA).take aA.length=ts.zip aA:=m9 (by rw[fO];lia);rw[ez] at oH;refine .inr ⟨pd,_,gI,fun ob=>⟨_,rfl,k pd ob ad bs _ ?_ sS ⟨zb,fun k hk=>?_,fun k hk=>?_⟩⟩⟩
    ·exact(yI mC).upd sS
    ·obtain⟨b1,b2⟩:=oH k hk;rw[ze (fun z=>by rw[z,gI] at b1;cases b1)];exact b1
    ·obtain⟨b1,b2⟩:=oH k hk;refine Paired.gy b2 fun b p e=>?_
     rw[ze (fun z=>by rw[z,gI] at e;cases e)];exact e
inductive qz(vs:List V)(H:Hp)(Q:VK):Prop
 | mk (s:Str) (pd:ah) (ob:Obj) (keys:List Str) (ln:Ln) (ad:Str->ah) (bs:Str->List ah) (_:vs = [.str s,.ref pd]) (_:Bn H pd ob keys ln ad bs) (_:s∈keys) (_:(∀k∈keys,∀l r,(l,r)∈ln k->l∈keys)) (_:keys.length<=63) (_:∀(p:ah)(rs:List ah)(H':Hp),ak H H'->H p=none->H' p=some (.lst (rs.map V.ref))->rs.length<=64->Ov ln s rs->Q (.ref p) H')
def zpm:Sp:=fun vs H Q _=>qz vs H Q
theorem zg4(T:Tx K mg w C_Dig zk zq zg zv zo zw zp zx):gk P w K mg base "round_through" ["start","beneath"] 1 zpm:=by
 refine T.zhh.has bg (fun vs H Q E h=>?_) (fun f bY A outer s H vs Q E hr h=>?_)
 ·obtain⟨s',pd,ob,keys,ln,ad,bs,rfl,_⟩:=h;rfl
 ·obtain⟨s',pd,ob,keys,ln,ad,bs,rfl,hB,hs,hc,hk,k⟩:=h;have hu:=kC hr;refine⟨_,(zc (sset (i:=2) bg.nd ql)
   (zc (sset (i:=3) bg.nd (gZ (za (ko (za (pv 0) (za (gZ zd) zd))) zd)))
   (zc (Gg bV (fh (sJ K rfl (iM hr)) (pv 3) (gZ zd) (fV _)) (zc (sset (i:=4) bg.nd (gZ zd))
    (zc (j3 bV rfl (jG K rfl (pv 3)) (vE K rfl rfl (mD (gE (i:=5) bg.nd) (mD (gE (i:=6) bg.nd) u9))) (zh (j3 bV rfl (jG K rfl (g7 hu (pv 1) (pv 5) (fun _ _=>rfl))) (vE K rfl rfl (mD (gE (i:=7) bg.nd) (mD (gE (i:=8) bg.nd) u9))) (zc (gR (fh su (pv 7) (pv 0) (fV _)) (zh (fW (fR BY (pv 6) (gZ (za (pv 8) zd))))) jc)
      (zh (gR (uN (B9 hu (pv 7) (pv 2))) (zc (oq hu (pv 2) (pv 7) yU rfl)
       (zh (ig (rE K rfl PySem.F.plainAttrs_list PySem.F.slot_list_append PySem.F.type_list_append uP (pv 4) (za (ko (za (pv 7) (za (fR BY (pv 6) (gZ (za (pv 8) zd))) zd))) zd))))) jc))))))
    (zh (sset (i:=3) bg.nd (pv 4))))))
   (zh (fW (gZ zd)))))),?_⟩
  refine fun pm E9=>?_
  have s0:=ak.new (o:=.dK []) E9
  try dsimp only[zy]
  refine⟨_,rfl,by decide,fun l0 zV=>?_⟩;have s1:=ak.new (o:=.lst []) zV;refine⟨(by show 2<=sizeLine;decide),fun b0 wA=>?_⟩;have s2:=ak.new (o:=.tup [.str s',.ref l0]) wA;refine⟨(by show 1<=sizeLine;decide),fun pw hpw=>?_⟩;have s3:=ak.new (o:=.lst [.ref b0]) hpw;have q3:=s0.trans (s1.trans (s2.trans s3));have wX:=s3 _ _ (s2 _ _ (s1 _ _ (zb (H:=H) (a:=pm) (o:=.dK []))));have LS:=s3 _ _ (s2 _ _ (zb (H:=upd H pm (.dK [])) (a:=l0) (o:=.lst [])));have Rb:=s3 _ _ (zb (H:=upd (upd H pm (.dK [])) l0 (.lst [])) (a:=b0) (o:=.tup [.str s',.ref l0]));have Rf:=zb (H:=upd (upd (upd H pm (.dK [])) l0 (.lst [])) b0 (.tup [.str s',.ref l0])) (a:=pw) (o:=.lst [.ref b0]);generalize upd (upd (upd (upd H pm (.dK [])) l0 (.lst [])) b0 (.tup [.str s',.ref l0])) pw (.lst [.ref b0])=H3 at q3 wX LS Rb Rf;refine⟨fun m σ H'=>∃(v4 v5 v6 v7 v8:Option V)(pw:ah)(wl:List ah)(es:List (Str×List ah))(d:Nat)(M:List Str),σ = [some (.str s'),some (.ref pd),some (.ref pm),some (.ref pw),v4,v5,v6,v7,v8]/\ak H H'/\H' pm=some (.dK (dV M iH))/\
   H' pw=some (.lst (wl.map V.ref))/\Paired (Ou H') wl es/\(∀e∈es,Wk ln s' e.2 e.1/\e.2.length=d/\e.1∈keys)/\M.Nodup/\(∀v∈M,v∈keys)/\Bf ln s' d M (es.map Prod.fst)/\(es≠[]->d<=M.length)/\
   m=2 * (keys.length-M.length)+(if es = [] then 0 else 1),⟨_,none,none,none,none,none,pw,[b0],[(s',[])],0,[],rfl,q3,wX,Rf,.cons ⟨l0,Rb,LS⟩ .nil,?_,by simp,by simp,Bf.zero,fun _=>aG _,rfl⟩,?_⟩
  ·intro e he;have:e=(s',[]):=by simpa using he
   subst this;exact⟨.nil,rfl,hs⟩
  rintro m σ H4 ⟨v4,v5,v6,v7,v8,pw,wl,es,d,M,rfl,q4,hm4,Rg,Rh,ok4,xx,Bv,bf,dle,rfl⟩;have lM:M.length<=63:=by have:=uR xx Bv;lia
  refine⟨_,rfl,by decide,fun le hle=>?_⟩;have t5:=ak.new (o:=.lst []) hle;refine⟨pw,le,_,rfl,rfl,cV.kG (aH.of (t5 _ _ Rg)) (aH.of zb),_,rfl,?_⟩;have lw:wl.length=es.length:=Paired.length Rh;have q5:=q4.trans t5;have CG:=t5 _ _ hm4;have HZ:=t5 _ _ Rg;have Ri:Paired (Ou (upd H4 le (.lst []))) wl es:=Paired.gy Rh fun _ _ ⟨q,h1,h2⟩=>⟨q,t5 _ _ h1,t5 _ _ h2⟩
  have t5':=t5;generalize upd H4 le (.lst [])=H5 at q5 CG HZ Ri t5';refine cM (fun c=>?_) (fun c=>?_)
  ·have Ba:es≠[]:=fun z=>by
    subst z;have:wl = []:=mX.mp (by simpa using lw);subst this;simp at c
   have dM:=dle Ba;refine⟨fun aI H'=>∃m',m'<2 * (keys.length-M.length)+(if es = [] then 0 else 1)/\_,fun aI H' h=>h,?_⟩
   try dsimp only[zy]
   refine⟨by decide,fun pl iP=>?_⟩;have t6:=ak.new (o:=.lst []) iP;have zE:pl≠pm:=aE (zj CG iP);have npw:pw≠pm:=jE HZ CG (by simp);have Bk:∀{H':Hp},(∀b o,b≠pm->H5 b=some o->H' b=some o)->ak H H':=fun kp b o e=>kp b o (zj e E9) (q5 _ _ e)
   refine⟨_,rfl,pw,rfl,⟨_,aH.of (t6 _ _ HZ)⟩,pP (xs:=wl.map V.ref) (fun i σ H'=>∃(v5 v6 v7 v8:Option V)(ml:List ah)(fs:List (Str×List ah)),σ = [some (.str s'),some (.ref pd),some (.ref pm),some (.ref pw),some (.ref pl),v5,v6,v7,v8]/\
    vK H5 H' pm pl ln s' keys M d ml fs/\∀u∈(es.take i).map Prod.fst,∀v r,(v,r)∈ln u->v≠s'/\v∈M++fs.map Prod.fst)
    ⟨v5,v6,v7,v8,[],[],rfl,⟨fun b o _ e=>t6 _ _ e,?_,zb,.nil,(fun e he=>(gc he).elim),by simpa using xx⟩,fun u hu=>by simp at hu⟩ (fun i σ H' _ h=>by obtain⟨_,_,_,_,_,_,_,g,_⟩:=h;exact aH.of (g.kp _ _ npw HZ)) ?_ ?_⟩
   ·rw[pM,fL];exact t6 _ _ CG
   ·rintro i x σ H6 hx ⟨u5,u6,u7,u8,ml,fs,rfl,g,cond⟩;obtain⟨b,e,rfl,he,hbw,q,hb,hq⟩:=tP Ri hx;have hie:=iy he;have hem:e∈es:=bC he;obtain⟨wk,LU,ek⟩:=ok4 e hem;have nb:b≠pm:=jE hb CG (by simp);have nq:q≠pm:=jE hq CG (by simp);refine⟨b,_,rfl,bx.of (g.kp _ _ nb hb),rfl,_,_,rfl,_,_,rfl,rfl,?_⟩;have B6:=hB.same (Bk g.kp);refine⟨_,rfl,_,rfl,pd,_,rfl,B6.get ek,ad e.1,rfl,⟨_,aH.of (B6.l _ ek)⟩,pP (xs:=(bs e.1).map V.ref) (fun j σ H'=>∃(v7 v8:Option V)(ml:List ah)(fs:List (Str×List ah)),σ = [some (.str s'),some (.ref pd),some (.ref pm),some (.ref pw),some (.ref pl),some (.str e.1),some (.ref q),v7,v8]/\
     vK H5 H' pm pl ln s' keys M d ml fs/\(∀u∈(es.take i).map Prod.fst,∀v r,(v,r)∈ln u->v≠s'/\v∈M++fs.map Prod.fst)/\∀p∈(ln e.1).take j,p.1≠s'/\p.1∈M++fs.map Prod.fst)
     ⟨u7,u8,ml,fs,rfl,g,cond,by simp⟩ (fun j σ H' _ h=>by obtain⟨_,_,_,_,_,g,_⟩:=h;exact aH.of ((hB.same (Bk g.kp)).l _ ek)) ?_ ?_⟩
    ·rintro j x σ H7 hx ⟨u7,u8,ml,fs,rfl,g,cond,oY⟩;have B7:=hB.same (Bk g.kp);obtain⟨b',⟨l,r⟩,rfl,oZ,hb',hbt⟩:=tP (B7.e _ ek) hx;have CH:(l,r)∈ln e.1:=bC oZ;have uv:l∈keys:=hc _ ek l r CH;refine⟨b',_,rfl,bx.of hbt,rfl,_,_,rfl,_,_,rfl,rfl,?_⟩;have qA:=g.kp _ _ nq hq;have lfs:(M++fs.map Prod.fst).length<=63:=by
      have:=uR g.nd (us:=keys) fun v hv=>(bz.mp hv).elim (Bv v) fun z=>by
       obtain⟨e',h1,rfl⟩:=aK.mp z;exact(g.ok e' h1).2.2
      lia
     try dsimp only[zy]
     refine⟨_,rfl,_,rfl,rfl,_,rfl,?_⟩;refine cM (fun c1=>?_) (fun c1=>?_)
     ·have c1:l=s':=V.str.inj (bG c1);refine⟨_,rfl,_,rfl,(by show 1<=sizeLine;decide),fun p1 uT=>?_⟩;have w1:=ak.new (o:=.lst [.ref r]) uT;refine⟨q,p1,_,_,rfl,rfl,w1 _ _ qA,zb,by rw[aq];exact lP (by show e.2.length+1<=1000;lia),fun p2 sD=>?_⟩;have w2:=ak.new (o:=.lst (e.2.map V.ref++[.ref r])) sD;have q7:ak H _:=(Bk g.kp).trans (w1.trans w2);refine k p2 (e.2++[r]) _ q7 (((Bk g.kp).trans w1).free sD) (by rw[zb,aL];rfl) (by rw[cG];show e.2.length+1<=64;lia) (.inr ⟨by simp,c1▸wk.snoc CH,fun j h1 h2=>bf.no j h1 ?_⟩);rw[cG] at h2;have h2:j<e.2.length+1:=h2;lia
     ·have c1:¬l=s':=fun z=>c1 (aP (bQ V.str z))
      have g1:=ck.k (k:=Sum.inr l) g.m;refine⟨_,rfl,_,rfl,pm,_,rfl,g1,_,rfl,?_⟩;refine cM (fun c2=>?_) (fun c2=>?_)
      ·have hv:l ∉ M++fs.map Prod.fst:=fun z=>by
        rw[pR z] at c2;cases c2
       refine⟨_,rfl,_,rfl,pm,_,rfl,eO.k (k:=Sum.inr l) g.m (by rw[jV];exact jr (by lia)),?_⟩;rw[Kq hv];have LV:upd H7 pm (.dK (dV (M++fs.map Prod.fst++[l]) iH)) pl=some (.lst (ml.map V.ref)):=by rw[ze zE];exact g.l
       have CI:upd H7 pm (.dK (dV (M++fs.map Prod.fst++[l]) iH)) q=some (.lst (e.2.map V.ref)):=by rw[ze nq];exact qA
       try dsimp only[zy]
       refine⟨_,rfl,.inl ⟨rfl,_,aH.of LV⟩,_,rfl,_,rfl,_,rfl,(by show 1<=sizeLine;decide),fun p1 uT=>?_⟩;have w1:=ak.new (o:=.lst [.ref r]) uT;refine⟨q,p1,_,_,rfl,rfl,w1 _ _ CI,zb,by rw[aq];exact lP (by show e.2.length+1<=1000;lia),fun p2 sD=>?_⟩;have w2:=ak.new (o:=.lst (e.2.map V.ref++[.ref r])) sD;refine⟨(by show 2<=sizeLine;decide),fun b9 hb9=>?_⟩;have w3:=ak.new (o:=.tup [.str l,.ref p2]) hb9;have w:=w1.trans (w2.trans w3);have acA:ml.length<=63:=by
        have h1:ml.length=fs.length:=Paired.length g.w;rw[cG,aq] at lfs;lia
       refine⟨pl,_,_,rfl,rfl,w _ _ LV,by rw[aq];exact jr (by lia),?_⟩;have g':=g.add iP zE hv w (rs:=e.2++[r]) (q:=p2) (b:=b9) (by rw[aL];exact w3 _ _ zb) (aE (zj (w1 _ _ LV) sD)) zb ⟨wk.snoc CH,by rw[cG,LU];rfl,uv⟩;have mm:∀v,v∈M++fs.map Prod.fst->v∈M++(fs++[(l,e.2++[r])]).map Prod.fst:=fun v h=>by
        rw[aL,←lC];exact dF _ h
       refine⟨_,_,_,_,rfl,g',fun u hu v r' h=>⟨(cond u hu v r' h).1,mm _ (cond u hu v r' h).2⟩,Ob oZ (fun p hp=>⟨(oY p hp).1,mm _ (oY p hp).2⟩) ⟨c1,?_⟩⟩;rw[aL,←lC];simp
      ·have hv:l∈M++fs.map Prod.fst:=fG fun z=>by
        rw[AS z] at c2;exact c2 rfl
       exact⟨_,_,ml,fs,rfl,g,cond,Ob oZ oY ⟨c1,hv⟩⟩
    ·rintro σ H7 ⟨u7,u8,ml,fs,rfl,g,cond,oY⟩;have B7:=hB.same (Bk g.kp);have lb:(bs e.1).length=(ln e.1).length:=Paired.length (B7.e _ ek);rw[aq,lb,bh] at oY;refine⟨_,_,_,_,ml,fs,rfl,g,fun u hu v r h=>?_⟩;rw[pL,aS,aN,he,bz] at hu;rcases hu with hu | hu
     ·exact cond u (by rw[pL];exact hu) v r h
     ·have:u=e.1:=by simpa using hu
      subst this;exact oY (v,r) h
   ·rintro σ H6 ⟨u5,u6,u7,u8,ml,fs,rfl,g,cond⟩;rw[aq,lw,bh] at cond;refine⟨_,rfl,?_⟩
    try dsimp only[zy]
    have Fi:∀v∈M++fs.map Prod.fst,v∈keys:=fun v hv=>(bz.mp hv).elim (Bv v) fun z=>by
     obtain⟨e',h1,rfl⟩:=aK.mp z;exact(g.ok e' h1).2.2
    have lN:=uR g.nd Fi;refine⟨_,?_,_,_,_,_,_,pl,ml,fs,d+1,M++fs.map Prod.fst,rfl,Bk g.kp,g.m,g.l,Paired.gy g.w fun _ _ ⟨q,_,h1,h2⟩=>⟨q,h1,h2⟩,g.ok,g.nd,Fi,bf.succ (fun v hv=>?_) cond,fun hf=>?_,rfl⟩
    ·rw[ao Ba,cG,aq] at *;cases fs with
     | nil=>simp
     | cons a r=>
      rw[ao (by simp)];simp only[fK] at *;lia
    ·obtain⟨e',h1,rfl⟩:=aK.mp hv;exact⟨e'.2,(g.ok e' h1).1,(g.ok e' h1).2.1⟩
    ·rw[cG,aq];have:=fJ.mpr hf;lia
  ·have Ba:es = []:=by
    have:wl = []:=by simpa using c
    subst this;exact mX.mp lw.symm
   subst Ba;refine⟨by decide,fun p hp=>?_⟩;exact k p [] _ (q5.trans (ak.new hp)) (q5.free hp) zb (by simp) (.inl ⟨rfl,bf.done⟩)
inductive uw(vs:List V)(H:Hp)(Q:VK):Prop
 | mk (p pu pt:ah) (x y:V) (us:List Str) (aA:List ah) (ts:List aT) (_:vs = [.ref p]) (_:oz K H p pu pt x y us aA ts) (_:∀(q:ah)(rs:List ah)(H':Hp),ak H H'->H q=none->H' q=some (.lst (rs.map V.ref))->rs.length<=64->qc (dj ts (ts.zip aA)) (zn ts (aM us)) rs->Q (.ref q) H')
def zvn:Sp:=fun vs H Q _=>uw (K:=K) vs H Q
theorem LW(T:Tx K mg w C_Dig zk zq zg zv zo zw zp zx):gk P w K mg base "shortest_round" ["telling"] 5 (zvn (K:=K)):=by
 refine T.zfp.has bR (fun vs H Q E h=>?_) (fun f bY A outer s H vs Q E hr h=>?_)
 ·obtain⟨p,pu,pt,x,y,us,aA,ts,rfl,_⟩:=h;rfl
 ·obtain⟨p,pu,pt,x,y,us,aA,ts,rfl,hT,k⟩:=h;refine⟨_,(zc (sset (i:=1) bR.nd (b7 (yH T) (za (pv 0) zd)))
   (zc (sset (i:=2) bR.nd (gZ zd))
   (zc (j3 bV rfl (w6 (pv 1)) (gE (i:=3) bR.nd) (zc (sset (i:=4) bR.nd (b7 (zg4 T) (za (pv 3) (za (pv 1) zd))))
    (zh (gR (PW.pt (xE (fh (sJ K rfl (iM hr)) (pv 4) (gZ zd) (fV _)) (xD (PW.pt (C3 (fh (J1 K rfl (iM hr)) (pv 2) (gZ zd) (fV _)) (Ge (fh BS (ji (qI K rfl) (by rfl) T.len cH (za (pv 4) zd)) (ji (qI K rfl) (by rfl) T.len cH (za (pv 2) zd)) (fV _)))))))) (zh (sset (i:=2) bR.nd (pv 4))) jc))))
   (zh (fW (pv 2)))))),?_⟩
  have l6:=hT.ends;refine⟨_,rfl,p,pu,pt,x,y,us,aA,ts,rfl,hT,fun pd ob ad bs H1 s1 sS hB=>?_⟩;have cl:=G9 (us:=us) (ts:=ts) (aA:=aA) l6;have lk:=hT.mq;generalize zn ts (aM us)=keys at hB cl lk k;generalize dj ts (ts.zip aA)=ln at hB cl k
  try dsimp only[zy]
  refine⟨by decide,fun ps A8=>?_⟩;have s2:=ak.new (o:=.lst []) A8;refine⟨_,rfl,pd,ob,_,rfl,s2 _ _ hB.d,AV (fun i σ H'=>∃(v3 v4:Option V)(ps:ah)(rs:List ah),σ = [some (.ref p),some (.ref pd),some (.ref ps),v3,v4]/\ak H1 H'/\H ps=none/\H' ps=some (.lst (rs.map V.ref))/\rs.length<=64/\qc ln (keys.take i) rs)
   ⟨none,none,ps,[],rfl,s2,s1.free A8,zb,by simp,by simpa using qc.nil⟩ (fun i σ H' _ h=>by obtain⟨_,_,_,_,_,q,_⟩:=h;exact q _ _ hB.d) ?_ ?_⟩
  ·rintro i kk vv σ H3 hx ⟨v3,v4,ps,rs,rfl,q3,Fj,Bw,lr,hR⟩;obtain⟨u,hu,rfl,_⟩:=AU hx;have dD:u∈keys:=bC hu
   try dsimp only[zy]
   refine⟨_,rfl,_,rfl,u,pd,ob,keys,ln,ad,bs,rfl,hB.same q3,dD,cl,lk,fun pr xs H4 s4 Ia wB lx hS=>?_⟩;have q4:=q3.trans s4;have Bx:=s4 _ _ Bw
   try dsimp only[zy]
   refine vF (decide (xs≠[]/\(rs = []\/xs.length<rs.length))) (fun Q' hQ=>?_) (fun H5 t5=>?_)
   ·refine⟨_,rfl,by decide,fun e1 he1=>?_⟩;have w1:=ak.new (o:=.lst []) he1;refine⟨pr,e1,_,rfl,rfl,cV.kG (aH.of (w1 _ _ wB)) (aH.of zb),_,rfl,?_⟩;refine cM (fun c=>?_) (fun c=>?_)
    ·have c:xs≠[]:=by simpa using c
     refine⟨_,rfl,by decide,fun e2 Hx=>?_⟩;have w2:=ak.new (o:=.lst []) Hx;have Fl:=w1.trans w2;refine⟨ps,e2,_,rfl,rfl,cV.kG (aH.of (Fl _ _ Bx)) (aH.of zb),_,rfl,?_⟩;refine cM (fun c2=>?_) (fun c2=>?_)
     ·have c2:rs = []:=by simpa using c2
      rw[show true=decide (xs≠[]/\(rs = []\/xs.length<rs.length)) from(aP ⟨c,.inl c2⟩).symm];exact hQ _ Fl
     ·have c2:¬rs = []:=by simpa using c2
      refine⟨_,rfl,pr,_,rfl,.inl (aH.of (Fl _ _ wB)),_,rfl,ps,_,rfl,.inl (aH.of (Fl _ _ Bx)),_,_,rfl,rfl,_,rfl,?_⟩;have:decide (((xs.map V.ref).length:Int)<((rs.map V.ref).length:Int))=decide (xs≠[]/\(rs = []\/xs.length<rs.length)):=by
       rw[aq,aq];apply iZ.mpr;constructor
       ·intro z;exact⟨c,.inr (by lia)⟩
       ·rintro⟨_,z | z⟩
        ·exact absurd z c2
        ·lia
      rw[←this] at hQ;exact hQ _ Fl
    ·have c:xs = []:=by simpa using c
     rw[show false=decide (xs≠[]/\(rs = []\/xs.length<rs.length)) from(bq fun z=>z.1 c).symm];exact hQ _ w1
   ·have:=hR.step hS;rw[show keys.take i++[u]=keys.take (i+1) by rw[aS,hu];rfl] at this;refine cM (fun c=>?_) (fun c=>?_)
    ·have c:=bG c;rw[av c] at this;exact⟨_,rfl,_,_,pr,xs,rfl,q4.trans t5,(s1.trans q3).free Ia,t5 _ _ wB,lx,this⟩
    ·have c:¬(xs≠[]/\(rs = []\/xs.length<rs.length)):=fun z=>c (aP z)
     rw[ao c] at this;exact⟨_,_,ps,rs,rfl,q4.trans t5,Fj,t5 _ _ Bx,lr,this⟩
  ·rintro σ H3 ⟨v3,v4,ps,rs,rfl,q3,Fj,Bw,lr,hR⟩;rw[jV,bh] at hR;exact⟨_,rfl,k ps rs _ (s1.trans q3) Fj Bw lr hR⟩
theorem zpn{α:Type}(f:α->Bool)(l:List α):(l.map f).all id=l.all f:=by rw[List.all_map];rfl
inductive ux(vs:List V)(H:Hp)(Q:VK):Prop
 | mk (pl pp:ah) (bs:List ah) (L:List (Str×ah)) (M:List Str) (_:vs = [.ref pl,.ref pp]) (_:aH K H pl (bs.map V.ref)) (_:Paired (fun b(p:Str×ah)=>H b=some (.tup [.str p.1,.ref p.2])) bs L) (_:H pp=some (.dK (dV M iH))) (_:L.length<=900) (_:∀H',ak H H'->Q (.bl (uS M L)) H')
def zvo:Sp:=fun vs H Q _=>ux (K:=K) vs H Q
theorem zpo(T:Tx K mg w C_Dig zk zq zg zv zo zw zp zx):gk P w K mg base "rests_on" ["lowers","placed"] 1 (zvo (K:=K)):=by
 refine T.zpt.has zmk (fun vs H Q E h=>?_) (fun f bY A outer s H vs Q E hr h=>?_)
 ·obtain⟨pl,pp,bs,L,M,rfl,_⟩:=h;rfl
 ·obtain⟨pl,pp,bs,L,M,rfl,hl,pr,hm,lL,k⟩:=h;have hu:=kC hr;refine⟨_,(zh (fW (ji (Vt K rfl rfl) (by rfl) T.all PyProof.Rows.boot_all (za (sI (own:=["lower","tie"]) (cap:=["placed"]) (ix:=[1]) (gA:=zm (top 22)) rfl ⟨rfl,by decide +kernel,by decide +kernel,by decide +kernel,by decide +kernel⟩ rfl (jG K rfl (pv 0)) (fun _ _ _ _=>vE (n:=2) K rfl rfl (mD (nX (i:=0) (show List.Nodup (["lower","tie","placed"]:List Str) by decide +kernel) rfl (Or.inl rfl)) (mD (nX (i:=1) (show List.Nodup (["lower","tie","placed"]:List Str) by decide +kernel) rfl (Or.inl rfl)) u9))) (fun _ _ _ _=>sH) (fun _ _ _ _=>(MK (B8 hu (pv 0) (pv 2))))) zd)))),?_⟩;have lb:bs.length=L.length:=Paired.length pr;refine⟨_,rfl,pl,rfl,⟨_,hl⟩,fun D hD=>?_⟩;refine qa (tH (K:=K) (a:=pl) (xs:=bs.map V.ref)) (fun i aI ys H'=>∃w0 w1,aI = [w0,w1,some (.ref pp)]/\ys=((L.take i).map fun p=>decide (p.1∈M)).map V.bl/\ak H H'/\H' D=some (.lst ys))
   ⟨none,none,rfl,by simp,ak.new hD,zb⟩ (fun i aI ys H' h=>?_) (by rw[aq];exact lP (by lia)) ?_ ?_
  ·obtain⟨_,_,_,rfl,q,hd⟩:=h;refine⟨q.seq hl,hd,?_⟩;rw[aq,aq,bw];lia
  ·rintro i v aI ys H' hx ⟨w0,w1,rfl,rfl,q,hd⟩;obtain⟨b,⟨l,r⟩,rfl,oZ,_,hb⟩:=tP pr hx;have c6:=iy hx;refine⟨b,_,rfl,bx.of (q _ _ hb),rfl,_,_,rfl,_,_,rfl,rfl,?_⟩
   try dsimp only[zy]
   unfold kD;dsimp only;rw[av rfl];have g:=ck.k (k:=Sum.inr l) (q _ _ hm);refine⟨_,rfl,_,rfl,pp,_,rfl,g,hd,mG c6 ⟨_,_,rfl,?_,q.upd hD,zb⟩⟩;rw[aS,oZ,aL,aL]
   congr 1
   show[V.bl (cT (dV M iH) (Sum.inr l)).isSome] = [V.bl (decide (l∈M))]
   by_cases c:l∈M
   ·rw[pR c,aP c];rfl
   ·rw[AS c,bq c];rfl
  rintro aI ys H1 ⟨w0,w1,rfl,rfl,q,hd⟩;rw[aq,lb,bh] at hd;refine⟨D,_,rfl,aH.of hd,?_⟩;rw[zpn];exact k _ q
inductive uy(vs:List V)(H:Hp)(Q:VK):Prop
 | mk (pd pp:ah) (ob:Obj) (keys:List Str) (ln:Ln) (ad:Str->ah) (bs:Str->List ah) (M:List Str) (u:Str) (r:List Str) (_:vs = [.ref pd,.ref pp]) (_:Bn H pd ob keys ln ad bs) (_:H pp=some (.dK (dV M iH))) (_:keys.length<=63) (_:(∀k∈keys,(ln k).length<=900)) (_:tQ ln keys M=u::r) (_:∀H',ak H H'->Q (.str u) H')
def zvp:Sp:=fun vs H Q _=>uy vs H Q
theorem Rj(T:Tx K mg w C_Dig zk zq zg zv zo zw zp zx):gk P w K mg base "least_free" ["beneath","placed"] 2 zvp:=by
 refine T.zlg.has jI (fun vs H Q E h=>?_) (fun f bY A outer s H vs Q E hr h=>?_)
 ·obtain⟨pd,pp,ob,keys,ln,ad,bs,M,u,r,rfl,_⟩:=h;rfl
 ·obtain⟨pd,pp,ob,keys,ln,ad,bs,M,u,r,rfl,hB,hm,lk,ll,hf,k⟩:=h;have hu:=kC hr;refine⟨_,(zc (GG (i:=2) (own:=["name"]) (cap:=["placed","beneath"]) (ix:=[1,0]) (gA:=zm (top 21)) rfl jI.nd rfl rfl rfl ⟨rfl,by decide +kernel,by decide +kernel,by decide +kernel,by decide +kernel⟩ rfl (w6 (pv 0)) (fun _ _ _ _=>nX (i:=0) (show List.Nodup (["name","placed","beneath"]:List Str) by decide +kernel) rfl (Or.inl rfl)) (fun _ _ _ _=>DP (PW.pt (xE (uN (B9 hu (pv 0) (pv 1))) (xD (II (b7 (zpo T) (za (g7 hu (pv 2) (pv 0) (fun _ _=>rfl)) (za (pv 1) zd)))))))) (fun _ _ _ _=>(pv 0)))
   (zh (fW (bP (lZ K rfl) (pv 2) zi)))),?_⟩
  refine⟨_,rfl,pd,ob,_,rfl,hB.d,fun D hD=>?_⟩;refine qa (Kw (a:=pd) (ob:=ob) (kvs:=dV keys fun k=>.ref (ad k))) (fun i aI ys H'=>∃w0,aI = [w0,some (.ref pp),some (.ref pd)]/\ys=((keys.take i).filter fun x=>decide (x ∉ M)&&uS M (ln x)).map V.str/\ak H H'/\H' D=some (.lst ys))
   ⟨none,rfl,by simp,ak.new hD,zb⟩ (fun i aI ys H' h=>?_) (by rw[aq,jV];exact lP (by lia)) ?_ ?_
  ·obtain⟨_,_,rfl,q,hd⟩:=h;refine⟨q _ _ hB.d,hd,?_⟩;rw[aq];exact bH (e7 _ _) (by rw[bw];lia)
  ·rintro i v aI ys H1 hx ⟨w0,rfl,rfl,q,hd⟩;have c6:=iy hx;rw[GZ,aN] at hx;cases eu:keys[i]? with
   | none=>rw[eu] at hx;cases hx
   | some z=>
    rw[eu] at hx;cases hx;have hz:z∈keys:=bC eu;have B1:=hB.same q;have g:=ck.k (k:=Sum.inr z) (q _ _ hm);have no:∀(H2:Hp),ak H1 H2->(decide (z ∉ M)&&uS M (ln z))=false->∃Lx,[some (V.str z),some (V.ref pp),some (V.ref pd)] = [Lx,some (.ref pp),some (.ref pd)]/\((keys.take i).filter fun x=>decide (x ∉ M)&&uS M (ln x)).map V.str=((keys.take (i+1)).filter fun x=>decide (x ∉ M)&&uS M (ln x)).map V.str/\ak H H2/\H2 D=some (.lst (((keys.take i).filter fun x=>decide (x ∉ M)&&uS M (ln x)).map V.str)):=fun H2 t e=>by
     refine⟨_,rfl,?_,q.trans t,t _ _ hd⟩;rw[aS,eu,lW,aL];have:(some z).toList.filter (fun x=>decide (x ∉ M)&&uS M (ln x)) = []:=by
      show[z].filter _ = [];rw[mZ (by rw[e];exact bJ)];rfl
     rw[this,pM,fL]
    try dsimp only[zy]
    refine⟨_,rfl,_,rfl,pp,_,rfl,g,_,rfl,?_⟩;refine cM (fun c=>?_) (fun c=>?_)
    ·have c1:z ∉ M:=fun y=>by rw[pR y] at c;cases c
     refine⟨_,rfl,_,rfl,pd,_,rfl,B1.get hz,_,rfl,ad z,pp,bs z,ln z,M,rfl,aH.of (B1.l z hz),B1.e z hz,q _ _ hm,ll z hz,fun H2 t2=>⟨_,rfl,?_⟩⟩;refine cM (fun c2=>?_) (fun c2=>?_)
     ·refine⟨_,rfl,t2 _ _ hd,mG c6 ⟨_,rfl,?_,(q.trans t2).upd hD,zb⟩⟩;rw[aS,eu,lW,aL]
      congr 1
      have:(some z).toList.filter (fun x=>decide (x ∉ M)&&uS M (ln x)) = [z]:=by
       show[z].filter _ = [z];rw[mY (by rw[aP c1,c2];rfl)];rfl
      rw[this];rfl
     ·have c2:uS M (ln z)=false:=by simpa using c2
      exact⟨t2 _ _ hd,mG c6 (no H2 t2 (by rw[c2,Bool.and_false]))⟩
    ·have c1:z∈M:=fG fun y=>by
      rw[AS y] at c;exact c rfl
     refine⟨hd,mG c6 (no H1 (ak.refl _) ?_)⟩;rw[show decide (z ∉ M)=false from bq (fun y=>y c1),Bool.false_and]
  rintro aI ys H1 ⟨w0,rfl,rfl,q,hd⟩;rw[aq,jV,bh] at hd;have hd:H1 D=some (.lst ((tQ ln keys M).map V.str)):=hd;rw[hf] at hd
  try dsimp only[zy]
  exact⟨_,rfl,D,_,_,_,rfl,rfl,aH.of hd,D8,k _ q⟩
inductive rW(vs:List V)(H:Hp)(Q:VK):Prop
 | mk (p pu pt:ah) (x y:V) (us:List Str) (aA:List ah) (ts:List aT) (_:vs = [.ref p]) (_:oz K H p pu pt x y us aA ts) (_:ju (dj ts (ts.zip aA)) (zn ts (aM us))) (_:∀H',ak H H'->Q .cu H')
def ztd:Sp:=fun vs H Q _=>rW (K:=K) vs H Q
theorem zhs(T:Tx K mg w C_Dig zk zq zg zv zo zw zp zx):gk P w K mg base "refuse_round" ["telling"] 6 (ztd (K:=K)):=by
 refine T.QE.has dB (fun vs H Q E h=>?_) (fun f bY A outer s H vs Q E hr h=>?_)
 ·obtain⟨p,pu,pt,x,y,us,aA,ts,rfl,_⟩:=h;rfl
 ·obtain⟨p,pu,pt,x,y,us,aA,ts,rfl,hT,nr,k⟩:=h;refine⟨_,(zc (sset (i:=1) dB.nd (b7 (LW T) (za (pv 0) zd)))
   (zh (gR (fh (sJ K rfl (iM hr)) (pv 1) (gZ zd) (fV _)) (zh yV) jc))),?_⟩
  refine⟨_,rfl,p,pu,pt,x,y,us,aA,ts,rfl,hT,fun q rs H1 s1 fq hq lr R=>?_⟩;have e:rs = []:=fG fun z=>by
   obtain⟨s',hs,j,hj,r⟩:=R.ir.mp z;exact nr s' hs j hj r
  subst e
  try dsimp only[zy]
  refine⟨_,rfl,by decide,fun e he=>?_⟩;have s2:=ak.new (o:=.lst []) he;refine⟨q,e,_,rfl,rfl,cV.kG (aH.of (s2 _ _ hq)) (aH.of zb),_,rfl,fj ?_⟩;exact k _ (s1.trans s2)
inductive uz(vs:List V)(H:Hp)(Q:VK):Prop
 | mk (p pu pt:ah) (x y:V) (us:List Str) (aA:List ah) (ts:List aT) (_:vs = [.ref p]) (_:oz K H p pu pt x y us aA ts) (_:ju (dj ts (ts.zip aA)) (zn ts (aM us))) (_:∀(q:ah)(os:List Str)(H':Hp),ak H H'->H q=none->H' q=some (.lst (os.map V.str))->Ord (dj ts (ts.zip aA)) (zn ts (aM us)) os->os.Perm (zn ts (aM us))->Q (.ref q) H')
def Rk:Sp:=fun vs H Q _=>uz (K:=K) vs H Q
theorem Fo(T:Tx K mg w C_Dig zk zq zg zv zo zw zp zx):gk P w K mg base "order" ["telling"] 7 (Rk (K:=K)):=by
 refine T.QF.has gY (fun vs H Q E h=>?_) (fun f bY A outer s H vs Q E hr h=>?_)
 ·obtain⟨p,pu,pt,x,y,us,aA,ts,rfl,_⟩:=h;rfl
 ·obtain⟨p,pu,pt,x,y,us,aA,ts,rfl,hT,nr,k⟩:=h;have hu:=kC hr;refine⟨_,(zc (ig (b7 (zhs T) (za (pv 0) zd)))
   (zc (sset (i:=1) gY.nd (b7 (yH T) (za (pv 0) zd)))
   (zc (sset (i:=2) gY.nd ql)
   (zc (Gg bV (fh BS (ji NB (by rfl) T.len cH (za (pv 2) zd)) (ji Oz (by rfl) T.len cH (za (pv 1) zd)) (fV _)) (zh (oq hu (pv 2) (b7 (Rj T) (za (pv 1) (za (pv 2) zd))) yU rfl)))
   (zh (fW (xO (GK rfl) (by rfl) T.list j7 (za (pv 2) zd)))))))),?_⟩
  refine⟨_,rfl,p,pu,pt,x,y,us,aA,ts,rfl,hT,nr,fun H1 s1=>?_⟩;refine⟨_,rfl,p,pu,pt,x,y,us,aA,ts,rfl,hT.same s1,fun pd ob ad bs H2 s2 sS hB=>?_⟩;have cl:=G9 (us:=us) (ts:=ts) (aA:=aA) hT.ends;have lk:=hT.mq;have kn:=vJ (ts:=ts) hT.nd;have kl:=Oo (ts:=ts) hT.nd;have ll:∀k∈zn ts (aM us),(dj ts (ts.zip aA) k).length<=900:=fun k _=>by
   have h1:=G0 (ts:=ts) (z:=ts.zip aA) (k:=k);have h2:=hT.tl;rw[fO] at h1;lia
  generalize zn ts (aM us)=keys at hB cl lk k nr kn kl ll;generalize dj ts (ts.zip aA)=ln at hB cl k nr ll;have q2:=s1.trans s2
  try dsimp only[zy]
  refine fun pp Fp=>?_
  have s3:=ak.new (o:=.dK []) Fp;refine⟨fun m σ H'=>∃os,σ = [some (.ref p),some (.ref pd),some (.ref pp)]/\ak H2 H'/\H' pp=some (.dK (dV os iH))/\Ord ln keys os/\m=keys.length-os.length,⟨_,[],rfl,s3,zb,Ord.nil,rfl⟩,?_⟩;rintro m σ H4 ⟨os,rfl,q4,oG,O,rfl⟩;have B4:=hB.same q4;have lo:=uR O.nd O.sub;refine⟨_,rfl,pp,_,rfl,oG,_,rfl,pd,_,rfl,.inr ⟨_,B4.d⟩,_,_,rfl,rfl,_,rfl,?_⟩;rw[jV,jV];refine cM (fun c=>?_) (fun c=>?_)
  ·have c:=bG c;have hx:∃x∈keys,x ∉ os:=o6 fun hn=>by
    have:=uR (us:=os) kn fun x hx=>fG fun z=>hn ⟨x,hx,z⟩
    lia
   obtain⟨u,r,c7⟩:∃u r,tQ ln keys os=u::r:=by
    cases e:tQ ln keys os with
    | nil=>exact absurd e (Wa cl nr hx)
    | cons u r=>exact⟨u,r,rfl⟩
   obtain⟨m1,m2,m3⟩:=jj.mp (show u∈tQ ln keys os by rw[c7];simp);refine⟨fun aI H'=>∃m',m'<keys.length-os.length/\_,fun aI H' h=>h,?_⟩;refine⟨_,rfl,_,rfl,_,rfl,pd,pp,ob,keys,ln,ad,bs,os,u,r,rfl,B4,oG,lk,ll,c7,fun H5 s5=>?_⟩;refine⟨pp,_,rfl,eO.k (k:=Sum.inr u) (s5 _ _ oG) (by rw[jV];exact jr (by lia)),?_⟩;rw[Kq m2];refine⟨_,?_,os++[u],rfl,(q4.trans s5).upd Fp,zb,O.snoc kl c7,rfl⟩;rw[cG];show keys.length-(os.length+1)<_;lia
  ·have c:¬((os.length:Int)<(keys.length:Int)):=fun z=>c (aP z)
   have e:os.length=keys.length:=by lia
   refine⟨_,rfl,pp,_,rfl,oG,fun q hq=>?_⟩;rw[GZ];exact k q os _ (q2.trans (q4.trans (ak.new hq))) ((q2.trans q4).free hq) zb O (O.perm kn e)
inductive rX(vs:List V)(H:Hp)(Q:VK):Prop
 | mk (p pu pt:ah) (x y:V) (us:List Str) (aA:List ah) (ts:List aT) (_:vs = [.ref p]) (_:oz K H p pu pt x y us aA ts) (_:ju (dj ts (ts.zip aA)) (zn ts (aM us))) (_:∀(q:ah)(cs:List ah)(lv:Str->Nat)(H':Hp),ak H H'->H q=none->H' q=some (.lst (cs.map V.ref))->cs.length<=63->cs.Nodup->(∀c∈cs,H c=none/\c≠q)->(∀(j:Nat)c,cs[j]? = some c->H' c=some (.lst (((zn ts (aM us)).filter (iA lv j)).map V.str)))->Lv (dj ts (ts.zip aA)) (zn ts (aM us)) lv cs.length->Q (.ref q) H')
def zte:Sp:=fun vs H Q _=>rX (K:=K) vs H Q
theorem zvq(T:Tx K mg w C_Dig zk zq zg zv zo zw zp zx):gk P w K mg base "levels" ["telling"] 8 (zte (K:=K)):=by
 refine T.zv1.has fF (fun vs H Q E h=>?_) (fun f bY A outer s H vs Q E hr h=>?_)
 ·obtain⟨p,pu,pt,x,y,us,aA,ts,rfl,_⟩:=h;rfl
 ·obtain⟨p,pu,pt,x,y,us,aA,ts,rfl,hT,nr,k⟩:=h;have hu:=kC hr;refine⟨_,(zc (sset (i:=1) fF.nd (b7 (yH T) (za (pv 0) zd)))
   (zc (sset (i:=2) fF.nd ql)
   (zc (sset (i:=3) fF.nd (gZ zd))
   (zc (j3 bV rfl (jG K rfl (b7 (Fo T) (za (pv 0) zd))) (gE (i:=4) fF.nd) (zc (sset (i:=5) fF.nd (WD K rfl 0 rfl (by rfl) T.max (sI (own:=["lower","tie"]) (cap:=["numbers"]) (ix:=[2]) (gA:=zm (top 28)) rfl ⟨rfl,by decide +kernel,by decide +kernel,by decide +kernel,by decide +kernel⟩ rfl (jG K rfl (g7 hu (pv 1) (pv 4) (fun _ _=>rfl))) (fun _ _ _ _=>vE (n:=2) K rfl rfl (mD (nX (i:=0) (show List.Nodup (["lower","tie","numbers"]:List Str) by decide +kernel) rfl (Or.inl rfl)) (mD (nX (i:=1) (show List.Nodup (["lower","tie","numbers"]:List Str) by decide +kernel) rfl (Or.inl rfl)) u9))) (fun _ _ _ _=>sH) (fun _ _ _ _=>(fR sq (g7 hu (pv 2) (pv 0) (fun _ _=>rfl)) zi)))))
    (zc (oq hu (pv 2) (pv 4) (pv 5) rfl)
    (zc (gR (fh su (pv 5) (ji (qI K rfl) (by rfl) T.len cH (za (pv 3) zd)) (fV _)) (zh (ig (rE K rfl PySem.F.plainAttrs_list PySem.F.slot_list_append PySem.F.type_list_append uP (pv 3) (za (gZ zd) zd)))) jc)
    (zh (ig (rE K rfl PySem.F.plainAttrs_list PySem.F.slot_list_append PySem.F.type_list_append uP (bP (lZ K rfl) (pv 3) (pv 5)) (za (pv 4) zd))))))))
   (zh (fW (sI (own:=["row"]) (cap:=[]) (ix:=[]) (gA:=zm (top 28)) rfl ⟨rfl,by decide +kernel,by decide +kernel,by decide +kernel,by decide +kernel⟩ rfl (jG K rfl (pv 3)) (fun _ _ _ _=>nX (i:=0) (show List.Nodup (["row"]:List Str) by decide +kernel) rfl (Or.inl rfl)) (fun _ _ _ _=>sH) (fun _ _ _ _=>(ji (Hi (K:=K) rfl) (by rfl) T.sorted mV (za (pv 0) zd)))))))))),?_⟩
  refine⟨_,rfl,p,pu,pt,x,y,us,aA,ts,rfl,hT,fun pd ob ad bs H1 s1 sS hB=>?_⟩;have lk:=hT.mq;have kn:=vJ (ts:=ts) hT.nd;have kl:=Oo (ts:=ts) hT.nd;have ll:∀k∈zn ts (aM us),(dj ts (ts.zip aA) k).length<=900:=fun k _=>by
   have h1:=G0 (ts:=ts) (z:=ts.zip aA) (k:=k);have h2:=hT.tl;rw[fO] at h1;lia
  try dsimp only[zy]
  refine fun pn Rl=>?_
  have s2:=ak.new (o:=.dK []) Rl
  try dsimp only[zy]
  refine⟨by decide,fun pr wB=>?_⟩;have s3:=ak.new (o:=.lst []) wB;have q3:=s1.trans (s2.trans s3);have Ia:H1 pr=none:=s2.free wB;have Rm:pn≠pr:=zj zb wB;refine⟨_,rfl,p,pu,pt,x,y,us,aA,ts,rfl,hT.same q3,nr,fun q os H4 s4 fq hq O pm=>?_⟩;have hn4:=s4 _ _ (s3 _ _ (zb (H:=H1) (a:=pn) (o:=.dK [])));have yF:=s4 _ _ (zb (H:=upd H1 pn (.dK [])) (a:=pr) (o:=.lst []));have nqn:pn≠q:=zj (s3 _ _ zb) fq;have nqr:pr≠q:=zj zb fq;have fq1:H1 q=none:=(s2.trans s3).free fq;have lo:os.length<=63:=by rw[pm.length_eq];exact lk
  generalize zn ts (aM us)=keys at hB lk k nr kn kl ll O pm;generalize dj ts (ts.zip aA)=ln at hB k nr ll O;refine⟨q,rfl,⟨_,aH.of hq⟩,pP (xs:=os.map V.str) (fun i σ H'=>∃(v4 v5:Option V)(cs:List ah)(lv:Str->Nat),σ = [some (.ref p),some (.ref pd),some (.ref pn),some (.ref pr),v4,v5]/\ak H1 H'/\H' q=some (.lst (os.map V.str))/\
   H' pn=some (.dK (dV (os.take i) fun x=>.int (lv x)))/\H' pr=some (.lst (cs.map V.ref))/\cs.length<=i/\cs.Nodup/\(∀c∈cs,H1 c=none/\c≠pn/\c≠pr/\c≠q)/\
   (∀(j:Nat)c,cs[j]? = some c->H' c=some (.lst (((os.take i).filter (iA lv j)).map V.str)))/\Lv ln (os.take i) lv cs.length)
   ⟨none,none,[],fun _=>0,rfl,s2.trans (s3.trans s4),hq,hn4,yF,aG _,by simp,by simp,by simp,Lv.nil⟩ (fun i σ H' _ h=>by obtain⟨_,_,_,_,_,_,q,_⟩:=h;exact aH.of q) ?_ ?_⟩
  ·rintro i v σ H5 hx ⟨v4,v5,cs,lv,rfl,q5,By,LX,uV,cl,cn,cf,ch,L⟩;rw[aN] at hx;cases eu:os[i]? with
   | none=>rw[eu] at hx;cases hx
   | some u=>
    rw[eu] at hx;cases hx;have c7:u∈keys:=O.sub u (bC eu);have wC:=O.low i u eu;have hi:=iy eu;have LY:u ∉ os.take i:=fun z=>by
     have nd:=O.nd;rw[←qV i os,iU] at nd;refine nd.2.2 u z u ?_ rfl;obtain⟨hi,e⟩:=bI.mp eu;rw[←e];exact List.mem_drop_iff_getElem.mpr ⟨0,by lia,by simp⟩
    have tk:os.take (i+1)=os.take i++[u]:=by rw[aS,eu];rfl
    have lt:(os.take i).length<=63:=by rw[bw];lia
    have B5:=hB.same q5;have lb:(bs u).length=(ln u).length:=Paired.length (B5.e u c7);have lu:=ll u c7
    try dsimp only[zy]
    refine⟨_,rfl,_,rfl,pd,_,rfl,B5.get c7,ad u,rfl,⟨_,aH.of (B5.l u c7)⟩,fun D hD=>?_⟩;refine qa (tH (K:=K) (a:=ad u) (xs:=(bs u).map V.ref)) (fun i' aI ys H'=>∃w0 w1,aI = [w0,w1,some (.ref pn)]/\ys=(qN lv ((ln u).take i')).map V.int/\ak H5 H'/\H' D=some (.lst ys))
     ⟨none,none,rfl,by simp[qN],ak.new hD,zb⟩ (fun i' aI ys H' h=>?_) (by rw[aq];exact lP (by lia)) ?_ ?_
    ·obtain⟨_,_,_,rfl,q,hd⟩:=h;refine⟨aH.of (q _ _ (B5.l u c7)),hd,?_⟩;unfold qN;rw[aq,aq,bw];lia
    ·rintro i' v aI ys H' hx ⟨w0,w1,rfl,rfl,q,hd⟩;obtain⟨b,⟨l,r⟩,rfl,oZ,_,hb⟩:=tP (B5.e u c7) hx;have c6:=iy hx;have hl:l∈os.take i:=wC l r (bC oZ);refine⟨b,_,rfl,bx.of (q _ _ hb),rfl,_,_,rfl,_,_,rfl,rfl,?_⟩
     try dsimp only[zy]
     unfold kD;dsimp only;rw[av rfl];have g:=ck.k (k:=Sum.inr l) (q _ _ LX);rw[pR hl] at g;refine⟨_,rfl,_,rfl,pn,_,rfl,g,_,_,rfl,rfl,hd,mG c6 ⟨_,_,rfl,?_,q.upd hD,zb⟩⟩;rw[aS,oZ];unfold qN;rw[aL,aL];rfl
    rintro aI ys H6 ⟨w0,w1,rfl,rfl,t6,jv⟩;rw[aq,lb,bh] at jv;refine⟨D,_,rfl,aH.of jv,fun m hm=>?_⟩;obtain⟨k',rfl,hk⟩:=L.next wC hm;have L':=L.step LY wC hm hk;have DV:=t6 _ _ LX;have hr6:=t6 _ _ uV
    try dsimp only[zy]
    refine⟨_,rfl,_,rfl,_,rfl,pn,_,rfl,eO.k (k:=Sum.inr u) DV (by rw[jV];exact jr (by lia)),?_⟩;rw[wZ LY];have ed:dV (os.take i++[u]) (fun z=>if z=u then V.int (k':Int) else V.int (lv z))=dV (os.take (i+1)) fun x=>V.int (pT lv u k' x):=by
     rw[tk];refine tO fun z _=>?_
     unfold pT;split<;>rfl
    rw[ed];have q7:ak H1 (upd H6 pn (.dK (dV (os.take (i+1)) fun x=>V.int (pT lv u k' x)))):=(q5.trans t6).upd Rl;have qA:upd H6 pn (.dK (dV (os.take (i+1)) fun x=>V.int (pT lv u k' x))) q=some (.lst (os.map V.str)):=by rw[ze (aE nqn)];exact t6 _ _ By
    have CJ:upd H6 pn (.dK (dV (os.take (i+1)) fun x=>V.int (pT lv u k' x))) pr=some (.lst (cs.map V.ref)):=by rw[ze (aE Rm)];exact hr6
    have Ib:upd H6 pn (.dK (dV (os.take (i+1)) fun x=>V.int (pT lv u k' x))) pn=some (.dK (dV (os.take (i+1)) fun x=>V.int (pT lv u k' x))):=zb;have Ic:∀(j:Nat)c,cs[j]? = some c->upd H6 pn (.dK (dV (os.take (i+1)) fun x=>V.int (pT lv u k' x))) c=some (.lst (((os.take i).filter (iA lv j)).map V.str)):=fun j c e=>by
     rw[ze (cf c (bC e)).2.1];exact t6 _ _ (ch j c e)
    generalize upd H6 pn (.dK (dV (os.take (i+1)) fun x=>V.int (pT lv u k' x)))=H7 at q7 qA CJ Ib Ic
    try dsimp only
    unfold xF;refine WJ (fun aI H'=>∃(tX:List ah),aI = [some (.ref p),some (.ref pd),some (.ref pn),some (.ref pr),some (.str u),some (.int k')]/\ak H1 H'/\H' q=some (.lst (os.map V.str))/\
      H' pn=some (.dK (dV (os.take (i+1)) fun x=>V.int (pT lv u k' x)))/\H' pr=some (.lst (tX.map V.ref))/\tX.length<=i+1/\tX.Nodup/\(∀c∈tX,H1 c=none/\c≠pn/\c≠pr/\c≠q)/\
      (∀(j:Nat)c,tX[j]? = some c->H' c=some (.lst (((os.take i).filter (iA lv j)).map V.str)))/\k'<tX.length/\tX.length=if k'=cs.length then cs.length+1 else cs.length) (decide (k'=cs.length)) (fun Q' hQ=>?_) (fun e hn=>?_) (fun e hn=>?_) ?_
    ·refine⟨_,rfl,_,rfl,pr,_,rfl,.inl (aH.of CJ),rfl,_,rfl,?_⟩;have e:decide (V.int (k':Int)=V.int ((cs.map V.ref).length:Int))=decide (k'=cs.length):=by
      rw[iZ,aq];constructor
      ·intro z;injection z with z;lia
      ·intro z;rw[z]
     rw[e];exact hQ
    ·have e:=bG e;refine⟨_,rfl,.inl ⟨rfl,_,aH.of CJ⟩,by decide,fun q0 aQ=>?_⟩;have t0:=ak.new (o:=.lst []) aQ;refine⟨pr,_,_,rfl,rfl,t0 _ _ CJ,by rw[aq];exact jr (by lia),?_⟩;have zU:H1 q0=none:=q7.free aQ;have fp0:H1 pr=none:=Ia;have mp:=aL (f:=V.ref) (l₁:=cs) (l₂:=[q0]);have xy:pr≠q0:=zj CJ aQ;refine hn _ _ ⟨cs++[q0],rfl,(q7.trans t0).upd fp0,?_,?_,by rw[zb,mp];rfl,by rw[cG];show cs.length+1<=_;lia,?_,fun c hc=>?_,fun j c hc=>?_,by rw[cG];show _<cs.length+1;lia,by rw[av e,cG];rfl⟩
     ·rw[ze (aE nqr)];exact t0 _ _ qA
     ·rw[ze Rm];exact t0 _ _ Ib
     ·rw[iU];refine⟨cn,by simp,fun a ha b hb z=>?_⟩;have hb:b=q0:=by simpa using hb
      subst hb;subst z;obtain⟨j,hj⟩:=jy.mp ha;have:=Ic j _ hj;rw[aQ] at this;cases this
     ·rcases bz.mp hc with hc | hc
      ·exact cf c hc
      ·have hc:c=q0:=by simpa using hc
       subst hc;exact⟨zU,aE (zj Ib aQ),aE xy,aE (zj qA aQ)⟩
     ·by_cases hj:j<cs.length
      ·rw[mR hj] at hc;rw[ze (cf c (bC hc)).2.2.1];exact t0 _ _ (Ic j c hc)
      ·rw[mQ (by lia)] at hc;have LZ:j=cs.length:=by
        have:=iy hc;have:j-cs.length<1:=this;lia
       subst LZ;simp at hc;subst hc;rw[ze (aE xy),zb,L.ye (aG _)];rfl
    ·have e:=lX e;exact hn _ _ ⟨cs,rfl,q7,qA,Ib,CJ,by lia,cn,cf,Ic,by lia,by rw[ao e]⟩
    ·rintro aI H8 ⟨tX,rfl,q8,CI,hn8,Ro,cl8,Rp,Rq,Rr,kc,ec⟩;have gT:tX[k']? = some tX[k']:=aV kc;have hc:=Rr k' _ gT;generalize tX[k']=c at gT hc;have Ie:=Rq c (bC gT);refine⟨_,rfl,_,rfl,pr,_,_,.ref c,rfl,rfl,aH.of Ro,tE (by rw[aN,gT];rfl),.inl ⟨rfl,_,aH.of hc⟩,_,rfl,c,_,_,rfl,rfl,hc,?_,?_⟩
     ·rw[aq];exact jr (by have:=e7 (iA lv k') (os.take i);lia)
     refine⟨_,_,tX,pT lv u k',rfl,q8.upd Ie.1,?_,?_,?_,cl8,Rp,Rq,fun j d hd=>?_,?_⟩
     ·rw[ze (aE Ie.2.2.2)];exact CI
     ·rw[ze (aE Ie.2.1)];exact hn8
     ·rw[ze (aE Ie.2.2.1)];exact Ro
     ·rw[tk,WG LY]
      by_cases e:k'=j
      ·subst e;rw[gT] at hd;cases hd;rw[zb,av rfl,aL];rfl
      ·rw[ao e,fL,ze (fun z=>e (WI Rp gT (by rw[←z];exact hd)))];exact Rr j d hd
     ·rw[tk,ec];exact L'
  ·rintro σ H5 ⟨v4,v5,cs,lv,rfl,q5,By,LX,uV,cl,cn,cf,ch,L⟩;rw[aq,bh] at ch L;rw[aq] at cl;have Lk:=L.mem fun x=>pm.mem_iff
   try dsimp only[zy]
   refine⟨_,rfl,pr,rfl,⟨_,aH.of uV⟩,fun D hD=>?_⟩;refine qa (tH (K:=K) (a:=pr) (xs:=cs.map V.ref)) (fun i' aI ys H'=>∃(w0:Option V)(ds:List ah),aI = [w0]/\ys=ds.map V.ref/\ds.length=i'/\ak H5 H'/\H' D=some (.lst ys)/\ds.Nodup/\(∀d∈ds,H5 d=none/\d≠D)/\∀(j:Nat)d,ds[j]? = some d->H' d=some (.lst ((keys.filter (iA lv j)).map V.str)))
    ⟨none,[],rfl,rfl,rfl,ak.new hD,zb,by simp,by simp,by simp⟩ (fun i' aI ys H' h=>?_) (by rw[aq];exact lP (by lia)) ?_ ?_
   ·obtain⟨_,_,_,rfl,dl,q,hd,_⟩:=h;refine⟨aH.of (q _ _ uV),hd,?_⟩;rw[aq];lia
   ·rintro i' v aI ys H6 hx ⟨w0,ds,rfl,rfl,dl,q,hd,dn,df,dh⟩;have c6:=iy hx;rw[aN] at hx;cases ec:cs[i']? with
    | none=>rw[ec] at hx;cases hx
    | some c=>
     rw[ec] at hx;cases hx;have hc:=q _ _ (ch i' c ec)
     try dsimp only[zy]
     unfold kD;dsimp only;rw[av rfl];refine⟨_,rfl,c,os.filter (iA lv i'),rfl,aH.of hc,by have:=e7 (iA lv i') os;lia,fun d ms pY pm' rs=>?_⟩;have em:=Ci pm' rs;subst em;rw[WH pm kl];have t1:=ak.new (o:=.lst ((keys.filter (iA lv i')).map V.str)) pY;have nd:D≠d:=zj hd pY;refine⟨t1 _ _ hd,mG c6 ⟨_,ds++[d],rfl,by rw[aL];rfl,by rw[cG];show ds.length+1=_;lia,(q.trans t1).upd hD,by rw[zb],?_,fun b hb=>?_,fun j b hb=>?_⟩⟩
     ·rw[iU];refine⟨dn,by simp,fun a ha b hb z=>?_⟩;have hb:b=d:=by simpa using hb
      subst hb;subst z;obtain⟨j,hj⟩:=jy.mp ha;have:=dh j _ hj;rw[pY] at this;cases this
     ·rcases bz.mp hb with hb | hb
      ·exact df b hb
      ·have hb:b=d:=by simpa using hb
       subst hb;exact⟨q.free pY,aE nd⟩
     ·by_cases hj:j<ds.length
      ·rw[mR hj] at hb;rw[ze (df b (bC hb)).2];exact t1 _ _ (dh j b hb)
      ·rw[mQ (by lia)] at hb;have LZ:j=ds.length:=by
        have:=iy hb;have:j-ds.length<1:=this;lia
       subst LZ;simp at hb;subst hb;rw[ze (aE nd),zb,dl]
   rintro aI ys H6 ⟨w0,ds,rfl,rfl,dl,q,hd,dn,df,dh⟩;rw[aq] at dl;have f5:=s1.trans q5;refine k D ds lv H6 (f5.trans q) (f5.free hD) hd (by lia) dn (fun c hc=>⟨f5.free (df c hc).1,(df c hc).2⟩) dh ?_;rw[dl];exact Lk
inductive wD(vs:List V)(H:Hp)(Q:VK):Prop
 | mk (p pu pt:ah) (x y:V) (us:List Str) (aA:List ah) (ts:List aT) (_:vs = [.ref p]) (_:oz K H p pu pt x y us aA ts) (_:ju (dj ts (ts.zip aA)) (zn ts (aM us))) (_:∀(pd:ah)(ob:Obj)(os:List Str)(gm:Str->List Str)(ad:Str->ah)(obs:Str->Obj)(H':Hp),ak H H'->H pd=none->Dp H' pd ob os gm ad obs->os.Perm (zn ts (aM us))->(∀k∈zn ts (aM us),(gm k).Nodup/\∀y,y∈gm k↔lT (dj ts (ts.zip aA)) k y)->Q (.ref pd) H')
def zy2:Sp:=fun vs H Q _=>wD (K:=K) vs H Q
theorem zjj(T:Tx K mg w C_Dig zk zq zg zv zo zw zp zx):gk P w K mg base "all_beneath" ["telling"] 8 (zy2 (K:=K)):=by
 refine T.zjq.has cK (fun vs H Q E h=>?_) (fun f bY A outer s H vs Q E hr h=>?_)
 ·obtain⟨p,pu,pt,x,y,us,aA,ts,rfl,_⟩:=h;rfl
 ·obtain⟨p,pu,pt,x,y,us,aA,ts,rfl,hT,nr,k⟩:=h;have hu:=kC hr;refine⟨_,(zc (sset (i:=1) cK.nd (b7 (yH T) (za (pv 0) zd)))
   (zc (sset (i:=2) cK.nd ql)
   (zc (j3 bV rfl (jG K rfl (b7 (Fo T) (za (pv 0) zd))) (gE (i:=3) cK.nd) (zc (oq hu (pv 2) (pv 3) ql rfl)
    (zh (j3 bV rfl (jG K rfl (g7 hu (pv 1) (pv 3) (fun _ _=>rfl))) (vE K rfl rfl (mD (gE (i:=4) cK.nd) (mD (gE (i:=5) cK.nd) u9))) (zc (oq hu (g7 hu (pv 2) (pv 3) (fun _ _=>rfl)) (pv 4) yU rfl)
     (zh (ig (rE K rfl PySem.F.plainAttrs_dict PySem.F.slot_dict_update PySem.F.type_dict_update Xo (g7 hu (pv 2) (pv 3) (fun _ _=>rfl)) (za (g7 hu (pv 2) (pv 4) (fun _ _=>rfl)) zd)))))))))
   (zh (Xs (fW (pv 2))))))),?_⟩
  refine⟨_,rfl,p,pu,pt,x,y,us,aA,ts,rfl,hT,fun ps Rt aB bB H1 s1 Fj hB=>?_⟩;have lk:=hT.mq;have kn:=vJ (ts:=ts) hT.nd;have cl:=G9 (us:=us) (ts:=ts) (aA:=aA) hT.ends;have ll:∀k,(dj ts (ts.zip aA) k).length<=900:=fun k=>by
   have h1:=G0 (ts:=ts) (z:=ts.zip aA) (k:=k);have h2:=hT.tl;rw[fO] at h1;lia
  try dsimp only[zy]
  refine fun pd gG=>?_
  have s2:=ak.new (o:=.dK []) gG;refine⟨_,rfl,p,pu,pt,x,y,us,aA,ts,rfl,hT.same (s1.trans s2),nr,fun q os H3 s3 fq hq O pm=>?_⟩;have f7:=s3 _ _ (zb (H:=H1) (a:=pd) (o:=.dK []));have nq:pd≠q:=zj zb fq;have lo:os.length<=63:=by rw[pm.length_eq];exact lk
  generalize zn ts (aM us)=keys at hB lk k nr kn cl O pm;generalize dj ts (ts.zip aA)=ln at hB k nr cl ll O;have Fq:∀z,z∈os↔z∈keys:=fun z=>pm.mem_iff
  refine⟨q,rfl,⟨_,aH.of hq⟩,pP (xs:=os.map V.str) (fun i σ H'=>∃(v3 v4 v5:Option V)(gm:Str->List Str)(ad:Str->ah),σ = [some (.ref p),some (.ref ps),some (.ref pd),v3,v4,v5]/\ak H1 H'/\H' q=some (.lst (os.map V.str))/\
    H' pd=some (.dK (dV (os.take i) fun k=>.ref (ad k)))/\(∀k∈os.take i,H' (ad k)=some (.dK (dV (gm k) iH))/\H1 (ad k)=none/\ad k≠pd/\ad k≠q/\(gm k).Nodup/\∀y,y∈gm k↔lT ln k y)/\(∀k∈os.take i,∀k'∈os.take i,ad k=ad k'->k=k'))
   ⟨none,none,none,fun _=>[],fun _=>0,rfl,s2.trans s3,hq,f7,(fun k hk=>by simp at hk),fun k hk=>by simp at hk⟩ (fun i σ H' _ h=>by obtain⟨_,_,_,_,_,_,_,q,_⟩:=h;exact aH.of q) ?_ ?_⟩
  ·rintro i v σ H4 hx ⟨v3,v4,v5,gm,ad,rfl,q4,L8,j0,jw,inj⟩;rw[aN] at hx;cases eu:os[i]? with
   | none=>rw[eu] at hx;cases hx
   | some u=>
    rw[eu] at hx;cases hx;have dD:u∈keys:=(Fq u).mp (bC eu);have hi:=iy eu;have wC:=O.low i u eu;have iu:u ∉ os.take i:=by
     have:=vH O.nd i hi;rw[show os[i]=u from(bI.mp eu).2] at this;exact this
    have tk:os.take (i+1)=os.take i++[u]:=by rw[aS,eu];rfl
    have lt:(os.take i).length<=63:=by rw[bw];lia
    try dsimp only[zy]
    refine fun q0 aQ=>?_
    have t0:=ak.new (o:=.dK []) aQ;have gI:=t0 _ _ j0;refine⟨_,rfl,_,rfl,pd,_,rfl,eO.k (k:=Sum.inr u) gI (by rw[jV];exact jr (by lia)),?_⟩;rw[wZ iu];have Ig:q0≠pd:=aE (zj j0 aQ);have Ma:q0≠q:=aE (zj L8 aQ);have zU:H1 q0=none:=q4.free aQ;have Ft:∀k∈os.take i,ad k≠q0:=fun k hk=>zj (jw k hk).1 aQ
    have ed:dV (os.take i++[u]) (fun z=>if z=u then V.ref q0 else V.ref (ad z))=dV (os.take (i+1)) fun z=>V.ref (if z=u then q0 else ad z):=by
     rw[tk];refine tO fun z _=>?_
     split<;>rfl
    rw[ed];have q6:ak H1 (upd (upd H4 q0 (.dK [])) pd (.dK (dV (os.take (i+1)) fun z=>V.ref (if z=u then q0 else ad z)))):=(q4.trans t0).upd gG;have jv:upd (upd H4 q0 (.dK [])) pd (.dK (dV (os.take (i+1)) fun z=>V.ref (if z=u then q0 else ad z))) pd=some (.dK (dV (os.take (i+1)) fun z=>V.ref (if z=u then q0 else ad z))):=zb;have Ru:upd (upd H4 q0 (.dK [])) pd (.dK (dV (os.take (i+1)) fun z=>V.ref (if z=u then q0 else ad z))) q=some (.lst (os.map V.str)):=by rw[ze (aE nq)];exact t0 _ _ L8
    have CK:upd (upd H4 q0 (.dK [])) pd (.dK (dV (os.take (i+1)) fun z=>V.ref (if z=u then q0 else ad z))) q0=some (.dK (dV [] iH)):=by rw[ze Ig,zb];rfl
    have rY:∀k∈os.take i,upd (upd H4 q0 (.dK [])) pd (.dK (dV (os.take (i+1)) fun z=>V.ref (if z=u then q0 else ad z))) (ad k)=some (.dK (dV (gm k) iH)):=fun k hk=>by rw[ze (jw k hk).2.2.1];exact t0 _ _ (jw k hk).1
    generalize upd (upd H4 q0 (.dK [])) pd (.dK (dV (os.take (i+1)) fun z=>V.ref (if z=u then q0 else ad z)))=H6 at q6 jv Ru CK rY;have B6:=hB.same q6;have c7:u∈os.take (i+1):=by rw[tk];simp
    refine⟨_,rfl,_,rfl,ps,_,rfl,B6.get dD,aB u,rfl,⟨_,aH.of (B6.l u dD)⟩,pP (xs:=(bB u).map V.ref) (fun i' σ H'=>∃(v4 v5:Option V)(M:List Str),σ = [some (.ref p),some (.ref ps),some (.ref pd),some (.str u),v4,v5]/\ak H1 H'/\H' q=some (.lst (os.map V.str))/\H' pd=some (.dK (dV (os.take (i+1)) fun z=>V.ref (if z=u then q0 else ad z)))/\
      (∀k∈os.take i,H' (ad k)=some (.dK (dV (gm k) iH)))/\H' q0=some (.dK (dV M iH))/\M.Nodup/\∀y,y∈M↔∃l r,(l,r)∈(ln u).take i'/\(l=y\/lT ln l y))
     ⟨_,_,[],rfl,q6,Ru,jv,rY,CK,by simp,by simp⟩ (fun i' σ H' _ h=>by obtain⟨_,_,_,_,q,_⟩:=h;exact aH.of (q _ _ (hB.l u dD))) ?_ ?_⟩
    ·rintro i' v σ H7 hx ⟨v4,v5,M,rfl,q7,qA,n8,wF,Mb,Mn,Mm⟩;obtain⟨b,⟨l,r⟩,rfl,oZ,_,hb⟩:=tP (hB.same q7 |>.e u dD) hx;have Mc:(l,r)∈ln u:=bC oZ;have hl:l∈os.take i:=wC l r Mc;have lu:l≠u:=fun z=>iu (z▸hl)
     obtain⟨_,qu,nY,LS,hln,CH⟩:=jw l hl;have Me:∀y∈M,y∈keys:=fun y hy=>by
      obtain⟨l',r',h1,h2⟩:=(Mm y).mp hy;have gz:=cl u dD l' r' (nh h1);rcases h2 with rfl | ⟨j,_,h2⟩
      ·exact gz
      ·exact h2.inKeys cl gz
     have lM:M.length<=63:=bH (uR Mn Me) lk;have uv:l∈keys:=cl u dD l r Mc;have lbl:(gm l).length<=63:=bH (uR hln fun y hy=>by
      obtain⟨j,_,h2⟩:=(CH y).mp hy;exact h2.inKeys cl uv) lk
     have g1:=ck.k (k:=Sum.inr u) n8;rw[pR c7,av rfl] at g1;refine⟨b,_,rfl,bx.of hb,rfl,_,_,rfl,_,_,rfl,rfl,?_⟩
     try dsimp only[zy]
     refine⟨_,rfl,_,rfl,pd,_,rfl,g1,_,rfl,q0,_,rfl,eO.k (k:=Sum.inr l) Mb (by rw[jV];exact jr (by lia)),?_⟩;rw[OU];have q8:=q7.upd (o:=.dK (dV (f6 M l) iH)) zU;have CI:upd H7 q0 (.dK (dV (f6 M l) iH)) q=some (.lst (os.map V.str)):=by rw[ze (aE Ma)];exact qA
     have CL:upd H7 q0 (.dK (dV (f6 M l) iH)) pd=some (.dK (dV (os.take (i+1)) fun z=>V.ref (if z=u then q0 else ad z))):=by rw[ze (aE Ig)];exact n8
     have Fv:∀k∈os.take i,upd H7 q0 (.dK (dV (f6 M l) iH)) (ad k)=some (.dK (dV (gm k) iH)):=fun k hk=>by rw[ze (Ft k hk)];exact wF k hk
     have Mf:upd H7 q0 (.dK (dV (f6 M l) iH)) q0=some (.dK (dV (f6 M l) iH)):=zb;generalize upd H7 q0 (.dK (dV (f6 M l) iH))=H8 at q8 CI CL Fv Mf;have g2:=ck.k (k:=Sum.inr u) CL;rw[pR c7,av rfl] at g2;have g3:=ck.k (k:=Sum.inr l) CL;rw[pR (show l∈os.take (i+1) by rw[tk];exact dF _ hl),ao lu] at g3;have lp:(f6 M l).length<=64:=by
      unfold f6;split
      ·lia
      ·rw[cG];show M.length+1<=64;lia
     refine⟨_,rfl,_,rfl,pd,_,rfl,g2,.inr (.inr (.inl ⟨rfl,.inl ⟨_,Mf⟩⟩)),_,rfl,_,rfl,pd,_,rfl,g3,q0,ad l,_,_,rfl,rfl,aE (Ft l hl),Mf,.inl (Fv l hl),by rw[jV,jV];lia,?_⟩;rw[OV];refine⟨_,_,Cm (f6 M l) (gm l),rfl,q8.upd zU,by rw[ze (aE Ma)];exact CI,by rw[ze (aE Ig)];exact CL,fun k hk=>by rw[ze (Ft k hk)];exact Fv k hk,zb,OT (KO Mn),fun y=>?_⟩;rw[OS,KN,Mm,CH,aS,oZ];constructor
     ·rintro((⟨l',r',h1,h2⟩ | rfl) | h)
      ·exact⟨l',r',dF _ h1,h2⟩
      ·exact⟨y,r,dZ _ (by simp),.inl rfl⟩
      ·exact⟨l,r,dZ _ (by simp),.inr h⟩
     ·rintro⟨l',r',h1,h2⟩;rcases bz.mp h1 with h1 | h1
      ·exact .inl (.inl ⟨l',r',h1,h2⟩)
      ·have h1:(l',r')=(l,r):=by simpa using h1
       cases h1;rcases h2 with rfl | h2
       ·exact .inl (.inr rfl)
       ·exact .inr h2
    ·rintro σ H7 ⟨v4,v5,M,rfl,q7,qA,n8,wF,Mb,Mn,Mm⟩;have lb:(bB u).length=(ln u).length:=Paired.length (hB.e u dD);rw[aq,lb,bh] at Mm;refine⟨_,_,_,fun z=>if z=u then M else gm z,fun z=>if z=u then q0 else ad z,rfl,q7,qA,n8,fun k hk=>?_,fun k hk k' gT e=>?_⟩
     ·rw[tk,bz] at hk;dsimp only
      by_cases c:k=u
      ·rw[av c,av c];refine⟨Mb,zU,Ig,Ma,Mn,fun y=>?_⟩;rw[Mm,c];exact yi.symm
      ·rw[ao c,ao c];have gT:k∈os.take i:=hk.elim id fun z=>absurd (by simpa using z) c
       obtain⟨_,h2⟩:=jw k gT;exact⟨wF k gT,h2⟩
     ·rw[tk,bz] at hk gT;dsimp only at e
      by_cases c1:k=u<;>by_cases c2:k'=u
      ·rw[c1,c2]
      ·rw[av c1,ao c2] at e;exact absurd e.symm (Ft k' (gT.elim id fun z=>absurd (by simpa using z) c2))
      ·rw[ao c1,av c2] at e;exact absurd e (Ft k (hk.elim id fun z=>absurd (by simpa using z) c1))
      ·rw[ao c1,ao c2] at e;exact inj k (hk.elim id fun z=>absurd (by simpa using z) c1) k' (gT.elim id fun z=>absurd (by simpa using z) c2) e
  ·rintro σ H4 ⟨v3,v4,v5,gm,ad,rfl,q4,L8,j0,jw,inj⟩;rw[aq,bh] at j0 jw inj;refine OX (ad:=ad) (f:=fun k=>dV (gm k) iH) os H4 (fun k hk=>(jw k hk).1) inj O.nd fun H5 obs h1 h2=>?_
   have gI:H5 pd=some (.dK (dV os fun k=>.ref (ad k))):=by rw[h2 pd fun k hk=>aE (jw k hk).2.2.1];exact j0
   have q5:ak H1 H5:=fun b o e=>by
    rw[h2 b fun k hk z=>by rw[z,(jw k hk).2.1] at e;cases e];exact q4 b o e
   refine .dw pd _ gI fun ob=>.go ⟨_,rfl,k pd ob os gm ad obs _ ((s1.trans q5).upd (s1.free gG)) (s1.free gG) ⟨zb,fun z hz=>?_⟩ pm fun z hz=>?_⟩
   ·rw[ze (jw z hz).2.2.1];exact h1 z hz
   ·exact(jw z ((Fq z).mpr hz)).2.2.2.2
inductive qB(vs:List V)(H:Hp)(Q:VK):Prop
 | mk (pd:ah) (ob:Obj) (os:List Str) (gm:Str->List Str) (ad:Str->ah) (obs:Str->Obj) (u l:Str) (_:vs = [.ref pd,.str u,.str l]) (_:Dp H pd ob os gm ad obs) (_:u∈os) (_:(∀t∈gm u,t∈os)) (_:(gm u).length<=63) (_:∀H',ak H H'->Q (.bl ((gm u).any fun t=>decide (l∈gm t))) H')
def zpp:Sp:=fun vs H Q _=>qB vs H Q
theorem zht(T:Tx K mg w C_Dig zk zq zg zv zo zw zp zx):gk P w K mg base "lies_between" ["depths","upper","lower"] 1 zpp:=by
 refine T.zhz.has zgs (fun vs H Q E h=>?_) (fun f bY A outer s H vs Q E hr h=>?_)
 ·obtain⟨pd,ob,os,gm,ad,obs,u,l,rfl,_⟩:=h;rfl
 ·obtain⟨pd,ob,os,gm,ad,obs,u,l,rfl,hD,c7,cl,lb,k⟩:=h;have hu:=kC hr;refine⟨_,(zh (fW (ji (KL K rfl rfl) (by rfl) T.any PyProof.Rows.boot_any (za (sI (own:=["third"]) (cap:=["lower","depths"]) (ix:=[2,0]) (gA:=zm (top 26)) rfl ⟨rfl,by decide +kernel,by decide +kernel,by decide +kernel,by decide +kernel⟩ rfl (w6 (g7 hu (pv 0) (pv 1) (fun _ _=>rfl))) (fun _ _ _ _=>nX (i:=0) (show List.Nodup (["third","lower","depths"]:List Str) by decide +kernel) rfl (Or.inl rfl)) (fun _ _ _ _=>sH) (fun _ _ _ _=>(MK (B8 hu (pv 1) (g7 hu (pv 2) (pv 0) (fun _ _=>rfl)))))) zd)))),?_⟩;refine⟨_,rfl,_,rfl,pd,_,rfl,sN hD.d c7,ad u,obs u,_,rfl,hD.e u c7,fun D Fx=>?_⟩;refine qa (Kw (a:=ad u) (ob:=obs u) (kvs:=dV (gm u) iH)) (fun i aI ys H'=>∃w0,aI = [w0,some (.str l),some (.ref pd)]/\ys=(((gm u).take i).map fun t=>decide (l∈gm t)).map V.bl/\ak H H'/\H' D=some (.lst ys))
   ⟨none,rfl,by simp,ak.new Fx,zb⟩ (fun i aI ys H' h=>?_) (by rw[aq,jV];exact lP (by lia)) ?_ ?_
  ·obtain⟨_,_,rfl,q,hd⟩:=h;refine⟨q _ _ (hD.e u c7),hd,?_⟩;rw[aq,aq,bw];lia
  ·rintro i v aI ys H' hx ⟨w0,rfl,rfl,q,hd⟩;have c6:=iy hx;rw[GZ,aN] at hx;cases et:(gm u)[i]? with
   | none=>rw[et] at hx;cases hx
   | some t=>
    rw[et] at hx;cases hx;have ht:=cl t (bC et);have D':=hD.same q
    try dsimp only[zy]
    unfold kD;dsimp only;rw[av rfl];refine⟨_,rfl,_,rfl,_,rfl,pd,_,rfl,sN D'.d ht,ad t,_,rfl,Xv (D'.e t ht) l,hd,mG c6 ⟨_,rfl,?_,q.upd Fx,zb⟩⟩;rw[aS,et,aL,aL]
    congr 1
    show[V.bl (if l∈gm t then some (V.bl true) else none).isSome] = [V.bl (decide (l∈gm t))]
    by_cases c:l∈gm t
    ·rw[av c,aP c];rfl
    ·rw[ao c,bq c];rfl
  rintro aI ys H1 ⟨w0,rfl,rfl,q,hd⟩;rw[aq,jV,bh] at hd;refine⟨D,_,rfl,aH.of hd,?_⟩;rw[List.any_map];exact k _ q
inductive uA(vs:List V)(H:Hp)(Q:VK):Prop
 | mk (p pu pt:ah) (x y:V) (us:List Str) (aA:List ah) (ts:List aT) (_:vs = [.ref p]) (_:oz K H p pu pt x y us aA ts) (_:ts.length<=60) (_:ju (dj ts (ts.zip aA)) (zn ts (aM us))) (_:∀(D:ah)(bs:List ah)(qs:List SS)(H':Hp),ak H H'->H D=none->H' D=some (.lst (bs.map V.ref))->Paired (fun a(p:SS)=>H' a=some (.tup [.str p.1,.str p.2])) bs qs->qs.Pairwise (fun a b=>iB a b=true)->qs.length<64->(∀p,p∈qs↔Ht (dj ts (ts.zip aA)) (zn ts (aM us)) p)->Q (.ref D) H')
def zvr:Sp:=fun vs H Q _=>uA (K:=K) vs H Q
theorem zy3(T:Tx K mg w C_Dig zk zq zg zv zo zw zp zx):gk P w K mg base "drawn" ["telling"] 9 (zvr (K:=K)):=by
 refine T.zza.has fS (fun vs H Q E h=>?_) (fun f bY A outer s H vs Q E hr h=>?_)
 ·obtain⟨p,pu,pt,x,y,us,aA,ts,rfl,_⟩:=h;rfl
 ·obtain⟨p,pu,pt,x,y,us,aA,ts,rfl,hT,Rx,nr,k⟩:=h;have hu:=kC hr;refine⟨_,(zc (sset (i:=1) fS.nd (b7 (yH T) (za (pv 0) zd)))
   (zc (sset (i:=2) fS.nd (b7 (zjj T) (za (pv 0) zd)))
   (zc (sset (i:=3) fS.nd Nq)
   (zc (j3 bV rfl (w6 (pv 1)) (gE (i:=4) fS.nd) (zh (j3 bV rfl (jG K rfl (g7 hu (pv 1) (pv 4) (fun _ _=>rfl))) (vE K rfl rfl (mD (gE (i:=5) fS.nd) (mD (gE (i:=6) fS.nd) u9))) (zh (gR (SG (II (b7 (zht T) (za (pv 2) (za (pv 4) (za (pv 5) zd)))))) (zh (oq hu (pv 3) (ko (za (pv 4) (za (pv 5) zd))) yU rfl)) jc)))))
   (zh (fW (ji (Xu (K:=K) rfl rfl) (by rfl) T.sorted mV (za (pv 3) zd)))))))),?_⟩
  refine⟨_,rfl,p,pu,pt,x,y,us,aA,ts,rfl,hT,fun ps Rt aB bB H1 s1 Fj hB=>?_⟩;have lk:=hT.mq;have kn:=vJ (ts:=ts) hT.nd;have cl:=G9 (us:=us) (ts:=ts) (aA:=aA) hT.ends;have Mg:=fun(a b:Str)=>V7 (ts:=ts) (aA:=aA) hT.len (x:=a) (y:=b)
  have lkl:(rG ts).length<=60:=by
   have:(rG ts).length<=ts.length:=by unfold rG;rw[aq];exact e7 _ _
   lia
  try dsimp only[zy]
  refine⟨_,rfl,p,pu,pt,x,y,us,aA,ts,rfl,hT.same s1,nr,fun pd ob os gm ad obs H2 s2 sS hD pm qC=>?_⟩;generalize zn ts (aM us)=keys at hB lk k nr kn cl pm qC;generalize dj ts (ts.zip aA)=ln at hB k nr cl qC Mg;generalize rG ts=lks at Mg lkl;have Fq:∀z,z∈os↔z∈keys:=fun z=>pm.mem_iff
  have yK:∀u∈keys,∀t∈gm u,t∈keys:=fun u hu t ht=>by
   obtain⟨j,_,h⟩:=((qC u hu).2 t).mp ht;exact h.inKeys cl hu
  have btw:∀u∈keys,∀l,((gm u).any fun t=>decide (l∈gm t))=true↔∃t,lT ln u t/\lT ln t l:=fun u hu l=>by
   rw[jC];constructor
   ·rintro⟨t,h1,h2⟩;exact⟨t,((qC u hu).2 t).mp h1,((qC t (yK u hu t h1)).2 l).mp (bG h2)⟩
   ·rintro⟨t,h1,h2⟩;have zF:=((qC u hu).2 t).mpr h1;exact⟨t,zF,aP (((qC t (yK u hu t zF)).2 l).mpr h2)⟩
  try dsimp only[zy]
  refine fun pp Fp=>?_
  have s3:=ak.new (o:=.dT []) Fp;have B2:=hB.same s2;have bound:∀qs:List SS,qs.Nodup->(∀q∈qs,∃r,(q.2,r)∈ln q.1)->qs.length<=60:=fun qs n h=>by
   have:=OW (us:=lks) n fun q hq=>(Mg q.1 q.2).mpr (h q hq)
   lia
  refine⟨_,rfl,ps,Rt,_,rfl,s3 _ _ B2.d,AV (fun i σ H'=>∃(v4 v5 v6:Option V)(qs:List SS),σ = [some (.ref p),some (.ref ps),some (.ref pd),some (.ref pp),v4,v5,v6]/\ak H2 H'/\H' pp=some (.dT (dP qs))/\qs.Nodup/\∀q:SS,q∈qs↔q.1∈keys.take i/\(∃r,(q.2,r)∈ln q.1)/\¬∃t,lT ln q.1 t/\lT ln t q.2)
   ⟨none,none,none,[],rfl,s3,zb,by simp,by simp⟩ (fun i σ H' _ h=>by obtain⟨_,_,_,_,_,q,_⟩:=h;exact q _ _ B2.d) ?_ ?_⟩
  ·rintro i kk vv σ H4 hx ⟨v4,v5,v6,qs,rfl,q4,oG,qn,qm⟩;obtain⟨u,c7,rfl,_⟩:=AU hx;have dD:u∈keys:=bC c7;have iu:u ∉ keys.take i:=by
    have hi:=iy c7;have:=vH kn i hi;rw[show keys[i]=u from(bI.mp c7).2] at this;exact this
   have B4:=B2.same q4
   try dsimp only[zy]
   refine⟨_,rfl,_,rfl,ps,_,rfl,B4.get dD,aB u,rfl,⟨_,aH.of (B4.l u dD)⟩,pP (xs:=(bB u).map V.ref) (fun i' σ H'=>∃(v5 v6:Option V)(qs:List SS),σ = [some (.ref p),some (.ref ps),some (.ref pd),some (.ref pp),some (.str u),v5,v6]/\ak H2 H'/\H' pp=some (.dT (dP qs))/\qs.Nodup/\
     ∀q:SS,q∈qs↔(q.1∈keys.take i/\(∃r,(q.2,r)∈ln q.1)/\¬∃t,lT ln q.1 t/\lT ln t q.2)\/(q.1=u/\(∃r,(q.2,r)∈(ln u).take i')/\¬∃t,lT ln q.1 t/\lT ln t q.2))
    ⟨_,_,qs,rfl,q4,oG,qn,fun q=>by rw[qm];simp⟩ (fun i' σ H' _ h=>by obtain⟨_,_,_,_,q,_⟩:=h;exact aH.of ((B2.same q).l u dD)) ?_ ?_⟩
   ·clear qn qm oG;rintro i' v σ H5 hx ⟨v5,v6,qs,rfl,q5,E5,qn,qm⟩;obtain⟨b,⟨l,r⟩,rfl,oZ,_,hb⟩:=tP ((B2.same q5).e u dD) hx;have Mc:(l,r)∈ln u:=bC oZ;have qin:∀q∈qs,∃r,(q.2,r)∈ln q.1:=fun q hq=>by
     rcases (qm q).mp hq with ⟨_,h,_⟩ | ⟨e,⟨r,h⟩,_⟩
     ·exact h
     ·exact⟨r,by rw[e];exact nh h⟩
    have lq:=bound qs qn qin;refine⟨b,_,rfl,bx.of hb,rfl,_,_,rfl,_,_,rfl,rfl,?_⟩
    try dsimp only[zy]
    have zW:∀q:SS,(q.1=u/\(∃r,(q.2,r)∈(ln u).take (i'+1))/\¬∃t,lT ln q.1 t/\lT ln t q.2)↔(q.1=u/\(∃r,(q.2,r)∈(ln u).take i')/\¬∃t,lT ln q.1 t/\lT ln t q.2)\/(q=(u,l)/\¬∃t,lT ln u t/\lT ln t l):=fun q=>by
     rw[aS,oZ];constructor
     ·rintro⟨e,⟨r',h⟩,n⟩;rcases bz.mp h with h | h
      ·exact .inl ⟨e,⟨r',h⟩,n⟩
      ·have h:(q.2,r')=(l,r):=by simpa using h
       have h:=(Prod.mk.inj h).1;refine .inr ⟨Prod.ext e h,?_⟩;rw[←e,←h];exact n
     ·rintro(⟨e,⟨r',h⟩,n⟩ | ⟨rfl,n⟩)
      ·exact⟨e,⟨r',dF _ h⟩,n⟩
      ·exact⟨rfl,⟨r,dZ _ (by simp)⟩,n⟩
    have Ry:=btw u dD l;refine vF (!((gm u).any fun t=>decide (l∈gm t))) (fun Q' hQ=>?_) (fun H6 s6=>?_)
    ·refine⟨_,rfl,_,rfl,_,rfl,pd,ob,os,gm,ad,obs,u,l,rfl,hD.same q5,(Fq u).mpr dD,fun t ht=>(Fq t).mpr (yK u dD t ht),bH (uR (qC u dD).1 (yK u dD)) lk,fun H6 s6=>⟨_,rfl,?_⟩⟩;exact hQ _ s6
    ·have q6:=q5.trans s6;have Cz:=s6 _ _ E5;refine cM (fun c=>?_) (fun c=>?_)
     ·have nb:¬∃t,lT ln u t/\lT ln t l:=fun z=>by rw[Ry.mpr z] at c;cases c
      refine⟨_,rfl,_,rfl,_,rfl,(by show 2<=sizeLine;decide),fun b0 wA=>?_⟩;have t0:=ak.new (o:=.tup [.str u,.str l]) wA;refine⟨pp,_,rfl,eO.t (k:=[Sum.inr u,Sum.inr l]) (t0 _ _ Cz) zb (by unfold dP;rw[aq];exact jr (by lia)),?_⟩;rw[Xx (p:=(u,l))];refine⟨_,_,f6 qs (u,l),rfl,(q6.trans t0).upd Fp,zb,KO qn,fun q=>?_⟩;rw[KN,qm,zW];constructor
      ·rintro((h | h) | rfl)
       ·exact .inl h
       ·exact .inr (.inl h)
       ·exact .inr (.inr ⟨rfl,nb⟩)
      ·rintro(h | h | ⟨rfl,_⟩)
       ·exact .inl (.inl h)
       ·exact .inl (.inr h)
       ·exact .inr rfl
     ·have yb:∃t,lT ln u t/\lT ln t l:=Ry.mp (by simpa using c);refine⟨_,_,qs,rfl,q6,Cz,qn,fun q=>?_⟩;rw[qm,zW];constructor
      ·rintro(h | h)
       ·exact .inl h
       ·exact .inr (.inl h)
      ·rintro(h | h | ⟨_,n⟩)
       ·exact .inl h
       ·exact .inr h
       ·exact absurd yb n
   ·clear qn qm oG;rintro σ H5 ⟨v5,v6,qs,rfl,q5,E5,qn,qm⟩;have lb:(bB u).length=(ln u).length:=Paired.length (hB.e u dD);rw[aq,lb,bh] at qm;refine⟨_,_,_,qs,rfl,q5,E5,qn,fun q=>?_⟩;rw[qm,aS,c7];constructor
    ·rintro(⟨h1,h2⟩ | ⟨h1,h2⟩)
     ·exact⟨dF _ h1,h2⟩
     ·exact⟨dZ _ (by rw[h1];simp),by rw[←h1] at h2;exact h2⟩
    ·rintro⟨h1,h2⟩;rcases bz.mp h1 with h1 | h1
     ·exact .inl ⟨h1,h2⟩
     ·have h1:q.1=u:=by simpa using h1
      exact .inr ⟨h1,by rw[←h1];exact h2⟩
  ·rintro σ H4 ⟨v4,v5,v6,qs,rfl,q4,oG,qn,qm⟩;rw[jV,bh] at qm;have lq:=bound qs qn fun q hq=>((qm q).mp hq).2.1
   refine⟨_,rfl,pp,_,qs,rfl,.inl oG,Xw qs,qn,by lia,fun D bs rs Fx pb Rz up=>?_⟩;have t5:=ak.new (o:=.lst (bs.map V.ref)) Fx;have q3:=s1.trans (s2.trans q4);refine k D bs rs _ (q3.trans t5) (q3.free Fx) zb (Paired.gy pb fun a z e=>t5 _ _ e) up (by rw[Rz.length_eq];lia) fun z=>?_
   rw[Rz.mem_iff,qm];rfl
inductive yL(vs:List V)(H:Hp)(Q:VK):Prop
 | mk (r:ah) (t:aT) (us:List Str) (_:vs = [.ref r]) (_:H r=some (.tup (aW t))) (_:mH us t) (_:∀H',ak H H'->Q (.int (fE t)) H')
def z1h:Sp:=fun vs H Q _=>yL vs H Q
theorem RA(T:Tx K mg w C_Dig zk zq zg zv zo zw zp zx):gk P w K mg base "gap_of" ["tie"] 1 z1h:=by
 refine T.zv2.has zs2 (fun vs H Q E h=>?_) (fun f bY A outer s H vs Q E hr h=>?_)
 ·obtain⟨r,t,us,rfl,_⟩:=h;rfl
 ·obtain⟨r,t,us,rfl,hr,tok,k⟩:=h;refine⟨_,(zh (fW (SM (fh su (bP (zr K rfl) (pv 0) zi) qi (fV _)) (bP (zr K rfl) (pv 0) zi) zi))),?_⟩;refine⟨_,rfl,r,_,_,_,rfl,rfl,bx.of hr,Kd t,rfl,_,rfl,?_⟩;refine cM (fun c=>?_) (fun c=>?_)
  ·have c:t.k=Hf:=V.str.inj (bG c);exact⟨_,rfl,r,_,_,_,rfl,rfl,bx.of hr,tok.after c,k _ (ak.refl _)⟩
  ·have c:¬t.k=Hf:=fun z=>c (aP (bQ V.str z))
   have:=k _ (ak.refl H);rw[tok.plain c] at this;exact this
inductive rZ(vs:List V)(H:Hp)(Q:VK):Prop
 | mk (p pm pu pt pf:ah) (lo hi:Int) (us:List Str) (aA:List ah) (ts:List aT) (af:List ah) (fs:List bN) (_:vs = [.ref p]) (_:je K H p pm pu pt pf lo hi us aA ts af fs) (_:∀(pd:ah)(ob:Obj)(ad:Str->ah)(H':Hp),ak H H'->H pd=none->Fw H' pd ob (zn ts (aM us)) (eX ts (fs.zip af)) ad->Q (.ref pd) H')
def ztf:Sp:=fun vs H Q _=>rZ (K:=K) vs H Q
theorem RB(T:Tx K mg w C_Dig zk zq zg zv zo zw zp zx):gk P w K mg base "finds_within" ["telling"] 4 (ztf (K:=K)):=by
 refine T.zh0.has cR (fun vs H Q E h=>?_) (fun f bY A outer s H vs Q E hr h=>?_)
 ·obtain⟨p,pm,pu,pt,pf,lo,hi,us,aA,ts,af,fs,rfl,_⟩:=h;rfl
 ·obtain⟨p,pm,pu,pt,pf,lo,hi,us,aA,ts,af,fs,rfl,hF,k⟩:=h;have hu:=kC hr;refine⟨_,(zc (sset (i:=1) cR.nd (b7 (LK T) (za (bP (zr K rfl) (pv 0) zi) (za (bP (zr K rfl) (pv 0) zi) zd))))
   (zc (sset (i:=2) cR.nd ql)
   (zc (j3 bV rfl (jG K rfl (b7 (LL T) (za (bP (zr K rfl) (pv 0) zi) (za (bP (zr K rfl) (pv 0) zi) zd)))) (gE (i:=3) cR.nd) (zh (oq hu (pv 2) (bP (lZ K rfl) (pv 3) zi) (gZ zd) rfl)))
   (zc (j3 bV rfl (jG K rfl (bP (zr K rfl) (pv 0) zi)) (gE (i:=4) cR.nd) (zh (ig (rE K rfl PySem.F.plainAttrs_list PySem.F.slot_list_append PySem.F.type_list_append uP (g7 hu (pv 2) (g7 hu (pv 1) (bP (zr K rfl) (pv 4) zi) (fun _ _=>rfl)) (fun _ _=>rfl)) (za (pv 4) zd)))))
   (zh (zG (fW (pv 2)))))))),?_⟩
  have l6:=hF.iN.ends;have hfl:=hF.fZ;have Fy:=hF.fl;have HW:=hF.fu;have RC:=hF.f;have FA:=hF.ft;obtain⟨hp,wo,oR,tp,nd,hl,tl,_⟩:=hF.iN;have hlen:aA.length=ts.length:=by have:=tp.len;rw[aq] at this;exact this
  refine⟨_,rfl,p,_,_,_,rfl,rfl,hp,rfl,_,rfl,p,_,_,_,rfl,rfl,hp,rfl,pu,pt,us,aA,ts,rfl,wo,oR,tp,nd,by lia,l6,fun pn H1 LM hn s1=>?_⟩
  try dsimp only[zy]
  refine fun pd gG=>?_
  have s2:=ak.new (o:=.dK []) gG;have q2:=s1.trans s2;refine⟨_,rfl,p,_,_,_,rfl,rfl,q2.tup hp,rfl,_,rfl,p,_,_,_,rfl,rfl,q2.tup hp,rfl,pu,pt,us,aA,ts,rfl,q2.seq wo,q2.seq oR,tp.same q2,nd,hl,l6,fun po as H3 Bs fas Ff LP uu Fg s3=>?_⟩;have CD:=s3 _ _ (s2 _ _ hn);have f7:=s3 _ _ (zb (H:=H1) (a:=pd) (o:=.dK []));have q3:=q2.trans s3;have sS:H pd=none:=s1.free gG;have HX:pn≠pd:=zj hn gG;have lk:as.length=(zn ts (aM us)).length:=by have:=Paired.length Fg;unfold qb at this;rw[aq] at this;exact this
  have Bt:(zn ts (aM us)).length<=63:=by
   have:=Kn (us:=us) (ts:=ts) nd;unfold qb at this;rw[aq] at this;lia
  have hz:∀{i:Nat}{f:bN}{r:ah},fs[i]? = some f->af[i]? = some r->(fs.zip af)[i]? = some (f,r):=fun h1 h2=>j6.mpr ⟨h1,h2⟩
  generalize ek:zn ts (aM us)=keys at lk Bt k;have knd:keys.Nodup:=ek▸vJ nd;have CF:qb us ts=keys.map (pS ts (aM us)):=by unfold qb;rw[ek]
  refine⟨po,rfl,⟨_,aH.of uu⟩,pP (xs:=as.map V.ref) (fun i σ H'=>∃(v3:Option V)(ad:Str->ah),σ = [some (.ref p),some (.ref pn),some (.ref pd),v3,none]/\(∀b o,b≠pd->H3 b=some o->H' b=some o)/\
   H' pd=some (.dK (dV (keys.take i) fun k=>.ref (ad k)))/\(∀k∈keys.take i,H' (ad k)=some (.lst [])/\H3 (ad k)=none)/\(∀k∈keys.take i,∀k'∈keys.take i,ad k=ad k'->k=k'))
   ⟨none,fun _=>0,rfl,fun b o _ e=>e,f7,(fun k hk=>by simp at hk),fun k hk=>by simp at hk⟩ (fun i σ H' _ h=>by obtain⟨_,_,_,q,_⟩:=h;exact aH.of (q _ _ (jE uu f7 (by simp)) uu)) ?_ ?_⟩
  ·rintro i v σ H4 hx ⟨v3,ad,rfl,kp,j0,jw,inj⟩;obtain⟨r,g,rfl,hg,oX,hr⟩:=tP Fg hx;rw[CF,aN] at hg;cases eu:keys[i]? with
   | none=>rw[eu] at hg;cases hg
   | some u=>
    rw[eu] at hg;cases hg;have c7:u∈keys:=bC eu;have hi:=iy eu;have iu:u ∉ keys.take i:=by
     have:=vH knd i hi;rw[show keys[i]=u from(bI.mp eu).2] at this;exact this
    obtain⟨gr,LQ⟩:=Oq (us:=us) (ts:=ts) nd (k:=u) (ek▸c7);rw[LQ] at hr;have yF:=kp _ _ (jE hr f7 (by simp)) hr
    try dsimp only[zy]
    refine⟨by decide,fun q0 aQ=>?_⟩;have t0:=ak.new (o:=.lst []) aQ;have gI:=t0 _ _ j0;have nq:pd≠q0:=zj j0 aQ;refine⟨_,rfl,_,rfl,r,_,_,_,rfl,rfl,aH.of (t0 _ _ yF),D8,pd,_,rfl,eO.k (k:=Sum.inr u) gI (by rw[jV,bw];exact jr (by lia)),?_⟩;have fq:H3 q0=none:=by
     cases e:H3 q0 with
     | none=>rfl
     | some o=>rw[kp _ _ (aE nq) e] at aQ;cases aQ
    refine⟨_,fun z=>if z=u then q0 else ad z,rfl,fun b o n e=>by rw[ze n];exact t0 _ _ (kp b o n e),?_,?_,?_⟩
    ·rw[zb,wZ iu,aS,eu]
     congr 2
     refine tO fun z hz=>?_
     dsimp only
     by_cases e:z=u
     ·rw[av e,av e]
     ·rw[ao e,ao e]
    ·intro k hk;rw[aS,eu,bz] at hk;dsimp only
     by_cases e:k=u
     ·rw[av e];exact⟨by rw[ze (aE nq),zb],fq⟩
     ·rw[ao e];have gT:k∈keys.take i:=hk.elim id fun z=>absurd (by simpa using z) e
      obtain⟨h1,h2⟩:=jw k gT;refine⟨?_,h2⟩;rw[ze (fun z=>by rw[z,j0] at h1;cases h1)];exact t0 _ _ h1
    ·intro k hk k' gT e;rw[aS,eu,bz] at hk gT;dsimp only at e
     by_cases c1:k=u<;>by_cases c2:k'=u
     ·rw[c1,c2]
     ·rw[av c1,ao c2] at e;have h2:=(jw k' (gT.elim id fun z=>absurd (by simpa using z) c2)).1;rw[←e,aQ] at h2;cases h2
     ·rw[ao c1,av c2] at e;have h2:=(jw k (hk.elim id fun z=>absurd (by simpa using z) c1)).1;rw[e,aQ] at h2;cases h2
     ·rw[ao c1,ao c2] at e;exact inj k (hk.elim id fun z=>absurd (by simpa using z) c1) k' (gT.elim id fun z=>absurd (by simpa using z) c2) e
  ·rintro σ H4 ⟨v3,ad,rfl,kp,j0,jw,inj⟩;rw[aq,lk,bh] at j0 jw inj;have yI:∀{H':Hp},(∀b o,b≠pd->H3 b=some o->H' b=some o)->ak H H':=fun D4 b o e=>D4 b o (zj e sS) (q3 _ _ e)
   have q4:=yI kp;refine⟨_,rfl,p,_,_,_,rfl,rfl,q4.tup hp,rfl,pf,rfl,⟨_,q4.seq RC⟩,pP (xs:=af.map V.ref) (fun i σ H'=>∃(v4:Option V),σ = [some (.ref p),some (.ref pn),some (.ref pd),v3,v4]/\(∀b o,b≠pd->H3 b=some o->H' b=some o)/\
    H' pd=some (.dK (dV keys fun k=>.ref (ad k)))/\∀k∈keys,H' (ad k)=some (.lst ((eX ts ((fs.zip af).take i) k).map fun p=>V.ref p.2)))
    ⟨none,rfl,kp,j0,fun k hk=>by rw[List.take_zero];exact(jw k hk).1⟩ (fun i σ H' _ h=>by obtain⟨_,_,q,_⟩:=h;exact(yI q).seq RC) ?_ ?_⟩
   ·rintro i x σ H5 hx ⟨v4,rfl,mC,gI,oH⟩;obtain⟨r,f,rfl,hf,oX,hr⟩:=Cf FA hx;have q5:=yI mC;have uV:=q5 _ _ hr;have mj:=HW f (bC hf);have hit:=iy hf;have HY:=hz hf oX;have g1:=ck.k (k:=Sum.inr f.u) (mC _ _ HX CD);rw[AQ mj] at g1;have yJ:aR ts f.u∈keys:=ek▸Ei l6 mj;have g3:=ck.k (k:=Sum.inr (aR ts f.u)) gI;rw[pR yJ] at g3;have qy:=oH _ yJ;have lb:(eX ts ((fs.zip af).take i) (aR ts f.u)).length<=60:=by
     have h2:=Ky (ts:=ts) (z:=(fs.zip af).take i) (k:=aR ts f.u);rw[bw,fO] at h2;lia
    try dsimp only[zy]
    refine⟨_,rfl,_,rfl,_,rfl,r,_,_,_,rfl,rfl,bx.of uV,WZ f,pn,_,rfl,g1,pd,_,rfl,g3,?_⟩;refine⟨.inl ⟨rfl,_,aH.of qy⟩,_,rfl,ad (aR ts f.u),_,_,rfl,rfl,qy,by rw[aq];exact jr (by lia),?_⟩;refine⟨_,rfl,fun b o n e=>?_,?_,fun k hk=>?_⟩
    ·rw[ze (fun z=>by rw[z,(jw _ yJ).2] at e;cases e)];exact mC b o n e
    ·rw[ze (fun z=>by rw[←z,gI] at qy;cases qy)];exact gI
    ·rw[W4 HY]
     by_cases e:aR ts f.u=k
     ·subst e;rw[av rfl,zb,aL];rfl
     ·rw[ao e,fL,ze (fun z=>e (inj _ yJ _ hk z.symm))];exact oH k hk
   ·rintro σ H5 ⟨v4,rfl,mC,gI,oH⟩;rw[aq] at oH;have ez:(fs.zip af).take af.length=fs.zip af:=m9 (by rw[fO];lia);rw[ez] at oH;refine .inr ⟨pd,_,gI,fun ob=>⟨_,rfl,k pd ob ad _ ?_ sS ⟨zb,fun k hk=>?_⟩⟩⟩
    ·exact(yI mC).upd sS
    ·have b1:=oH k hk;rw[ze (fun z=>by rw[z,gI] at b1;cases b1)];exact b1
inductive r6(vs:List V)(H:Hp)(Q:VK):Prop
 | mk (p pm pu pt pf:ah) (lo hi:Int) (us:List Str) (aA:List ah) (ts:List aT) (af:List ah) (fs:List bN) (_:vs = [.ref p]) (_:je K H p pm pu pt pf lo hi us aA ts af fs) (_:∀(pd:ah)(ob:Obj)(v:Str->IS)(ad:Str->ah)(H':Hp),ak H H'->H pd=none->Bd H' pd ob (zn ts (aM us)) v ad->(∀k∈zn ts (aM us),yf (xh lo (eX ts (fs.zip af) k)) (v k))->Q (.ref pd) H')
def ztg:Sp:=fun vs H Q _=>r6 (K:=K) vs H Q
theorem RD(T:Tx K mg w C_Dig zk zq zg zv zo zw zp zx):gk P w K mg base "floors" ["telling"] 5 (ztg (K:=K)):=by
 refine T.zv3.has jm (fun vs H Q E h=>?_) (fun f bY A outer s H vs Q E hr h=>?_)
 ·obtain⟨p,pm,pu,pt,pf,lo,hi,us,aA,ts,af,fs,rfl,_⟩:=h;rfl
 ·obtain⟨p,pm,pu,pt,pf,lo,hi,us,aA,ts,af,fs,rfl,hF,k⟩:=h;have hu:=kC hr;refine⟨_,(zc (sset (i:=1) jm.nd (b7 (RB T) (za (pv 0) zd)))
   (zc (sset (i:=2) jm.nd ql)
   (zc (j3 bV rfl (w6 (pv 1)) (gE (i:=3) jm.nd) (zh (oq hu (pv 2) (pv 3) (ji (WU (K:=K) rfl rfl hu) (by rfl) T.max PyProof.Rows.boot_max (za (fR BY (gZ (za (ko (za (bP (zr K rfl) (bP (zr K rfl) (pv 0) zi) zi) (za qi zd))) zd)) (sI (own:=["find"]) (cap:=[]) (ix:=[]) (gA:=zm (top 32)) rfl ⟨rfl,by decide +kernel,by decide +kernel,by decide +kernel,by decide +kernel⟩ rfl (jG K rfl (g7 hu (pv 1) (pv 3) (fun _ _=>rfl))) (fun _ _ _ _=>nX (i:=0) (show List.Nodup (["find"]:List Str) by decide +kernel) rfl (Or.inl rfl)) (fun _ _ _ _=>sH) (fun _ _ _ _=>(ko (za (bP (zr K rfl) (pv 0) zi) (za (bP (zr K rfl) (pv 0) zi) zd)))))) zd)) rfl)))
   (zh (zG (fW (pv 2))))))),?_⟩
  have nd:=hF.iN.nd;have lk:=hF.iN.mq;have Fy:=hF.fl;have FA:=hF.ft;refine⟨_,rfl,p,pm,pu,pt,pf,lo,hi,us,aA,ts,af,fs,rfl,hF,fun pw ow aw H1 s1 fpw hW=>?_⟩;have knd:=vJ (ts:=ts) nd;have FD:∀k,(eX ts (fs.zip af) k).length<=60:=fun k=>by
   have h2:=Ky (ts:=ts) (z:=fs.zip af) (k:=k);rw[fO] at h2;lia
  have FE:∀k,∀q∈eX ts (fs.zip af) k,H q.2=some (.tup (cZ q.1)):=fun k q hq=>by
   have:=(cy.mp hq).1;obtain⟨i,hi⟩:=jy.mp this;obtain⟨h1,h2⟩:=j6.mp hi;exact xg FA h2 (by rw[aN,h1];rfl)
  generalize zn ts (aM us)=keys at hW lk k knd;generalize eX ts (fs.zip af)=fw at hW k FD FE
  try dsimp only[zy]
  refine fun pd gG=>?_
  have s2:=ak.new (o:=.dK []) gG;refine⟨_,rfl,pw,ow,_,rfl,s2 _ _ hW.d,AV (fun i σ H'=>∃(v3:Option V)(v:Str->IS)(ad:Str->ah),σ = [some (.ref p),some (.ref pw),some (.ref pd),v3]/\ak H1 H'/\H' pd=some (.dK (dV (keys.take i) fun k=>.ref (ad k)))/\
    ∀k∈keys.take i,H' (ad k)=some (.tup [.int (v k).1,.str (v k).2])/\yf (xh lo (fw k)) (v k))
   ⟨none,fun _=>(0,""),fun _=>0,rfl,s2,zb,fun k hk=>by simp at hk⟩ (fun i σ H' _ h=>by obtain⟨_,_,_,_,q,_⟩:=h;exact q _ _ hW.d) ?_ ?_⟩
  ·rintro i kk vv σ H3 hx ⟨v3,v,ad,rfl,q3,f7,mP⟩;obtain⟨u,c7,rfl,_⟩:=AU hx;have dD:u∈keys:=bC c7;have F3:=hF.same (s1.trans q3);have W3:=hW.same q3
   try dsimp only[zy]
   refine⟨_,rfl,p,_,_,_,rfl,rfl,F3.iN.p,rfl,pm,_,_,_,rfl,rfl,F3.m,rfl,(by show 2<=sizeLine;decide),fun b0 wA=>?_⟩;have t1:=ak.new (o:=.tup [.int lo,.str ""]) wA;refine⟨by show 1<=sizeLine;decide,fun l0 zV=>?_⟩;have t2:=ak.new (o:=.lst [.ref b0]) zV;have q5:=q3.trans (t1.trans t2);have oH:=t2 _ _ (zb (H:=H3) (a:=b0) (o:=.tup [.int lo,.str ""]));have FF:upd (upd H3 b0 (.tup [.int lo,.str ""])) l0 (.lst [.ref b0]) l0=some (.lst [.ref b0]):=zb;have FG:=t1.trans t2;generalize upd (upd H3 b0 (.tup [.int lo,.str ""])) l0 (.lst [.ref b0])=H5 at q5 oH FF t2 FG;have W5:=hW.same q5;have lL:=FD u;have tL:=FE u;have BA:=W5.l u dD;generalize eL:fw u=L at lL tL BA;refine⟨_,rfl,_,rfl,pw,_,rfl,sN W5.d dD,aw u,rfl,⟨_,aH.of BA⟩,fun D hD=>?_⟩;refine qa (tH (K:=K) (a:=aw u) (xs:=L.map fun p=>V.ref p.2)) (fun i' aI ys H'=>∃(w0:Option V)(bs:List ah),aI = [w0]/\ys=bs.map V.ref/\Paired (fun a(p:IS)=>H' a=some (.tup [.int p.1,.str p.2])) bs ((L.take i').map fun p=>(p.1.lo,p.1.n))/\ak H5 H'/\H' D=some (.lst ys))
    ⟨none,[],rfl,rfl,.nil,ak.new hD,zb⟩ (fun i' aI ys H' h=>?_) (by rw[aq];exact lP (by lia)) ?_ ?_
   ·obtain⟨_,bs,_,rfl,pb,q,hd⟩:=h;refine⟨aH.of (q _ _ BA),hd,?_⟩;have:=Paired.length pb;rw[aq,bw] at this;rw[aq];lia
   ·rintro i' v' aI ys H' hx ⟨w0,bs,rfl,rfl,pb,q,hd⟩;have c6:=iy hx;rw[aN] at hx;cases ef:L[i']? with
    | none=>rw[ef] at hx;cases hx
    | some f=>
     rw[ef] at hx;cases hx;have hf:=q _ _ (q5 _ _ (s1 _ _ (tL f (bC ef))))
     try dsimp only[zy]
     unfold kD;dsimp only;rw[av rfl];refine⟨_,rfl,f.2,_,_,_,rfl,rfl,bx.of hf,W0 f.1,_,rfl,f.2,_,_,_,rfl,rfl,bx.of hf,OD f.1,(by show 2<=sizeLine;decide),fun b1 qy=>?_⟩;have w1:=ak.new (o:=.tup [.int f.1.lo,.str f.1.n]) qy;have mJ:=w1 _ _ hd;refine⟨mJ,mG c6 ⟨_,bs++[b1],rfl,by rw[aL];rfl,?_,(q.trans w1).upd hD,zb⟩⟩;rw[aS,ef,aL];exact Paired.snoc (Paired.gy pb fun a z e=>lQ mJ _ _ (w1 _ _ e)) (lQ mJ _ _ zb)
   rintro aI ys H6 ⟨w0,bs,rfl,rfl,pb,t6,jv⟩;rw[aq,bh] at pb;have lb:=Paired.length pb;rw[aq] at lb;have Mh:=t6 _ _ FF;refine⟨l0,D,_,_,rfl,rfl,Mh,jv,by rw[aq];exact lP (show 1+_<=1000 by lia),fun l hl=>?_⟩;have t7:=ak.new (o:=.lst ([V.ref b0]++bs.map V.ref)) hl;have pr:Paired (fun a(p:IS)=>H6 a=some (.tup [.int p.1,.str p.2])) (b0::bs) (xh lo L):=.cons (t6 _ _ oH) pb;have FH:=Paired.gy pr fun a z e=>t7 _ _ e
   refine⟨l,b0::bs,xh lo L,rfl,aH.of zb,Paired.gy FH fun a z e=>bx.of e,by unfold xh;simp,fun j a m ha hm BB=>?_⟩;have E4:=xg FH ha hm;have q7:=q5.trans (t6.trans t7);have FI:=FG.trans (t6.trans t7);have n8:=FI _ _ f7;have iu:u ∉ keys.take i:=by
    have hi:=iy c7;have:=vH knd i hi;rw[show keys[i]=u from(bI.mp c7).2] at this;exact this
   refine⟨_,rfl,_,rfl,pd,_,rfl,eO.k (k:=Sum.inr u) n8 (by rw[jV,bw];exact jr (by lia)),?_⟩;have FJ:∀b vs,upd H6 l (.lst ([V.ref b0]++bs.map V.ref)) b=some (.tup vs)->upd (upd H6 l (.lst ([V.ref b0]++bs.map V.ref))) pd (.dK (putK (dV (keys.take i) fun k=>.ref (ad k)) (Sum.inr u) (.ref a))) b=some (.tup vs):=fun b vs e=>by
    rw[ze (jE e n8 (by intro z;cases z))];exact e
   refine⟨_,fun z=>if z=u then m else v z,fun z=>if z=u then a else ad z,rfl,q7.upd gG,?_,fun k hk=>?_⟩
   ·rw[zb,wZ iu,aS,c7]
    congr 2
    refine tO fun z hz=>?_
    try dsimp only
    by_cases e:z=u
    ·rw[av e,av e]
    ·rw[ao e,ao e]
   ·rw[aS,c7,bz] at hk
    try dsimp only
    by_cases e:k=u
    ·rw[av e,av e];refine⟨FJ _ _ E4,?_⟩;rw[e,eL];exact⟨bC hm,BB⟩
    ·rw[ao e,ao e];obtain⟨h1,h2⟩:=mP k (hk.elim id fun z=>absurd (by simpa using z) e);exact⟨FJ _ _ (FI _ _ h1),h2⟩
  ·rintro σ H3 ⟨v3,v,ad,rfl,q3,f7,mP⟩;rw[jV,bh] at f7 mP;refine .inr ⟨pd,_,f7,fun ob=>⟨_,rfl,k pd ob v ad _ ((s1.trans q3).upd (s1.free gG)) (s1.free gG) ⟨zb,fun k hk=>?_⟩ fun k hk=>(mP k hk).2⟩⟩;have b1:=(mP k hk).1;rw[ze (fun z=>by rw[z,f7] at b1;cases b1)];exact b1
inductive wG(vs:List V)(H:Hp)(Q:VK):Prop
 | mk (p pm pu pt pf:ah) (lo hi:Int) (us:List Str) (aA:List ah) (ts:List aT) (af:List ah) (fs:List bN) (_:vs = [.ref p]) (_:je K H p pm pu pt pf lo hi us aA ts af fs) (_:∀(pd:ah)(ob:Obj)(v:Str->IS)(ad:Str->ah)(H':Hp),ak H H'->H pd=none->Bd H' pd ob (zn ts (aM us)) v ad->(∀k∈zn ts (aM us),yg (xj hi (eX ts (fs.zip af) k)) (v k))->Q (.ref pd) H')
def zy4:Sp:=fun vs H Q _=>wG (K:=K) vs H Q
theorem RE(T:Tx K mg w C_Dig zk zq zg zv zo zw zp zx):gk P w K mg base "ceilings" ["telling"] 5 (zy4 (K:=K)):=by
 refine T.zpu.has gn (fun vs H Q E h=>?_) (fun f bY A outer s H vs Q E hr h=>?_)
 ·obtain⟨p,pm,pu,pt,pf,lo,hi,us,aA,ts,af,fs,rfl,_⟩:=h;rfl
 ·obtain⟨p,pm,pu,pt,pf,lo,hi,us,aA,ts,af,fs,rfl,hF,k⟩:=h;have hu:=kC hr;refine⟨_,(zc (sset (i:=1) gn.nd (b7 (RB T) (za (pv 0) zd)))
   (zc (sset (i:=2) gn.nd ql)
   (zc (j3 bV rfl (w6 (pv 1)) (gE (i:=3) gn.nd) (zh (oq hu (pv 2) (pv 3) (ji (WY (K:=K) rfl rfl hu) (by rfl) T.min qX (za (fR BY (gZ (za (ko (za (bP (zr K rfl) (bP (zr K rfl) (pv 0) zi) zi) (za qi zd))) zd)) (sI (own:=["find"]) (cap:=[]) (ix:=[]) (gA:=zm (top 33)) rfl ⟨rfl,by decide +kernel,by decide +kernel,by decide +kernel,by decide +kernel⟩ rfl (jG K rfl (g7 hu (pv 1) (pv 3) (fun _ _=>rfl))) (fun _ _ _ _=>nX (i:=0) (show List.Nodup (["find"]:List Str) by decide +kernel) rfl (Or.inl rfl)) (fun _ _ _ _=>sH) (fun _ _ _ _=>(ko (za (bP (zr K rfl) (pv 0) zi) (za (bP (zr K rfl) (pv 0) zi) zd)))))) zd)) rfl)))
   (zh (zG (fW (pv 2))))))),?_⟩
  have nd:=hF.iN.nd;have lk:=hF.iN.mq;have Fy:=hF.fl;have FA:=hF.ft;refine⟨_,rfl,p,pm,pu,pt,pf,lo,hi,us,aA,ts,af,fs,rfl,hF,fun pw ow aw H1 s1 fpw hW=>?_⟩;have knd:=vJ (ts:=ts) nd;have FD:∀k,(eX ts (fs.zip af) k).length<=60:=fun k=>by
   have h2:=Ky (ts:=ts) (z:=fs.zip af) (k:=k);rw[fO] at h2;lia
  have FE:∀k,∀q∈eX ts (fs.zip af) k,H q.2=some (.tup (cZ q.1)):=fun k q hq=>by
   have:=(cy.mp hq).1;obtain⟨i,hi⟩:=jy.mp this;obtain⟨h1,h2⟩:=j6.mp hi;exact xg FA h2 (by rw[aN,h1];rfl)
  generalize zn ts (aM us)=keys at hW lk k knd;generalize eX ts (fs.zip af)=fw at hW k FD FE
  try dsimp only[zy]
  refine fun pd gG=>?_
  have s2:=ak.new (o:=.dK []) gG;refine⟨_,rfl,pw,ow,_,rfl,s2 _ _ hW.d,AV (fun i σ H'=>∃(v3:Option V)(v:Str->IS)(ad:Str->ah),σ = [some (.ref p),some (.ref pw),some (.ref pd),v3]/\ak H1 H'/\H' pd=some (.dK (dV (keys.take i) fun k=>.ref (ad k)))/\
    ∀k∈keys.take i,H' (ad k)=some (.tup [.int (v k).1,.str (v k).2])/\yg (xj hi (fw k)) (v k))
   ⟨none,fun _=>(0,""),fun _=>0,rfl,s2,zb,fun k hk=>by simp at hk⟩ (fun i σ H' _ h=>by obtain⟨_,_,_,_,q,_⟩:=h;exact q _ _ hW.d) ?_ ?_⟩
  ·rintro i kk vv σ H3 hx ⟨v3,v,ad,rfl,q3,f7,mP⟩;obtain⟨u,c7,rfl,_⟩:=AU hx;have dD:u∈keys:=bC c7;have F3:=hF.same (s1.trans q3);have W3:=hW.same q3
   try dsimp only[zy]
   refine⟨_,rfl,p,_,_,_,rfl,rfl,F3.iN.p,rfl,pm,_,_,_,rfl,rfl,F3.m,rfl,(by show 2<=sizeLine;decide),fun b0 wA=>?_⟩;have t1:=ak.new (o:=.tup [.int hi,.str ""]) wA;refine⟨by show 1<=sizeLine;decide,fun l0 zV=>?_⟩;have t2:=ak.new (o:=.lst [.ref b0]) zV;have q5:=q3.trans (t1.trans t2);have oH:=t2 _ _ (zb (H:=H3) (a:=b0) (o:=.tup [.int hi,.str ""]));have FF:upd (upd H3 b0 (.tup [.int hi,.str ""])) l0 (.lst [.ref b0]) l0=some (.lst [.ref b0]):=zb;have FG:=t1.trans t2;generalize upd (upd H3 b0 (.tup [.int hi,.str ""])) l0 (.lst [.ref b0])=H5 at q5 oH FF t2 FG;have W5:=hW.same q5;have lL:=FD u;have tL:=FE u;have BA:=W5.l u dD;generalize eL:fw u=L at lL tL BA;refine⟨_,rfl,_,rfl,pw,_,rfl,sN W5.d dD,aw u,rfl,⟨_,aH.of BA⟩,fun D hD=>?_⟩;refine qa (tH (K:=K) (a:=aw u) (xs:=L.map fun p=>V.ref p.2)) (fun i' aI ys H'=>∃(w0:Option V)(bs:List ah),aI = [w0]/\ys=bs.map V.ref/\Paired (fun a(p:IS)=>H' a=some (.tup [.int p.1,.str p.2])) bs ((L.take i').map fun p=>(p.1.hi,p.1.n))/\ak H5 H'/\H' D=some (.lst ys))
    ⟨none,[],rfl,rfl,.nil,ak.new hD,zb⟩ (fun i' aI ys H' h=>?_) (by rw[aq];exact lP (by lia)) ?_ ?_
   ·obtain⟨_,bs,_,rfl,pb,q,hd⟩:=h;refine⟨aH.of (q _ _ BA),hd,?_⟩;have:=Paired.length pb;rw[aq,bw] at this;rw[aq];lia
   ·rintro i' v' aI ys H' hx ⟨w0,bs,rfl,rfl,pb,q,hd⟩;have c6:=iy hx;rw[aN] at hx;cases ef:L[i']? with
    | none=>rw[ef] at hx;cases hx
    | some f=>
     rw[ef] at hx;cases hx;have hf:=q _ _ (q5 _ _ (s1 _ _ (tL f (bC ef))))
     try dsimp only[zy]
     unfold kD;dsimp only;rw[av rfl];refine⟨_,rfl,f.2,_,_,_,rfl,rfl,bx.of hf,W2 f.1,_,rfl,f.2,_,_,_,rfl,rfl,bx.of hf,OD f.1,(by show 2<=sizeLine;decide),fun b1 qy=>?_⟩;have w1:=ak.new (o:=.tup [.int f.1.hi,.str f.1.n]) qy;have mJ:=w1 _ _ hd;refine⟨mJ,mG c6 ⟨_,bs++[b1],rfl,by rw[aL];rfl,?_,(q.trans w1).upd hD,zb⟩⟩;rw[aS,ef,aL];exact Paired.snoc (Paired.gy pb fun a z e=>lQ mJ _ _ (w1 _ _ e)) (lQ mJ _ _ zb)
   rintro aI ys H6 ⟨w0,bs,rfl,rfl,pb,t6,jv⟩;rw[aq,bh] at pb;have lb:=Paired.length pb;rw[aq] at lb;have Mh:=t6 _ _ FF;refine⟨l0,D,_,_,rfl,rfl,Mh,jv,by rw[aq];exact lP (show 1+_<=1000 by lia),fun l hl=>?_⟩;have t7:=ak.new (o:=.lst ([V.ref b0]++bs.map V.ref)) hl;have pr:Paired (fun a(p:IS)=>H6 a=some (.tup [.int p.1,.str p.2])) (b0::bs) (xj hi L):=.cons (t6 _ _ oH) pb;have FH:=Paired.gy pr fun a z e=>t7 _ _ e
   refine⟨l,b0::bs,xj hi L,rfl,aH.of zb,Paired.gy FH fun a z e=>bx.of e,by unfold xj;simp,fun j a m ha hm BB=>?_⟩;have E4:=xg FH ha hm;have q7:=q5.trans (t6.trans t7);have FI:=FG.trans (t6.trans t7);have n8:=FI _ _ f7;have iu:u ∉ keys.take i:=by
    have hi:=iy c7;have:=vH knd i hi;rw[show keys[i]=u from(bI.mp c7).2] at this;exact this
   refine⟨_,rfl,_,rfl,pd,_,rfl,eO.k (k:=Sum.inr u) n8 (by rw[jV,bw];exact jr (by lia)),?_⟩;have FJ:∀b vs,upd H6 l (.lst ([V.ref b0]++bs.map V.ref)) b=some (.tup vs)->upd (upd H6 l (.lst ([V.ref b0]++bs.map V.ref))) pd (.dK (putK (dV (keys.take i) fun k=>.ref (ad k)) (Sum.inr u) (.ref a))) b=some (.tup vs):=fun b vs e=>by
    rw[ze (jE e n8 (by intro z;cases z))];exact e
   refine⟨_,fun z=>if z=u then m else v z,fun z=>if z=u then a else ad z,rfl,q7.upd gG,?_,fun k hk=>?_⟩
   ·rw[zb,wZ iu,aS,c7]
    congr 2
    refine tO fun z hz=>?_
    try dsimp only
    by_cases e:z=u
    ·rw[av e,av e]
    ·rw[ao e,ao e]
   ·rw[aS,c7,bz] at hk
    try dsimp only
    by_cases e:k=u
    ·rw[av e,av e];refine⟨FJ _ _ E4,?_⟩;rw[e,eL];exact⟨bC hm,BB⟩
    ·rw[ao e,ao e];obtain⟨h1,h2⟩:=mP k (hk.elim id fun z=>absurd (by simpa using z) e);exact⟨FJ _ _ (FI _ _ h1),h2⟩
  ·rintro σ H3 ⟨v3,v,ad,rfl,q3,f7,mP⟩;rw[jV,bh] at f7 mP;refine .inr ⟨pd,_,f7,fun ob=>⟨_,rfl,k pd ob v ad _ ((s1.trans q3).upd (s1.free gG)) (s1.free gG) ⟨zb,fun k hk=>?_⟩ fun k hk=>(mP k hk).2⟩⟩;have b1:=(mP k hk).1;rw[ze (fun z=>by rw[z,f7] at b1;cases b1)];exact b1
theorem zth{H H':Hp}{a:ah}{xs:List V}(e:ak H H')(h:bx K H a xs):bx K H' a xs:=by
 rcases h with (h | ⟨o,h⟩) | h
 ·exact .inl (.inl (e _ _ h))
 ·exact .inl (.inr ⟨o,e _ _ h⟩)
 ·exact .inr h
inductive uB(C:ah)(vs:List V)(H:Hp)(Q:VK):Prop
 | mk (e p:ah) (xs:List V) (_:vs = [.ref e,.ref p]) (_:H e=some (gC e C none)) (_:aH K H p xs) (_:xs.length<=1000) (_:∀(q d:ah),q≠e->d≠e->H q=none->H d=none->d≠q->Q .cu (upd (upd (upd H q (.lst xs)) d (.xd [("ties",.ref q)])) e (gC e C (some d))))
def zvs(C:ah):Sp:=fun vs H Q _=>uB (K:=K) C vs H Q
theorem zfk(T:Tx K mg w C_Dig zk zq zg zv zo zw zp zx):gS P w K mg base zq "__init__" ["self","ties"] 1 (zvs (K:=K) zq):=by
 refine T.Z5.has zex (fun vs H Q E h=>?_) (fun f bY A outer s H vs Q E hr h=>?_)
 ·obtain⟨e,p,xs,rfl,_⟩:=h;rfl
 ·obtain⟨e,p,xs,rfl,he,hp,hl,k⟩:=h;refine⟨_,(zc (ig (Po (by rfl) T.Qy T.Qz (za (pv 0) (za qi zd))))
   (zh (Pn (pv 0) (xO (NQ K rfl) (by rfl) T.list j7 (za (pv 1) zd)) rfl))),?_⟩
  obtain⟨bm,xo,U⟩:=T.QB;refine⟨_,rfl,e,zq,none,bm,_,rfl,he,xo,U,(by show 1<=sizeLine;decide),?_⟩;refine⟨_,rfl,p,xs,rfl,.inl hp,fun q hq=>?_⟩;have ne:q≠e:=fun z=>by rw[z,he] at hq;cases hq
  refine⟨_,rfl,e,zq,rfl,by rw[ze ne.symm];exact he,T.Z4,T.Z6,fun d hd=>?_⟩;have nd:d≠q:=fun z=>by rw[z,zb] at hd;cases hd
  rw[ze nd] at hd;exact k q d ne (fun z=>by rw[z,he] at hd;cases hd) hq hd nd
inductive uC(C:ah)(vs:List V)(H:Hp)(Q:VK):Prop
 | mk (e p p1:ah) (x0 x2:V) (xs:List V) (_:vs = [.ref e,.ref p]) (_:H e=some (gC e C none)) (_:bx K H p [x0,.ref p1,x2]) (_:aH K H p1 xs) (_:xs.length<=1000) (_:∀(q r d:ah),q≠e->r≠e->d≠e->H q=none->H r=none->H d=none->r≠q->d≠q->d≠r->Q .cu (upd (upd (upd (upd H q (.lst xs)) r (.tup [x0,.ref q,x2])) d (.xd [("row",.ref r)])) e (gC e C (some d))))
def zvt(C:ah):Sp:=fun vs H Q _=>uC (K:=K) C vs H Q
theorem zdy(T:Tx K mg w C_Dig zk zq zg zv zo zw zp zx):gS P w K mg base zg "__init__" ["self","row"] 1 (zvt (K:=K) zg):=by
 refine T.Z9.has zdm (fun vs H Q E h=>?_) (fun f bY A outer s H vs Q E hr h=>?_)
 ·obtain⟨e,p,p1,x0,x2,xs,rfl,_⟩:=h;rfl
 ·obtain⟨e,p,p1,x0,x2,xs,rfl,he,hp,uT,hl,k⟩:=h;refine⟨_,(zc (ig (Po (by rfl) T.Qy T.Qz (za (pv 0) (za qi zd))))
   (zh (Pn (pv 0) (ko (za (bP (zr K rfl) (pv 1) zi) (za (xO (NQ K rfl) (by rfl) T.list j7 (za (bP (zr K rfl) (pv 1) zi) zd)) (za (bP (zr K rfl) (pv 1) zi) zd)))) rfl))),?_⟩
  obtain⟨bm,xo,U⟩:=T.QD;refine⟨_,rfl,e,zg,none,bm,_,rfl,he,xo,U,(by show 1<=sizeLine;decide),?_⟩
  try dsimp only
  refine⟨_,rfl,p,_,_,x0,rfl,rfl,hp,rfl,_,rfl,p,_,_,.ref p1,rfl,rfl,hp,rfl,p1,xs,rfl,.inl uT,fun q hq=>?_⟩;have t1:=ak.new (o:=.lst xs) hq;refine⟨_,rfl,p,_,_,x2,rfl,rfl,zth t1 hp,rfl,(by show 3<=sizeLine;decide),fun r hr=>?_⟩;have ne:q≠e:=fun z=>by rw[z,he] at hq;cases hq
  have nr:r≠q:=fun z=>by rw[z,zb] at hr;cases hr
  rw[ze nr] at hr;have RG:r≠e:=fun z=>by rw[z,he] at hr;cases hr
  refine⟨_,rfl,e,zg,rfl,by rw[ze RG.symm,ze ne.symm];exact he,T.Z8,T.zhf,fun d hd=>?_⟩;have d1:d≠r:=fun z=>by rw[z,zb] at hd;cases hd
  rw[ze d1] at hd;have d2:d≠q:=fun z=>by rw[z,zb] at hd;cases hd
  rw[ze d2] at hd;exact k q r d ne RG (fun z=>by rw[z,he] at hd;cases hd) hq hr hd nr d2 d1
inductive wH(vs:List V)(H:Hp)(Q:VK):Prop
 | mk (pb:ah) (ob:Obj) (keys:List Str) (v:Str->IS) (ab:Str->ah) (fz:Bool) (_:vs = [.ref pb]) (_:Bd H pb ob keys v ab) (_:keys.Nodup) (_:keys.length<=63) (_:∀(pd:ah)(o:Obj)(ad:Str->ah)(H':Hp),ak H H'->H pd=none->H' pd=some (Zz fz o keys ad)->(∀k∈keys,cN H H' (ad k) ((v k).1,(v k).2,[]))->Q (.ref pd) H')
def zy5:Sp:=fun vs H Q _=>wH vs H Q
theorem Mi(T:Tx K mg w C_Dig zk zq zg zv zo zw zp zx):gk P w K mg base "bare_chains" ["bounds"] 1 zy5:=by
 refine T.zjr.has fT (fun vs H Q E h=>?_) (fun f bY A outer s H vs Q E hr h=>?_)
 ·obtain⟨pb,ob,keys,v,ab,fz,rfl,_⟩:=h;rfl
 ·obtain⟨pb,ob,keys,v,ab,fz,rfl,hB,knd,lk,k⟩:=h;have hu:=kC hr;refine⟨_,(zc (sset (i:=1) fT.nd ql)
   (zc (j3 bV rfl (w6 (pv 0)) (gE (i:=2) fT.nd) (zh (oq hu (pv 1) (pv 2) (fR (NP K rfl) (g7 hu (pv 0) (pv 2) (fun _ _=>rfl)) (ko (za (gZ zd) zd))) rfl)))
   (zh (zG (fW (pv 1)))))),?_⟩
  try dsimp only[zy]
  refine fun pd gG=>?_
  have s1:=ak.new (o:=.dK []) gG;refine⟨_,rfl,pb,ob,_,rfl,s1 _ _ hB.d,AV (fun i σ H'=>∃(v2:Option V)(ad:Str->ah),σ = [some (.ref pb),some (.ref pd),v2]/\ak H H'/\H' pd=some (.dK (dV (keys.take i) fun k=>.ref (ad k)))/\∀k∈keys.take i,cN H H' (ad k) ((v k).1,(v k).2,[]))
   ⟨none,fun _=>0,rfl,s1,zb,fun k hk=>by simp at hk⟩ (fun i σ H' _ h=>by obtain⟨_,_,_,q,_⟩:=h;exact q _ _ hB.d) ?_ ?_⟩
  ·rintro i kk vv σ H3 hx ⟨v2,ad,rfl,q3,f7,mP⟩;obtain⟨u,c7,rfl,_⟩:=AU hx;have dD:u∈keys:=bC c7;have B3:=hB.same q3
   try dsimp only[zy]
   refine⟨_,rfl,_,rfl,pb,_,rfl,sN B3.d dD,by show 0<=sizeLine;decide,fun l0 zV=>?_⟩;have t1:=ak.new (o:=.lst []) zV;refine⟨by show 1<=sizeLine;decide,fun b0 wA=>?_⟩;have t2:=ak.new (o:=.tup [.ref l0]) wA;refine⟨ab u,b0,_,_,rfl,rfl,bx.of (t2 _ _ (t1 _ _ (B3.e u dD))),bx.of zb,by simp,by show 3<=sizeLine;decide,fun z=>by simp at z,fun _ p hp=>?_⟩;have t3:=ak.new (o:=.tup [.int (v u).1,.str (v u).2,.ref l0]) hp;have Mj:=t1.trans (t2.trans t3);have jv:=Mj _ _ f7;have iu:u ∉ keys.take i:=by
    have hi:=iy c7;have:=vH knd i hi;rw[show keys[i]=u from(bI.mp c7).2] at this;exact this
   have hc:cN H (upd (upd (upd H3 l0 (.lst [])) b0 (.tup [.ref l0])) p (.tup [.int (v u).1,.str (v u).2,.ref l0])) p ((v u).1,(v u).2,[]):=⟨l0,zb,t3 _ _ (t2 _ _ zb),q3.free zV⟩;refine⟨_,rfl,_,rfl,pd,_,rfl,eO.k (k:=Sum.inr u) jv (by rw[jV,bw];exact jr (by lia)),?_⟩;refine⟨_,fun z=>if z=u then p else ad z,rfl,(q3.trans Mj).upd gG,?_,fun k hk=>?_⟩
   ·rw[zb,wZ iu,aS,c7]
    congr 2
    refine tO fun z hz=>?_
    try dsimp only
    by_cases e:z=u
    ·rw[av e,av e]
    ·rw[ao e,ao e]
   ·rw[aS,c7,bz] at hk
    try dsimp only
    by_cases e:k=u
    ·rw[av e,e];exact hc.put jv
    ·rw[ao e];exact((mP k (hk.elim id fun z=>absurd (by simpa using z) e)).same Mj).put jv
  ·rintro σ H3 ⟨v2,ad,rfl,q3,f7,mP⟩;rw[jV,bh] at f7 mP;cases fz with
   | false=>exact .inl ⟨_,rfl,k pd ob ad _ q3 gG f7 mP⟩
   | true=>exact .inr ⟨pd,_,f7,fun rT=>⟨_,rfl,k pd rT ad _ (q3.upd gG) gG zb fun k hk=>(mP k hk).put f7⟩⟩
inductive uD(vs:List V)(H:Hp)(Q:VK):Prop
 | mk (a r:ah) (c:eZ) (t:aT) (us:List Str) (_:vs = [.ref a,.ref r]) (_:cN (fun _=>none) H a c) (_:H r=some (.tup (aW t))) (_:mH us t) (_:c.2.2.length<=900) (_:∀(q:ah)(H':Hp),ak H H'->H q=none->cN H H' q (c.1+fE t,c.2.1,c.2.2++[(t,r)])->Q (.ref q) H')
def zvu:Sp:=fun vs H Q _=>uD vs H Q
theorem RH(T:Tx K mg w C_Dig zk zq zg zv zo zw zp zx):gk P w K mg base "led_up" ["chain","tie"] 2 zvu:=by
 refine T.zv4.has zs3 (fun vs H Q E h=>?_) (fun f bY A outer s H vs Q E hr h=>?_)
 ·obtain⟨a,r,c,t,us,rfl,_⟩:=h;rfl
 ·obtain⟨a,r,c,t,us,rfl,⟨l,ha,hl,_⟩,uU,tok,lc,k⟩:=h;refine⟨_,(zh (fW (ko (za (fR sq (bP (zr K rfl) (pv 0) zi) (b7 (RA T) (za (pv 1) zd))) (za (bP (zr K rfl) (pv 0) zi) (za (fR BY (bP (zr K rfl) (pv 0) zi) (gZ (za (pv 1) zd))) zd)))))),?_⟩;refine⟨_,rfl,a,_,_,_,rfl,rfl,bx.of ha,rfl,_,rfl,r,t,us,rfl,uU,tok,fun H1 s1=>?_⟩;refine⟨_,_,rfl,rfl,_,rfl,a,_,_,_,rfl,rfl,bx.of (s1 _ _ ha),rfl,_,rfl,a,_,_,_,rfl,rfl,bx.of (s1 _ _ ha),rfl,_,rfl,by show 1<=sizeLine;decide,fun l1 qu=>?_⟩;have t1:=ak.new (o:=.lst [.ref r]) qu;refine⟨l,l1,_,_,rfl,rfl,t1 _ _ (s1 _ _ hl),zb,by rw[aq];exact lP (show _+1<=1000 by lia),fun l2 nY=>?_⟩;have t2:=ak.new (o:=.lst (c.2.2.map (fun p=>V.ref p.2)++[.ref r])) nY;refine⟨by show 3<=sizeLine;decide,fun b hb=>?_⟩;have t3:=ak.new (o:=.tup [.int (c.1+fE t),.str c.2.1,.ref l2]) hb;refine k b _ (s1.trans (t1.trans (t2.trans t3))) ((s1.trans (t1.trans t2)).free hb) ⟨l2,zb,?_,(s1.trans t1).free nY⟩;rw[t3 _ _ zb,aL];rfl
inductive qD(vs:List V)(H:Hp)(Q:VK):Prop
 | mk (a r:ah) (c:eZ) (t:aT) (us:List Str) (_:vs = [.ref a,.ref r]) (_:cN (fun _=>none) H a c) (_:H r=some (.tup (aW t))) (_:mH us t) (_:c.2.2.length<=900) (_:∀(q:ah)(H':Hp),ak H H'->H q=none->cN H H' q (c.1-fE t,c.2.1,(t,r)::c.2.2)->Q (.ref q) H')
def zpq:Sp:=fun vs H Q _=>qD vs H Q
theorem zpr(T:Tx K mg w C_Dig zk zq zg zv zo zw zp zx):gk P w K mg base "led_down" ["chain","tie"] 2 zpq:=by
 refine T.zpv.has zml (fun vs H Q E h=>?_) (fun f bY A outer s H vs Q E hr h=>?_)
 ·obtain⟨a,r,c,t,us,rfl,_⟩:=h;rfl
 ·obtain⟨a,r,c,t,us,rfl,⟨l,ha,hl,_⟩,uU,tok,lc,k⟩:=h;refine⟨_,(zh (fW (ko (za (fR MO (bP (zr K rfl) (pv 0) zi) (b7 (RA T) (za (pv 1) zd))) (za (bP (zr K rfl) (pv 0) zi) (za (fR BY (gZ (za (pv 1) zd)) (bP (zr K rfl) (pv 0) zi)) zd)))))),?_⟩;refine⟨_,rfl,a,_,_,_,rfl,rfl,bx.of ha,rfl,_,rfl,r,t,us,rfl,uU,tok,fun H1 s1=>?_⟩;refine⟨_,_,rfl,rfl,_,rfl,a,_,_,_,rfl,rfl,bx.of (s1 _ _ ha),rfl,_,rfl,by show 1<=sizeLine;decide,fun l1 qu=>?_⟩;have t1:=ak.new (o:=.lst [.ref r]) qu;refine⟨_,rfl,a,_,_,_,rfl,rfl,bx.of (t1 _ _ (s1 _ _ ha)),rfl,?_⟩;refine⟨l1,l,_,_,rfl,rfl,zb,t1 _ _ (s1 _ _ hl),by rw[aq];exact lP (show 1+_<=1000 by lia),fun l2 nY=>?_⟩;have t2:=ak.new (o:=.lst ([V.ref r]++c.2.2.map (fun p=>V.ref p.2))) nY;refine⟨by show 3<=sizeLine;decide,fun b hb=>?_⟩;have t3:=ak.new (o:=.tup [.int (c.1-fE t),.str c.2.1,.ref l2]) hb;refine k b _ (s1.trans (t1.trans (t2.trans t3))) ((s1.trans (t1.trans t2)).free hb) ⟨l2,zb,?_,(s1.trans t1).free nY⟩;rw[t3 _ _ zb];rfl
inductive r8(vs:List V)(H:Hp)(Q:VK):Prop
 | mk (pb pc:ah) (ob oc:Obj) (keys:List Str) (R:Rw) (xA:Str->ah) (bs:Str->List ah) (M:List Str) (v:Str->eZ) (adc:Str->ah) (_:vs = [.ref pb,.ref pc]) (_:Bn H pb ob keys (tU R) xA bs) (_:H pc=some (.dw oc (.dK (dV M fun k=>.ref (adc k))))) (_:(∀k∈M,cN (fun _=>none) H (adc k) (v k))) (_:(∀k l b,(l,b)∈R k->H b.2=some (.tup (aW b.1))/\∃us,mH us b.1)) (_:keys.Nodup) (_:keys.length<=63) (_:(∀k,(R k).length<=900)) (_:(∀k∈M,(v k).2.2.length<=900)) (_:∀(pd:ah)(o:Obj)(M':List Str)(v':Str->eZ)(ad:Str->ah)(H':Hp),ak H H'->H pd=none->H' pd=some (.dw o (.dK (dV M' fun k=>.ref (ad k))))->(∀k∈M',cN H H' (ad k) (v' k))->M'.Nodup->(∀k∈M',k∈keys)->(∀k∈keys,oF R M v k (R k) (k∈M') (v' k))->Q (.ref pd) H')
def zti:Sp:=fun vs H Q _=>r8 vs H Q
theorem zfl(T:Tx K mg w C_Dig zk zq zg zv zo zw zp zx):gk P w K mg base "one_tie_longer" ["beneath","chains"] 3 zti:=by
 refine T.zfq.has bS (fun vs H Q E h=>?_) (fun f bY A outer s H vs Q E hr h=>?_)
 ·obtain⟨pb,pc,ob,oc,keys,R,xA,bs,M,v,adc,rfl,_⟩:=h;rfl
 ·obtain⟨pb,pc,ob,oc,keys,R,xA,bs,M,v,adc,rfl,hB,hC,hM,hR,knd,lk,lR,lM,k⟩:=h;have hu:=kC hr;refine⟨_,(zc (sset (i:=2) bS.nd ql)
   (zc (j3 bV rfl (w6 (pv 0)) (gE (i:=3) bS.nd) (zh (j3 bV rfl (jG K rfl (g7 hu (pv 0) (pv 3) (fun _ _=>rfl))) (vE K rfl rfl (mD (gE (i:=4) bS.nd) (mD (gE (i:=5) bS.nd) u9))) (zh (gR (uN (B8 hu (pv 4) (pv 1))) (zc (sset (i:=6) bS.nd (b7 (RH T) (za (g7 hu (pv 1) (pv 4) (fun _ _=>rfl)) (za (pv 5) zd))))
      (zh (gR (PW.pt (C3 (uN (B9 hu (pv 3) (pv 2))) (Ge (fh BU (bP (zr K rfl) (pv 6) zi) (bP (zr K rfl) (g7 hu (pv 2) (pv 3) (fun _ _=>rfl)) zi) (fV _))))) (zh (oq hu (pv 2) (pv 3) (pv 6) rfl)) jc))) jc)))))
   (zh (zG (fW (pv 2)))))),?_⟩
  try dsimp only[zy]
  refine fun pd gG=>?_
  have s1:=ak.new (o:=.dK []) gG;refine⟨_,rfl,pb,ob,_,rfl,s1 _ _ hB.d,AV (fun i σ H'=>∃(v3 v4 v5 v6:Option V)(M':List Str)(v':Str->eZ)(ad:Str->ah),σ = [some (.ref pb),some (.ref pc),some (.ref pd),v3,v4,v5,v6]/\ak H H'/\H' pd=some (.dK (dV M' fun k=>.ref (ad k)))/\(∀k∈M',cN H H' (ad k) (v' k))/\M'.Nodup/\(∀k∈M',k∈keys.take i)/\∀k∈keys.take i,oF R M v k (R k) (k∈M') (v' k))
   ⟨none,none,none,none,[],fun _=>(0,"",[]),fun _=>0,rfl,s1,zb,fun k hk=>by simp at hk,List.nodup_nil,fun k hk=>by simp at hk,fun k hk=>by simp at hk⟩ (fun i σ H' _ h=>by obtain⟨_,_,_,_,_,_,_,_,q,_⟩:=h;exact q _ _ hB.d) ?_ ?_⟩
  ·rintro i kk vv σ H3 hx ⟨v3,v4,v5,v6,M',v',ad,rfl,q3,f7,mP,Ih,CM,FL⟩;obtain⟨u,c7,rfl,_⟩:=AU hx;have dD:u∈keys:=bC c7;have B3:=hB.same q3;have FN:(bs u).length=(R u).length:=(Paired.length (hB.e u dD)).trans Lh;have iu:u ∉ keys.take i:=by
    have hi:=iy c7;have:=vH knd i hi;rw[show keys[i]=u from(bI.mp c7).2] at this;exact this
   have tk:keys.take (i+1)=keys.take i++[u]:=by rw[aS,c7];rfl
   try dsimp only[zy]
   refine⟨_,rfl,_,rfl,pb,_,rfl,B3.get dD,xA u,rfl,⟨_,aH.of (B3.l u dD)⟩,pP (xs:=(bs u).map V.ref) (fun j σ H'=>∃(v4 v5 v6:Option V)(M':List Str)(v':Str->eZ)(ad:Str->ah),σ = [some (.ref pb),some (.ref pc),some (.ref pd),some (.str u),v4,v5,v6]/\ak H H'/\H' pd=some (.dK (dV M' fun k=>.ref (ad k)))/\(∀k∈M',cN H H' (ad k) (v' k))/\M'.Nodup/\(∀k∈M',k∈keys.take i++[u])/\
     (∀k∈keys.take i,oF R M v k (R k) (k∈M') (v' k))/\oF R M v u ((R u).take j) (u∈M') (v' u))
    ⟨v4,v5,v6,M',v',ad,rfl,q3,f7,mP,Ih,fun k hk=>dF _ (CM k hk),FL,oF.nil fun z=>iu (CM u z)⟩ (fun j σ H' _ h=>by obtain⟨_,_,_,_,_,_,_,q,_⟩:=h;exact aH.of ((hB.same q).l u dD)) ?_ ?_⟩
   ·clear mP Ih CM FL f7 q3 B3;rintro j x σ H4 hx ⟨v4,v5,v6,M',v',ad,rfl,q4,j0,jw,xx,BC,CN,CO⟩;have B4:=hB.same q4;obtain⟨b,⟨l,r⟩,rfl,oZ,_,hb⟩:=tP (B4.e u dD) hx;obtain⟨t,ht⟩:=Lg oZ;have wI:(l,(t,r))∈R u:=bC ht;obtain⟨FO,us,tok⟩:=hR u l (t,r) wI;have rt:(R u).take (j+1)=(R u).take j++[(l,(t,r))]:=by rw[aS,ht];rfl
    have uE:=q4 _ _ hC;refine⟨b,_,rfl,bx.of hb,rfl,_,_,rfl,_,_,rfl,rfl,?_⟩
    try dsimp only[zy]
    refine Ce (decide (l∈M)) (fun Q' hQ=>?_) ?_
    ·by_cases c:l∈M
     ·refine⟨_,rfl,_,rfl,pc,_,rfl,sN uE c,?_⟩;rw[aP c] at hQ;exact⟨_,rfl,hQ⟩
     ·refine⟨_,rfl,_,rfl,pc,none,rfl,ZA uE c,?_⟩;rw[bq c] at hQ;exact⟨_,rfl,hQ⟩
    refine cM (fun c=>?_) (fun c=>?_)
    ·have c:=bG c;refine⟨_,rfl,_,rfl,pc,_,rfl,sN uE c,_,rfl,adc l,r,v l,t,us,rfl,(hM l c).same q4,q4 _ _ FO,tok,lM l c,fun q H5 s5 fq hq=>?_⟩;have q5:=q4.trans s5;have gI:=s5 _ _ j0;have By:cN H H5 q ((v l).1+fE t,(v l).2.1,(v l).2.2++[(t,r)]):=hq.old q4;have uH:∀k∈M',cN H H5 (ad k) (v' k):=fun k hk=>(jw k hk).same s5
     try dsimp only[zy]
     refine Ce (decide (u ∉ M'\/(v' u).1<(v l).1+fE t)) (fun Q' hQ=>?_) ?_
     ·by_cases c2:u∈M'
      ·have g:=ck.k (k:=Sum.inr u) gI;rw[pR c2] at g;obtain⟨lq,h1,_⟩:=By;obtain⟨lu,h2,_⟩:=uH u c2;refine⟨_,rfl,_,rfl,pd,_,rfl,g,_,rfl,fj ⟨_,rfl,q,_,_,_,rfl,rfl,bx.of h1,rfl,_,rfl,_,rfl,pd,_,rfl,g,ad u,_,_,_,rfl,rfl,bx.of h2,rfl,_,_,rfl,rfl,_,rfl,?_⟩⟩;rw[show decide (u ∉ M'\/(v' u).1<(v l).1+fE t)=decide ((v l).1+fE t > (v' u).1) from iZ.mpr ⟨fun z=>z.elim (fun z=>absurd c2 z) id,fun z=>.inr z⟩] at hQ;exact hQ
      ·have g:=ck.k (k:=Sum.inr u) gI;rw[AS c2] at g;refine⟨_,rfl,_,rfl,pd,_,rfl,g,_,rfl,lO ?_⟩;rw[aP (Or.inl c2)] at hQ;exact hQ
     refine cM (fun c2=>?_) (fun c2=>?_)
     ·have c2:=bG c2;have lM':M'.length<=63:=by
       have:=uR (us:=keys) xx fun k hk=>by
        rcases bz.mp (BC k hk) with z | z
        ·exact nh z
        ·rw[show k=u by simpa using z];exact dD
       lia
      refine⟨_,rfl,_,rfl,_,rfl,pd,_,rfl,eO.k (k:=Sum.inr u) gI (by rw[jV];exact jr (by lia)),?_⟩;have adq:∀k,k≠u->(if k=u then q else ad k)=ad k:=fun k n=>ao n
      have ek:∀(L:List Str),(dV L fun z=>if z=u then V.ref q else V.ref (ad z))=dV L fun k=>V.ref (if k=u then q else ad k):=fun L=>tO fun z _=>by split<;>rfl
      have rY:∀(kv:List (Key×V)),∀k,(k=u\/k∈M')->cN H (upd H5 pd (.dK kv)) (if k=u then q else ad k) (if k=u then((v l).1+fE t,(v l).2.1,(v l).2.2++[(t,r)]) else v' k):=fun kv k hk=>by
       by_cases e:k=u
       ·rw[av e,av e];exact By.put gI
       ·rw[ao e,ao e];exact(uH k (hk.resolve_left e)).put gI
      have RI:∀(hs:Prop),hs->oF R M v u ((R u).take (j+1)) hs (if u=u then((v l).1+fE t,(v l).2.1,(v l).2.2++[(t,r)]) else v' u):=fun hs hh=>by
       rw[av rfl,rt];exact CO.take c hh (fun z=>c2.elim (fun y=>absurd z y) id) rfl
      by_cases c3:u∈M'
      ·rw[GY c3,ek];refine⟨_,_,_,M',fun k=>if k=u then((v l).1+fE t,(v l).2.1,(v l).2.2++[(t,r)]) else v' k,fun k=>if k=u then q else ad k,rfl,q5.upd gG,zb,fun k hk=>rY _ k (.inr hk),xx,BC,fun k hk=>?_,RI _ c3⟩;exact(CN k hk).congr Iff.rfl (by dsimp only;rw[ao (fun z=>iu (z▸hk):¬k=u)])
      ·rw[wZ c3,ek];refine⟨_,_,_,M'++[u],fun k=>if k=u then((v l).1+fE t,(v l).2.1,(v l).2.2++[(t,r)]) else v' k,fun k=>if k=u then q else ad k,rfl,q5.upd gG,zb,fun k hk=>rY _ k ?_,?_,fun k hk=>?_,fun k hk=>?_,RI _ (by simp)⟩
       ·rcases rQ hk with z | z
        ·exact .inr z
        ·exact .inl z
       ·rw[iU];refine⟨xx,by simp,fun a ha b hb e=>?_⟩;have hb:b=u:=by simpa using hb
        exact c3 (hb▸e▸ha)
       ·rcases rQ hk with z | z
        ·exact BC k z
        ·rw[z];simp
       ·have ne:k≠u:=fun z=>iu (z▸hk)
        refine(CN k hk).congr ⟨fun z=>dF _ z,fun z=>?_⟩ (by dsimp only;rw[ao ne]);rcases rQ z with z | z
        ·exact z
        ·exact absurd z ne
     ·have c2:¬(u ∉ M'\/(v' u).1<(v l).1+fE t):=fun z=>c2 (aP z)
      have c3:u∈M':=fG fun z=>c2 (.inl z)
      refine⟨_,_,_,M',v',ad,rfl,q5,gI,uH,xx,BC,CN,?_⟩;rw[rt];exact CO.cP c3 (by have:¬((v' u).1<(v l).1+fE t):=fun z=>c2 (.inr z);show(v l).1+fE t<=_;lia)
    ·have c:l ∉ M:=fun z=>c (aP z)
     refine⟨_,_,_,M',v',ad,rfl,q4,j0,jw,xx,BC,CN,?_⟩;rw[rt];exact CO.skip c
   ·rintro σ H4 ⟨v4,v5,v6,M',v',ad,rfl,q4,j0,jw,xx,BC,CN,CO⟩;rw[aq,FN,bh] at CO;refine⟨_,_,_,_,M',v',ad,rfl,q4,j0,jw,xx,by rw[tk];exact BC,fun k hk=>?_⟩;rw[tk] at hk;rcases rQ hk with z | z
    ·exact CN k z
    ·rw[z];exact CO
  ·rintro σ H3 ⟨v3,v4,v5,v6,M',v',ad,rfl,q3,f7,mP,Ih,CM,FL⟩;rw[jV,bh] at CM FL;exact .inr ⟨pd,_,f7,fun rT=>⟨_,rfl,k pd rT M' v' ad _ (q3.upd gG) gG zb (fun k hk=>(mP k hk).put f7) Ih CM FL⟩⟩
inductive r9(vs:List V)(H:Hp)(Q:VK):Prop
 | mk (p pm pu pt pf:ah) (lo hi:Int) (us:List Str) (aA:List ah) (ts:List aT) (af:List ah) (fs:List bN) (_:vs = [.ref p]) (_:je K H p pm pu pt pf lo hi us aA ts af fs) (_:ju (dj ts (ts.zip aA)) (zn ts (aM us))) (_:(∀H',ak H H'->yx lo hi us aA ts af fs->Q .cu H')) (_:∀(q:ah)(c:eZ)(w:Str)(H':Hp),ak H H'->Lj H' q c w->yy lo hi us aA ts af fs c w->Q (.ref q) H')
def ztj:Sp:=fun vs H Q _=>r9 (K:=K) vs H Q
theorem zfm(T:Tx K mg w C_Dig zk zq zg zv zo zw zp zx):gk P w K mg base "impossible_row" ["telling"] 6 (ztj (K:=K)):=by
 refine T.zfr.has bT (fun vs H Q E h=>?_) (fun f bY A outer s H vs Q E hr h=>?_)
 ·obtain⟨p,pm,pu,pt,pf,lo,hi,us,aA,ts,af,fs,rfl,_⟩:=h;rfl
 ·obtain⟨p,pm,pu,pt,pf,lo,hi,us,aA,ts,af,fs,rfl,hF,nr,kN,kR⟩:=h;have hu:=kC hr;refine⟨_,(zc (sset (i:=1) bT.nd (b7 (yH T) (za (pv 0) zd)))
   (zc (sset (i:=2) bT.nd (b7 (RE T) (za (pv 0) zd)))
   (zc (sset (i:=3) bT.nd (b7 (Mi T) (za (b7 (RD T) (za (pv 0) zd)) zd)))
   (zc (Gg bV (fh (YL (iM hr)) (pv 3) ql (fV _)) (zc (j3 bV rfl (w6 (pv 3)) (gE (i:=4) bT.nd) (zh (gR (fh BU (bP (zr K rfl) (g7 hu (pv 3) (pv 4) (fun _ _=>rfl)) zi) (bP (zr K rfl) (g7 hu (pv 2) (pv 4) (fun _ _=>rfl)) zi) (fV _)) (zh (fW (ko (za (bP (zr K rfl) (g7 hu (pv 3) (pv 4) (fun _ _=>rfl)) zi) (za (bP (zr K rfl) (g7 hu (pv 3) (pv 4) (fun _ _=>rfl)) zi) (za (bP (zr K rfl) (g7 hu (pv 2) (pv 4) (fun _ _=>rfl)) zi) zd)))))) jc)))
    (zh (sset (i:=3) bT.nd (b7 (zfl T) (za (pv 1) (za (pv 3) zd)))))))
   (zh (fW C0)))))),?_⟩
  have knd:=vJ (ts:=ts) hF.iN.nd;have lk:=hF.iN.mq;have lf:=hF.fZ;have cl:=Cu (aA:=aA) hF.iN.ends;have lR:∀k,(cj ts (ts.zip aA) k).length<=900:=fun k=>by
   have h1:=ZC (ts:=ts) (z:=ts.zip aA) (k:=k);have h2:=hF.iN.tl;rw[fO] at h1;lia
  have hR:∀k l b,(l,b)∈cj ts (ts.zip aA) k->H b.2=some (.tup (aW b.1))/\mH us b.1:=fun k l b h=>Lf hF.iN h
  have uF:∀k m m',mw ts lo (fs.zip af) k m->mw ts lo (fs.zip af) k m'->m.1=m'.1:=fun k m m' h h'=>by rw[h.low lf,h'.low lf]
  have uG:∀k m m',mz ts hi (fs.zip af) k m->mz ts hi (fs.zip af) k m'->m.1=m'.1:=fun k m m' h h'=>by rw[h.high lf,h'.high lf]
  rw[yu] at nr;refine⟨_,rfl,p,pu,pt,_,_,us,aA,ts,rfl,hF.iN,fun pb ob xA bs H1 s1 Ml hB=>?_⟩;rw[yu] at hB
  try dsimp only[zy]
  refine⟨_,rfl,p,pm,pu,pt,pf,lo,hi,us,aA,ts,af,fs,rfl,hF.same s1,fun pe oe ve ae H2 s2 fpe hE Ii=>?_⟩
  try dsimp only[zy]
  refine⟨_,rfl,p,pm,pu,pt,pf,lo,hi,us,aA,ts,af,fs,rfl,hF.same (s1.trans s2),fun pl ol vl al H3 s3 RJ hL uI=>?_⟩;refine⟨pl,ol,_,vl,al,true,rfl,hL,knd,lk,fun pc oc adc H4 s4 Ij hC BD=>?_⟩;have hC:H4 pc=some (.dw oc (.dK (dV (zn ts (aM us)) fun k=>.ref (adc k)))):=hC;have FP:=s3.trans s4;have zX:=s2.trans FP;have BE:=s1.trans zX;have Ii:∀k∈zn ts (aM us),mz ts hi (fs.zip af) k (ve k):=Ii;have uI:∀k∈zn ts (aM us),mw ts lo (fs.zip af) k (vl k):=uI;unfold yx at kN;unfold yy at kR;generalize zn ts (aM us)=keys at *;generalize cj ts (ts.zip aA)=R at *;generalize mw ts lo (fs.zip af)=F at *;generalize mz ts hi (fs.zip af)=G at *;have R0:oE R F keys 0 keys (fun k=>((vl k).1,(vl k).2,[])):=oE.zero knd (fun k hk=>⟨rfl,uI k hk⟩) uF
  try dsimp only[zy]
  refine⟨fun m σ H'=>∃(n:Nat)(pc:ah)(oc:Obj)(M:List Str)(v:Str->eZ)(adc:Str->ah)(v4:Option V),σ = [some (.ref p),some (.ref pb),some (.ref pe),some (.ref pc),v4]/\ak H4 H'/\H' pc=some (.dw oc (.dK (dV M fun k=>.ref (adc k))))/\(∀k∈M,cN (fun _=>none) H' (adc k) (v k))/\oE R F keys n M v/\
    (∀k∈keys,∀c m,Up R F k c->G k m->c.2.2.length<n->c.1<=m.1)/\m=keys.length-n,
   ⟨_,0,pc,oc,keys,_,adc,none,rfl,ak.refl _,hC,fun k hk=>(BD k hk).any,R0,fun k hk c m _ _ z=>absurd z (Nat.not_lt_zero _),rfl⟩,?_⟩
  rintro m σ H5 ⟨n,pc,oc,M,v,adc,v4,rfl,q5,RK,RL,Rn,sm,rfl⟩;refine⟨_,rfl,fun e he=>?_⟩;have t6:=ak.new (o:=.dK []) he;have q6:=q5.trans t6;have CP:=t6 _ _ RK;refine⟨pc,e,_,rfl,rfl,.inr ⟨oc,CP⟩,zb,_,rfl,?_⟩;have CK:∀k∈M,cN (fun _=>none) (upd H5 e (.dK [])) (adc k) (v k):=fun k hk=>(RL k hk).same t6
  clear RK RL;generalize upd H5 e (.dK [])=H6 at q6 CP CK t6;refine cM (fun c=>?_) (fun c=>?_)
  ·have ne:M≠[]:=fun z=>by rw[z] at c;simp[dV] at c
   obtain⟨k0,Mp⟩:=List.exists_mem_of_ne_nil _ ne;have hn:n<keys.length:=by
    have:=(Rn.is k0 Mp).1.short cl nr (Rn.sub k0 Mp);rw[(Rn.is k0 Mp).2] at this;exact this
   refine⟨fun aI H'=>∃m',m'<keys.length-n/\_,fun aI H' h=>h,?_⟩;refine⟨_,rfl,pc,oc,_,rfl,CP,AV (fun i σ H'=>∃(v4:Option V),σ = [some (.ref p),some (.ref pb),some (.ref pe),some (.ref pc),v4]/\ak H6 H'/\∀k∈M.take i,(v k).1<=(ve k).1)
    ⟨_,rfl,ak.refl _,fun k hk=>by simp at hk⟩ (fun i σ H' _ h=>by obtain⟨_,_,q,_⟩:=h;exact q _ _ CP) ?_ ?_⟩
   ·rintro i kk vv σ H7 hx ⟨v4,rfl,q7,Ik⟩;obtain⟨u,c7,rfl,_⟩:=AU hx;have BF:u∈M:=bC c7;have dD:u∈keys:=Rn.sub u BF;have E7:=hE.same (s3.trans (s4.trans (q6.trans q7)));obtain⟨l,h1,h2,_⟩:=(CK u BF).same q7;have FQ:=q7 _ _ CP
    try dsimp only[zy]
    refine⟨_,rfl,_,rfl,pc,_,rfl,sN FQ BF,adc u,_,_,_,rfl,rfl,bx.of h1,rfl,_,rfl,_,rfl,pe,_,rfl,sN E7.d dD,ae u,_,_,_,rfl,rfl,bx.of (E7.e u dD),rfl,_,_,rfl,rfl,_,rfl,?_⟩;refine cM (fun c2=>?_) (fun c2=>?_)
    ·have c2:(ve u).1<(v u).1:=bG c2;refine⟨_,rfl,_,rfl,pc,_,rfl,sN FQ BF,adc u,_,_,_,rfl,rfl,bx.of h1,rfl,_,rfl,_,rfl,pc,_,rfl,sN FQ BF,adc u,_,_,_,rfl,rfl,bx.of h1,rfl,_,rfl,_,rfl,pe,_,rfl,sN E7.d dD,ae u,_,_,_,rfl,rfl,bx.of (E7.e u dD),rfl,by show 3<=sizeLine;decide,fun q hq=>?_⟩;have t8:=ak.new (o:=.tup [.str (v u).2.1,.ref l,.str (ve u).2]) hq;refine kR q (v u) (ve u).2 _ (BE.trans (q6.trans (q7.trans t8))) ⟨l,zb,t8 _ _ h2⟩ ⟨u,ve u,dD,(Rn.is u BF).1,Ii u dD,rfl,c2,fun k' gT c' m' u' g' lt=>sm k' gT c' m' u' g' ?_⟩;rw[(Rn.is u BF).2] at lt;exact lt
    ·have c2:¬((v u).1 > (ve u).1):=fun z=>c2 (aP z)
     refine⟨_,rfl,q7,fun k hk=>?_⟩;rw[aS,c7] at hk;rcases rQ hk with z | z
     ·exact Ik k z
     ·rw[z];lia
   ·rintro σ H7 ⟨v4,rfl,q7,Ik⟩;rw[jV,bh] at Ik;have Mq:=q6.trans q7;have B7:=hB.same (zX.trans Mq);have FQ:=q7 _ _ CP;refine⟨_,rfl,_,rfl,pb,pc,ob,oc,keys,R,xA,bs,M,v,adc,rfl,B7,FQ,fun k hk=>(CK k hk).same q7,fun k l b h=>⟨Mq _ _ (BE _ _ (hR k l b h).1),us,(hR k l b h).2⟩,knd,lk,lR,fun k hk=>by
     have:=(Rn.is k hk).1.short cl nr (Rn.sub k hk);lia,fun pd o M' v' ad H8 s8 sS CL Fv nd8 sb8 gr8=>?_⟩
    refine⟨keys.length-(n+1),by lia,n+1,pd,o,M',v',ad,_,rfl,Mq.trans s8,CL,fun k hk=>(Fv k hk).any,Rn.next cl nd8 sb8 gr8,fun k hk c m u g lt=>?_,rfl⟩
    by_cases e:c.2.2.length=n
    ·obtain⟨h1,h2⟩:=Rn.all k hk c u e;have h3:=Ik k h1;rw[uG k m (ve k) g (Ii k hk)];lia
    ·exact sm k hk c m u g (by lia)
  ·have e:M = []:=by
    cases M with
    | nil=>rfl
    | cons a b=>simp[dV] at c
   subst e;have st:=Rn.stop cl;exact kN _ (BE.trans q6) fun k hk c m u g=>sm k hk c m u g (st k hk c u)
inductive yM(vs:List V)(H:Hp)(Q:VK):Prop
 | mk (p pm pu pt pf:ah) (lo hi:Int) (us:List Str) (aA:List ah) (ts:List aT) (af:List ah) (fs:List bN) (_:vs = [.ref p]) (_:je K H p pm pu pt pf lo hi us aA ts af fs) (_:ju (dj ts (ts.zip aA)) (zn ts (aM us))) (_:∀(pd:ah)(o:Obj)(v:Str->eZ)(ad:Str->ah)(H':Hp),ak H H'->H pd=none->H' pd=some (.dw o (.dK (dV (zn ts (aM us)) fun k=>.ref (ad k))))->(∀k∈zn ts (aM us),cN H H' (ad k) (v k))->(∀k∈zn ts (aM us),Up (cj ts (ts.zip aA)) (mw ts lo (fs.zip af)) k (v k)/\jY (cj ts (ts.zip aA)) (mw ts lo (fs.zip af)) k (v k).1)->Q (.ref pd) H')
def z1i:Sp:=fun vs H Q _=>yM (K:=K) vs H Q
theorem zmp(T:Tx K mg w C_Dig zk zq zg zv zo zw zp zx):gk P w K mg base "chains_up" ["telling"] 8 (z1i (K:=K)):=by
 refine T.zmv.has cO (fun vs H Q E h=>?_) (fun f bY A outer s H vs Q E hr h=>?_)
 ·obtain⟨p,pm,pu,pt,pf,lo,hi,us,aA,ts,af,fs,rfl,_⟩:=h;rfl
 ·obtain⟨p,pm,pu,pt,pf,lo,hi,us,aA,ts,af,fs,rfl,hF,xy,k⟩:=h;have hu:=kC hr;refine⟨_,(zc (sset (i:=1) cO.nd (b7 (yH T) (za (pv 0) zd)))
   (zc (sset (i:=2) cO.nd (b7 (Mi T) (za (b7 (RD T) (za (pv 0) zd)) zd)))
   (zc (j3 bV rfl (jG K rfl (b7 (Fo T) (za (pv 0) zd))) (gE (i:=3) cO.nd) (zh (j3 bV rfl (jG K rfl (g7 hu (pv 1) (pv 3) (fun _ _=>rfl))) (vE K rfl rfl (mD (gE (i:=4) cO.nd) (mD (gE (i:=5) cO.nd) u9))) (zc (sset (i:=6) cO.nd (b7 (RH T) (za (g7 hu (pv 2) (pv 4) (fun _ _=>rfl)) (za (pv 5) zd))))
     (zh (gR (fh BU (bP (zr K rfl) (pv 6) zi) (bP (zr K rfl) (g7 hu (pv 2) (pv 3) (fun _ _=>rfl)) zi) (fV _)) (zh (oq hu (pv 2) (pv 3) (pv 6) rfl)) jc))))))
   (zh (zG (fW (pv 2))))))),?_⟩
  have knd:=vJ (ts:=ts) hF.iN.nd;have lk:=hF.iN.mq;have lf:=hF.fZ;have cl:=Cu (aA:=aA) hF.iN.ends;have hR:∀k l b,(l,b)∈cj ts (ts.zip aA) k->H b.2=some (.tup (aW b.1))/\mH us b.1:=fun k l b h=>Lf hF.iN h
  have uF:∀k m m',mw ts lo (fs.zip af) k m->mw ts lo (fs.zip af) k m'->m.1=m'.1:=fun k m m' h h'=>by rw[h.low lf,h'.low lf]
  have nr:=xy;rw[yu] at nr;refine⟨_,rfl,p,pu,pt,_,_,us,aA,ts,rfl,hF.iN,fun pb ob xA bs H1 s1 Ml hB=>?_⟩;rw[yu] at hB
  try dsimp only[zy]
  refine⟨_,rfl,p,pm,pu,pt,pf,lo,hi,us,aA,ts,af,fs,rfl,hF.same s1,fun pl ol vl al H2 s2 RJ hL uI=>?_⟩;refine⟨pl,ol,_,vl,al,false,rfl,hL,knd,lk,fun pc oc adc H3 s3 Ij hC BD=>?_⟩;have hC:H3 pc=some (.dK (dV (zn ts (aM us)) fun k=>.ref (adc k))):=hC;have FT:=s2.trans s3;have FU:=s1.trans FT
  try dsimp only[zy]
  refine⟨_,rfl,p,pu,pt,_,_,us,aA,ts,rfl,(hF.same FU).iN,xy,fun po os H4 s4 Bs uu O Mr=>?_⟩;have yN:=hB.same (FT.trans s4);have uE:=s4 _ _ hC;have BE:=FU.trans s4;have sd:H pc=none:=(s1.trans s2).free Ij;have Ff:po≠pc:=fun z=>by rw[z,hC] at Bs;cases Bs
  have BG:∀k∈zn ts (aM us),cN H H4 (adc k) ((vl k).1,(vl k).2,[]):=fun k hk=>((BD k hk).same s4).old (s1.trans s2)
  have uI:∀k∈zn ts (aM us),mw ts lo (fs.zip af) k (vl k):=uI;rw[yu] at O;clear xy hB hC BD;generalize zn ts (aM us)=keys at *;generalize cj ts (ts.zip aA)=R at *;generalize mw ts lo (fs.zip af)=F at *;have U0:nS R F keys [] (fun k=>((vl k).1,(vl k).2,[])):=⟨fun k hk=>Up.bare (uI k hk),fun k hk m hm=>Int.le_of_eq (uF k m (vl k) hm (uI k hk)),fun k hk=>by simp at hk⟩;have hh:∀{H':Hp},(∀b o,b≠pc->H4 b=some o->H' b=some o)->ak H H':=fun kp b o e=>kp b o (zj e sd) (BE _ _ e)
  refine⟨po,rfl,⟨_,aH.of uu⟩,pP (xs:=os.map V.str) (fun i σ H'=>∃(v3 v4 v5 v6:Option V)(v:Str->eZ)(ad:Str->ah),σ = [some (.ref p),some (.ref pb),some (.ref pc),v3,v4,v5,v6]/\(∀b o,b≠pc->H4 b=some o->H' b=some o)/\H' pc=some (.dK (dV keys fun k=>.ref (ad k)))/\(∀k∈keys,cN H H' (ad k) (v k))/\nS R F keys (os.take i) v)
   ⟨none,none,none,none,_,adc,rfl,fun b o _ e=>e,uE,BG,by simpa using U0⟩ (fun i σ H' _ h=>by obtain⟨_,_,_,_,_,_,_,q,_⟩:=h;exact aH.of (q _ _ Ff uu)) ?_ ?_⟩
  ·rintro i x σ H5 hx ⟨v3,v4,v5,v6,v,ad,rfl,mC,gI,uH,U5⟩;rw[aN] at hx;cases eu:os[i]? with
   | none=>rw[eu] at hx;cases hx
   | some u=>
    rw[eu] at hx;cases hx;have dD:u∈keys:=O.sub u (bC eu);obtain⟨fr,RM,low⟩:=P9 O eu;have B5:=yN.keep uE mC;have FN:(bs u).length=(R u).length:=(Paired.length (yN.e u dD)).trans Lh;have tk:os.take (i+1)=os.take i++[u]:=by rw[aS,eu];rfl
    try dsimp only[zy]
    refine⟨_,rfl,_,rfl,pb,_,rfl,B5.get dD,xA u,rfl,⟨_,aH.of (B5.l u dD)⟩,pP (xs:=(bs u).map V.ref) (fun j σ H'=>∃(v4 v5 v6:Option V)(v:Str->eZ)(ad:Str->ah),σ = [some (.ref p),some (.ref pb),some (.ref pc),some (.str u),v4,v5,v6]/\(∀b o,b≠pc->H4 b=some o->H' b=some o)/\H' pc=some (.dK (dV keys fun k=>.ref (ad k)))/\(∀k∈keys,cN H H' (ad k) (v k))/\nS R F keys (os.take i) v/\∀l b,(l,b)∈(R u).take j->(v l).1+fE b.1<=(v u).1)
     ⟨v4,v5,v6,v,ad,rfl,mC,gI,uH,U5,fun l b h=>by simp at h⟩ (fun j σ H' _ h=>by obtain⟨_,_,_,_,_,_,q,_⟩:=h;exact aH.of ((yN.keep uE q).l u dD)) ?_ ?_⟩
    ·clear uH gI U5 B5 mC;rintro j x σ H6 hx ⟨v4,v5,v6,v,ad,rfl,wJ,jv,rY,U6,wK⟩;have B6:=yN.keep uE wJ;have q6:ak H H6:=hh wJ;obtain⟨b,⟨l,r⟩,rfl,oZ,_,hb⟩:=tP (B6.e u dD) hx;obtain⟨t,ht⟩:=Lg oZ;have wI:(l,(t,r))∈R u:=bC ht;obtain⟨FO,tok⟩:=hR u l (t,r) wI;have uv:l∈keys:=(cl _ _ _ wI).2;have nl:l≠u:=RM l r (Ct wI);have rt:(R u).take (j+1)=(R u).take j++[(l,(t,r))]:=by rw[aS,ht];rfl
     refine⟨b,_,rfl,bx.of hb,rfl,_,_,rfl,_,_,rfl,rfl,?_⟩
     try dsimp only[zy]
     have gl:=ck.k (k:=Sum.inr l) jv;rw[pR uv] at gl;have lv:(v l).2.2.length<=900:=by
      have:=(U6.is l uv).short cl nr uv;lia
     refine⟨_,rfl,_,rfl,pc,_,rfl,gl,_,rfl,ad l,r,v l,t,us,rfl,(rY l uv).any,q6 _ _ FO,tok,lv,fun q H7 s7 fq hq=>?_⟩;have n8:=s7 _ _ jv;have FW:∀b o,b≠pc->H4 b=some o->H7 b=some o:=fun b o n e=>s7 _ _ (wJ b o n e)
     have wF:∀k∈keys,cN H H7 (ad k) (v k):=fun k hk=>(rY k hk).same s7
     have qA:=hq.old q6;have gu:=ck.k (k:=Sum.inr u) n8;rw[pR dD] at gu;obtain⟨lq,h1,_⟩:=id qA;obtain⟨lu,h2,_⟩:=wF u dD
     try dsimp only[zy]
     refine⟨_,rfl,q,_,_,_,rfl,rfl,bx.of h1,rfl,_,rfl,_,rfl,pc,_,rfl,gu,ad u,_,_,_,rfl,rfl,bx.of h2,rfl,_,_,rfl,rfl,_,rfl,?_⟩;refine cM (fun c=>?_) (fun c=>?_)
     ·have c:(v u).1<(v l).1+fE t:=bG c;refine⟨_,rfl,_,rfl,_,rfl,pc,_,rfl,eO.k (k:=Sum.inr u) n8 (by rw[jV];exact jr (by lia)),?_⟩;rw[GY dD,show(dV keys fun z=>if z=u then V.ref q else V.ref (ad z))=dV keys fun k=>V.ref (if k=u then q else ad k) from tO fun z _=>by split<;>rfl];refine⟨_,_,_,fun k=>if k=u then((v l).1+fE t,(v l).2.1,(v l).2.2++[(t,r)]) else v k,fun k=>if k=u then q else ad k,rfl,fun b o n e=>by rw[ze n];exact FW b o n e,zb,fun k hk=>?_,U6.set fr (fun k hk l b hb=>low k hk l b.2 (Ct hb)) ((U6.is l uv).up wI) (Int.le_of_lt c),fun l' b' h'=>?_⟩
      ·dsimp only
       by_cases e:k=u
       ·rw[av e,av e];exact qA.put n8
       ·rw[ao e,ao e];exact(wF k hk).put n8
      ·dsimp only;rw[av rfl];show _<=(v l).1+fE t;rw[rt] at h';rcases rQ h' with z | z
       ·rw[ao (RM l' b'.2 (Ct (nh z)))];have:=wK l' b' z;lia
       ·cases z;rw[ao nl];exact ic _
     ·have c:¬((v l).1+fE t > (v u).1):=fun z=>c (aP z)
      refine⟨_,_,_,v,ad,rfl,FW,n8,wF,U6,fun l' b' h'=>?_⟩;rw[rt] at h';rcases rQ h' with z | z
      ·exact wK l' b' z
      ·cases z;show(v l).1+fE t<=_;lia
    ·rintro σ H6 ⟨v4,v5,v6,v,ad,rfl,wJ,jv,rY,U6,wK⟩;rw[aq,FN,bh] at wK;exact⟨_,_,_,_,v,ad,rfl,wJ,jv,rY,by rw[tk];exact U6.snoc wK⟩
  ·rintro σ H5 ⟨v3,v4,v5,v6,v,ad,rfl,mC,gI,uH,U5⟩;rw[aq,bh] at U5;have all:∀k∈keys,k∈os:=fun k hk=>Mr.mem_iff.mpr hk
   exact .inr ⟨pc,_,gI,fun rT=>⟨_,rfl,k pc rT v ad _ ((hh mC).upd sd) sd zb (fun k hk=>(uH k hk).put gI) fun k hk=>⟨U5.is k hk,U5.lo cl all hk⟩⟩⟩
inductive yO(vs:List V)(H:Hp)(Q:VK):Prop
 | mk (p pm pu pt pf:ah) (lo hi:Int) (us:List Str) (aA:List ah) (ts:List aT) (af:List ah) (fs:List bN) (_:vs = [.ref p]) (_:je K H p pm pu pt pf lo hi us aA ts af fs) (_:ju (dj ts (ts.zip aA)) (zn ts (aM us))) (_:∀(pd:ah)(o:Obj)(v:Str->eZ)(ad:Str->ah)(H':Hp),ak H H'->H pd=none->H' pd=some (.dw o (.dK (dV (zn ts (aM us)) fun k=>.ref (ad k))))->(∀k∈zn ts (aM us),cN H H' (ad k) (v k))->(∀k∈zn ts (aM us),Dn (cj ts (ts.zip aA)) (mz ts hi (fs.zip af)) k (v k)/\jZ (cj ts (ts.zip aA)) (mz ts hi (fs.zip af)) k (v k).1)->Q (.ref pd) H')
def z1j:Sp:=fun vs H Q _=>yO (K:=K) vs H Q
theorem zjk(T:Tx K mg w C_Dig zk zq zg zv zo zw zp zx):gk P w K mg base "chains_down" ["telling"] 8 (z1j (K:=K)):=by
 refine T.zjs.has b8 (fun vs H Q E h=>?_) (fun f bY A outer s H vs Q E hr h=>?_)
 ·obtain⟨p,pm,pu,pt,pf,lo,hi,us,aA,ts,af,fs,rfl,_⟩:=h;rfl
 ·obtain⟨p,pm,pu,pt,pf,lo,hi,us,aA,ts,af,fs,rfl,hF,xy,k⟩:=h;have hu:=kC hr;refine⟨_,(zc (sset (i:=1) b8.nd (b7 (yH T) (za (pv 0) zd)))
   (zc (sset (i:=2) b8.nd (b7 (Mi T) (za (b7 (RE T) (za (pv 0) zd)) zd)))
   (zc (j3 bV rfl (YI K rfl (by rfl) T.reversed (b7 (Fo T) (za (pv 0) zd))) (gE (i:=3) b8.nd) (zh (j3 bV rfl (jG K rfl (g7 hu (pv 1) (pv 3) (fun _ _=>rfl))) (vE K rfl rfl (mD (gE (i:=4) b8.nd) (mD (gE (i:=5) b8.nd) u9))) (zc (sset (i:=6) b8.nd (b7 (zpr T) (za (g7 hu (pv 2) (pv 3) (fun _ _=>rfl)) (za (pv 5) zd))))
     (zh (gR (fh BS (bP (zr K rfl) (pv 6) zi) (bP (zr K rfl) (g7 hu (pv 2) (pv 4) (fun _ _=>rfl)) zi) (fV _)) (zh (oq hu (pv 2) (pv 4) (pv 6) rfl)) jc))))))
   (zh (zG (fW (pv 2))))))),?_⟩
  have knd:=vJ (ts:=ts) hF.iN.nd;have lk:=hF.iN.mq;have lf:=hF.fZ;have cl:=Cu (aA:=aA) hF.iN.ends;have hR:∀k l b,(l,b)∈cj ts (ts.zip aA) k->H b.2=some (.tup (aW b.1))/\mH us b.1:=fun k l b h=>Lf hF.iN h
  have uF:∀k m m',mz ts hi (fs.zip af) k m->mz ts hi (fs.zip af) k m'->m.1=m'.1:=fun k m m' h h'=>by rw[h.high lf,h'.high lf]
  have nr:=xy;rw[yu] at nr;refine⟨_,rfl,p,pu,pt,_,_,us,aA,ts,rfl,hF.iN,fun pb ob xA bs H1 s1 Ml hB=>?_⟩;rw[yu] at hB
  try dsimp only[zy]
  refine⟨_,rfl,p,pm,pu,pt,pf,lo,hi,us,aA,ts,af,fs,rfl,hF.same s1,fun pl ol vl al H2 s2 RJ hL uI=>?_⟩;refine⟨pl,ol,_,vl,al,false,rfl,hL,knd,lk,fun pc oc adc H3 s3 Ij hC BD=>?_⟩;have hC:H3 pc=some (.dK (dV (zn ts (aM us)) fun k=>.ref (adc k))):=hC;have FT:=s2.trans s3;have FU:=s1.trans FT
  try dsimp only[zy]
  refine⟨_,rfl,p,pu,pt,_,_,us,aA,ts,rfl,(hF.same FU).iN,xy,fun po os H4 s4 Bs uu O Mr=>?_⟩;have yN:=hB.same (FT.trans s4);have uE:=s4 _ _ hC;have BE:=FU.trans s4;have sd:H pc=none:=(s1.trans s2).free Ij;have Ff:po≠pc:=fun z=>by rw[z,hC] at Bs;cases Bs
  have BG:∀k∈zn ts (aM us),cN H H4 (adc k) ((vl k).1,(vl k).2,[]):=fun k hk=>((BD k hk).same s4).old (s1.trans s2)
  have uI:∀k∈zn ts (aM us),mz ts hi (fs.zip af) k (vl k):=uI;rw[yu] at O;clear xy hB hC BD;generalize zn ts (aM us)=keys at *;generalize cj ts (ts.zip aA)=R at *;generalize mz ts hi (fs.zip af)=F at *;have U0:nU R F keys [] (fun k=>((vl k).1,(vl k).2,[])):=⟨fun k hk=>Dn.bare (uI k hk),fun k hk m hm=>Int.le_of_eq (uF k m (vl k) hm (uI k hk)).symm,fun k hk=>by simp at hk⟩;have hh:∀{H':Hp},(∀b o,b≠pc->H4 b=some o->H' b=some o)->ak H H':=fun kp b o e=>kp b o (zj e sd) (BE _ _ e)
  refine⟨po,os.map V.str,rfl,aH.of uu,YJ (xs:=os.map V.str) (fun i σ H'=>∃(v3 v4 v5 v6:Option V)(v:Str->eZ)(ad:Str->ah),σ = [some (.ref p),some (.ref pb),some (.ref pc),v3,v4,v5,v6]/\(∀b o,b≠pc->H4 b=some o->H' b=some o)/\H' pc=some (.dK (dV keys fun k=>.ref (ad k)))/\(∀k∈keys,cN H H' (ad k) (v k))/\nU R F keys (os.reverse.take i) v)
   ⟨none,none,none,none,_,adc,rfl,fun b o _ e=>e,uE,BG,by simpa using U0⟩ (fun i σ H' _ h=>by obtain⟨_,_,_,_,_,_,_,q,_⟩:=h;exact aH.of (q _ _ Ff uu)) ?_ ?_⟩
  ·rintro i x σ H5 hx ⟨v3,v4,v5,v6,v,ad,rfl,mC,gI,uH,U5⟩;rw[←List.map_reverse,aN] at hx;cases eu:os.reverse[i]? with
   | none=>rw[eu] at hx;cases hx
   | some u=>
    rw[eu] at hx;cases hx;have dD:u∈keys:=O.sub u (List.mem_reverse.mp (bC eu));obtain⟨fr,low⟩:=ZD O eu;have B5:=yN.keep uE mC;have FN:(bs u).length=(R u).length:=(Paired.length (yN.e u dD)).trans Lh;have tk:os.reverse.take (i+1)=os.reverse.take i++[u]:=by rw[aS,eu];rfl
    try dsimp only[zy]
    refine⟨_,rfl,_,rfl,pb,_,rfl,B5.get dD,xA u,rfl,⟨_,aH.of (B5.l u dD)⟩,pP (xs:=(bs u).map V.ref) (fun j σ H'=>∃(v4 v5 v6:Option V)(v:Str->eZ)(ad:Str->ah),σ = [some (.ref p),some (.ref pb),some (.ref pc),some (.str u),v4,v5,v6]/\(∀b o,b≠pc->H4 b=some o->H' b=some o)/\H' pc=some (.dK (dV keys fun k=>.ref (ad k)))/\(∀k∈keys,cN H H' (ad k) (v k))/\nU R F keys (os.reverse.take i) v/\∀l b,(l,b)∈(R u).take j->(v l).1<=(v u).1-fE b.1)
     ⟨v4,v5,v6,v,ad,rfl,mC,gI,uH,U5,fun l b h=>by simp at h⟩ (fun j σ H' _ h=>by obtain⟨_,_,_,_,_,_,q,_⟩:=h;exact aH.of ((yN.keep uE q).l u dD)) ?_ ?_⟩
    ·clear uH gI U5 B5 mC;rintro j x σ H6 hx ⟨v4,v5,v6,v,ad,rfl,wJ,jv,rY,U6,wK⟩;have B6:=yN.keep uE wJ;have q6:ak H H6:=hh wJ;obtain⟨b,⟨l,r⟩,rfl,oZ,_,hb⟩:=tP (B6.e u dD) hx;obtain⟨t,ht⟩:=Lg oZ;have wI:(l,(t,r))∈R u:=bC ht;obtain⟨FO,tok⟩:=hR u l (t,r) wI;have uv:l∈keys:=(cl _ _ _ wI).2;obtain⟨frl,nl⟩:=low l r (Ct wI);have rt:(R u).take (j+1)=(R u).take j++[(l,(t,r))]:=by rw[aS,ht];rfl
     refine⟨b,_,rfl,bx.of hb,rfl,_,_,rfl,_,_,rfl,rfl,?_⟩
     try dsimp only[zy]
     have gu:=ck.k (k:=Sum.inr u) jv;rw[pR dD] at gu;have lv:(v u).2.2.length<=900:=by
      have:=(U6.is u dD).short cl nr dD;lia
     refine⟨_,rfl,_,rfl,pc,_,rfl,gu,_,rfl,ad u,r,v u,t,us,rfl,(rY u dD).any,q6 _ _ FO,tok,lv,fun q H7 s7 fq hq=>?_⟩;have n8:=s7 _ _ jv;have FW:∀b o,b≠pc->H4 b=some o->H7 b=some o:=fun b o n e=>s7 _ _ (wJ b o n e)
     have wF:∀k∈keys,cN H H7 (ad k) (v k):=fun k hk=>(rY k hk).same s7
     have qA:=hq.old q6;have gl:=ck.k (k:=Sum.inr l) n8;rw[pR uv] at gl;obtain⟨lq,h1,_⟩:=id qA;obtain⟨lu,h2,_⟩:=wF l uv
     try dsimp only[zy]
     refine⟨_,rfl,q,_,_,_,rfl,rfl,bx.of h1,rfl,_,rfl,_,rfl,pc,_,rfl,gl,ad l,_,_,_,rfl,rfl,bx.of h2,rfl,_,_,rfl,rfl,_,rfl,?_⟩;refine cM (fun c=>?_) (fun c=>?_)
     ·have c:(v u).1-fE t<(v l).1:=bG c;refine⟨_,rfl,_,rfl,_,rfl,pc,_,rfl,eO.k (k:=Sum.inr l) n8 (by rw[jV];exact jr (by lia)),?_⟩;rw[GY uv,show(dV keys fun z=>if z=l then V.ref q else V.ref (ad z))=dV keys fun k=>V.ref (if k=l then q else ad k) from tO fun z _=>by split<;>rfl];refine⟨_,_,_,fun k=>if k=l then((v u).1-fE t,(v u).2.1,(t,r)::(v u).2.2) else v k,fun k=>if k=l then q else ad k,rfl,fun b o n e=>by rw[ze n];exact FW b o n e,zb,fun k hk=>?_,U6.set frl ((U6.is u dD).dn wI) (Int.le_of_lt c),fun l' b' h'=>?_⟩
      ·dsimp only
       by_cases e:k=l
       ·rw[av e,av e];exact qA.put n8
       ·rw[ao e,ao e];exact(wF k hk).put n8
      ·dsimp only;rw[ao (aE nl)];rw[rt] at h';rcases rQ h' with z | z
       ·have h8:=wK l' b' z
        by_cases e:l'=l
        ·rw[av e];rw[e] at h8;show(v u).1-fE t<=_;lia
        ·rw[ao e];exact h8
       ·cases z;rw[av rfl];exact ic _
     ·have c:¬((v u).1-fE t<(v l).1):=fun z=>c (aP z)
      refine⟨_,_,_,v,ad,rfl,FW,n8,wF,U6,fun l' b' h'=>?_⟩;rw[rt] at h';rcases rQ h' with z | z
      ·exact wK l' b' z
      ·cases z;show(v l).1<=(v u).1-fE t;lia
    ·rintro σ H6 ⟨v4,v5,v6,v,ad,rfl,wJ,jv,rY,U6,wK⟩;rw[aq,FN,bh] at wK;exact⟨_,_,_,_,v,ad,rfl,wJ,jv,rY,by rw[tk];exact U6.snoc wK⟩
  ·rintro σ H5 ⟨v3,v4,v5,v6,v,ad,rfl,mC,gI,uH,U5⟩;rw[aq,←List.length_reverse (as:=os),bh] at U5;have all:∀k∈keys,k∈os.reverse:=fun k hk=>List.mem_reverse.mpr (Mr.mem_iff.mpr hk)
   exact .inr ⟨pc,_,gI,fun rT=>⟨_,rfl,k pc rT v ad _ ((hh mC).upd sd) sd zb (fun k hk=>(uH k hk).put gI) fun k hk=>⟨U5.is k hk,U5.hi cl all hk⟩⟩⟩
theorem RN{H H':Hp}{e:ah}(he:H e=none)(s:∀b o,b≠e->H b=some o->H' b=some o):ak H (del H' e):=fun b o h=>by
 have n:=zj h he;unfold del;rw[ao n];exact s b o n h
inductive wL(C:ah)(vs:List V)(H:Hp)(Q:VK)(E:XK):Prop
 | mk (p pu pt:ah) (x y:V) (us:List Str) (aA:List ah) (ts:List aT) (_:vs = [.ref p]) (_:oz K H p pu pt x y us aA ts) (_:(ju (dj ts (ts.zip aA)) (zn ts (aM us))->∀H',ak H H'->Q .cu H')) (_:∀(d q:ah)(rs:List ah)(H':Hp),ak H H'->H' d=some (.xd [("ties",.ref q)])->H' q=some (.lst (rs.map V.ref))->rs≠[]->rs.length<=64->qc (dj ts (ts.zip aA)) (zn ts (aM us)) rs->E (.ref C) (some d) H')
def zy6(C:ah):Sp:=fun vs H Q E=>wL (K:=K) C vs H Q E
theorem RO(T:Tx K mg w C_Dig zk zq zg zv zo zw zp zx):lU P w K mg base "refuse_round" ["telling"] 6 (zy6 (K:=K) zq):=by
 refine T.QE.ym dB (fun vs H Q E h=>?_) (fun f bY A outer s H vs Q E hr h=>?_)
 ·obtain⟨p,pu,pt,x,y,us,aA,ts,rfl,_⟩:=h;rfl
 ·obtain⟨p,pu,pt,x,y,us,aA,ts,rfl,hT,kQ,kE⟩:=h;refine⟨_,(zc (sset (i:=1) dB.nd (b7 (LW T) (za (pv 0) zd)))
   (zh (gR (fh (sJ K rfl (iM hr)) (pv 1) (gZ zd) (fV _)) (zh (PF (zfk T) T.QB (hr.mono (by decide)) jk (by rfl) T.QA (by decide) (za (pv 1) zd))) jc))),?_⟩
  refine⟨_,rfl,p,pu,pt,x,y,us,aA,ts,rfl,hT,fun q rs H1 s1 fq hq lr R=>?_⟩
  try dsimp only[zy]
  refine⟨_,rfl,by decide,fun e he=>?_⟩;have s2:=ak.new (o:=.lst []) he;refine⟨q,e,_,rfl,rfl,cV.kG (aH.of (s2 _ _ hq)) (aH.of zb),_,rfl,?_⟩;refine cM (fun c=>?_) (fun c=>?_)
  ·have c:rs≠[]:=fun z=>by rw[z] at c;simp at c
   have AW:=s2 _ _ hq;have q2:=s1.trans s2;generalize upd H1 e (.lst [])=H2 at AW q2;refine⟨_,rfl,fun o ho=>?_⟩;have t3:=ak.new (o:=gC o zq none) ho;refine⟨o,q,_,rfl,zb,aH.of (t3 _ _ AW),by rw[aq];lia,fun q' d n1 n2 f1 f2 n3=>?_⟩;refine⟨rfl,some d,zb,?_⟩;rw[ze n1] at f1;rw[ze n2] at f2;refine kE d q' rs _ (q2.trans (RN ho fun b o' n h=>?_)) ?_ ?_ c lr R
   ·rw[ze n,ze (zj h f2),ze (zj h f1),ze n];exact h
   ·unfold del;rw[ao n2,ze n2,zb]
   ·unfold del;rw[ao n1,ze n1,ze (aE n3),zb]
  ·have c:rs = []:=by simpa using c
   refine kQ (fun s hs j hj r=>?_) _ (s1.trans s2);exact(R.ir.mpr ⟨s,hs,j,hj,r⟩) c
inductive qE(C1 C:ah)(vs:List V)(H:Hp)(Q:VK)(E:XK):Prop
 | mk (p pm pu pt pf:ah) (lo hi:Int) (us:List Str) (aA:List ah) (ts:List aT) (af:List ah) (fs:List bN) (_:vs = [.ref p]) (_:je K H p pm pu pt pf lo hi us aA ts af fs) (_:(ju (dj ts (ts.zip aA)) (zn ts (aM us))->∀H',ak H H'->yx lo hi us aA ts af fs->Q .cu H')) (_:(∀(d q:ah)(rs:List ah)(H':Hp),ak H H'->H' d=some (.xd [("ties",.ref q)])->H' q=some (.lst (rs.map V.ref))->rs≠[]->rs.length<=64->qc (dj ts (ts.zip aA)) (zn ts (aM us)) rs->E (.ref C1) (some d) H')) (_:(ju (dj ts (ts.zip aA)) (zn ts (aM us))->∀(d r:ah)(c:eZ)(w:Str)(H':Hp),ak H H'->H' d=some (.xd [("row",.ref r)])->Lj H' r c w->yy lo hi us aA ts af fs c w->E (.ref C) (some d) H'))
def zps(C1 C:ah):Sp:=fun vs H Q E=>qE (K:=K) C1 C vs H Q E
theorem zfn(T:Tx K mg w C_Dig zk zq zg zv zo zw zp zx):lU P w K mg base "refuse_undated" ["telling"] 7 (zps (K:=K) zq zg):=by
 refine T.zfs.ym gp (fun vs H Q E h=>?_) (fun f bY A outer s H vs Q E hr h=>?_)
 ·obtain⟨p,pm,pu,pt,pf,lo,hi,us,aA,ts,af,fs,rfl,_⟩:=h;rfl
 ·obtain⟨p,pm,pu,pt,pf,lo,hi,us,aA,ts,af,fs,rfl,hF,kN,Il,kR⟩:=h;refine⟨_,(zc (ig (KW (RO T) jk (hr.mono (by decide)) (by rfl) (za (pv 0) zd)))
   (zc (sset (i:=1) gp.nd (b7 (zfm T) (za (pv 0) zd)))
   (zh (gR (uN (SA (pv 1))) (zh (PF (zdy T) T.QD (hr.mono (by decide)) jk (by rfl) T.QC (by decide) (za (pv 1) zd))) jc)))),?_⟩
  refine⟨_,rfl,p,pu,pt,_,_,us,aA,ts,rfl,hF.iN,fun nr H1 s1=>?_,Il⟩
  try dsimp only[zy]
  refine⟨_,rfl,p,pm,pu,pt,pf,lo,hi,us,aA,ts,af,fs,rfl,hF.same s1,nr,fun H2 s2 no=>?_,fun q c w H2 s2 ra ri=>?_⟩
  ·try dsimp only[zy]
   refine⟨_,rfl,_,rfl,fj ?_⟩;exact kN nr _ (s1.trans s2) no
  ·try dsimp only[zy]
   refine⟨_,rfl,_,rfl,lO ?_⟩;obtain⟨l,h1,h2⟩:=ra;refine⟨_,rfl,fun e he=>?_⟩;have t3:=ak.new (o:=gC e zg none) he;have lc:c.2.2.length<=900:=by
    obtain⟨k,m,hk,u,_⟩:=ri;have xu:=nr;rw[yu] at xu;have:=u.short (Cu (aA:=aA) hF.iN.ends) xu hk;have:=hF.iN.mq;lia
   refine⟨e,q,l,.str c.2.1,.str w,_,rfl,zb,bx.of (t3 _ _ h1),aH.of (t3 _ _ h2),by rw[aq];lia,fun q' r d n1 n2 n3 fq fr fd n4 n5 n6=>?_⟩;refine⟨rfl,some d,zb,?_⟩;rw[ze n1] at fq;rw[ze n2] at fr;rw[ze n3] at fd;refine kR nr d r c w _ (s1.trans (s2.trans (RN he fun b o n h=>?_))) ?_ ⟨q',?_,?_⟩ ri
   ·rw[ze n,ze (zj h fd),ze (zj h fr),ze (zj h fq),ze n];exact h
   ·unfold del;rw[ao n3,ze n3,zb]
   ·unfold del;rw[ao n2,ze n2,ze (aE n6),zb]
   ·unfold del;rw[ao n1,ze n1,ze (aE n5),ze (aE n4),zb]
theorem z1k{us:List Str}{ts:List aT}{aA rs:List ah}(nr:ju (dj ts (ts.zip aA)) (zn ts (aM us)))(hn:rs≠[])(R:qc (dj ts (ts.zip aA)) (zn ts (aM us)) rs):False:=by
 obtain⟨s,hs,j,hj,r⟩:=R.ir.mp hn;exact nr s hs j hj r
def RP(H:Hp)(q:ah)(keys:List Str)(f g:Str->Int):Prop:=∃as:List ah,H q=some (.lst (as.map V.ref))/\Paired (fun a k=>H a=some (.tup [.str k,.int (f k),.int (g k)])) as keys
inductive se(C1 C:ah)(vs:List V)(H:Hp)(Q:VK)(E:XK):Prop
 | mk (p pm pu pt pf:ah) (lo hi:Int) (us:List Str) (aA:List ah) (ts:List aT) (af:List ah) (fs:List bN) (_:vs = [.ref p]) (_:je K H p pm pu pt pf lo hi us aA ts af fs) (_:(ju (dj ts (ts.zip aA)) (zn ts (aM us))->∀(q:ah)(f g:Str->Int)(H':Hp),ak H H'->H q=none->RP H' q (zn ts (aM us)) f g->(∀k∈zn ts (aM us),jY (cj ts (ts.zip aA)) (mw ts lo (fs.zip af)) k (f k))->(∀k∈zn ts (aM us),jZ (cj ts (ts.zip aA)) (mz ts hi (fs.zip af)) k (g k))->yx lo hi us aA ts af fs->Q (.ref q) H')) (_:(∀(d q:ah)(rs:List ah)(H':Hp),ak H H'->H' d=some (.xd [("ties",.ref q)])->H' q=some (.lst (rs.map V.ref))->rs≠[]->rs.length<=64->qc (dj ts (ts.zip aA)) (zn ts (aM us)) rs->E (.ref C1) (some d) H')) (_:(ju (dj ts (ts.zip aA)) (zn ts (aM us))->∀(d r:ah)(c:eZ)(w:Str)(H':Hp),ak H H'->H' d=some (.xd [("row",.ref r)])->Lj H' r c w->yy lo hi us aA ts af fs c w->E (.ref C) (some d) H'))
def ztl(C1 C:ah):Sp:=fun vs H Q E=>se (K:=K) C1 C vs H Q E
theorem zy7(T:Tx K mg w C_Dig zk zq zg zv zo zw zp zx):lU P w K mg base "spans" ["telling"] 9 (ztl (K:=K) zq zg):=by
 refine T.zzb.ym nV (fun vs H Q E h=>?_) (fun f bY A outer s H vs Q E hr h=>?_)
 ·obtain⟨p,pm,pu,pt,pf,lo,hi,us,aA,ts,af,fs,rfl,_⟩:=h;rfl
 ·obtain⟨p,pm,pu,pt,pf,lo,hi,us,aA,ts,af,fs,rfl,hF,kN,Il,kR⟩:=h;have hu:=kC hr;refine⟨_,(zc (ig (KW (zfn T) jk (hr.mono (by decide)) (by rfl) (za (pv 0) zd)))
   (zc (sset (i:=1) nV.nd (b7 (zmp T) (za (pv 0) zd)))
   (zc (sset (i:=2) nV.nd (b7 (zjk T) (za (pv 0) zd)))
   (zh (fW (sI (own:=["name"]) (cap:=["ups","downs"]) (ix:=[1,2]) (gA:=zm (top 44)) rfl ⟨rfl,by decide +kernel,by decide +kernel,by decide +kernel,by decide +kernel⟩ rfl (w6 (pv 1)) (fun _ _ _ _=>nX (i:=0) (show List.Nodup (["name","ups","downs"]:List Str) by decide +kernel) rfl (Or.inl rfl)) (fun _ _ _ _=>sH) (fun _ _ _ _=>(ko (za (pv 0) (za (bP (zr K rfl) (g7 hu (pv 1) (pv 0) (fun _ _=>rfl)) zi) (za (bP (zr K rfl) (g7 hu (pv 2) (pv 0) (fun _ _=>rfl)) zi) zd))))))))))),?_⟩
  have lk:=hF.iN.mq;refine⟨_,rfl,p,pm,pu,pt,pf,lo,hi,us,aA,ts,af,fs,rfl,hF,fun nr H1 s1 no=>?_,Il,kR⟩
  try dsimp only[zy]
  refine⟨_,rfl,p,pm,pu,pt,pf,lo,hi,us,aA,ts,af,fs,rfl,hF.same s1,nr,fun pa oa va aa H2 s2 fpa hpa Em ua=>?_⟩
  try dsimp only[zy]
  refine⟨_,rfl,p,pm,pu,pt,pf,lo,hi,us,aA,ts,af,fs,rfl,hF.same (s1.trans s2),nr,fun pb ob vb ab H3 s3 Ml hpb Eo ub=>?_⟩;have q3:=s1.trans (s2.trans s3);have BH:=s3 _ _ hpa;have Ms:∀k∈zn ts (aM us),cN H1 H3 (aa k) (va k):=fun k hk=>(Em k hk).same s3
  have kN':=fun q H' s f h=>kN nr q (fun k=>(va k).1) (fun k=>(vb k).1) H' s f h (fun k hk=>(ua k hk).2) (fun k hk=>(ub k hk).2) no
  clear ua ub kN Il kR;generalize zn ts (aM us)=keys at *
  try dsimp only[zy]
  refine⟨_,rfl,pa,oa,_,rfl,BH,fun D hD=>?_⟩;refine qa (Kw (a:=pa) (ob:=oa) (kvs:=dV keys fun k=>.ref (aa k))) (fun i aI ys H'=>∃(w0:Option V)(as:List ah),aI = [w0,some (.ref pa),some (.ref pb)]/\ys=as.map V.ref/\Paired (fun a k=>H' a=some (.tup [.str k,.int (va k).1,.int (vb k).1])) as (keys.take i)/\ak H3 H'/\H' D=some (.lst ys))
   ⟨none,[],rfl,rfl,.nil,ak.new hD,zb⟩ (fun i aI ys H' h=>?_) (by rw[aq,jV];exact lP (by lia)) ?_ ?_
  ·obtain⟨_,as,_,rfl,pb',q,hd⟩:=h;refine⟨q _ _ BH,hd,?_⟩;have:=Paired.length pb';rw[bw] at this;rw[aq];lia
  ·rintro i x aI ys H4 hx ⟨w0,as,rfl,rfl,pr,q4,j0⟩;have c6:=iy hx;rw[GZ,aN] at hx;cases eu:keys[i]? with
   | none=>rw[eu] at hx;cases hx
   | some u=>
    rw[eu] at hx;cases hx;have c7:u∈keys:=bC eu;obtain⟨la,h1,_⟩:=(Ms u c7).same q4;obtain⟨lb,h2,_⟩:=(Eo u c7).same q4
    try dsimp only[zy]
    unfold kD;dsimp only;rw[av rfl];refine⟨_,rfl,_,rfl,_,rfl,pa,_,rfl,sN (q4 _ _ BH) c7,aa u,_,_,_,rfl,rfl,bx.of h1,rfl,_,rfl,_,rfl,pb,_,rfl,sN (q4 _ _ hpb) c7,ab u,_,_,_,rfl,rfl,bx.of h2,rfl,(by show 3<=sizeLine;decide),fun b1 qy=>?_⟩;have w1:=ak.new (o:=.tup [.str u,.int (va u).1,.int (vb u).1]) qy;have mJ:=w1 _ _ j0;refine⟨mJ,mG c6 ⟨_,as++[b1],rfl,by rw[aL];rfl,?_,(q4.trans w1).upd hD,zb⟩⟩;rw[aS,eu];exact Paired.snoc (Paired.gy pr fun a z e=>lQ mJ _ _ (w1 _ _ e)) (lQ mJ _ _ zb)
  rintro aI ys H4 ⟨w0,as,rfl,rfl,pr,q4,j0⟩;rw[aq,jV,bh] at pr;exact kN' D _ (q3.trans q4) (q3.free hD) ⟨as,j0,pr⟩
def RdE(C:ah)(H:Hp)(E:XK)(us:List Str)(aA:List ah)(ts:List aT):Prop:=∀(d q:ah)(rs:List ah)(H':Hp),ak H H'->H' d=some (.xd [("ties",.ref q)])->H' q=some (.lst (rs.map V.ref))->rs≠[]->rs.length<=64->qc (dj ts (ts.zip aA)) (zn ts (aM us)) rs->E (.ref C) (some d) H'
inductive yP(C:ah)(more:List V->Prop)(vs:List V)(H:Hp)(Q:VK)(E:XK):Prop
 | mk (p pu pt:ah) (x y:V) (us:List Str) (aA:List ah) (ts:List aT) (rest:List V) (_:vs = .ref p::rest) (_:more rest) (_:oz K H p pu pt x y us aA ts) (_:¬ju (dj ts (ts.zip aA)) (zn ts (aM us))) (_:RdE C H E us aA ts)
def RQ(C:ah)(more:List V->Prop):Sp:=fun vs H Q E=>yP (K:=K) C more vs H Q E
theorem zy8(T:Tx K mg w C_Dig zk zq zg zv zo zw zp zx):lU P w K mg base "order" ["telling"] 7 (RQ (K:=K) zq fun r=>r = []):=by
 refine T.QF.ym gY (fun vs H Q E h=>?_) (fun f bY A outer s H vs Q E hr h=>?_)
 ·obtain⟨p,pu,pt,x,y,us,aA,ts,rest,rfl,rfl,_⟩:=h;rfl
 ·obtain⟨p,pu,pt,x,y,us,aA,ts,rest,rfl,rfl,hT,nn,kE⟩:=h;have hu:=kC hr;refine⟨_,(zc (ig (KW (RO T) jk (hr.mono (by decide)) (by rfl) (za (pv 0) zd)))
   (zc (sset (i:=1) gY.nd (b7 (yH T) (za (pv 0) zd)))
   (zc (sset (i:=2) gY.nd ql)
   (zc (Gg jk.own (fh BS (ji NB (by rfl) T.len cH (za (pv 2) zd)) (ji Oz (by rfl) T.len cH (za (pv 1) zd)) (fV _)) (zh (oq hu (pv 2) (b7 (Rj T) (za (pv 1) (za (pv 2) zd))) yU rfl)))
   (zh (fW (xO (GK rfl) (by rfl) T.list j7 (za (pv 2) zd)))))))),?_⟩
  exact⟨_,rfl,p,pu,pt,x,y,us,aA,ts,rfl,hT,fun nr=>absurd nr nn,kE⟩
theorem zy9(T:Tx K mg w C_Dig zk zq zg zv zo zw zp zx):lU P w K mg base "order" ["telling"] 7 (fun vs H Q E=>Rk (K:=K) vs H Q E\/RQ (K:=K) zq (fun r=>r = []) vs H Q E):=(Fo T).x.or (zy8 T)
inductive uJ(vs:List V)(H:Hp)(Q:VK):Prop
 | mk (p pu pt:ah) (x y:V) (us:List Str) (aA:List ah) (ts:List aT) (_:vs = [.ref p]) (_:oz K H p pu pt x y us aA ts) (_:(ju (dj ts (ts.zip aA)) (zn ts (aM us))->∀(q:ah)(os:List Str)(H':Hp),ak H H'->H' q=some (.lst (os.map V.str))->Ord (dj ts (ts.zip aA)) (zn ts (aM us)) os->os.Perm (zn ts (aM us))->Q (.ref q) H')) (_:(¬ju (dj ts (ts.zip aA)) (zn ts (aM us))->∀H',ak H H'->Q .cu H'))
def zvv:Sp:=fun vs H Q _=>uJ (K:=K) vs H Q
theorem zle(T:Tx K mg w C_Dig zk zq zg zv zo zw zp zx):gk P w K mg base "_law_order" ["_law_telling"] 8 (zvv (K:=K)):=by
 refine T.zll.has eF (fun vs H Q E h=>?_) (fun f bY A outer s H vs Q E hr h=>?_)
 ·obtain⟨p,pu,pt,x,y,us,aA,ts,rfl,_⟩:=h;rfl
 ·obtain⟨p,pu,pt,x,y,us,aA,ts,rfl,hT,kQ,kN⟩:=h;refine⟨_,(zc (sset (i:=1) eF.nd C0)
   (zc (Py ⟨rfl,rfl,rfl⟩ (fun pn xe Es pt=>(zh (sset (i:=1) eF.nd (Px (zy9 T) pt (hr.mono (by decide)) (by rfl) (za (pv 0) zd))))) (PB ⟨rfl,rfl,rfl⟩ (by rfl) T.QA T.Z3 (fun _ _=>(zh (sset (i:=1) eF.nd C0))) Pz))
   (zh (fW (pv 1))))),?_⟩
  try dsimp only[zy]
  by_cases nr:ju (dj ts (ts.zip aA)) (zn ts (aM us))
  ·exact⟨_,rfl,.inl ⟨p,pu,pt,x,y,us,aA,ts,rfl,hT,nr,fun q os H' s _ hq O pm=>⟨_,rfl,kQ nr q os H' s hq O pm⟩⟩⟩
  ·refine⟨_,rfl,.inr ⟨p,pu,pt,x,y,us,aA,ts,[],rfl,rfl,hT,nr,fun d q rs H' s _ _ _ _ _=>⟨zq,rfl,true,T.zhg,?_⟩⟩⟩;rw[av rfl];exact⟨_,rfl,kN nr H' s⟩
inductive uK(vs:List V)(H:Hp)(Q:VK):Prop
 | mk (p pm pu pt pf:ah) (lo hi:Int) (us:List Str) (aA:List ah) (ts:List aT) (af:List ah) (fs:List bN) (_:vs = [.ref p]) (_:je K H p pm pu pt pf lo hi us aA ts af fs) (_:ju (dj ts (ts.zip aA)) (zn ts (aM us))) (_:(∀(q:ah)(f g:Str->Int)(H':Hp),ak H H'->RP H' q (zn ts (aM us)) f g->(∀k∈zn ts (aM us),jY (cj ts (ts.zip aA)) (mw ts lo (fs.zip af)) k (f k))->(∀k∈zn ts (aM us),jZ (cj ts (ts.zip aA)) (mz ts hi (fs.zip af)) k (g k))->yx lo hi us aA ts af fs->Q (.ref q) H')) (_:∀(c:eZ)(w:Str)(H':Hp),ak H H'->yy lo hi us aA ts af fs c w->Q .cu H')
def zvw:Sp:=fun vs H Q _=>uK (K:=K) vs H Q
theorem zlf(T:Tx K mg w C_Dig zk zq zg zv zo zw zp zx):gk P w K mg base "_law_spans" ["_law_telling"] 10 (zvw (K:=K)):=by
 refine T.zlm.has eG (fun vs H Q E h=>?_) (fun f bY A outer s H vs Q E hr h=>?_)
 ·obtain⟨p,pm,pu,pt,pf,lo,hi,us,aA,ts,af,fs,rfl,_⟩:=h;rfl
 ·obtain⟨p,pm,pu,pt,pf,lo,hi,us,aA,ts,af,fs,rfl,hF,nr,kQ,kN⟩:=h;refine⟨_,(zc (sset (i:=1) eG.nd C0)
   (zc (Py ⟨rfl,rfl,rfl⟩ (fun pn xe Es pt=>(zh (sset (i:=1) eG.nd (Px (zy7 T) pt (hr.mono (by decide)) (by rfl) (za (pv 0) zd))))) (PB ⟨rfl,rfl,rfl⟩ (by rfl) T.QC T.Z7 (fun _ _=>(zh (sset (i:=1) eG.nd C0))) Pz))
   (zh (fW (pv 1))))),?_⟩
  try dsimp only[zy]
  refine⟨_,rfl,p,pm,pu,pt,pf,lo,hi,us,aA,ts,af,fs,rfl,hF,fun _ q f g H' s _ hS hf hg no=>⟨_,rfl,kQ q f g H' s hS hf hg no⟩,fun d q rs H' s hd hq mF hl R=>(z1k nr mF R).elim,fun _ d r c w H' s hd hra hri=>⟨zg,rfl,true,T.zdh,?_⟩⟩;rw[av rfl];exact⟨_,rfl,kN c w H' s hri⟩
inductive uL(vs:List V)(H:Hp)(Q:VK):Prop
 | mk (p pm pu pt pf:ah) (lo hi:Int) (us:List Str) (aA:List ah) (ts:List aT) (af:List ah) (fs:List bN) (_:vs = [.ref p]) (_:je K H p pm pu pt pf lo hi us aA ts af fs) (_:ts.length<=60) (_:∀(q:ah)(A:Cv)(H':Hp),ak H H'->oW H' q A->vW lo hi us aA ts af fs A->Q (.ref q) H')
def zvx:Sp:=fun vs H Q _=>uL (K:=K) vs H Q
theorem RS(T:Tx K mg w C_Dig zk zq zg zv zo zw zp zx):gk P w K mg base "_law_answers" ["_law_telling"] 11 (zvx (K:=K)):=by
 refine T.zh2.has iK (fun vs H Q E h=>?_) (fun f bY A outer s H vs Q E hr h=>?_)
 ·obtain⟨p,pm,pu,pt,pf,lo,hi,us,aA,ts,af,fs,rfl,_⟩:=h;rfl
 ·obtain⟨p,pm,pu,jK,pf,lo,hi,us,aA,ts,af,fs,rfl,hF,Rx,k⟩:=h;refine⟨_,(zc (sset (i:=1) iK.nd (gZ (za (b7 (LL T) (za (bP (zr K rfl) (pv 0) zi) (za (bP (zr K rfl) (pv 0) zi) zd))) (za (ji (qI K rfl) (by rfl) T.len cH (za (b7 (LW T) (za (pv 0) zd)) zd)) (za (b7 (zle T) (za (pv 0) zd)) zd)))))
   (zc (gR (uN (Sz (bP (lZ K rfl) (pv 1) zi))) (zh (fW (pv 1))) jc)
   (zh (fW (fR (K6 K rfl) (pv 1) (gZ (za (b7 (zy3 T) (za (pv 0) zd)) (za (b7 (zvq T) (za (pv 0) zd)) (za (b7 (zlf T) (za (pv 0) zd)) zd))))))))),?_⟩
  have hT:=hF.iN
  try dsimp only[zy]
  refine⟨_,rfl,p,_,_,_,rfl,rfl,hT.p,rfl,_,rfl,p,_,_,_,rfl,rfl,hT.p,rfl,pu,jK,us,aA,ts,rfl,hT.u,hT.t,hT.tt,hT.nd,hT.ul,hT.ends,fun a1 gs H1 _ _ _ _ Bl CF s1=>?_⟩;have T1:=hT.same s1;refine⟨_,rfl,p,pu,jK,_,_,us,aA,ts,rfl,T1,fun q2 rs H2 s2 _ AW lr R=>?_⟩;have T2:=T1.same s2;refine⟨q2,_,rfl,.inl (aH.of AW),_,rfl,p,pu,jK,_,_,us,aA,ts,rfl,T2,fun nr a3 os H3 s3 xw O opm=>?_,fun nn H3 s3=>?_⟩
  ·refine⟨by show 3<=sizeLine;decide,fun L hL=>?_⟩;rw[aq];have t3:=ak.new (o:=.lst [.ref a1,.int rs.length,.ref a3]) hL;have eL:upd H3 L (.lst [.ref a1,.int rs.length,.ref a3]) L=some (.lst [.ref a1,.int rs.length,.ref a3]):=zb;have F3:=(hF.same (s1.trans s2)).same (s3.trans t3);have xw:=t3 _ _ xw;have S3:=(s1.trans s2).trans (s3.trans t3);have zY:=s2.trans (s3.trans t3);generalize upd H3 L (.lst [.ref a1,.int rs.length,.ref a3])=G at t3 eL F3 xw S3 zY
   try dsimp only[zy]
   refine Ce false (fun Q' hQ=>⟨_,rfl,L,_,_,_,rfl,rfl,aH.of eL,rfl,_,rfl,hQ⟩) (fj ?_);refine⟨_,rfl,_,rfl,p,pu,jK,_,_,us,aA,ts,rfl,F3.iN,Rx,nr,fun D bs qs H4 s4 _ hD pq pw lq dq=>?_⟩;have F4:=F3.same s4;refine⟨_,rfl,p,pu,jK,_,_,us,aA,ts,rfl,F4.iN,nr,fun q5 cs lv H5 s5 _ By lc _ _ Gr Lv5=>?_⟩;have F5:=F4.same s5;have fin:∀(v:V)(o:Option (List Bg))(H6:Hp),ak H5 H6->rR H6 v o->((∃f g:Str->Int,(∀k∈zn ts (aM us),jY (cj ts (ts.zip aA)) (mw ts lo (fs.zip af)) k (f k))/\(∀k∈zn ts (aM us),jZ (cj ts (ts.zip aA)) (mz ts hi (fs.zip af)) k (g k))/\yx lo hi us aA ts af fs/\o=some ((zn ts (aM us)).map fun k=>(k,f k,g k)))\/∃c w,yy lo hi us aA ts af fs c w/\o=none)->
     ∀M,H6 M=none->∀E',upd H6 M (.lst [.ref D,.ref q5,v]) E'=none->Q (.ref E') (upd (upd H6 M (.lst [.ref D,.ref q5,v])) E' (.lst [.ref a1,.int rs.length,.ref a3,.ref D,.ref q5,v])):=fun v o H6 s6 hv ho M hM E' hE=>by
    have sE:=(ak.new (o:=.lst [.ref D,.ref q5,v]) hM).trans (ak.new (o:=.lst [.ref a1,.int rs.length,.ref a3,.ref D,.ref q5,v]) hE);have Mt:=s6.trans sE;have Mu:=s5.trans Mt;have Im:=s4.trans Mu;refine k E' ⟨qb us ts,rs.length,some os,qs,yt (zn ts (aM us)) lv cs.length,o⟩ _ (S3.trans Im) ⟨a1,gs,Im _ _ (zY _ _ Bl),Paired.mono CF fun _ _ _ z=>Im _ _ (zY _ _ z),.inr ⟨a3,D,q5,v,os,bs,cs,rfl,zb,Im _ _ xw,Mu _ _ hD,Paired.mono pq fun _ _ _ z=>Mu _ _ z,Mt _ _ By,Zp rfl fun j c hc=>Mt _ _ (Gr j c hc),hv.same sE⟩⟩
     ⟨rfl,⟨rs,R,rfl⟩,fun z=>absurd nr z,fun _=>⟨os,rfl,O,opm⟩,fun _=>⟨pw,dq⟩,fun _=>⟨lv,cs.length,Lv5,rfl⟩,fun _=>ho⟩
   refine⟨_,rfl,p,pm,pu,jK,pf,lo,hi,us,aA,ts,af,fs,rfl,F5,nr,fun q f g H6 s6 hS hf hg no=>?_,fun c w H6 s6 hr=>?_⟩
   ·refine⟨by show 3<=sizeLine;decide,fun M hM=>⟨L,M,_,_,rfl,rfl,aH.of ((ak.new hM) _ _ (s6 _ _ (s5 _ _ (s4 _ _ eL)))),aH.of zb,by show 6<=sizeLine;decide,fun E' hE=>?_⟩⟩;obtain⟨as,h1,h2⟩:=hS;exact fin (.ref q) (some ((zn ts (aM us)).map fun k=>(k,f k,g k))) H6 s6 ⟨q,as,rfl,h1,Qw h2⟩ (.inl ⟨f,g,hf,hg,no,rfl⟩) M hM E' hE
   ·refine⟨by show 3<=sizeLine;decide,fun M hM=>⟨L,M,_,_,rfl,rfl,aH.of ((ak.new hM) _ _ (s6 _ _ (s5 _ _ (s4 _ _ eL)))),aH.of zb,by show 6<=sizeLine;decide,fun E' hE=>?_⟩⟩;exact fin .cu none H6 s6 rfl (.inr ⟨c,w,hr,rfl⟩) M hM E' hE
  ·refine⟨by show 3<=sizeLine;decide,fun L hL=>?_⟩;rw[aq];have t3:=ak.new (o:=.lst [.ref a1,.int rs.length,.cu]) hL;have eL:upd H3 L (.lst [.ref a1,.int rs.length,.cu]) L=some (.lst [.ref a1,.int rs.length,.cu]):=zb;have zY:=s2.trans (s3.trans t3);have S3:=s1.trans zY;generalize upd H3 L (.lst [.ref a1,.int rs.length,.cu])=G at t3 eL S3 zY
   try dsimp only[zy]
   refine Ce true (fun Q' hQ=>⟨_,rfl,L,_,_,_,rfl,rfl,aH.of eL,rfl,_,rfl,hQ⟩) (lO ?_);exact⟨_,rfl,k L ⟨qb us ts,rs.length,none,[],[],none⟩ _ S3 ⟨a1,gs,zY _ _ Bl,Paired.mono CF fun _ _ _ z=>zY _ _ z,.inl ⟨rfl,eL⟩⟩
    ⟨rfl,⟨rs,R,rfl⟩,fun _=>⟨rfl,rfl,rfl,rfl⟩,fun z=>absurd z nn,fun z=>absurd z nn,fun z=>absurd z nn,fun z=>absurd z nn⟩⟩
def FY:Nat:=12
def wM:Sp:=fun vs H Q _=>∃(a:ah)(ns:List Int),vs = [.ref a]/\aH K H a (ns.map V.int)/\ns.length<=63/\∀H',Q (.bl true) H'
section
variable{β:Type}{e:β->List V}{H:Hp}
theorem Mv:∀{ts:List β}{as:List ah},bU H as (ts.map e)->∀q∈ts.zip as,H q.2=some (.tup (e q.1))
 | [],_,_,q,hq=>by simp at hq
 | t::ts,_,.cons h r,q,hq=>by
  rcases aO.mp hq with rfl | hq
  ·exact h
  ·exact Mv r q hq
theorem Mw:∀{l:List (β×ah)},(∀p∈l,H p.2=some (.tup (e p.1)))->bU H (l.map Prod.snd) ((l.map Prod.fst).map e)
 | [],_=>.nil
 | p::l,h=>.cons (h p (e8 ..)) (Mw fun q hq=>h q (bE _ hq))
theorem RT{ts:List β}{as:List ah}(h:as.length=ts.length):(ts.zip as).map (fun q=>V.ref q.2)=as.map V.ref:=by
 rw[show(fun q:β×ah=>V.ref q.2)=V.ref ∘ Prod.snd from rfl,←cz,List.map_snd_zip (by lia)]
theorem RU{ts:List β}{as:List ah}{ys:List (β×ah)}(h:as.length=ts.length)(p:ys.Perm (ts.zip as)):(ys.map Prod.fst).Perm ts:=by
 have:=p.map Prod.fst
 rwa [List.map_fst_zip (by lia)] at this
theorem zvy(ys:List (β×ah)):ys.map (fun q=>V.ref q.2)=(ys.map Prod.snd).map V.ref:=by rw[cz];rfl
end
theorem FZ(T:Tx K mg w C_Dig zk zq zg zv zo zw zp zx):gk P w K mg base "law" ["_law_script"] FY (wM (K:=K)):=by
 refine T.z3i.has gF (fun vs H Q E h=>?_) (fun f bY A outer s H vs Q E hr h=>?_)
 ·obtain⟨a,ns,rfl,_⟩:=h;rfl
 ·obtain⟨a,ns,rfl,ha,hl,k⟩:=h;refine⟨_,(zc (sset (i:=1) gF.nd (b7 (QG T) (za (b7 (Cy T) (za (pv 0) (za zi zd))) (za (b7 (Cy T) (za (pv 0) (za zi zd))) (za zi zd)))))
   (zc (sset (i:=2) gF.nd (b7 (QG T) (za (b7 (Cy T) (za (pv 0) (za zi zd))) (za (b7 (Cy T) (za (pv 0) (za zi zd))) (za zi zd)))))
   (zc (sset (i:=3) gF.nd (b7 (zlb T) (za (b7 (Cy T) (za (pv 0) (za zi zd))) zd)))
   (zc (sset (i:=4) gF.nd (YV (zhn T) T.ZP T.ZQ (hr.mono (by decide)) (by rfl) T.ZO (za (bP (zr K rfl) (pv 3) zi) (za (bP (zr K rfl) (pv 3) zi) zd))))
   (zc (sset (i:=5) gF.nd (ko (za (gZ zd) (za (gZ zd) (za (gZ zd) zd)))))
   (zc (j3 bV rfl (jG K rfl (Gu (Vr K rfl) (pv 0) (BW zi) (BW zi))) (gE (i:=6) gF.nd) (zh (gR (fh BU (b7 (zz T) (za (pv 6) (za zi (za zi zd)))) zi (fV _)) (zh (ig (b7 (zlc T) (za (pv 4) (za (pv 5) (za (pv 1) (za (pv 2) (za (pv 6) zd)))))))) (zh (ig (b7 (zld T) (za (pv 4) (za (pv 5) (za (pv 6) zd)))))))))
   (zc (sset (i:=6) gF.nd (b7 (Cy T) (za (pv 0) (za zi zd))))
   (zc (sset (i:=7) gF.nd (ko (za (pv 3) (za (b7 (LJ T) (za (bP (zr K rfl) (pv 5) zi) (za (pv 6) zd))) (za (b7 (LJ T) (za (bP (zr K rfl) (pv 5) zi) (za (fR sq (pv 6) zi) zd))) (za (b7 (LJ T) (za (bP (zr K rfl) (pv 5) zi) (za (fR sq (pv 6) zi) zd))) zd))))))
   (zc (sset (i:=8) gF.nd (Vz (zji T) T.g8 (hr.mono (by decide)) (pv 4)))
   (zc (gR (PW.pt (C3 (fh (sJ K rfl (iM hr)) (ji (Hi (K:=K) rfl) (by rfl) T.sorted mV (za (bP (zr K rfl) (pv 8) zi) zd)) (ji (Hi (K:=K) rfl) (by rfl) T.sorted mV (za (bP (zr K rfl) (pv 5) zi) zd)) (fV _)) (C3 (fh (sJ K rfl (iM hr)) (bP (zr K rfl) (pv 8) zi) (bP (zr K rfl) (pv 5) zi) (fV _)) (Ge (fh (sJ K rfl (iM hr)) (bP (zr K rfl) (pv 8) zi) (bP (zr K rfl) (pv 5) zi) (fV _)))))) (zh (fW yU)) jc)
   (zh (fW (Jc (J1 K rfl (iM hr)) (b7 (RS T) (za (pv 8) zd)) (b7 (RS T) (za (pv 7) zd)) (fV _)))))))))))))),?_⟩
  refine⟨_,rfl,a,ns,_,rfl,ha,by decide,_,rfl,a,ns,_,rfl,ha,by decide,_,_,7,rfl,by decide,fun pn xs H1 x7 xnd wj LM hn s1=>?_⟩
  try dsimp only[zy]
  refine⟨_,rfl,a,ns,_,rfl,s1.seq ha,by decide,_,rfl,a,ns,_,rfl,s1.seq ha,by decide,_,_,7,rfl,by decide,fun pk ms H2 m7 mnd Lw fpk hk s2=>?_⟩;have q2:=s1.trans s2
  try dsimp only[zy]
  refine⟨_,rfl,a,ns,_,rfl,q2.seq ha,by decide,_,rfl,fun pr lo hi H3 ylo yhi lh Ia wB s3=>?_⟩;have q3:=q2.trans s3;have CD:=s3 _ _ (s2 _ _ hn);have mP:=s3 _ _ hk;have xw:=q3.seq ha;clear ha hn hk s1 s2 s3 q2 q3
  try dsimp only[zy]
  refine⟨_,rfl,pr,_,_,_,rfl,rfl,bx.of wB,rfl,_,rfl,pr,_,_,_,rfl,rfl,bx.of wB,rfl,?_⟩;intro p dx Fb Fc npx;have s7:ak H3 (upd (upd H3 dx (.own p)) p (.ins C_Dig dx [])):=fun b o e=>by
   rw[ze (zj e Fb),ze (zj e Fc)];exact e
  refine⟨p,dx,lo,hi,rfl,zb,fun pm du dt df H7 f1 f2 f3 R7 kp=>⟨rfl,?_⟩⟩;have s8:ak H3 H7:=fun b o e=>kp b o (s7 b o e) (zj e Fb)
  have fu:=s7.free f1;have ft:=s7.free f2;have ff:=s7.free f3
  try dsimp only[zy]
  refine⟨by decide,fun u0 RV=>?_⟩;have w1:=ak.new (o:=.lst []) RV;refine⟨by decide,fun t0 Mx=>?_⟩;have w2:=ak.new (o:=.lst []) Mx;refine⟨by decide,fun f0 Io=>?_⟩;have w3:=ak.new (o:=.lst []) Io;refine⟨by show 3<=sizeLine;decide,fun ps A8=>?_⟩;have w4:=ak.new (o:=.tup [.ref u0,.ref t0,.ref f0]) A8;have My:=w2.trans (w3.trans w4);have RW:=My _ _ (zb (H:=H7) (a:=u0) (o:=.lst []));have RX:=(w3.trans w4) _ _ (zb (H:=upd H7 u0 (.lst [])) (a:=t0) (o:=.lst []));have RY:=w4 _ _ (zb (H:=upd (upd H7 u0 (.lst [])) t0 (.lst [])) (a:=f0) (o:=.lst []));have RZ:=zb (H:=upd (upd (upd H7 u0 (.lst [])) t0 (.lst [])) f0 (.lst [])) (a:=ps) (o:=.tup [.ref u0,.ref t0,.ref f0]);have n01:u0≠t0:=zj zb Mx;have n02:u0≠f0:=zj (w2 _ _ zb) Io;have n03:t0≠f0:=zj zb Io;have gu:=s8.free RV;have gt:=s8.free (w1.free Mx);have gf:=s8.free ((w1.trans w2).free Io);have Mz:=w1.trans My;have s9:=s8.trans Mz;have emp:gW [] [] []:=⟨by simp,by simp,by simp,by simp,by simp,by simp⟩;have O0:eT C_Dig K _ p pm du dt df ps u0 t0 f0 lo hi xs ⟨[],[],[]⟩ 0:=⟨⟨[],R7.same Mz⟩,⟨[],[],RW,RX,.nil,RY,.nil,n01,n02,n03⟩,RZ,emp,by simp,aG _,aG _,aG _⟩;generalize upd (upd (upd (upd H7 u0 (.lst [])) t0 (.lst [])) f0 (.lst [])) ps (.tup [.ref u0,.ref t0,.ref f0])=H5 at O0 s9;clear w1 w2 w3 w4 My Mz RW RX RY RZ s8 s7 R7 kp;have cP:∀{G G':Hp},ak H3 G->HK G G' du dt df u0 t0 f0->ak H3 G':=fun s kp b o e=>kp b o (s b o e) (zj e fu) (zj e ft) (zj e ff) (zj e gu) (zj e gt) (zj e gf)
  try dsimp only[zy]
  obtain⟨cs,ec,lc⟩:=Zq (ns:=ns) (a:=5) (b:=63);refine⟨_,rfl,_,rfl,_,rfl,a,_,rfl,s9.seq xw,fun pc zM=>?_⟩;rw[show nJ (ns.map V.int) (some 5) (some 63)=cs.map V.int from ec];have t6:=ak.new (o:=.lst (cs.map V.int)) zM;have nc:pc≠u0/\pc≠t0/\pc≠f0:=by
   obtain⟨_,_,L0⟩:=O0.ls;exact⟨(zj L0.u zM).symm,(zj L0.t zM).symm,(zj L0.f zM).symm⟩
  refine⟨pc,rfl,⟨_,aH.of zb⟩,pP (K:=K) (a:=pc) (xs:=cs.map V.int) (fun i σ H'=>∃(v6:Option V)(S:SD),σ = [some (.ref a),some (.ref pn),some (.ref pk),some (.ref pr),some (.ref p),some (.ref ps),v6,none,none]/\eT C_Dig K H' p pm du dt df ps u0 t0 f0 lo hi xs S i/\ak H3 H'/\H' pc=some (.lst (cs.map V.int)))
   ⟨none,_,rfl,O0.same t6,s9.trans t6,zb⟩ (fun i σ H' _ h=>by obtain⟨_,_,_,_,_,h⟩:=h;exact aH.of h) ?_ ?_⟩
  ·clear O0 t6;rintro i v σ G hx ⟨v6,S,rfl,O,sG,yQ⟩;have xY:=iy hx;rw[aq] at xY;obtain⟨c,rfl⟩:∃z,v=V.int z:=by
    rw[aN,aV xY] at hx;exact⟨_,(bW hx).symm⟩
   obtain⟨af7,R7⟩:=O.dig;have fin:∀(G':Hp)(S':SD),eT C_Dig K G' p pm du dt df ps u0 t0 f0 lo hi xs S' (i+1)->HK G G' du dt df u0 t0 f0->∃(v6:Option V)(S:SD),([some (.ref a),some (.ref pn),some (.ref pk),some (.ref pr),some (.ref p),some (.ref ps),some (.int c),none,none]:St) = [some (.ref a),some (.ref pn),some (.ref pk),some (.ref pr),some (.ref p),some (.ref ps),v6,none,none]/\eT C_Dig K G' p pm du dt df ps u0 t0 f0 lo hi xs S (i+1)/\ak H3 G'/\G' pc=some (.lst (cs.map V.int)):=fun G' S' O' kp=>⟨_,S',rfl,O',cP sG kp,kp _ _ yQ (jE yQ R7.u (fun z=>nomatch z)) (jE yQ R7.t (fun z=>nomatch z)) (jE yQ R7.f (fun z=>nomatch z)) nc.1 nc.2.1 nc.2.2⟩
   try dsimp only[zy]
   refine⟨_,rfl,_,_,_,rfl,by decide,_,_,rfl,rfl,_,rfl,?_⟩;refine cM (fun c1=>?_) (fun c1=>?_)
   ·exact⟨_,rfl,_,rfl,_,rfl,_,rfl,_,rfl,p,pm,du,dt,df,ps,u0,t0,f0,pn,pk,lo,hi,xs,ms,S,i,c,rfl,O,by lia,aH.of (sG _ _ CD),aH.of (sG _ _ mP),x7,m7,wj,Lw,fun G' S' O' kp=>fin G' S' O' kp⟩
   ·exact⟨_,rfl,_,rfl,_,rfl,p,pm,du,dt,df,ps,u0,t0,f0,lo,hi,xs,S,i,c,rfl,O,by lia,wj,fun G' S' O' kp=>fin G' S' O' kp⟩
  rintro σ G ⟨v6,S,rfl,O,sG,-⟩;clear O0 t6 cP;rw[aq] at O;obtain⟨l1,l2,l3⟩:=O.len;obtain⟨af,R⟩:=O.dig;obtain⟨at',ag,L⟩:=O.ls;have lt':=L.Be;have CA:=L.fZ
  try unfold Gf
  try dsimp only[zy]
  refine⟨_,rfl,a,ns,_,rfl,sG.seq xw,by decide,?_⟩;generalize zC ns 4=c
  try dsimp only[zy]
  refine⟨_,rfl,_,rfl,ps,_,_,_,rfl,rfl,bx.of O.tup,rfl,_,rfl,Str,V.str,u0,S.us,_,rfl,aH.of L.u,by lia,fun u2 R9 G1 F0 _ Ip s1=>?_⟩;have O1:=O.same s1;refine⟨_,rfl,ps,_,_,_,rfl,rfl,bx.of O1.tup,rfl,_,rfl,_,_,rfl,rfl,aT×ah,fun q=>V.ref q.2,t0,S.ts.zip at',_,rfl,aH.of (by rw[RT lt'];exact(L.same s1).t),by rw[fO];lia,fun t2 zt G2 MA _ F6 s2=>?_⟩;have O2:=O1.same s2;refine⟨_,rfl,ps,_,_,_,rfl,rfl,bx.of O2.tup,rfl,_,rfl,_,_,rfl,rfl,bN×ah,fun q=>V.ref q.2,f0,S.fs.zip ag,_,rfl,aH.of (by rw[RT CA];exact((L.same s1).same s2).f),by rw[fO];lia,fun f2 zf G3 MB _ F7 s3=>?_⟩;rw[zvy] at F6 F7;refine⟨by show 4<=sizeLine;decide,fun an han=>?_⟩;have t4:=ak.new (o:=.tup [.ref pr,.ref u2,.ref t2,.ref f2]) han;have Sa:upd G3 an (.tup [.ref pr,.ref u2,.ref t2,.ref f2]) an=some (.tup [.ref pr,.ref u2,.ref t2,.ref f2]):=zb;have MC:=s3.trans t4;have FP:=s2.trans MC;have zX:=s1.trans FP;have Ip:=FP _ _ Ip;have F6:=MC _ _ F6;have F7:=t4 _ _ F7;generalize upd G3 an (.tup [.ref pr,.ref u2,.ref t2,.ref f2])=G4 at t4 Sa MC FP zX Ip F6 F7;have R4:=R.same zX;have L4:=L.same zX;have O4:=O.same zX;have sG4:=sG.trans zX;obtain⟨Bp,oG⟩:=R4.ob
  try dsimp only[zy]
  refine⟨_,rfl,p,Bp,_,rfl,oG,qO _ _ _ _ (by decide +kernel),p,pm,du,dt,df,lo,hi,S.us,S.ts,S.fs,af,rfl,R4,O.ok,fun tl a1 a2 a3 Sb G5 _ _ _ _ Bm Bl HQ MD F8 _ _ _ s5=>?_⟩;have L5:=L4.same s5;have R5:=R4.same s5;have O5:=O4.same s5;have xW:=MD.len;rw[aq] at xW;have Sd:=R.ft.len;rw[aq] at Sd;have F1:je K G5 tl pm a1 a2 a3 lo hi S.us Sb S.ts af S.fs:=⟨⟨bx.of Bm,aH.of Bl,aH.of HQ,MD,O.ok.nd,by lia,by lia,O.ok.tok⟩,bx.of R5.m,aH.of F8,R5.ft,fun f hf=>(O.ok.rO f hf).u,by lia⟩;have Se:=RU lt' MA;have Sf:=RU CA MB;have lzt:=MA.length_eq;have lzf:=MB.length_eq;rw[fO] at lzt lzf;have z1:=Mv L5.tt;have z2:=Mv L5.ff;have F2:je K G5 an pr u2 t2 f2 lo hi R9 (zt.map Prod.snd) (zt.map Prod.fst) (zf.map Prod.snd) (zf.map Prod.fst):=⟨⟨bx.of (s5 _ _ Sa),aH.of (s5 _ _ Ip),aH.of (s5 _ _ F6),Mw fun q hq=>z1 q (MA.mem_iff.mp hq),F0.nodup_iff.mpr O.ok.nd,by rw[F0.length_eq];lia,by rw[aq];lia,fun t ht=>(O.ok.tok t (Se.mem_iff.mp ht)).mono fun x hx=>F0.mem_iff.mpr hx⟩,bx.of (s5 _ _ (sG4 _ _ wB)),aH.of (s5 _ _ F7),Mw fun q hq=>z2 q (MB.mem_iff.mp hq),fun f hf=>F0.mem_iff.mpr (O.ok.rO f (Sf.mem_iff.mp hf)).u,by rw[aq];lia⟩;have hwt:∀ws∈S.ts.map aW,∀v∈ws,nK v=true:=fun ws hw v hv=>(O.ok.tw ws hw v hv).flat
  have hwf:∀ws∈S.fs.map cZ,∀v∈ws,nK v=true:=fun ws hw v hv=>by
   obtain⟨f,_,rfl⟩:=aK.mp hw;unfold cZ at hv;simp at hv;rcases hv with rfl | rfl | rfl | rfl<;>rfl
  try dsimp only[zy]
  refine vF false (fun Q' hQ=>?_) (fun G6 s6=>fj ?_)
  ·refine⟨_,rfl,tl,_,_,_,rfl,rfl,bx.of Bm,rfl,a1,S.us,rfl,aH.of Bl,by lia,fun b1 m1 qy p1 r1=>?_⟩;have v1:=ak.new (o:=.lst (m1.map V.str)) qy;refine⟨_,rfl,ps,_,_,_,rfl,rfl,bx.of (v1 _ _ O5.tup),rfl,u0,S.us,rfl,aH.of (v1 _ _ L5.u),by lia,fun b2 m2 LR p2 r2=>?_⟩;have v2:=ak.new (o:=.lst (m2.map V.str)) LR;have e:m1=m2:=by rw[Ci p1 r1,Ci p2 r2]
   subst e;have v:=v1.trans v2;refine⟨b1,b2,true,rfl,rfl,cV.vD (aH.of (v2 _ _ zb)) (aH.of zb) Kr,_,rfl,fj ?_⟩;refine⟨_,rfl,tl,_,_,_,rfl,rfl,bx.of (v _ _ Bm),rfl,_,rfl,ps,_,_,_,rfl,rfl,bx.of (v _ _ O5.tup),rfl,a2,t0,true,rfl,rfl,Lm (n:=6) (v _ _ HQ) (v _ _ L5.t) (MD.same v) (L5.tt.same v) hwt,_,rfl,fj ?_⟩;exact⟨_,rfl,tl,_,_,_,rfl,rfl,bx.of (v _ _ Bm),rfl,_,rfl,ps,_,_,_,rfl,rfl,bx.of (v _ _ O5.tup),rfl,a3,f0,true,rfl,rfl,Lm (n:=6) (v _ _ F8) (v _ _ L5.f) (R5.ft.same v) (L5.ff.same v) hwf,_,rfl,hQ _ v⟩
  try unfold Gf
  try dsimp only
  refine⟨_,rfl,tl,pm,a1,a2,a3,lo,hi,S.us,Sb,S.ts,af,S.fs,rfl,F1.same s6,by lia,fun q1 A1 G7 s7 hA1 hO1=>⟨_,rfl,an,pr,u2,t2,f2,lo,hi,R9,_,_,_,_,rfl,(F2.same s6).same s7,by rw[aq];lia,fun q2 A2 G8 s8 hA2 hO2=>?_⟩⟩;have e:=ZL (F1.iN.ends) (F2.iN.ends) F0.symm Se.symm Sf.symm xW F2.iN.len Sd F2.fZ hO1 hO2;subst e;exact⟨q1,q2,true,rfl,rfl,ZN (hA1.same s8) hA2,k _⟩
end
end LK63
open PySem PySem.W PyProof.Rows
set_option maxRecDepth 100000 in
set_option maxHeartbeats 0 in
theorem PySem.Challenge.cw_digmatrix_k63_whole_as_if_told_anew_holds : PySem.Challenge.rw_digmatrix_k63_whole_as_if_told_anew.Holds := by
 w_on;o_law;k_head;(case hw=>w_witness2)
 k_fill
 refine L2.vB (l:=PySem.Challenge.rw_digmatrix_k63_whole_as_if_told_anew) (k:=LK63.FY) (x:="_law_script") (sp:=fun K=>LK63.wM (K:=K)) rfl rfl ⟨rfl,by decide,by decide⟩ (fun w h Y=>PySem.W.kIn_of Y) (fun K H a ns hl hS=>⟨a,ns,rfl,hS,hl,fun _=>rfl⟩) ?F
 case F=>
  intro w mg h KX G
  have T:∃C_Dig,∃zk,∃zq,∃zg,∃zv,∃zo,∃zw,∃zp,∃zx,LK63.Tx (L2.Ny KX) mg w C_Dig zk zq zg zv zo zw zp zx:=by
   dsimp only[L2.Ny]
   refine' LK63.Tx.ex ⟨?z0,?z1,?z2,?z3,?z4,?z5,?z6,?z7,?z8,?z9,?z10,?z11,?z12,?z13,?z14,?z15,?z16,?z17,?z18,?z19,?z20,?z21,?z22,?z23,?z24,?z25,?z26,?z27,?z28,?z29,?z30,?z31,?z32,?z33,?z34,?z35,?z36,?z37,?z38,?z39,?z40,?z41,?z42,?z43,?z44,?z45,?z46,?z47,?z48,?z49,?z50,?z51,?z52,?z53,?z54,?z55,?z56,?z57,?z58,?z59,?z60,?z61,?z62,?z63,?z64,?z65,?z66,?z67,?z68,?z69,?z70,?z71,?z72,?z73,?z74,?z75,?z76,?z77,?z78,?z79,?z80,?z81,?z82,?z83,?z84,?z85,?z86,?z87,?z88,?z89⟩
   case z0=>refine' L2.dX KX G ?_<;>try k_is
   case z1=>refine' ⟨?_,?_,?_,?_⟩<;>try k_is
   case z2=>k_is
   case z3=>k_is
   case z4=>(unfold L2.cJ;k_is)
   case z5=>(unfold L2.cJ;k_is)
   case z6=>(unfold L2.cJ;k_is)
   case z7=>(unfold L2.cJ;k_is)
   case z8=>refine' L2.dY (fun _ _ _ _ _ _=>L2.qp fun _ _ _=>rfl) ?_ ?_ ?_ ?_ ?_<;>try k_is
   case z9=>refine' L2.dY (fun _ _ _ _ _ _=>L2.fY fun _ _=>rfl) ?_ ?_ ?_ ?_ ?_<;>try k_is
   case z10=>refine' L2.dY (fun _ _ _ _ _ _=>L2.fY fun _ _=>rfl) ?_ ?_ ?_ ?_ ?_<;>try k_is
   case z11=>refine' L2.dY (fun _ _ _ _ _ _=>L2.fY fun _ _=>rfl) ?_ ?_ ?_ ?_ ?_<;>try k_is
   case z12=>refine' L2.dY (fun _ _ _ _ _ _=>L2.fY fun _ _=>rfl) ?_ ?_ ?_ ?_ ?_<;>try k_is
   case z13=>refine' L2.dY (fun _ _ _ _ _ _=>L2.D0 fun _ _ _ _ _=>rfl) ?_ ?_ ?_ ?_ ?_<;>try k_is
   case z14=>refine' L2.dY (fun _ _ _ _ _ _=>L2.qp fun _ _ _=>rfl) ?_ ?_ ?_ ?_ ?_<;>try k_is
   case z15=>refine' L2.dY (fun _ _ _ _ _ _=>L2.fY fun _ _=>rfl) ?_ ?_ ?_ ?_ ?_<;>try k_is
   case z16=>refine' L2.dY (fun _ _ _ _ _ _=>L2.fk fun _=>rfl) ?_ ?_ ?_ ?_ ?_<;>try k_is
   case z17=>refine' L2.dY (fun _ _ _ _ _ _=>L2.fY fun _ _=>rfl) ?_ ?_ ?_ ?_ ?_<;>try k_is
   case z18=>refine' L2.dY (fun _ _ _ _ _ _=>L2.fY fun _ _=>rfl) ?_ ?_ ?_ ?_ ?_<;>try k_is
   case z19=>refine' L2.dY (fun _ _ _ _ _ _=>L2.fY fun _ _=>rfl) ?_ ?_ ?_ ?_ ?_<;>try k_is
   case z20=>refine' L2.dX KX G ?_<;>try k_is
   case z21=>refine' ⟨?_,?_,?_⟩<;>try k_is
   case z22=>refine' L2.dX KX G ?_<;>try k_is
   case z23=>refine' ⟨?_,?_,?_⟩<;>try k_is
   case z24=>refine' L2.sQ ?x24 ?y24 ?u24 ?v24;(case x24=>k_is);(case y24=>rfl);(case u24=>k_is);(case v24=>k_is)
   case z25=>refine' L2.vP ?x25 ?y25;(case x25=>k_is);(case y25=>rfl)
   case z26=>refine' L2.dY (fun _ _ _ _ _ _=>L2.fY fun _ _=>rfl) ?_ ?_ ?_ ?_ ?_<;>try k_is
   case z27=>(unfold L2.cJ;k_is)
   case z28=>refine' L2.dX KX G ?_<;>try k_is
   case z29=>refine' ⟨?_,?_,?_⟩<;>try k_is
   case z30=>refine' L2.sQ ?x30 ?y30 ?u30 ?v30;(case x30=>k_is);(case y30=>rfl);(case u30=>k_is);(case v30=>k_is)
   case z31=>refine' L2.vP ?x31 ?y31;(case x31=>k_is);(case y31=>rfl)
   case z32=>refine' L2.dY (fun _ _ _ _ _ _=>L2.fY fun _ _=>rfl) ?_ ?_ ?_ ?_ ?_<;>try k_is
   case z33=>(unfold L2.cJ;k_is)
   case z34=>refine' L2.dX KX G ?_<;>try k_is
   case z35=>refine' L2.dX KX G ?_<;>try k_is
   case z36=>refine' L2.dX KX G ?_<;>try k_is
   case z37=>refine' L2.dX KX G ?_<;>try k_is
   case z38=>refine' L2.dX KX G ?_<;>try k_is
   case z39=>k_is
   case z40=>k_is
   case z41=>refine' L2.bA KX G (fun _ _ _ _ _ _=>L2.fY fun _ _=>rfl) ?_ ?_ ?_ ?_<;>try k_is
   case z42=>refine' L2.bA KX G (fun _ _ _ _ _ _=>L2.qp fun _ _ _=>rfl) ?_ ?_ ?_ ?_<;>try k_is
   case z43=>refine' L2.bA KX G (fun _ _ _ _ _ _=>L2.fY fun _ _=>rfl) ?_ ?_ ?_ ?_<;>try k_is
   case z44=>refine' L2.bA KX G (fun _ _ _ _ _ _=>L2.fk fun _=>rfl) ?_ ?_ ?_ ?_<;>try k_is
   case z45=>refine' L2.bA KX G (fun _ _ _ _ _ _=>L2.fk fun _=>rfl) ?_ ?_ ?_ ?_<;>try k_is
   case z46=>refine' L2.bA KX G (fun _ _ _ _ _ _=>L2.fY fun _ _=>rfl) ?_ ?_ ?_ ?_<;>try k_is
   case z47=>refine' L2.bA KX G (fun _ _ _ _ _ _=>L2.fk fun _=>rfl) ?_ ?_ ?_ ?_<;>try k_is
   case z48=>refine' L2.bA KX G (fun _ _ _ _ _ _=>L2.fk fun _=>rfl) ?_ ?_ ?_ ?_<;>try k_is
   case z49=>refine' L2.bA KX G (fun _ _ _ _ _ _=>L2.fY fun _ _=>rfl) ?_ ?_ ?_ ?_<;>try k_is
   case z50=>refine' L2.bA KX G (fun _ _ _ _ _ _=>L2.fY fun _ _=>rfl) ?_ ?_ ?_ ?_<;>try k_is
   case z51=>refine' L2.bA KX G (fun _ _ _ _ _ _=>L2.fk fun _=>rfl) ?_ ?_ ?_ ?_<;>try k_is
   case z52=>refine' L2.bA KX G (fun _ _ _ _ _ _=>L2.fk fun _=>rfl) ?_ ?_ ?_ ?_<;>try k_is
   case z53=>refine' L2.bA KX G (fun _ _ _ _ _ _=>L2.qp fun _ _ _=>rfl) ?_ ?_ ?_ ?_<;>try k_is
   case z54=>refine' L2.bA KX G (fun _ _ _ _ _ _=>L2.fk fun _=>rfl) ?_ ?_ ?_ ?_<;>try k_is
   case z55=>refine' L2.bA KX G (fun _ _ _ _ _ _=>L2.fk fun _=>rfl) ?_ ?_ ?_ ?_<;>try k_is
   case z56=>refine' L2.bA KX G (fun _ _ _ _ _ _=>L2.fk fun _=>rfl) ?_ ?_ ?_ ?_<;>try k_is
   case z57=>refine' L2.bA KX G (fun _ _ _ _ _ _=>L2.fk fun _=>rfl) ?_ ?_ ?_ ?_<;>try k_is
   case z58=>refine' L2.bA KX G (fun _ _ _ _ _ _=>L2.fk fun _=>rfl) ?_ ?_ ?_ ?_<;>try k_is
   case z59=>refine' L2.bA KX G (fun _ _ _ _ _ _=>L2.fk fun _=>rfl) ?_ ?_ ?_ ?_<;>try k_is
   case z60=>refine' L2.bA KX G (fun _ _ _ _ _ _=>L2.fY fun _ _=>rfl) ?_ ?_ ?_ ?_<;>try k_is
   case z61=>refine' L2.bA KX G (fun _ _ _ _ _ _=>L2.fY fun _ _=>rfl) ?_ ?_ ?_ ?_<;>try k_is
   case z62=>refine' L2.bA KX G (fun _ _ _ _ _ _=>L2.fk fun _=>rfl) ?_ ?_ ?_ ?_<;>try k_is
   case z63=>refine' L2.bA KX G (fun _ _ _ _ _ _=>L2.fk fun _=>rfl) ?_ ?_ ?_ ?_<;>try k_is
   case z64=>refine' L2.bA KX G (fun _ _ _ _ _ _=>L2.fk fun _=>rfl) ?_ ?_ ?_ ?_<;>try k_is
   case z65=>refine' L2.bA KX G (fun _ _ _ _ _ _=>L2.fk fun _=>rfl) ?_ ?_ ?_ ?_<;>try k_is
   case z66=>refine' L2.bA KX G (fun _ _ _ _ _ _=>L2.fY fun _ _=>rfl) ?_ ?_ ?_ ?_<;>try k_is
   case z67=>refine' L2.bA KX G (fun _ _ _ _ _ _=>L2.fk fun _=>rfl) ?_ ?_ ?_ ?_<;>try k_is
   case z68=>refine' L2.bA KX G (fun _ _ _ _ _ _=>L2.fY fun _ _=>rfl) ?_ ?_ ?_ ?_<;>try k_is
   case z69=>refine' L2.bA KX G (fun _ _ _ _ _ _=>L2.qp fun _ _ _=>rfl) ?_ ?_ ?_ ?_<;>try k_is
   case z70=>refine' L2.bA KX G (fun _ _ _ _ _ _=>L2.qp fun _ _ _=>rfl) ?_ ?_ ?_ ?_<;>try k_is
   case z71=>refine' L2.bA KX G (fun _ _ _ _ _ _=>L2.fY fun _ _=>rfl) ?_ ?_ ?_ ?_<;>try k_is
   case z72=>refine' L2.bA KX G (fun _ _ _ _ _ _=>L2.DZ fun _ _ _ _=>rfl) ?_ ?_ ?_ ?_<;>try k_is
   case z73=>refine' L2.bA KX G (fun _ _ _ _ _ _=>L2.fk fun _=>rfl) ?_ ?_ ?_ ?_<;>try k_is
   case z74=>refine' L2.bA KX G (fun _ _ _ _ _ _=>L2.D0 fun _ _ _ _ _=>rfl) ?_ ?_ ?_ ?_<;>try k_is
   case z75=>refine' L2.bA KX G (fun _ _ _ _ _ _=>L2.qp fun _ _ _=>rfl) ?_ ?_ ?_ ?_<;>try k_is
   case z76=>refine' L2.bA KX G (fun _ _ _ _ _ _=>L2.fY fun _ _=>rfl) ?_ ?_ ?_ ?_<;>try k_is
   case z77=>refine' L2.bA KX G (fun _ _ _ _ _ _=>L2.fk fun _=>rfl) ?_ ?_ ?_ ?_<;>try k_is
   case z78=>refine' L2.bA KX G (fun _ _ _ _ _ _=>L2.fk fun _=>rfl) ?_ ?_ ?_ ?_<;>try k_is
   case z79=>refine' L2.bA KX G (fun _ _ _ _ _ _=>L2.fk fun _=>rfl) ?_ ?_ ?_ ?_<;>try k_is
   case z80=>refine' L2.bA KX G (fun _ _ _ _ _ _=>L2.fk fun _=>rfl) ?_ ?_ ?_ ?_<;>try k_is
   case z81=>refine' L2.iw KX G ?_;k_is
   case z82=>refine' L2.iw KX G ?_;k_is
   case z83=>refine' L2.iw KX G ?_;k_is
   case z84=>refine' L2.iw KX G ?_;k_is
   case z85=>refine' L2.iw KX G ?_;k_is
   case z86=>refine' L2.iw KX G ?_;k_is
   case z87=>refine' L2.iw KX G ?_;k_is
   case z88=>refine' L2.iw KX G ?_;k_is
   case z89=>refine' L2.iw KX G ?_;k_is
  obtain⟨_,_,_,_,_,_,_,_,_,T⟩:=T
  exact fun base _ _=>LK63.FZ T
#print axioms PySem.Challenge.cw_digmatrix_k63_whole_as_if_told_anew_holds
