import PyProof.Rows.All
import Wide.All
import OpenK.AllK
import Wide.FinOn
import Lean
import PyProof.EqAt
import PyProof.EqKinds
import PyProof.TupleCall
import PyProof.ZipIter
import PyProof.DictWalks
import PyProof.StrOps2
import KE.IntTextLaws
import PyProof.StrBlockI
import PyProof.StrLawsIn
import PyProof.AutoSeq1
import PyProof.WalkInts
import PyProof.Rows.SetFrom
import PyProof.SetKind
import PyProof.CollectWalk
import PyProof.MinMaxWalk
import PyProof.TupleKey
import PyProof.FString5
import KE.KDictOf
import PyProof.AttrMissHeap
import KE.KSortTup
import PyProof.MeetsSeq3
import PyProof.DictUpdate
import PyProof.StrLawsChain
import PyProof.StrLawsTight
import PyProof.Rows.StrItems
import PyProof.ExcInit
import PyProof.ExcClass3
import PyProof.ExcBaseAll.ValueError
import PyProof.FString
import PyProof.Rows.FStr
import PyProof.RaisesMany
import PyProof.RulesAs
import PyProof.NsDelKeeps
import PyProof.ExcAttrAll.ValueError
import PyProof.Rows.SumAny
import PySem.Challenge.RW_digmatrix_k48_refused_alike
abbrev aF:=PySem.W.Frag
abbrev ah:=PySem.Addr
abbrev au:=PySem.Shared
abbrev ai:=PySem.Value
abbrev aU:=PySem.Program
abbrev aA:=PySem.Value->PySem.Shared->Prop
abbrev aG:=List (PySem.Addr×PySem.Obj)
abbrev aj:=@PySem.wpAny_bind
abbrev ay:=@List.length_map
abbrev bz:=@List.getElem?_eq_getElem
abbrev az:=@PySem.wpAny_pure
abbrev bC:=@PySem.Heap.get?_push_of_some
abbrev bV:=@List.getElem?_eq_some_iff
abbrev aO:=@decide_eq_true
abbrev ao:=@if_neg
abbrev aq:=@if_pos
abbrev bN:=@List.mem_of_getElem?
abbrev aM:=@List.getElem?_map
abbrev aP:=@of_decide_eq_true
abbrev aS:=@List.take_add_one
abbrev aH:=@Nat.le_refl
abbrev bD:=@List.mem_cons_of_mem
abbrev aI:=@PySem.Heap.lt_size
abbrev aT:=@List.map_append
abbrev aN:=@List.mem_cons
abbrev aV:=@decide_eq_false
abbrev bJ:=@Bool.false_ne_true
abbrev bL:=@List.length_append
abbrev bO:=@PySem.Heap.get?_push_size
abbrev cR:=@List.getD_eq_getElem?_getD
abbrev bF:=@List.length_take
abbrev bG:=@List.take_length
abbrev cE:=@PySem.Heap.get?_update_other
abbrev bH:=@PySem.PassesOwn.never
abbrev bM:=@List.mem_append
abbrev aD:=@Ne.symm
abbrev bS:=@List.size_toArray
abbrev bq:=@Nat.ne_of_lt
abbrev br:=@List.mem_map
abbrev d9:=@Decidable.byContradiction
abbrev dB:=@PySem.Heap.get?_update_self
abbrev dg:=@decide_eq_true_iff
abbrev cF:=@List.mem_filter
abbrev ee:=@List.mem_append_left
abbrev cW:=@List.not_mem_nil
abbrev gD:=@Array.getElem?_eq_some_iff
abbrev dX:=@Nat.lt_of_lt_of_le
abbrev b7:=@Nat.le_trans
abbrev cX:=@Option.some.inj
abbrev gZ:=@Array.getElem?_eq_getElem
abbrev f7:=@List.mem_append_right
abbrev cT:=@PySem.wpAny_holding
abbrev gE:=@List.length_filter_le
abbrev b8:=@PySem.wpAny_mono
abbrev fh:=@PySem.wpAny_newObj_type
abbrev jl:=@List.getElem?_append_left
abbrev jm:=@List.getElem?_zip_eq_some
abbrev g7:=@List.mem_iff_getElem?
abbrev fj:=@Bool.and_eq_true
abbrev eV:=@List.mem_range
abbrev eB:=@Nat.lt_irrefl
abbrev dj:=@Nat.zero_le
abbrev iD:=@PySem.Around.under_plainId
abbrev f9:=@PySem.F.plain_max_loop
abbrev bT:=@congrArg
abbrev k8:=@List.getElem?_append_right
abbrev fk:=@List.lt_irrefl
abbrev gF:=@List.all_eq_true
abbrev gc:=@PySem.wpAny_updateSeq
abbrev jR:=@PyProof.Rows.boot_list
abbrev iE:=@List.mem_cons_self
abbrev iF:=@List.mem_singleton
abbrev iG:=@List.pairwise_cons
abbrev iH:=@List.filter_append
abbrev iI:=@of_decide_eq_false
abbrev jS:=@PySem.Obj.isFreed_of_fields
abbrev dY:=@Int.le_refl
abbrev jo:=@beq_eq_false_iff_ne
abbrev jq:=@Array.length_toList
abbrev jr:=@List.map_congr_left
abbrev iJ:=@PySem.wpAny_truthy_bool
abbrev fL:=@List.map_cons
abbrev fM:=@PySem.plainId_quiet
abbrev jT:=@PySem.codeAny_call_builtin
abbrev lY:=@List.pairwise_iff_getElem
abbrev jt:=@PySem.Obj.data_mapFields
abbrev g8:=@List.append_nil
abbrev g9:=@List.length_zip
abbrev ia:=@PySem.codeAny_builtin
abbrev gG:=@PySem.wpAny_tryCatch
abbrev iK:=@List.length_cons
abbrev fO:=@List.map_map
abbrev ju:=@List.length_range
abbrev k9:=@PySem.Heap.get?_none_of_le
abbrev jU:=@Bool.false_eq_true
abbrev lg:=@List.mem_iff_getElem
abbrev ic:=@PySem.wpAny_seqItems
abbrev ly:=@List.mem_of_mem_take
abbrev iL:=@List.nodup_cons
abbrev lZ:=@PySem.wpAny_pyNext_list_item
abbrev jv:=@PySem.wpAny_call_entry
abbrev jw:=@decide_eq_decide
abbrev jV:=@List.nodup_append
abbrev pL:=@PySem.F.slot_dict_keyiterator_next
abbrev jW:=@List.getElem_mem
abbrev lA:=@PySem.wpAny_loadPart_at
abbrev l8:=@List.filter_sublist
abbrev jC:=@List.length_pos_iff
abbrev eF:=@PySem.wpAny_letGo
abbrev l9:=@List.mem_take_iff_getElem
abbrev iM:=@List.any_eq_true
abbrev gp:=@PySem.wpAny_standAt
abbrev mh:=@PyProof.Rows.boot_sorted
abbrev eY:=@PySem.wpAny_field
abbrev gS:=@PySem.Heap.size_push
abbrev nZ:=@PySem.wpAny_typeNameOfWhole_keyiter
abbrev cP:=@PySem.boot_len
abbrev mj:=@PySem.wpAny_callSpecial?_slot
abbrev jD:=@Nat.lt_succ_of_lt
abbrev mq:=@List.length_eq_zero_iff
abbrev eG:=@PySem.wpAny_call
abbrev n8:=@PyProof.Rows.boot_isinstance
abbrev ku:=@List.filterMap_cons
abbrev mw:=@Array.getElem?_eq_none
abbrev n9:=@Array.getD_eq_getD_getElem?
abbrev fP:=@PySem.sizeLine_eq
abbrev gT:=@List.any_cons
abbrev jE:=@PySem.F.plain_min_loop
abbrev iN:=@PySem.wpAny_setField
abbrev mz:=@PySem.wpAny_pyNext_list_end
abbrev jF:=@PySem.wpAny_passesOwn
abbrev jG:=@Bool.eq_iff_iff
abbrev jH:=@List.of_mem_zip
abbrev kB:=@PySem.wpAny_pyIter_list
abbrev gU:=@PySem.codeAny_mono
abbrev gq:=@Nat.le_succ
abbrev kC:=@Nat.lt_trichotomy
abbrev iO:=@PySem.wpAny_attempt
abbrev oh:=@List.length_erase_of_mem
abbrev qA:=@PyProof.Rows.slot_tuple_getitem
abbrev mC:=@Int.toNat_of_nonneg
abbrev dZ:=@if_false
abbrev kD:=@List.length_drop
abbrev oj:=@PySem.wpAny_getItem_str_slice
abbrev kF:=@PySem.wpAny_isInstance
abbrev jI:=@PySem.isSubtype_type
abbrev kG:=@PySem.F.entry_max_loop
abbrev om:=@List.getElem?_set_self
abbrev gv:=@PySem.wpAny_rule
abbrev mD:=@PySem.wpAny_Call_Name_kw
abbrev oq:=@PySem.Calls.callWith_builtin
abbrev ou:=@List.take_of_length_le
abbrev mE:=@Int.emod_lt_of_pos
abbrev iP:=@Int.le_trans
abbrev kH:=@List.find?_cons
abbrev kI:=@List.forIn_cons
abbrev oz:=@Array.getElem?_toList
abbrev qB:=@PyProof.Rows.callWith_type1
abbrev mF:=@Int.toNat_natCast
abbrev mG:=@List.append_assoc
abbrev oA:=@List.getElem?_set_ne
abbrev oB:=@PySem.Calls.evalArgs_plain
abbrev eZ:=@or_false
abbrev qC:=@List.nodup_iff_pairwise_ne
abbrev oE:=@PySem.F.slot_list_reversed
abbrev mH:=@PySem.wpAny_eqBool_str
abbrev jJ:=@Nat.ne_of_gt
abbrev jK:=@List.map_nil
abbrev mJ:=@Nat.le_of_not_lt
abbrev mK:=@Nat.lt_succ_self
abbrev mL:=@Nat.not_lt_of_le
abbrev qD:=@Classical.byContradiction
abbrev oF:=@PySem.wpAny_isSubtype_exc
abbrev qE:=@Option.isSome_iff_exists
abbrev kJ:=@List.map_take
abbrev mO:=@PySem.wpAny_execs_nil
abbrev mP:=@Int.emod_nonneg
abbrev mQ:=@PySem.W.KasT.kasWp_bind
abbrev oG:=@PySem.tupleKind_room_in1
abbrev oH:=@Nat.lt_of_le_of_lt
abbrev oJ:=@PySem.wpAny_tupleItemsOf
abbrev qF:=@List.filter_cons_of_pos
abbrev qG:=@List.filter_cons_of_neg
abbrev kK:=@Nat.le_of_lt
abbrev kL:=@PySem.wpAny_typeOf
abbrev oK:=@PySem.wpAny_dictEntries
abbrev oM:=@List.foldl_append
abbrev qH:=@List.length_pos_of_mem
abbrev qI:=@List.filter_eq_nil_iff
abbrev kM:=@Int.zero_add
abbrev qJ:=@List.take_append_drop
abbrev qK:=@List.getElem?_eq_none
abbrev qL:=@PySem.builtinLookup_eq_fast
abbrev qM:=@PyProof.Rows.boot_min
abbrev oN:=@Option.getD_some
abbrev oO:=@beq_self_eq_true
abbrev jL:=@beq_iff_eq
abbrev mR:=@List.lt_trans
abbrev kO:=@Sum.inr.inj
abbrev kP:=@PySem.wpAny_of_eq
abbrev kT:=@List.not_lt
abbrev oQ:=@PySem.post_val_or_str
abbrev oR:=@PySem.wpAny_dictEpoch
set_option Elab.async false
set_option linter.all false
set_option maxRecDepth 100000
def PySem.W.Fast.tw15690851888314563550:Unit:=()
def PySem.W.Fast.tw14772012780617065428:Unit:=()
def PySem.W.Fast.tw7910017397648189339:Unit:=()
def PySem.W.Fast.tw13319255975969142652:Unit:=()
def PySem.W.Fast.tw9013627868922363892:Unit:=()
def PySem.W.Fast.tw4661070190023885145:Unit:=()
def PySem.W.Fast.tw13744950111288688954:Unit:=()
def PySem.W.Fast.tw12308202331468363297:Unit:=()
def PySem.W.Fast.tw16722219940638560616:Unit:=()
def PySem.W.Fast.tw11527167822990370575:Unit:=()
def PySem.W.Fast.tw11016102106726705650:Unit:=()
def PySem.W.Fast.tw1083017335296618749:Unit:=()
def PySem.W.Fast.tw1248755283176619109:Unit:=()
def PySem.W.Fast.tw15116058016839263455:Unit:=()
def PySem.W.Fast.tw18404020548670717731:Unit:=()
def PySem.W.Fast.tw2378041237933328304:Unit:=()
namespace L2
open PySem PySem.Spec PyProof.Rows
abbrev Key:=Sum Int Str
def yT:Key->ai->Bool
  | .inl k,v=>Value.isInt k v
  | .inr x,v=>Value.isStrOf x v
def G5 (w:World):Key->Int
  | .inl k=>hashInt k
  | .inr x=>hashStr w x
theorem vX:∀{k:Key}{v:ai},yT k v=true->(∃i t,k=Sum.inl i/\v=Value.int i t)\/(∃x t,k=Sum.inr x/\v=Value.str x t)
  | .inl i,v,h=>by
    obtain⟨t,e⟩:=Value.isInt_shape (k:=i) (v:=v) h;exact .inl ⟨i,t,rfl,e⟩
  | .inr x,v,h=>by
    obtain⟨t,e⟩:=Value.isStrOf_shape (x:=x) (v:=v) h;exact .inr ⟨x,t,rfl,e⟩
theorem Qz (i:Int) (t:Tok):yT (.inl i) (.int i t)=true:=by simp[yT,Value.isInt]
theorem QA (x:Str) (t:Tok):yT (.inr x) (.str x t)=true:=by simp[yT,Value.isStrOf]
theorem QB (a b:Int):decide ((Sum.inl a:Key)=Sum.inl b)=(a == b):=by
  by_cases e:a=b
  · subst e;simp
  · have h:¬(Sum.inl a:Key)=Sum.inl b:=fun q=>e (Sum.inl.inj q)
    rw[aV h];exact (jo.mpr e).symm
theorem QC (a b:Str):decide ((Sum.inr a:Key)=Sum.inr b)=decide (a=b):=by
  by_cases e:a=b
  · subst e;simp
  · have h:¬(Sum.inr a:Key)=Sum.inr b:=fun q=>e (kO q)
    rw[aV h,aV e]
theorem QD (a:Int) (b:Str):decide ((Sum.inl a:Key)=Sum.inr b)=false:=aV (fun q=>nomatch q)
theorem QE (a:Str) (b:Int):decide ((Sum.inr a:Key)=Sum.inl b)=false:=aV (fun q=>nomatch q)
def qe (prog:aU) (w:World):PySem.KeyKind prog w Key where
  is:=yT
  hash:=G5 w
  inj:=fun v a b ha hb=>by
    rcases vX ha with ⟨i,t,rfl,rfl⟩ | ⟨x,t,rfl,rfl⟩
    · rcases vX hb with ⟨j,u,rfl,e⟩ | ⟨y,u,rfl,e⟩
      · injection e with e1 _;rw[e1]
      · exact nomatch e
    · rcases vX hb with ⟨j,u,rfl,e⟩ | ⟨y,u,rfl,e⟩
      · exact nomatch e
      · injection e with e1 _;rw[e1]
  byValue:=fun k v h=>by
    rcases vX h with ⟨i,t,rfl,rfl⟩ | ⟨x,t,rfl,rfl⟩<;>rfl
  pyHash:=fun hv h=>by
    rcases vX hv with ⟨i,t,rfl,rfl⟩ | ⟨x,t,rfl,rfl⟩
    · exact wpAny_pyHash_int h
    · exact wpAny_pyHash_str h
  eqBool:=fun hu hv h=>by
    rcases vX hu with ⟨i,t,rfl,rfl⟩ | ⟨x,t,rfl,rfl⟩
    · rcases vX hv with ⟨j,u,rfl,rfl⟩ | ⟨y,u,rfl,rfl⟩
      · rw[QB] at h;exact wpAny_eqBool_int h
      · rw[QD] at h;exact SeqAt.EqAt.int_str i t y u _ _ _ _ h
    · rcases vX hv with ⟨j,u,rfl,rfl⟩ | ⟨y,u,rfl,rfl⟩
      · rw[QE] at h;exact SeqAt.EqAt.str_int x t j u _ _ _ _ h
      · rw[QC] at h;exact mH h
  «strs»:=fun k x t v h=>by
    rcases vX h with ⟨i,u,rfl,e⟩ | ⟨y,u,rfl,e⟩
    · exact nomatch e
    · injection e with e1 _
      subst e1;cases v<;>rfl
theorem QF (prog:aU) (w:World) (i:Int) (t:Tok):(qe prog w).is (.inl i) (.int i t)=true:=Qz i t
theorem QG (prog:aU) (w:World) (x:Str) (t:Tok):(qe prog w).is (.inr x) (.str x t)=true:=QA x t
inductive V where
  | dG | bl (b:Bool) | int (i:Int) | str (x:Str) | sF (b:Array UInt8) | BS (b:UInt64) | ref (a:ah) | ty (n:String)
  deriving DecidableEq
def RelV:V->ai->Prop
  | .dG,u=>u=Value.none
  | .bl b,u=>u=Value.bool b
  | .int i,u=>∃t,u=Value.int i t
  | .str x,u=>∃t,u=Value.str x t
  | .sF b,u=>∃t,u=Value.bytes b t
  | .BS b,u=>∃t,u=Value.float b t
  | .ref a,u=>u=Value.ref a
  | .ty n,u=>u=Value.type n
abbrev Vals:List V->List ai->Prop:=Paired RelV
theorem Vals.length {xs:List V}{us:List ai}(r:Vals xs us):xs.length=us.length:=Paired.length r
theorem Vals.get:∀{xs:List V}{us:List ai}{i:Nat}{x:V},Vals xs us->xs[i]? = some x->∃u,us[i]? = some u/\RelV x u
  | _,_,_,_,.nil,e=>by simp at e
  | _,_,0,_,.cons r _,e=>by simp at e;subst e;exact⟨_,rfl,r⟩
  | _,_,i+1,x,.cons _ t,e=>by
    obtain⟨u,h1,h2⟩:=Vals.get (i:=i) (x:=x) t (by simpa using e);exact⟨u,by simpa using h1,h2⟩
theorem Vals.append:∀{xs ys:List V}{us ws:List ai},Vals xs us->Vals ys ws->Vals (xs++ys) (us++ws)
  | _,_,_,_,.nil,s=>s
  | _,_,_,_,.cons r t,s=>.cons r (Vals.append t s)
theorem Vals.take:∀{xs:List V}{us:List ai}(n:Nat),Vals xs us->Vals (xs.take n) (us.take n)
  | _,_,0,_=>.nil
  | _,_,_+1,.nil=>.nil
  | _,_,n+1,.cons r t=>.cons r (Vals.take n t)
theorem Vals.drop:∀{xs:List V}{us:List ai}(n:Nat),Vals xs us->Vals (xs.drop n) (us.drop n)
  | _,_,0,r=>r
  | _,_,_+1,.nil=>.nil
  | _,_,n+1,.cons _ t=>Vals.drop n t
def jd:Option V->Option ai->Prop
  | some v,some u=>RelV v u
  | none,none=>True
  | _,_=>False
def KV {κ:Type}:List (κ×V)->List (κ×ai)->Prop:=Paired fun (p:κ×V) (q:κ×ai)=>p.1=q.1/\RelV p.2 q.2
def kV:Key->V
  | .inl i=>.int i
  | .inr x=>.str x
inductive HO where
    | lst (xs:List V)
    | tup (xs:List V)
    | dK (kvs:List (Key×V)) | dT (kvs:List (List Key×V))
    | set (S:Int->Bool) (n:Nat)
    | ins (C dx:ah) (fs:List (Str×V))
    | own (x:ah)
    | xd (fs:List (Str×V))
    | met (f x:ah)
    | G6 (lo hi:Int)
    | ie (o:Obj) (u:HO)
    | yU (ps:Array ai)
    | ext (φ:Heap->Prop)
abbrev Hp:=ah->Option HO
def upd (H:Hp) (a:ah) (o:HO):Hp:=fun b=>if b=a then some o else H b
theorem zb {H:Hp}{a:ah}{o:HO}:upd H a o a=some o:=by unfold upd;rw[aq rfl]
theorem zr {H:Hp}{a b:ah}{o:HO}(h:b≠a):upd H a o b=H b:=by unfold upd;rw[ao h]
theorem QH {H:Hp}{a:ah}{o u:HO}:upd (upd H a o) a u=upd H a u:=by
  funext b;unfold upd;split<;>rfl
theorem qf {H:Hp}{a b:ah}{o u:HO}(h:H a=some o) (h':H b=some u) (d:o≠u):a≠b:=by
  intro e;subst e;rw[h] at h';exact d (cX h')
theorem zv {H:Hp}{a b:ah}{o:HO}(h:H a=some o) (h':H b=none):a≠b:=by
  intro e;subst e;rw[h] at h';cases h'
section
variable (P:aU) (w:World)
def bU (H:Hp) (h:Heap) (a:ah):HO->Prop
  | .lst xs=>xs.length<=sizeLine/\∃(its:List ai) (n:Nat),Vals xs its/\h.get? a=some { cls:=.type "list",data:=.seq its.toArray n }
  | .tup xs=>xs.length<=sizeLine/\∃its:List ai,Vals xs its/\IsTup h a its.toArray
  | .dK kvs=>kvs.length<=sizeLine/\(a == sysModules)=false/\∃vs,KV kvs vs/\h.DictOf (qe P w) a vs
  | .dT kvs=>kvs.length<=sizeLine/\(a == sysModules)=false/\∃xs:List (List Key×ah×ai),
      Paired (fun (p:List Key×V) (q:List Key×ah×ai)=>p.1=q.1/\H q.2.1=some (.tup (p.1.map kV))/\RelV p.2 q.2.2) kvs xs/\
      ∃o es ep,h.get? a=some o/\o.ExactDict/\o.data = .dict es ep/\es.toList=xs.map (entryOfKey (tupleKind (qe P w)))/\(xs.map (·.1)).Nodup
  | .set S n=>h.SetOf (intKind P w) a S n
  | .ins C dx fs=>H dx=some (.own a)/\fs.length<=1000/\dx≠a/\h.get? a=some (PySem.W.instObj C dx)/\
      ∃mA,h.Ns1 dx mA/\(∀f,jd (fs.lookup f) (mA f))/\PySem.Within mA (fs.map (·.1))
  | .own _=>∃o,h.get? a=some o
  | .xd fs=>∃mA,h.Ns1 a mA/\∀f,jd (fs.lookup f) (mA f)
  | .G6 lo hi=>∃t u v,h.get? a=some { cls:=.type "range",data:=.fields #[.int lo t,.int hi u,.int 1 v] }
  | .ie o u=>h.get? a=some o/\bU H h a u
  | .yU ps=>h.get? a=some { cls:=.none,data:=.fields ps }
  | .met f x=>h.get? a=some (PySem.W.methodObj (.ref f) (.ref x))
  | .ext φ=>φ h/\(∃o,h.get? a=some o)/\∀h1 h2:Heap,φ h1->(∀o,h1.get? a=some o->h2.get? a=some o)->φ h2
def jM (H:Hp) (h:Heap):Prop:=∀a o,H a=some o->bU P w H h a o
end
section
variable {P:aU}{w:World}{H H':Hp}{h h':Heap}{a:ah}{o:HO}
theorem bU.lt (x:bU P w H h a o):a<h.objs.size:=by
  cases o with
  | lst xs=>obtain⟨_,_,_,_,e⟩:=x;exact aI e
  | tup xs=>obtain⟨_,_,_,p⟩:=x;exact p.lt
  | dK kvs=>obtain⟨_,_,_,_,o,_,_,e,_⟩:=x;exact aI e
  | dT kvs=>obtain⟨_,_,_,_,o,_,_,e,_⟩:=x;exact aI e
  | set S n=>obtain⟨o,_,_,_,e,_⟩:=x;exact aI e
  | ins C dx fs=>obtain⟨_,_,_,e,_⟩:=x;exact aI e
  | own y=>obtain⟨_,e⟩:=x;exact aI e
  | xd fs=>obtain⟨_,⟨_,_,_,e,_⟩,_⟩:=x;exact aI e
  | G6 lo hi=>obtain⟨_,_,_,e⟩:=x;exact aI e
  | ie ob u=>obtain⟨e,_⟩:=x;exact aI e
  | yU ps=>exact aI (show h.get? a=some _ from x)
  | met f y=>exact aI (show h.get? a=some _ from x)
  | ext φ=>obtain⟨_,⟨_,e⟩,_⟩:=x;exact aI e
theorem Paired.fV {α β:Type}{F G:α->β->Prop}:∀{l₁:List α}{l₂:List β},Paired F l₁ l₂->(∀a b,F a b->G a b)->Paired G l₁ l₂
  | _,_,.nil,_=>.nil
  | _,_,.cons r t,f=>.cons (f _ _ r) (Paired.fV t f)
theorem bU.iy (x:bU P w H h a o) (k:∀b u,(b=a\/H b=some (.own a))->h.get? b=some u->h'.get? b=some u)
    (ho:∀b,H b=some (.own a)->H' b=some (.own a)) (ht:∀b xs,H b=some (.tup xs)->H' b=some (.tup xs)):bU P w H' h' a o:=by
  induction o with
  | lst xs=>obtain⟨z,its,n,r,e⟩:=x;exact⟨z,its,n,r,k _ _ (.inl rfl) e⟩
  | tup xs=>obtain⟨z,its,r,ob,e,c⟩:=x;exact⟨z,its,r,ob,k _ _ (.inl rfl) e,c⟩
  | dK kvs=>obtain⟨z,y,vs,r,ob,es,ep,e,c⟩:=x;exact⟨z,y,vs,r,ob,es,ep,k _ _ (.inl rfl) e,c⟩
  | dT kvs=>
    obtain⟨z,y,xs,r,ob,es,ep,e,c⟩:=x;exact⟨z,y,xs,Paired.fV r fun p q z=>⟨z.1,ht _ _ z.2.1,z.2.2⟩,ob,es,ep,k _ _ (.inl rfl) e,c⟩
  | set S n=>obtain⟨ob,es,ep,t,e,c⟩:=x;exact⟨ob,es,ep,t,k _ _ (.inl rfl) e,c⟩
  | ins C dx fs=>
    obtain⟨d,z,ne,e,mA,⟨od,es,ep,e2,c⟩,r⟩:=x;exact⟨ho _ d,z,ne,k _ _ (.inl rfl) e,mA,⟨od,es,ep,k _ _ (.inr d) e2,c⟩,r⟩
  | own y=>obtain⟨ob,e⟩:=x;exact⟨ob,k _ _ (.inl rfl) e⟩
  | xd fs=>obtain⟨mA,⟨od,es,ep,e,c⟩,r⟩:=x;exact⟨mA,⟨od,es,ep,k _ _ (.inl rfl) e,c⟩,r⟩
  | G6 lo hi=>obtain⟨t,u,v,e⟩:=x;exact⟨t,u,v,k _ _ (.inl rfl) e⟩
  | ie ob u ih=>obtain⟨e,q⟩:=x;exact⟨k _ _ (.inl rfl) e,ih q⟩
  | yU ps=>
    have e:h.get? a=some { cls:=.none,data:=.fields ps }:=x;show h'.get? a=some { cls:=.none,data:=.fields ps };exact k a _ (.inl rfl) e
  | met f y=>
    have e:h.get? a=some (PySem.W.methodObj (.ref f) (.ref y)):=x;show h'.get? a=some (PySem.W.methodObj (.ref f) (.ref y));exact k a _ (.inl rfl) e
  | ext φ=>obtain⟨p,⟨o,e⟩,st⟩:=x;exact⟨st _ _ p fun o q=>k _ _ (.inl rfl) q,⟨o,k _ _ (.inl rfl) e⟩,st⟩
theorem jM.lt (x:jM P w H h) (e:H a=some o):a<h.objs.size:=(x a o e).lt
theorem jM.fresh (x:jM P w H h) (e:h.objs.size<=a):H a=none:=by
  cases q:H a with
  | none=>rfl
  | some u=>exact absurd (dX (x.lt q) e) (eB _)
theorem jM.kept (x:jM P w H h) (k:∀b u,h.get? b=some u->h'.get? b=some u):jM P w H h':=fun a o e=>
  (x a o e).iy (fun b u _ q=>k b u q) (fun _ q=>q) fun _ _ q=>q
theorem jM.laid (x:jM P w H h) (k:∀b u,h.get? b=some u->h'.get? b=some u) (hp:h.objs.size<=a) (new:bU P w (upd H a o) h' a o):jM P w (upd H a o) h':=fun b u e=>by
  have hn:=x.fresh hp
  by_cases hb:b=a
  · subst hb;rw[zb] at e;cases e;exact new
  · rw[zr hb] at e;exact (x b u e).iy (fun c v _ q=>k c v q) (fun c q=>by rw[zr (zv q hn)];exact q) fun c xs q=>by rw[zr (zv q hn)];exact q
end
def Rd (H:Hp) (a:ah) (u:HO):Prop:=H a=some u\/∃o,H a=some (.ie o u)
theorem Rd.ok {P:aU}{w:World}{H:Hp}{h:Heap}{a:ah}{u:HO}(r:Rd H a u) (x:jM P w H h):bU P w H h a u:=by
  rcases r with r | ⟨o,r⟩
  · exact x a u r
  · obtain⟨_,q⟩:=x a _ r;exact q
def BU:Option HO->Prop
  | some (.lst _)=>True
  | some (.dK _)=>True
  | some (.dT _)=>True
  | some (.set _ _)=>True
  | some (.ins _ _ _)=>True
  | some (.ext _)=>True
  | _=>False
section
variable {P:aU}{w:World}{H:Hp}{h h':Heap}{x e:ah}{o':HO}
theorem jM.write (ok:jM P w H h) (mu:BU (H x)) (he:e=x\/H e=some (.own x)) (k:∀b u,b≠e->h.get? b=some u->h'.get? b=some u) (AX:∃u,h'.get? e=some u)
    (new:bU P w (upd H x o') h' x o'):jM P w (upd H x o') h':=fun b u q=>by
  have BV:∀c y,H c=some (.own y)->c≠x:=fun c y r z=>by subst z;rw[r] at mu;exact mu
  have wV:∀c xs,H c=some (.tup xs)->c≠x:=fun c xs r z=>by subst z;rw[r] at mu;exact mu
  by_cases hb:b=x
  · subst hb;rw[zb] at q;cases q;exact new
  · rw[zr hb] at q
    by_cases yV:b=e
    · have q':H b=some (.own x):=by
        rcases he with z | z
        · exact absurd (yV.trans z) hb
        · rw[yV];exact z
      rw[q] at q';cases q';obtain⟨v,hv⟩:=AX;exact⟨v,by rw[yV];exact hv⟩
    · refine (ok b u q).iy (fun c v hc r=>k c v ?_ r) (fun c r=>by rw[zr (BV c b r)];exact r) fun c xs r=>by rw[zr (wV c xs r)];exact r
      rcases hc with rfl | hc
      · exact yV
      · rintro rfl;rcases he with z | z
        · exact BV c b hc z
        · rw[hc] at z;cases z;exact hb rfl
end
structure Un (fs ex:List ah) (H H':Hp) (h h':Heap):Prop where
  keep:∀b o,h.get? b=some o->H b=none->b ∉ fs->b ∉ ex->h'.get? b=some o
  slot:∀b o,h.get? b=some o->H b=none->b∈fs->b ∉ ex->∃sl,h'.get? b=some { o with slots:=sl }
  free:∀b o,h.get? b=some o->H b=none->b ∉ ex->H' b=none
  there:∀b o,h.get? b=some o->b ∉ ex->∃o',h'.get? b=some o'
  lD:∀b xs,H b=some (.tup xs)->H' b=some (.tup xs)
  kU:∀b o u,H b=some (.ie o u)->H' b=some (.ie o u)
  lE:∀b ps,H b=some (.yU ps)->∃more,H' b=some (.yU (ps++more))
section
variable {fs fs' ex G7:List ah}{H H1 H2:Hp}{h h1 h2 h':Heap}{a x e:ah}{o:HO}
theorem Un.any (u:Un fs ex H H1 h h1) {b:ah}{ob:Obj}(q:h.get? b=some ob) (n:H b=none) (hx:b ∉ ex):∃sl,h1.get? b=some { ob with slots:=sl }:=by
  by_cases hb:b∈fs
  · exact u.slot b ob q n hb hx
  · exact⟨ob.slots,u.keep b ob q n hb hx⟩
theorem Un.kept (k:∀b u,h.get? b=some u->h'.get? b=some u):Un fs ex H H h h':=
  ⟨fun b ob q _ _ _=>k b ob q,fun b ob q _ _ _=>⟨ob.slots,k b ob q⟩,fun _ _ _ n _=>n,fun b ob q _=>⟨ob,k b ob q⟩,fun _ _ q=>q,fun _ _ _ q=>q,fun _ ps q=>⟨#[],by rw[q];simp⟩⟩
theorem Un.refl:Un fs ex H H h h:=Un.kept fun _ _ q=>q
theorem Un.laid (k:∀b u,h.get? b=some u->h'.get? b=some u) (hp:h.objs.size<=a) (hn:H a=none):Un fs ex H (upd H a o) h h' where
  keep:=fun b u q _ _ _=>k b u q
  slot:=fun b u q _ _ _=>⟨u.slots,k b u q⟩
  free:=fun b u q n _=>by rw[zr (bq (dX (aI q) hp))];exact n
  there:=fun b u q _=>⟨u,k b u q⟩
  lD:=fun b xs q=>by rw[zr (zv q hn)];exact q
  kU:=fun b u xs q=>by rw[zr (zv q hn)];exact q
  lE:=fun b ps q=>⟨#[],by rw[zr (zv q hn),q];simp⟩
theorem Un.write (mu:BU (H x)) (he:e=x\/H e=some (.own x)) (k:∀b u,b≠e->h.get? b=some u->h'.get? b=some u) (AX:∃u,h'.get? e=some u):Un fs ex H (upd H x o) h h':=by
  have hx:∀b,H b=none->b≠x:=fun b n z=>by subst z;rw[n] at mu;exact mu
  have hb:∀b,H b=none->b≠e:=fun b n z=>by
    subst z;rcases he with r | r
    · exact hx b n r
    · rw[n] at r;cases r
  have hm:∀b u,H b=some u->¬BU (some u)->b≠x:=fun b u q nm z=>by subst z;rw[q] at mu;exact nm mu
  refine⟨fun b u q n _ _=>k b u (hb b n) q,fun b u q n _ _=>⟨u.slots,k b u (hb b n) q⟩,fun b u q n _=>by rw[zr (hx b n)];exact n,fun b u q _=>?_,
    fun b xs q=>by rw[zr (hm b _ q fun z=>z)];exact q,fun b u xs q=>by rw[zr (hm b _ q fun z=>z)];exact q,fun b ps q=>⟨#[],by rw[zr (hm b _ q fun z=>z),q];simp⟩⟩
  by_cases yV:b=e
  · subst yV;exact AX
  · exact⟨u,k b u yV q⟩
end
def E3 (h:Heap) (H:Hp):List ah:=(List.range h.objs.size).filter fun a=>(H a).isSome
def oS (h:Heap) (H:Hp):Heap:=PySem.W.hideAll h (E3 h H)
theorem QI (h:Heap) (H:Hp):(oS h H).objs.size=h.objs.size:=PySem.W.hideAll_size _ _
theorem QJ {h:Heap}{H:Hp}{b:ah}{o:Obj}(e:h.get? b=some o) (n:H b=none):(oS h H).get? b=some o:=
  PySem.W.hideAll_get _ e fun hm=>by
    have q:(H b).isSome=true:=(cF.mp hm).2;rw[n] at q;simp at q
theorem QK {h:Heap}{H:Hp}{b:ah}{o:Obj}(e:(oS h H).get? b=some o):h.get? b=some o/\H b=none:=by
  have e':h.get? b=some o:=PySem.W.of_hideAll (E3 h H) e;refine⟨e',?_⟩;cases q:H b with
  | none=>rfl
  | some x=>
    have hm:b∈E3 h H:=cF.mpr ⟨eV.mpr (aI e'),by simp[q]⟩;have z:(oS h H).get? b=none:=PySem.W.hideAll_none (E3 h H) hm;rw[z] at e;cases e
def QL (g h:Heap) (L:ah):aG:=(List.range h.objs.size).filterMap fun a=>if a=L\/(g.get? a).isSome=true then none else (h.get? a).map fun o=>(a,o)
def rest (g h:Heap) (L d:ah):aG:=(QL g h L).filter fun p=>decide (p.1≠d)
structure Mod (K:aF) (mg:Str->Option ai) (base:Heap):Prop where
  E4:K.In base
  glob:base.Ns mainGlobals mg
  blt:∃mb,base.Ns builtinsNs mb/\∀x:Str,x≠"__name__"->mb x=bootBuiltins x
  nolimit:base.NoLimit
structure Cx where
  prog:aU
  w:World
  K:aF
  mg:Str->Option ai
  base:Heap
  A:Around
  N:List Str
  cY:au
  pM:Hp
  env:Env
  outer:List Env
  stack:List Env
  ex:List ah
  fn:Str->Bool
  calm:Bool
  pn:aG
  xe:aA
def je (l:List Env):List ah:=l.filterMap (·.frame)
abbrev Cx.fs (X:Cx):List ah:=je X.outer
def G9 (sc:Scope) (x:Str):Prop:=sc.names.lookup x=some .local\/sc.names.lookup x=some .cell\/sc.names.lookup x=some .free
def Loc (sc:Scope) (x:Str):Prop:=sc.names.lookup x=some .local\/sc.names.lookup x=some .cell
def Look (env:Env) (h:Heap) (m:Str->Option ai) (x:Str) (u:ai):Prop:=
  (env.kindOf x=some .local/\m x=some u)\/((env.kindOf x=some .cell\/env.kindOf x=some .free)/\∃c,env.cells.lookup x=some c/\h.IsCell c (some u))
structure Cx.Ok (X:Cx):Prop where
  mod:Mod X.K X.mg X.base
  kind:X.env.scope.kind = .function
  glob:X.env.globals=mainGlobals
  blt:X.env.builtins=builtinsNs
  above:X.cY.heap.objs.size<=X.env.locals
  inj:∀x y c,X.env.cells.lookup x=some c->X.env.cells.lookup y=some c->x=y
  has:∀x,(X.env.kindOf x=some .cell\/X.env.kindOf x=some .free)->∃c,X.env.cells.lookup x=some c
  yW:∀x c,X.fn x=true->X.env.cells.lookup x=some c->X.cY.heap.objs.size<=c
  hd:X.calm=true->X.A.handled=none
  frames:X.A.frames=some X.stack
  AY:X.stack=X.outer\/(X.stack=X.env::X.outer/\X.env.frame=some X.env.locals)
  E5:∀b∈X.ex,b≠X.env.locals/\∀x c,X.env.cells.lookup x=some c->c≠b
  bs:∀b o,X.base.get? b=some o->X.cY.heap.get? b=some o/\X.pM b=none
  uD:X.base.objs.size<=X.cY.heap.objs.size
  qN:∀b o,X.base.get? b=some o->b ∉ X.ex
  sG:∀b∈X.ex,b ∉ X.fs
  jX:X.cY.heap.FunFrames X.base X.outer
  wW:∀b∈X.fs,X.pM b=none
structure Inv (X:Cx) (pins:aG) (σ:List (Option V)) (H:Hp) (s:au):Prop where
  ok:X.Ok
  os:s.os=X.cY.os
  bare:AllBare s.gens
  base:Un X.fs X.ex X.pM H X.cY.heap s.heap
  loc:∃m,s.heap.Ns X.env.locals m/\∀(i:Nat) (x:Str) (v:V),X.N[i]? = some x->σ[i]? = some (some v)->G9 X.env.scope x->∃u,RelV v u/\Look X.env s.heap m x u
  cell:∀x c,X.env.cells.lookup x=some c->∃v,s.heap.IsCell c v
  free:H X.env.locals=none
  fm:∀x c,X.env.cells.lookup x=some c->H c=none
  pin:∀p∈X.pn++pins,s.heap.get? p.1=some p.2/\H p.1=none/\p.1≠X.env.locals/\p.1 ∉ X.fs/\∀v,p.2.data≠.cell v
  bA:jM X.prog X.w H s.heap
  len:σ.length=X.N.length
section
variable {X:Cx}{pins:aG}{σ:List (Option V)}{H H':Hp}{s:au}{h':Heap}
theorem Cx.Ok.Hf (ok:X.Ok) {b:ah}{o:Obj}(e:X.base.get? b=some o):b ∉ X.fs:=fun hb=>by
  have:=(ok.jX.mem hb).1;rw[e] at this;cases this
theorem Inv.bs (I:Inv X pins σ H s):∀b o,X.base.get? b=some o->s.heap.get? b=some o/\H b=none:=fun b o e=>
  ⟨I.base.keep b o (I.ok.bs b o e).1 (I.ok.bs b o e).2 (I.ok.Hf e) (I.ok.qN b o e),I.base.free b o (I.ok.bs b o e).1 (I.ok.bs b o e).2 (I.ok.qN b o e)⟩
theorem Inv.bk (I:Inv X pins σ H s):∀b o,X.base.get? b=some o->s.heap.get? b=some o:=fun b o e=>(I.bs b o e).1
theorem Inv.mod (I:Inv X pins σ H s):Mod X.K X.mg X.base:=I.ok.mod
theorem Inv.lF (I:Inv X pins σ H s):X.K.In s.heap:=I.ok.mod.E4.keeps I.bk
theorem Inv.lt (I:Inv X pins σ H s):X.env.locals<s.heap.objs.size:=let ⟨_,hn,_⟩:=I.loc;hn.lt
theorem Inv.sz (I:Inv X pins σ H s):X.cY.heap.objs.size<=s.heap.objs.size:=b7 I.ok.above (kK I.lt)
theorem Inv.Hg (I:Inv X pins σ H s) {a:ah}(h:s.heap.objs.size<=a):a ∉ X.fs:=fun hb=>by
  obtain⟨_,o,ho,_⟩:=I.ok.jX.mem hb;exact absurd (dX (aI ho) (b7 I.sz h)) (eB _)
theorem Inv.uE (I:Inv X pins σ H s):∀x c,X.env.cells.lookup x=some c->c≠X.env.locals:=fun x c e z=>by
  obtain⟨v,o,ho,hd⟩:=I.cell x c e;obtain⟨m,⟨o',es,ep,wX,yi,_⟩,_⟩:=I.loc;rw[z,wX] at ho;cases ho;rw[yi] at hd;cases hd
theorem Inv.jX (I:Inv X pins σ H s):s.heap.FunFrames X.base X.outer:=by
  have all:∀(l:List Env),(∀b∈je l,b∈X.fs)->X.cY.heap.FunFrames X.base l->s.heap.FunFrames X.base l:=by
    intro l
    induction l with
    | nil=>intro _ _;trivial
    | cons env r ih=>
      intro hs hl;obtain⟨hk,⟨L,o,hf,hn,ho,hd⟩,hr⟩:=hl;have hL:L∈X.fs:=hs L (by unfold je;rw[ku,hf];exact iE);obtain⟨sl,e⟩:=I.base.slot L o ho (I.ok.wW L hL) hL fun z=>I.ok.sG L z hL
      exact⟨hk,⟨L,_,hf,hn,e,hd⟩,ih (fun b hb=>hs b (by unfold je;rw[ku,hf];exact bD _ hb)) hr⟩
  exact all X.outer (fun _ hb=>hb) I.ok.jX
theorem Inv.stack (I:Inv X pins σ H s):s.heap.FunFrames X.base X.stack:=by
  rcases I.ok.AY with e | ⟨e,hf⟩
  · rw[e];exact I.jX
  · rw[e];obtain⟨m,hn,_⟩:=I.loc;refine .cons (by rw[I.ok.kind];decide) hf hn ?_ I.jX;exact k9 (b7 I.ok.uD I.ok.above)
theorem Inv.oU (I:Inv X pins σ H s):∀b∈je X.stack,b∈X.env.locals::X.fs:=fun b hb=>by
  rcases I.ok.AY with e | ⟨e,hf⟩
  · rw[e] at hb;exact bD _ hb
  · rw[e] at hb;unfold je at hb;rw[ku,hf] at hb;exact hb
theorem Inv.lP (I:Inv X pins σ H s):∀b∈je X.stack,H b=none:=fun b hb=>by
  rcases aN.mp (I.oU b hb) with e | hb
  · rw[e];exact I.free
  · obtain⟨_,o,ho,_⟩:=I.ok.jX.mem hb;exact I.base.free b o ho (I.ok.wW b hb) fun z=>I.ok.sG b z hb
theorem Inv.step {g':Array GenState}{t':Nat}{d':Drawn}{ch:List ah}(I:Inv X pins σ H s)
    (vY:∀b∈ch,(b∈X.ex\/X.cY.heap.objs.size<=b)/\b≠X.env.locals/\(∀x c,X.env.cells.lookup x=some c->c≠b)/\∀p∈X.pn++pins,p.1≠b)
    (keep:∀b o,b≠X.env.locals->b ∉ X.fs->b ∉ ch->s.heap.get? b=some o->H b=none->h'.get? b=some o)
    (slot:∀b o,b≠X.env.locals->b∈X.fs->b ∉ ch->s.heap.get? b=some o->H b=none->∃sl,h'.get? b=some { o with slots:=sl }) (free:∀b o,b ∉ ch->s.heap.get? b=some o->H b=none->H' b=none)
    (there:∀b o,b ∉ ch->s.heap.get? b=some o->∃o',h'.get? b=some o')
    (lD:∀b xs,H b=some (.tup xs)->H' b=some (.tup xs)) (kU:∀b o u,H b=some (.ie o u)->H' b=some (.ie o u)) (lE:∀b ps,H b=some (.yU ps)->∃more,H' b=some (.yU (ps++more)))
    (ns:∀m,s.heap.Ns X.env.locals m->h'.Ns X.env.locals m) (bA:jM X.prog X.w H' h') (hg:AllBare g') :
    Inv X pins σ H' { s with heap:=h',gens:=g',drawn:=d',toks:=t' }:=by
  have KW:∀b o,X.cY.heap.get? b=some o->b≠X.env.locals:=fun b o e=>bq (dX (aI e) I.ok.above)
  have E6:∀b o,X.cY.heap.get? b=some o->b ∉ X.ex->b ∉ ch:=fun b o e hx hb=>by
    rcases (vY b hb).1 with z | z
    · exact hx z
    · exact absurd (dX (aI e) z) (eB _)
  have cellK:∀x c,X.env.cells.lookup x=some c->∀v,s.heap.IsCell c v->h'.IsCell c v:=fun x c e v ⟨o,ho,hd⟩=>by
    have BW:c ∉ ch:=fun z=>(vY c z).2.2.1 x c e rfl
    by_cases hc:c∈X.fs
    · obtain⟨sl,q⟩:=slot c o (I.uE x c e) hc BW ho (I.fm x c e);exact⟨_,q,hd⟩
    · exact⟨o,keep c o (I.uE x c e) hc BW ho (I.fm x c e),hd⟩
  refine⟨I.ok,I.os,hg,⟨fun b o e n hb hx=>?_,fun b o e n hb hx=>?_,fun b o e n hx=>?_,fun b o e hx=>?_,fun b xs e=>lD b xs (I.base.lD b xs e),fun b o xs e=>kU b o xs (I.base.kU b o xs e),fun b ps e=>?_⟩,?_,fun x c e=>?_,?_,fun x c e=>?_,fun p hp=>?_,bA,I.len⟩
  · exact keep b o (KW b o e) hb (E6 b o e hx) (I.base.keep b o e n hb hx) (I.base.free b o e n hx)
  · obtain⟨sl,e1⟩:=I.base.slot b o e n hb hx;obtain⟨yX,e2⟩:=slot b _ (KW b o e) hb (E6 b o e hx) e1 (I.base.free b o e n hx);exact⟨yX,e2⟩
  · obtain⟨o',e1⟩:=I.base.there b o e hx;exact free b o' (E6 b o e hx) e1 (I.base.free b o e n hx)
  · obtain⟨o',e1⟩:=I.base.there b o e hx;exact there b o' (E6 b o e hx) e1
  · obtain⟨m1,e1⟩:=I.base.lE b ps e;obtain⟨m2,e2⟩:=lE b _ e1;exact⟨m1++m2,by rw[e2,Array.append_assoc]⟩
  · obtain⟨m,hn,hl⟩:=I.loc;refine⟨m,ns m hn,fun i x v e1 e2 e3=>?_⟩;obtain⟨u,r,l⟩:=hl i x v e1 e2 e3;refine⟨u,r,?_⟩;rcases l with l | ⟨k,c,e,z⟩
    · exact .inl l
    · exact .inr ⟨k,c,e,cellK x c e _ z⟩
  · obtain⟨v,z⟩:=I.cell x c e;exact⟨v,cellK x c e v z⟩
  · obtain⟨m,⟨o,_,_,ho,_⟩,_⟩:=I.loc;exact free _ o (fun z=>(vY _ z).2.1 rfl) ho I.free
  · obtain⟨v,o,ho,hd⟩:=I.cell x c e;exact free c o (fun z=>(vY c z).2.2.1 x c e rfl) ho (I.fm x c e)
  · obtain⟨e,n,ne,nf,d⟩:=I.pin p hp;have BW:p.1 ∉ ch:=fun z=>(vY p.1 z).2.2.2 p hp rfl
    exact⟨keep p.1 p.2 ne nf BW e n,free p.1 p.2 BW e n,ne,nf,d⟩
theorem Inv.un {t':Nat}(I:Inv X pins σ H s) (u:Un X.fs [] H H' s.heap h') (bA:jM X.prog X.w H' h'):Inv X pins σ H' { s with heap:=h',toks:=t' }:=by
  obtain⟨m,⟨o,es,ep,ho,r⟩,_⟩:=id I.loc;obtain⟨sl,hL⟩:=u.any ho I.free (by simp);exact I.step (g':=s.gens) (d':=s.drawn) (ch:=[]) (fun _ z=>nomatch z) (fun b o _ hb _ e n=>u.keep b o e n hb (by simp)) (fun b o _ hb _ e n=>u.slot b o e n hb (by simp)) (fun b o _ e n=>u.free b o e n (by simp)) (fun b o _ e=>u.there b o e (by simp)) u.lD u.kU u.lE (fun m' hm=>by
    obtain⟨o',yj,wY,wX,r'⟩:=hm;rw[ho] at wX;cases wX;exact⟨_,yj,wY,hL,r'⟩) bA I.bare
theorem Inv.call {g':Array GenState}{t':Nat}{d':Drawn}{ch:List ah}(I:Inv X pins σ H s) (u:Un (je X.stack) ch H H' s.heap h') (bA:jM X.prog X.w H' h') (hg:AllBare g')
    (vY:∀b∈ch,(b∈X.ex\/X.cY.heap.objs.size<=b)/\b≠X.env.locals/\(∀x c,X.env.cells.lookup x=some c->c≠b)/\∀p∈X.pn++pins,p.1≠b) :
    Inv X pins σ H' { s with heap:=h',gens:=g',drawn:=d',toks:=t' }:=by
  obtain⟨m,⟨o,es,ep,ho,r⟩,_⟩:=id I.loc;obtain⟨sl,hL⟩:=u.any ho I.free fun z=>(vY _ z).2.1 rfl
  exact I.step (ch:=ch) vY (fun b o hL hb hc e n=>u.keep b o e n (fun z=>(aN.mp (I.oU b z)).elim hL hb) hc) (fun b o _ _ hc e n=>u.any e n hc) (fun b o hc e n=>u.free b o e n hc) (fun b o hc e=>u.there b o e hc) u.lD u.kU u.lE (fun m' hm=>by
    obtain⟨o',yj,wY,wX,r'⟩:=hm;rw[ho] at wX;cases wX;exact⟨_,yj,wY,hL,r'⟩) bA hg
theorem Inv.turned {t':Nat}{it:ah}(I:Inv X pins σ H s) (k:∀b o,b≠it->s.heap.get? b=some o->h'.get? b=some o) (hn:H it=none) (hL:it≠X.env.locals)
    (h1:it∈X.ex\/X.cY.heap.objs.size<=it) (h2:∀x c,X.env.cells.lookup x=some c->c≠it) (h3:∀p∈X.pn++pins,p.1≠it):Inv X pins σ H { s with heap:=h',toks:=t' }:=by
  have BX:∀b u,H b=some u->b≠it:=fun b u e z=>by rw[z,hn] at e;cases e
  refine I.step (g':=s.gens) (d':=s.drawn) (ch:=[it]) (fun b hb=>?_) (fun b o _ _ hc e _=>k b o (fun z=>hc (by simp[z])) e) (fun b o _ _ hc e _=>⟨o.slots,k b o (fun z=>hc (by simp[z])) e⟩) (fun _ _ _ _ n=>n)
    (fun b o hc e=>⟨o,k b o (fun z=>hc (by simp[z])) e⟩) (fun _ _ e=>e) (fun _ _ _ e=>e) (fun b ps e=>⟨#[],by rw[e];simp⟩) (fun m hm=>?_) (fun b u e=>?_) I.bare
  · have e:b=it:=by simpa using hb
    subst e;exact⟨h1,hL,h2,h3⟩
  · obtain⟨o,es,ep,ho,r⟩:=hm;exact⟨o,es,ep,k _ o (aD hL) ho,r⟩
  · refine (I.bA b u e).iy (fun c v hc q=>k c v ?_ q) (fun _ q=>q) fun _ _ q=>q
    rcases hc with z | z
    · rw[z];exact BX b u e
    · exact BX c _ z
theorem Inv.tok (I:Inv X pins σ H s) (t:Nat):Inv X pins σ H { s with toks:=t }:=I.un (h':=s.heap) (t':=t) Un.refl I.bA
theorem Inv.kept {t':Nat}(I:Inv X pins σ H s) (k:∀b u,s.heap.get? b=some u->h'.get? b=some u):Inv X pins σ H { s with heap:=h',toks:=t' }:=I.un (Un.kept k) (I.bA.kept k)
theorem Inv.laid {a:ah}{o:HO}{t':Nat}(I:Inv X pins σ H s) (k:∀b u,s.heap.get? b=some u->h'.get? b=some u) (hp:s.heap.objs.size<=a) (new:bU X.prog X.w (upd H a o) h' a o) :
    Inv X pins σ (upd H a o) { s with heap:=h',toks:=t' }:=I.un (Un.laid k hp (I.bA.fresh hp)) (I.bA.laid k hp new)
theorem Inv.write {x e:ah}{o:HO}{t':Nat}(I:Inv X pins σ H s) (mu:BU (H x)) (he:e=x\/H e=some (.own x)) (k:∀b u,b≠e->s.heap.get? b=some u->h'.get? b=some u) (AX:∃u,h'.get? e=some u)
    (new:bU X.prog X.w (upd H x o) h' x o):Inv X pins σ (upd H x o) { s with heap:=h',toks:=t' }:=I.un (Un.write mu he k AX) (I.bA.write mu he k AX new)
theorem Inv.rT {pN:aG}(I:Inv X pins σ H s) (h:∀p∈pN,s.heap.get? p.1=some p.2/\H p.1=none/\p.1≠X.env.locals/\p.1 ∉ X.fs/\∀v,p.2.data≠.cell v):Inv X pN σ H s:=
  ⟨I.ok,I.os,I.bare,I.base,I.loc,I.cell,I.free,I.fm,fun p hp=>(bM.mp hp).elim (fun z=>I.pin p (ee _ z)) (h p),I.bA,I.len⟩
theorem Hh {N:List Str}(hN:N.Nodup) {i j:Nat}{x:Str}(a:N[i]? = some x) (b:N[j]? = some x):i=j:=by
  obtain⟨h1,e1⟩:=bV.mp a;obtain⟨h2,e2⟩:=bV.mp b;exact (List.getElem_inj hN).mp (e1.trans e2.symm)
theorem KY {M:Model}{A:Around}{E:aA}{i:Nat}{x:Str}{v:V}{u:ai}{Q:Unit->au->Prop}(I:Inv X pins σ H s) (hN:X.N.Nodup) (hi:X.N[i]? = some x) (hx:Loc X.env.scope x) (r:RelV v u)
    (h:∀s',Inv X pins (σ.set i (some v)) H s'->(∃a,Heap.SameBut a s.heap s'.heap/\(a=X.env.locals\/X.env.cells.lookup x=some a))->Q () s') (hf:X.fn x=true\/X.env.scope.names.lookup x=some .local:=by first | exact .inl rfl | exact .inr rfl | assumption):wpAny M A (storeName X.env x u) Q E s:=by
  obtain⟨m,hn,hl⟩:=id I.loc;have yY:(X.env.scope.kind == .class||(X.env.scope.kind == .module&&X.env.locals != X.env.globals))=false:=by rw[I.ok.kind];rfl
  have BY:i<σ.length:=by rw[I.len];exact (bV.mp hi).1
  have uE:=I.uE;have tracked:∀{a:ah}{h':Heap},(∃o,s.heap.get? a=some o/\H a=none)->Heap.SameBut a s.heap h'->jM X.prog X.w H h':=fun {a h'} ha hs b ob e=>by
    obtain⟨_,_,yk⟩:=ha;refine (I.bA b ob e).iy (fun c w' hc q=>(hs.2 c ?_).trans q) (fun _ q=>q) fun _ _ q=>q
    rintro rfl;rcases hc with rfl | hc
    · rw[yk] at e;cases e
    · rw[yk] at hc;cases hc
  rcases hx with hk | hk
  · refine wpAny_storeName_local hk hn (fun h' AZ hs=>?_) yY;obtain⟨oL,_,_,KZ,_⟩:=id hn;refine h _ ⟨I.ok,I.os,I.bare,⟨fun b o e n hb hx=>?_,fun b o e n hb hx=>?_,I.base.free,fun b o e hx=>?_,I.base.lD,I.base.kU,I.base.lE⟩,⟨_,AZ,fun j y v' e1 e2 e3=>?_⟩,fun y c e=>?_,I.free,I.fm,fun p hp=>?_,tracked ⟨oL,KZ,I.free⟩ hs,by simpa using I.len⟩ ⟨_,hs,.inl rfl⟩
    · exact (hs.2 b (bq (dX (aI e) I.ok.above))).trans (I.base.keep b o e n hb hx)
    · obtain⟨sl,e1⟩:=I.base.slot b o e n hb hx;exact⟨sl,(hs.2 b (bq (dX (aI e) I.ok.above))).trans e1⟩
    · obtain⟨o',e1⟩:=I.base.there b o e hx;exact⟨o',(hs.2 b (bq (dX (aI e) I.ok.above))).trans e1⟩
    · by_cases hj:j=i
      · subst hj;rw[hi] at e1;cases e1;rw[om BY] at e2;cases e2;exact⟨u,r,.inl ⟨hk,by simp⟩⟩
      · rw[oA (aD hj)] at e2;obtain⟨u',r',q⟩:=hl j y v' e1 e2 e3;refine⟨u',r',?_⟩;rcases q with ⟨k,e⟩ | ⟨k,c,e,z⟩
        · refine .inl ⟨k,?_⟩;have:y≠x:=fun e=>hj (Hh hN e1 (e▸hi))
          simp[this,e]
        · exact .inr ⟨k,c,e,z.sameBut hs (uE y c e)⟩
    · obtain⟨w',z⟩:=I.cell y c e;exact⟨w',z.sameBut hs (uE y c e)⟩
    · obtain⟨e,n,ne,nf,d⟩:=I.pin p hp;exact⟨(hs.2 p.1 ne).trans e,n,ne,nf,d⟩
  · have Hi:X.fn x=true:=by
      rcases hf with z | z
      · exact z
      · rw[z] at hk;cases hk
    obtain⟨c,hc⟩:=I.ok.has x (.inl hk);obtain⟨w',z⟩:=I.cell x c hc;refine wpAny_storeName_cell I.ok.kind hk hc z (fun h' vZ hs=>?_);obtain⟨oc,K0,Hj⟩:=id z;refine h { s with heap:=h' } ⟨I.ok,I.os,I.bare,⟨fun b o e n hb hx=>?_,fun b o e n hb hx=>?_,I.base.free,fun b o e hx=>?_,I.base.lD,I.base.kU,I.base.lE⟩,⟨m,hn.sameBut hs (aD (uE x c hc)),fun j y v' e1 e2 e3=>?_⟩,fun y c' e=>?_,I.free,I.fm,fun p hp=>?_,tracked ⟨oc,K0,I.fm x c hc⟩ hs,by simpa using I.len⟩ ⟨c,hs,.inr hc⟩
    · exact (hs.2 b (bq (dX (aI e) (I.ok.yW x c Hi hc)))).trans (I.base.keep b o e n hb hx)
    · obtain⟨sl,e1⟩:=I.base.slot b o e n hb hx;exact⟨sl,(hs.2 b (bq (dX (aI e) (I.ok.yW x c Hi hc)))).trans e1⟩
    · obtain⟨o',e1⟩:=I.base.there b o e hx;exact⟨o',(hs.2 b (bq (dX (aI e) (I.ok.yW x c Hi hc)))).trans e1⟩
    · by_cases hj:j=i
      · subst hj;rw[hi] at e1;cases e1;rw[om BY] at e2;cases e2;exact⟨u,r,.inr ⟨.inl hk,c,hc,vZ⟩⟩
      · rw[oA (aD hj)] at e2;obtain⟨u',r',q⟩:=hl j y v' e1 e2 e3;refine⟨u',r',?_⟩;rcases q with q | ⟨k,c',e,z'⟩
        · exact .inl q
        · refine .inr ⟨k,c',e,z'.sameBut hs ?_⟩;rintro rfl;exact hj (Hh hN e1 (I.ok.inj _ _ _ e hc▸hi))
    · by_cases E8:c'=c
      · subst E8;exact⟨_,vZ⟩
      · obtain⟨w2,z2⟩:=I.cell y c' e;exact⟨w2,z2.sameBut hs E8⟩
    · obtain⟨e,n,ne,nf,d⟩:=I.pin p hp;refine⟨(hs.2 p.1 ?_).trans e,n,ne,nf,d⟩;intro q;rw[q,K0] at e;have q':oc=p.2:=cX e;exact d w' (by rw[←q'];exact Hj)
theorem A0 {M:Model}{A:Around}{E:aA}{i:Nat}{x:Str}{v:V}{u:ai}{Q:Unit->au->Prop}(I:Inv X pins σ H s) (hN:X.N.Nodup) (hi:X.N[i]? = some x) (hx:Loc X.env.scope x) (r:RelV v u)
    (h:∀s',Inv X pins (σ.set i (some v)) H s'->Q () s') (hf:X.fn x=true\/X.env.scope.names.lookup x=some .local:=by first | exact .inl rfl | exact .inr rfl | assumption):wpAny M A (storeName X.env x u) Q E s:=
  KY I hN hi hx r (fun s' I' _=>h s' I') hf
theorem Inv.rV {s':au}{ch:List ah}(I:Inv X pins σ H s) (ho:s'.os=s.os) (u:Un (je X.stack) ch H H' s.heap s'.heap) (bA:jM X.prog X.w H' s'.heap) (hg:AllBare s'.gens)
    (vY:∀b∈ch,(b∈X.ex\/X.cY.heap.objs.size<=b)/\b≠X.env.locals/\(∀x c,X.env.cells.lookup x=some c->c≠b)/\∀p∈X.pn++pins,p.1≠b):Inv X pins σ H' s':=by
  obtain⟨h',g',d',t',o'⟩:=s';have e:o'=s.os:=ho;subst e;exact I.call (g':=g') (t':=t') (d':=d') u bA hg vY
end
abbrev XK:=ai->Option ah->Hp->Prop
abbrev St:=List (Option V)
abbrev VK:=V->Hp->Prop
abbrev TE:=St->Hp->VK->Prop
abbrev TT:=St->Hp->(Bool->Hp->Prop)->Prop
abbrev TA:=St->Hp->(List V->Hp->Prop)->Prop
structure Ends where
  nx:St->Hp->Prop
  rt:VK
  bk:St->Hp->Prop:=fun _ _=>False
  ct:St->Hp->Prop:=fun _ _=>False
abbrev TS:=Ends->St->Hp->Prop
def EP (X:Cx) (pins:aG) (σ:St) (Q:VK) (u:ai) (s':au):Prop:=∃v H',Inv X pins σ H' s'/\RelV v u/\Q v H'
def TP (X:Cx) (pins:aG) (σ:St) (Q:Bool->Hp->Prop) (b:Bool) (s':au):Prop:=∃H',Inv X pins σ H' s'/\Q b H'
def AP (X:Cx) (pins:aG) (σ:St) (Q:List V->Hp->Prop) (us:List ai) (s':au):Prop:=∃vs H',Inv X pins σ H' s'/\Vals vs us/\Q vs H'
def SP (X:Cx) (pins:aG) (D:Ends) (f:Flow) (s':au):Prop:=
  match f with
  | .next=>∃aK H',Inv X pins aK H' s'/\D.nx aK H'
  | .brk=>∃aK H',Inv X pins aK H' s'/\D.bk aK H'
  | .cont=>∃aK H',Inv X pins aK H' s'/\D.ct aK H'
  | .ret u=>∃v aK H',Inv X pins aK H' s'/\RelV v u/\D.rt v H'
def PE (X:Cx) (e:Expr) (t:TE):Prop:=
  ∀(pins:aG) (s:au) (σ:St) (H:Hp) (Q:VK),Inv X pins σ H s->t σ H Q->wpAny (model X.prog X.w) X.A (eval e X.env) (EP X pins σ Q) X.xe s
def PT (X:Cx) (e:Expr) (t:TT):Prop:=
  ∀(pins:aG) (s:au) (σ:St) (H:Hp) (Q:Bool->Hp->Prop),Inv X pins σ H s->t σ H Q->wpAny (model X.prog X.w) X.A (isTrue e X.env (eval e X.env)) (TP X pins σ Q) X.xe s
def PW (X:Cx) (e:Expr) (t:TT):Prop:=
  ∀(whole:Sem ai) (pins:aG) (s:au) (σ:St) (H:Hp) (Q:Bool->Hp->Prop),Inv X pins σ H s->t σ H Q->wpAny (model X.prog X.w) X.A (isTrue e X.env whole) (TP X pins σ Q) X.xe s
theorem PW.pt {X:Cx}{e:Expr}{t:TT}(h:PW X e t):PT X e t:=h _
def PA (X:Cx) (es:List Expr) (t:TA):Prop:=
  ∀(pos:Pos) (pins:aG) (s:au) (σ:St) (H:Hp) (Q:List V->Hp->Prop),Inv X pins σ H s->t σ H Q->wpAny (model X.prog X.w) X.A (spliced (backTo pos (starEach es X.env))) (AP X pins σ Q) X.xe s
def PS (X:Cx) (st:Stmt) (t:TS):Prop:=
  ∀(pins:aG) (s:au) (σ:St) (H:Hp) (D:Ends),Inv X pins σ H s->t D σ H->wpAny (model X.prog X.w) X.A (exec st X.env) (SP X pins D) X.xe s
def pF (X:Cx) (st:List Stmt) (t:TS):Prop:=
  ∀(pins:aG) (s:au) (σ:St) (H:Hp) (D:Ends),Inv X pins σ H s->t D σ H->wpAny (model X.prog X.w) X.A (execs st X.env) (SP X pins D) X.xe s
theorem cA {α:Type}{t:Sem α}{Q Q':α->au->Prop}{M:Model}{A:Around}{E:aA}{s:au}(h:wpAny M A t Q E s) (hQ:∀a s,Q a s->Q' a s):wpAny M A t Q' E s:=b8 h hQ fun _ _ x=>x
section
variable {X:Cx}
theorem bin {a b:Expr}{ta tb:TE}(ha:PE X a ta) (hb:PE X b tb) {pins:aG}{s:au}{σ:St}{H:Hp}{R:V->V->Hp->Prop}(I:Inv X pins σ H s) (h:ta σ H fun x H1=>tb σ H1 fun y H2=>R x y H2)
    {α:Type}{Q:α->au->Prop}{f:ai->ai->Sem α}
    (hf:∀v u s2 x y H2,Inv X pins σ H2 s2->RelV x v->RelV y u->R x y H2->wpAny (model X.prog X.w) X.A (f v u) Q X.xe s2) :
    wpAny (model X.prog X.w) X.A (eval a X.env) (fun v bI=>wpAny (model X.prog X.w) X.A (eval b X.env) (fun u iQ=>wpAny (model X.prog X.w) X.A (f v u) Q X.xe iQ) X.xe bI) X.xe s:=by
  refine cA (ha pins s σ H _ I h) fun v s1 bg=>?_
  obtain⟨x,H1,I1,r1,q1⟩:=bg;refine cA (hb pins s1 σ H1 _ I1 q1) fun u s2 bg=>?_
  obtain⟨y,H2,I2,r2,q2⟩:=bg;exact hf v u s2 x y H2 I2 r1 r2 q2
inductive BZ (i:Nat) (σ:St) (H:Hp) (Q:VK):Prop
  | mk (v:V) (_:σ[i]? = some (some v)) (_:Q v H)
def wZ (i:Nat):TE:=fun σ H Q=>BZ i σ H Q
def tC (v:V):TE:=fun _ H Q=>Q v H
theorem QM {i:Nat}{x:Str}{pos:Pos}(hN:X.N[i]? = some x) (hv:G9 X.env.scope x) (hd:(x == ("__debug__" : Str))=false:=by decide) (qg:(x == ("__classdict__" : Str))=false:=by decide):PE X (.Name x pos) (wZ i):=by
  intro pins s σ H Q I h;obtain⟨v,e,h⟩:=h;obtain⟨m,hn,hl⟩:=I.loc;obtain⟨u,r,l⟩:=hl i x v hN e hv;have fin:EP X pins σ Q u s:=⟨v,H,I,r,h⟩;rcases l with ⟨hk,hm⟩ | ⟨hk,c,hc,yl⟩
  · exact wpAny_Name (wpAny_loadName_local I.ok.kind hk hn hm fin) hd
  · rcases hk with hk | hk
    · exact wpAny_Name (wpAny_loadName_cell I.ok.kind hk hc yl fin) hd
    · exact wpAny_Name (wpAny_loadName_free I.ok.kind hk hc yl fin qg) hd
theorem zh {i j pos}:PE X (.Constant (.int i) j pos) (tC (.int i)):=fun _ _ _ H _ I h=>wpAny_Constant_int ⟨.int i,H,I.tok _,⟨_,rfl⟩,h⟩
theorem sH {b j pos}:PE X (.Constant (.bool b) j pos) (tC (.bl b)):=fun _ _ _ H _ I h=>Constant_bool ⟨.bl b,H,I,rfl,h⟩
theorem QN {j pos}:PE X (.Constant .none j pos) (tC .dG):=fun _ _ _ H _ I h=>Constant_none ⟨.dG,H,I,rfl,h⟩
theorem ig {x j pos}:PE X (.Constant (.str x) j pos) (tC (.str x)):=fun _ _ _ H _ I h=>Calls.Constant_str ⟨.str x,H,I.tok _,⟨_,rfl⟩,h⟩
def Gl (X:Cx) (x:Str):Prop:=X.env.kindOf x=some .globalImplicit
theorem yZ {E:aA}{pins:aG}{s:au}{σ:St}{H:Hp}{x:Str}{u:ai}{pos:Pos}{Q:aA}(I:Inv X pins σ H s) (hg:Gl X x) (hm:X.mg x=some u) (h:Q u s)
    (hd:(x == ("__debug__" : Str))=false:=by decide):wpAny (model X.prog X.w) X.A (eval (.Name x pos) X.env) Q E s:=
  Calls.Name_function_global I.ok.kind hg (Calls.loadGlobal_global (by rw[I.ok.glob];exact I.mod.glob.keeps I.bk) hm h) hd
theorem B0 {E:aA}{pins:aG}{s:au}{σ:St}{H:Hp}{x:Str}{u:ai}{pos:Pos}{Q:aA}(I:Inv X pins σ H s) (hg:Gl X x) (hm:X.mg x=none) (hv:bootBuiltins x=some u) (h:Q u s)
    (hn:x≠"__name__":=by decide) (hd:(x == ("__debug__" : Str))=false:=by decide):wpAny (model X.prog X.w) X.A (eval (.Name x pos) X.env) Q E s:=by
  obtain⟨mb,h1,h2⟩:=I.mod.blt;exact Calls.Name_function_global I.ok.kind hg (Calls.loadGlobal_builtin (by rw[I.ok.glob];exact I.mod.glob.keeps I.bk) hm (by rw[I.ok.blt];exact h1.keeps I.bk) ((h2 x hn).trans hv) h) hd
theorem E9 {x:Str}{v:V}{u:ai}{pos:Pos}(hg:Gl X x) (hm:X.mg x=some u) (r:RelV v u) (hd:(x == ("__debug__" : Str))=false:=by decide):PE X (.Name x pos) (tC v):=
  fun _ _ _ H _ I h=>yZ I hg hm ⟨v,H,I,r,h⟩ hd
variable {a b:Expr}{ta tb:TE}{pos:Pos}
def PC (X:Cx) (op:CmpOp) (a b:Expr) (t:TE):Prop:=
  ∀(pins:aG) (s:au) (σ:St) (H:Hp) (Q:VK),Inv X pins σ H s->t σ H Q->
    wpAny (model X.prog X.w) X.A (eval a X.env) (fun v bI=>wpAny (model X.prog X.w) X.A (eval b X.env) (fun u iQ=>wpAny (model X.prog X.w) X.A (compareOp op v u) (EP X pins σ Q) X.xe iQ) X.xe bI) X.xe s
theorem K1 (b:Expr) {op:CmpOp}(h:op≠.In) (h2:op≠.NotIn):behindInMarks op b=false:=by
  have e1:(op == CmpOp.In)=false:=by cases op<;>first | rfl | exact absurd rfl h
  have e2:(op == CmpOp.NotIn)=false:=by cases op<;>first | rfl | exact absurd rfl h2
  cases b<;>simp[behindInMarks,e1,e2]
def QO (ta:TE):TE:=fun σ H Q=>ta σ H fun x H1=>Q (.bl (!decide (x = .dG))) H1
theorem RelV.uH {x:V}{v:ai}(r:RelV x v):(v == Value.none)=decide (x = .dG):=by
  cases x with
  | dG=>cases r;rfl
  | bl _=>cases r;rfl
  | int _=>obtain⟨t,rfl⟩:=r;rfl
  | str _=>obtain⟨t,rfl⟩:=r;rfl
  | sF _=>obtain⟨t,rfl⟩:=r;rfl
  | BS _=>obtain⟨t,rfl⟩:=r;rfl
  | ref _=>cases r;rfl
  | ty _=>cases r;rfl
theorem QS {j pos'}(ha:PE X a ta):PC X .IsNot a (.Constant .none j pos') (QO ta):=by
  intro pins s σ H Q I h;refine cA (ha pins s σ H _ I h) fun v s1 bg=>?_
  obtain⟨x,H1,I1,r1,q1⟩:=bg;exact Constant_none (isnot_none_gen ⟨.bl _,H1,I1,by rw[r1.uH];rfl,q1⟩)
def tB (t:TE):TT:=fun σ H Q=>t σ H fun x H1=>∃c,x = .bl c/\Q c H1
theorem K2 {op:CmpOp}{t:TE}(h:PC X op a b t) (h1:behindInMarks op b=false:=by first | exact K1 _ (by decide) (by decide) | rfl):PE X (.Compare a [op] [b] pos) t:=fun pins s σ H Q I hw=>wpAny_Compare1 (h pins s σ H Q I hw) h1
theorem ym {op:CmpOp}{t:TE}(h:PC X op a b t) (h1:behindInMarks op b=false:=by first | exact K1 _ (by decide) (by decide) | rfl):PT X (.Compare a [op] [b] pos) (tB t):=by
  intro pins s σ H Q I hw;refine wpAny_isTrue_Compare1 (cA (h pins s σ H _ I hw) fun v s1 h1=>cA h1 fun u s2 h2=>cA h2 fun c s3 bg=>?_) h1;obtain⟨x,H1,I1,r1,q1⟩:=bg;obtain⟨d,rfl,q⟩:=q1;cases r1;exact iJ ⟨H1,I1,q⟩
theorem wc {e:Expr}{t:TE}(h:PE X e t) (he:∀whole,isTrue e X.env whole=(do let v ←whole;standAt e.pos;holding [v] (truthy v)):=by intro _;rfl):PT X e (tB t):=by
  intro pins s σ H Q I hw;refine isTrue_plain (cA (h pins s σ H _ I hw) fun v s1 bg=>?_) (he _);obtain⟨x,H1,I1,r1,q1⟩:=bg;obtain⟨d,rfl,q⟩:=q1;cases r1;exact iJ ⟨H1,I1,q⟩
variable {tA Fb:TT}{rest:List Expr}
def B8 (t u:TT):TT:=fun σ H Q=>t σ H fun c H1=>if c=true then u σ H1 Q else Q false H1
def QT (t u:TT):TT:=fun σ H Q=>t σ H fun c H1=>if c=true then Q true H1 else u σ H1 Q
def B9 (t:TT):TT:=fun σ H Q=>t σ H fun c H1=>Q (!c) H1
theorem w9 (ha:PT X a tA):PW X (.BoolOp .And [a] pos) tA:=by
  intro wh pins s σ H Q I h;refine isTrue_and (cA (ha pins s σ H Q I h) fun c s1 e=>?_);cases c with
  | true=>exact isTrue_and_nil e
  | false=>exact e
theorem Fc (ha:PT X a tA):PW X (.BoolOp .Or [a] pos) tA:=by
  intro wh pins s σ H Q I h;refine isTrue_or (cA (ha pins s σ H Q I h) fun c s1 e=>?_);cases c with
  | false=>exact isTrue_or_nil e
  | true=>exact e
theorem xg (ha:PT X a tA) (hb:PW X (.BoolOp .And (b::rest) pos) Fb):PW X (.BoolOp .And (a::b::rest) pos) (B8 tA Fb):=by
  intro wh pins s σ H Q I h;refine isTrue_and (cA (ha pins s σ H _ I h) fun c s1 bg=>?_);obtain⟨H1,I1,q1⟩:=bg;cases c with
  | true=>exact hb wh pins s1 σ H1 Q I1 q1
  | false=>exact⟨H1,I1,q1⟩
theorem Ca (ha:PT X a tA) (hb:PW X (.BoolOp .Or (b::rest) pos) Fb):PW X (.BoolOp .Or (a::b::rest) pos) (QT tA Fb):=by
  intro wh pins s σ H Q I h;refine isTrue_or (cA (ha pins s σ H _ I h) fun c s1 bg=>?_);obtain⟨H1,I1,q1⟩:=bg;cases c with
  | true=>exact⟨H1,I1,q1⟩
  | false=>exact hb wh pins s1 σ H1 Q I1 q1
theorem xh (ha:PT X a tA):PT X (.UnaryOp .Not a pos) (B9 tA):=by
  intro pins s σ H Q I h;exact isTrue_not (ha pins s σ H (fun c H1=>Q (!c) H1) I h)
def QU (ta tb:TE):TE:=fun σ H Q=>ta σ H fun x H1=>∃c,x = .bl c/\if c=true then tb σ H1 Q else Q (.bl false) H1
theorem Fd {op}{t:TE}(h:PE X a t):PE X (.BoolOp op [a] pos) t:=fun pins s σ H Q I hw=>BoolOp_one (h pins s σ H Q I hw)
theorem y9 (ha:PE X a ta) (hb:PE X (.BoolOp .And (b::rest) pos) tb):PE X (.BoolOp .And (a::b::rest) pos) (QU ta tb):=by
  intro pins s σ H Q I h;refine BoolOp_and (cA (ha pins s σ H _ I h) fun v s1 bg=>?_);obtain⟨x,H1,I1,r1,q1⟩:=bg;obtain⟨c,rfl,q1⟩:=q1;cases r1;refine iJ ?_;cases c with
  | true=>exact hb pins s1 σ H1 Q I1 q1
  | false=>exact⟨.bl false,H1,I1,rfl,q1⟩
def QV (t:TT) (ta tb:TE):TE:=fun σ H Q=>t σ H fun c H1=>if c=true then ta σ H1 Q else tb σ H1 Q
theorem QW {c:Expr}(hc:PT X c tA) (ha:PE X a ta) (hb:PE X b tb):PE X (.IfExp c a b pos) (QV tA ta tb):=by
  intro pins s σ H Q I h;refine wpAny_IfExp (cA (hc pins s σ H _ I h) fun d s1 bg=>?_);obtain⟨H1,I1,q1⟩:=bg;cases d with
  | true=>exact ha pins s1 σ H1 Q I1 q1
  | false=>exact hb pins s1 σ H1 Q I1 q1
end
def aJ (K:aF) (H:Hp) (a:ah) (xs:List V):Prop:=
  Rd H a (.lst xs)\/
    ∃(o:Obj) (its:Array ai) (n:Nat),K.lookup a=some o/\o.cls = .type "list"/\o.dict=none/\o.data = .seq its n/\its.size<=sizeLine/\Vals xs its.toList
def bu (K:aF) (H:Hp) (a:ah) (xs:List V):Prop:=
  Rd H a (.tup xs)\/
    ∃(o:Obj) (its:Array ai) (n:Nat),K.lookup a=some o/\o.cls = .type "tuple"/\o.data = .seq its n/\its.size<=sizeLine/\Vals xs its.toList
def Cb:ai->Option V
  | .none=>some .dG
  | .bool b=>some (.bl b)
  | .int i _=>some (.int i)
  | .str x _=>some (.str x)
  | .bytes b _=>some (.sF b)
  | .float b _=>some (.BS b)
  | .ref a=>some (.ref a)
  | .type n=>some (.ty n)
  | _=>none
theorem RelV.abs {x:V}{u:ai}(r:RelV x u):Cb u=some x:=by
  cases x with
  | dG=>cases r;rfl
  | bl _=>cases r;rfl
  | int _=>obtain⟨t,rfl⟩:=r;rfl
  | str _=>obtain⟨t,rfl⟩:=r;rfl
  | sF _=>obtain⟨t,rfl⟩:=r;rfl
  | BS _=>obtain⟨t,rfl⟩:=r;rfl
  | ref _=>cases r;rfl
  | ty _=>cases r;rfl
theorem RelV.inj {x y:V}{u:ai}(r:RelV x u) (q:RelV y u):x=y:=cX (r.abs.symm.trans q.abs)
theorem Vals.inj:∀{xs ys:List V}{us:List ai},Vals xs us->Vals ys us->xs=ys
  | _,_,_,.nil,.nil=>rfl
  | _,_,_,.cons r t,.cons r' t'=>by rw[r.inj r',Vals.inj t t']
section
variable {X:Cx}{pins:aG}{σ:St}{H:Hp}{s:au}{a:ah}{xs ys:List V}
theorem aJ.of {K:aF}(h:H a=some (.lst xs)):aJ K H a xs:=.inl (.inl h)
theorem bu.of {K:aF}(h:H a=some (.tup xs)):bu K H a xs:=.inl (.inl h)
theorem Inv.list (I:Inv X pins σ H s) (h:aJ X.K H a xs):∃its:List ai,Vals xs its/\PlainL s.heap a its.toArray/\xs.length<=sizeLine:=by
  rcases h with h | ⟨o,its,n,hk,hc,hd,hs,hz,r⟩
  · obtain⟨z,its,n,r,e⟩:=h.ok I.bA;exact⟨its,r,⟨_,n,e,rfl,rfl,rfl⟩,z⟩
  · refine⟨its.toList,r,⟨o,n,I.lF a o hk,hc,hd,by simpa using hs⟩,?_⟩;have e:=r.length;simp only [jq] at e;lia
theorem Inv.tuple (I:Inv X pins σ H s) (h:bu X.K H a xs):∃its:List ai,Vals xs its/\IsTup s.heap a its.toArray/\xs.length<=sizeLine:=by
  rcases h with h | ⟨o,its,n,hk,hc,hs,hz,r⟩
  · obtain⟨z,its,r,p⟩:=h.ok I.bA;exact⟨its,r,p,z⟩
  · refine⟨its.toList,r,⟨o,I.lF a o hk,hc,n,by simpa using hs⟩,?_⟩;have e:=r.length;simp only [jq] at e;lia
theorem Inv.jY (I:Inv X pins σ H s) (h:aJ X.K H a xs) (h':aJ X.K H a ys):xs=ys:=by
  obtain⟨its,r,⟨o,n,e,_,_,d⟩,_⟩:=I.list h;obtain⟨its',r',⟨o',n',e',_,_,d'⟩,_⟩:=I.list h';rw[e] at e';cases e';rw[d] at d';injection d' with d1 _
  have:its=its':=by simpa using bT Array.toList d1
  subst this;exact r.inj r'
theorem Inv.sI (I:Inv X pins σ H s) (h:bu X.K H a xs) (h':bu X.K H a ys):xs=ys:=by
  obtain⟨its,r,⟨o,e,_,n,d⟩,_⟩:=I.tuple h;obtain⟨its',r',⟨o',e',_,n',d'⟩,_⟩:=I.tuple h';rw[e] at e';cases e';rw[d] at d';injection d' with d1 _
  have:its=its':=by simpa using bT Array.toList d1
  subst this;exact r.inj r'
end
abbrev Cx.nE (X:Cx) (E:aA):Cx:={ X with xe:=E }
abbrev Cx.A1 (X:Cx):Cx:=X.nE fun _ _=>False
theorem Cx.Ok.nE {X:Cx}(ok:X.Ok) (E:aA):(X.nE E).Ok:=
  ⟨ok.mod,ok.kind,ok.glob,ok.blt,ok.above,ok.inj,ok.has,ok.yW,ok.hd,ok.frames,ok.AY,ok.E5,ok.bs,ok.uD,ok.qN,ok.sG,ok.jX,ok.wW⟩
theorem Cx.Ok.iR {X:Cx}{E:aA}(ok:(X.nE E).Ok):X.Ok:=
  ⟨ok.mod,ok.kind,ok.glob,ok.blt,ok.above,ok.inj,ok.has,ok.yW,ok.hd,ok.frames,ok.AY,ok.E5,ok.bs,ok.uD,ok.qN,ok.sG,ok.jX,ok.wW⟩
section
variable {X:Cx}{pins:aG}{σ:St}{H:Hp}{s:au}{E:aA}
theorem Inv.nE (I:Inv X pins σ H s) (E:aA):Inv (X.nE E) pins σ H s:=⟨I.ok.nE E,I.os,I.bare,I.base,I.loc,I.cell,I.free,I.fm,I.pin,I.bA,I.len⟩
theorem Inv.iR (I:Inv (X.nE E) pins σ H s):Inv X pins σ H s:=⟨I.ok.iR,I.os,I.bare,I.base,I.loc,I.cell,I.free,I.fm,I.pin,I.bA,I.len⟩
theorem SP.iR {D:Ends}{f:Flow}{s':au}(h:SP (X.nE E) pins D f s'):SP X pins D f s':=by
  cases f with
  | next=>obtain⟨aK,H',I,q⟩:=h;exact⟨aK,H',I.iR,q⟩
  | brk=>obtain⟨aK,H',I,q⟩:=h;exact⟨aK,H',I.iR,q⟩
  | cont=>obtain⟨aK,H',I,q⟩:=h;exact⟨aK,H',I.iR,q⟩
  | ret u=>obtain⟨v,aK,H',I,r,q⟩:=h;exact⟨v,aK,H',I.iR,r,q⟩
theorem pF.A1 {st:List Stmt}{t:TS}(h:pF X.A1 st t):pF X st t:=fun pins s σ H D I hw=>
  b8 (h pins s σ H D (I.nE _) hw) (fun _ _ q=>q.iR) fun _ _ z=>False.elim z
end
section
variable {X:Cx}{st:Stmt}{rest:List Stmt}{t u:TS}{e:Expr}{te:TE}{pos:Pos}
def qh:TS:=fun D σ H=>D.nx σ H
def xj (t u:TS):TS:=fun D σ H=>t { D with nx:=u D } σ H
theorem fW:pF X [] qh:=fun _ _ σ H _ I h=>mO ⟨σ,H,I,h⟩
theorem zc (h1:PS X st t) (h2:pF X rest u):pF X (st::rest) (xj t u):=by
  intro pins s σ H D I h;refine wpAny_execs_cons (cA (h1 pins s σ H { D with nx:=u D } I h) fun f s1 q=>?_);cases f with
  | next=>
    obtain⟨aK,H',I',q⟩:=q;exact h2 pins s1 aK H' D I' q
  | ret v=>exact q
  | brk=>exact q
  | cont=>exact q
theorem zi (h1:PS X st t):pF X [st] t:=by
  intro pins s σ H D I h;refine wpAny_execs_cons (cA (h1 pins s σ H D I h) fun f s1 q=>?_);cases f with
  | next=>exact mO q
  | ret v=>exact q
  | brk=>exact q
  | cont=>exact q
theorem Inv.quiet {pins:aG}{σ:St}{H:Hp}{s:au}(I:Inv X pins σ H s):interactive X.env=false:=by simp[interactive,I.ok.kind]
def QX (te:TE):TS:=fun D σ H=>te σ H fun _ H1=>D.nx σ H1
theorem ko (he:PE X e te) (hs:swapsWith e none pos.line X.env=pure false:=by rfl):PS X (.Expr e pos) (QX te):=by
  intro pins s σ H D I h;exact wpAny_Expr_any (cA (he pins s σ H _ I h) fun v s1 ⟨x,H1,I1,r1,q1⟩=>⟨σ,H1,I1,q1⟩) I.quiet hs
def Hl (te:TE):TS:=fun D σ H=>te σ H D.rt
theorem zz (he:PE X e te):PS X (.Return (some e) pos) (Hl te):=by
  intro pins s σ H D I h;exact wpAny_Return_some (cA (he pins s σ H _ I h) fun v s1 ⟨x,H1,I1,r1,q1⟩=>⟨x,σ,H1,I1,r1,q1⟩)
def uI (c:TT) (t u:TS):TS:=fun D σ H=>c σ H fun b H1=>if b=true then t D σ H1 else u D σ H1
theorem fQ {c:Expr}{a b:List Stmt}{tc:TT}(hc:PT X c tc) (ha:pF X a t) (hb:pF X b u):PS X (.If c a b pos) (uI tc t u):=by
  intro pins s σ H D I h;refine wpAny_If (cA (hc pins s σ H _ I h) fun d s1 bg=>?_);obtain⟨H1,I1,q1⟩:=bg;cases d with
  | true=>exact ha pins s1 σ H1 D I1 q1
  | false=>exact hb pins s1 σ H1 D I1 q1
def QY:TS:=fun _ _ _=>False
theorem QZ:PS X st QY:=fun _ _ _ _ _ _ h=>h.elim
end
abbrev TG:=V->St->Hp->(St->Hp->Prop)->Prop
abbrev yo:=List V->St->Hp->(St->Hp->Prop)->Prop
def PG (X:Cx) (target:Expr) (t:TG):Prop:=
  ∀(pins:aG) (s:au) (σ:St) (H:Hp) (v:V) (u:ai) (Q:St->Hp->Prop),Inv X pins σ H s->RelV v u->t v σ H Q->
    wpAny (model X.prog X.w) X.A (assign target X.env u) (fun _ s'=>∃aK H',Inv X pins aK H' s'/\Q aK H') X.xe s
def Cc (X:Cx) (ts:List Expr) (t:yo):Prop:=
  ∀(pins:aG) (s:au) (σ:St) (H:Hp) (vs:List V) (us:List ai) (Q:St->Hp->Prop),Inv X pins σ H s->Vals vs us->t vs σ H Q->
    wpAny (model X.prog X.w) X.A (assignInOrder ((assignEach ts X.env).map (·.2)) us) (fun _ s'=>∃aK H',Inv X pins aK H' s'/\Q aK H') X.xe s
section
variable {X:Cx}{pos:Pos}
def zx (i:Nat):TG:=fun v σ H Q=>Q (σ.set i (some v)) H
theorem mS {i:Nat}{x:Str}(hN:X.N.Nodup) (hi:X.N[i]? = some x) (hx:Loc X.env.scope x) (hf:X.fn x=true\/X.env.scope.names.lookup x=some .local:=by first | exact .inl rfl | exact .inr rfl | assumption):PG X (.Name x pos) (zx i):=by
  intro pins s σ H v u Q I r h;exact wpAny_assign_Name (A0 I hN hi hx r (fun s' I'=>⟨_,H,I',h⟩) hf)
def Ho:yo:=fun vs σ H Q=>vs = []/\Q σ H
def Q0 (t:TG) (u:yo):yo:=fun vs σ H Q=>∃v r,vs=v::r/\t v σ H fun aK H'=>u r aK H' Q
theorem ud:Cc X [] Ho:=by
  intro pins s σ H vs us Q I r h;obtain⟨e,h⟩:=h;subst e;cases r;exact assignInOrder_nil ⟨σ,H,I,h⟩
theorem lQ {e:Expr}{es:List Expr}{t:TG}{u:yo}(h1:PG X e t) (h2:Cc X es u)
    (hs:(assignEach (e::es) X.env).map (·.2)=assign e X.env::(assignEach es X.env).map (·.2):=by rfl):Cc X (e::es) (Q0 t u):=by
  intro pins s σ H vs us Q I r h;obtain⟨v,vr,e1,h⟩:=h;subst e1;cases r with
  | cons r rr=>
    rw[hs];refine assignInOrder_cons (cA (h1 pins s σ H _ _ _ I r h) fun _ s1 bg=>?_);obtain⟨we,H1,I1,q1⟩:=bg;exact h2 pins s1 we H1 _ _ Q I1 rr q1
def Cd (K:aF) (n:Nat) (t:yo):TG:=fun v σ H Q=>∃a xs,v = .ref a/\bu K H a xs/\xs.length=n/\t xs σ H Q
theorem Q2 {es:List Expr}{k:Nat}{t:yo}{n:Nat}(hc:X.calm=true) (h:Cc X es t)
    (hn:(assignEach es X.env).length=n:=by rfl) (sJ:(assignEach es X.env).findIdx? (·.1)=none:=by rfl):PG X (.Tuple es k pos) (Cd X.K n t):=by
  intro pins s σ H v u Q I r hw;obtain⟨a,xs,e1,hq,hl,hw⟩:=hw;subst e1;cases r;obtain⟨its,rv,ht,hz⟩:=I.tuple hq;refine assign_Tuple_tuple (I.ok.hd hc) ht (by simp[hn,←hl,rv.length]) sJ fun h' hx=>?_
  have I1:Inv X pins σ H { s with heap:=h' }:=I.kept (t':=s.toks) fun b o e=>hx b o (bq (aI e)) e
  exact h pins _ σ H xs _ Q I1 (by simpa using rv) hw
def zA (te:TE) (g:TG):TS:=fun D σ H=>te σ H fun x H1=>g x σ H1 D.nx
theorem Q3 {i:Nat}{x:Str}{e:Expr}{te:TE}{pos':Pos}(hN:X.N.Nodup) (hi:X.N[i]? = some x) (hx:Loc X.env.scope x) (he:PE X e te) (hs:swapsWith e (some (.Name x pos')) pos.line X.env=pure false:=by rfl) (hf:X.fn x=true\/X.env.scope.names.lookup x=some .local:=by first | exact .inl rfl | exact .inr rfl | assumption) :
    PS X (.Assign [.Name x pos'] e pos) (zA te (zx i)):=by
  intro pins s σ H D I h;refine wpAny_Assign_Name (cA (he pins s σ H _ I h) fun v s1 bg=>?_) hs;obtain⟨y,H1,I1,r1,q1⟩:=bg;exact A0 I1 hN hi hx r1 (fun s2 I2=>⟨_,H1,I2,q1⟩) hf
def Hq (i j:Nat) (ta:TA):TS:=fun D σ H=>ta σ H fun vs H1=>∃v w,vs = [v,w]/\D.nx ((σ.set i (some v)).set j (some w)) H1
theorem Q4 {i j:Nat}{x y:Str}{a b:Expr}{ta:TA}{px py pt:Pos} {kt k2 Ce}(hc:X.calm=true) (hN:X.N.Nodup) (hi:X.N[i]? = some x) (hj:X.N[j]? = some y) (qi:i≠j)
    (hx:X.env.scope.names.lookup x=some .local) (hy:X.env.scope.names.lookup y=some .local) (ha:PA X [a,b] ta)
    (hw:swappedStores [.Tuple [.Name x px,.Name y py] kt pt] (.Tuple [a,b] k2 Ce) X.env=pure (some [x,y]))
    (hs:swapsWithSole [.Tuple [.Name x px,.Name y py] kt pt] (.Tuple [a,b] k2 Ce) pos.line X.env=pure false:=by rfl) :
    PS X (.Assign [.Tuple [.Name x px,.Name y py] kt pt] (.Tuple [a,b] k2 Ce) pos) (Hq i j ta):=by
  intro pins s σ H D I h;rw[exec_Assign_arm];refine aj (gp ?_);rw[hs];refine aj (az ?_);rw[ao (by decide)];refine aj (Tuple_ (cA (ha _ pins s σ H _ I h) fun us s1 bg=>?_));obtain⟨vs,H1,I1,r1,q1⟩:=bg;obtain⟨v,w,e1,q1⟩:=q1;subst e1;obtain⟨u1,u2,rfl,rv,iY⟩:∃u1 u2,us = [u1,u2]/\RelV v u1/\RelV w u2:=by
    cases r1 with
    | cons p q=>
      cases q with
      | cons p' q'=>
        cases q';exact⟨_,_,rfl,p,p'⟩
  refine fh ?_ (by show 2<=sizeLine;decide);have I2:Inv X pins σ H1 { s1 with heap:=s1.heap.push { cls:=.type "tuple",data:=.seq [u1,u2].toArray } }:=I1.kept (t':=s1.toks) fun b o e=>bC _ e
  rw[hw];refine aj (az ?_);show wpAny (model X.prog X.w) X.A (do rule "assign.swapped-stores";let items ←unpackItems (.ref s1.heap.objs.size) 2 none;assignInOrder [fun v=>bindName X.env y v,fun v=>bindName X.env x v] items.reverse;pure Flow.next) _ _ _;refine aj (gv (aj (unpackItems_tuple (items:=#[u1,u2]) (I.ok.hd hc) (IsTup.new s1.heap _) fun h' Hr=>?_)));have I3:=I2.kept (h':=h') (t':=s1.toks) fun b o e=>Hr b o (bq (aI e)) e
  show wpAny _ _ (assignInOrder [fun v=>bindName X.env y v,fun v=>bindName X.env x v] [u2,u1] >>= fun _=>pure Flow.next) _ _ _;refine aj (assignInOrder_cons (wpAny_bindName (A0 I3 hN hj (.inl hy) iY (fun s2 I4=>?_) (.inr hy))));refine assignInOrder_cons (wpAny_bindName (A0 I4 hN hi (.inl hx) rv (fun s3 I5=>assignInOrder_nil (az ?_)) (.inr hx)));rw[List.set_comm _ _ (aD qi)] at I5;exact⟨_,H1,I5,q1⟩
end
section
variable {X:Cx}{pos:Pos}
def Q5 (c:TT) (tb:TS):TS:=fun D σ H=>∃W:Nat->St->Hp->Prop,(∃m,W m σ H)/\∀m σ H,W m σ H->
  c σ H fun b H1=>if b=true then ∃N:St->Hp->Prop,(∀aK H',N aK H'->∃m',m'<m/\W m' aK H')/\tb { D with nx:=N,ct:=N,bk:=D.nx } σ H1 else D.nx σ H1
theorem A2 {c:Expr}{body:List Stmt}{tc:TT}{tb:TS}(hp:PassesOwn (model X.prog X.w) X.A X.env X.xe) (hc:PT X c tc) (hb:pF X body tb):PS X (.While c body [] pos) (Q5 tc tb):=by
  intro pins s σ H D I h;obtain⟨W,⟨m0,w0⟩,turn⟩:=h;refine wpAny_While (codeAny_whileLoop (fun n s'=>∃aK H',Inv X pins aK H' s'/\W n aK H') ?_ m0 ⟨σ,H,I,w0⟩);rintro n s1 ⟨we,H1,I1,w1⟩;refine jF hp (cA (hc pins s1 we H1 _ I1 (turn n we H1 w1)) fun b s2 bg=>?_);obtain⟨H2,I2,q2⟩:=bg;cases b with
  | true=>
    obtain⟨N,hN,q2⟩:=q2;rw[aq rfl];refine jF hp (cA (hb pins s2 we H2 _ I2 q2) fun f s3 q3=>?_);cases f with
    | next=>
      obtain⟨nF,H3,I3,n3⟩:=q3;obtain⟨m',hm,w3⟩:=hN nF H3 n3;exact⟨m',hm,nF,H3,I3,w3⟩
    | cont=>
      obtain⟨nF,H3,I3,n3⟩:=q3;obtain⟨m',hm,w3⟩:=hN nF H3 n3;exact⟨m',hm,nF,H3,I3,w3⟩
    | brk=>exact q3
    | ret v=>exact q3
  | false=>
    rw[ao bJ];exact mO ⟨we,H2,I2,q2⟩
end
structure It where
  go:Nat->Hp->Prop
  ue:Nat->Hp->V->Hp->Prop
  stop:Nat->Hp->Prop
def gW (X:Cx) (pins:aG) (H:Hp) (b:ah):Prop:=
  H b=none/\b≠X.env.locals/\b ∉ X.fs/\(b∈X.ex\/X.cY.heap.objs.size<=b)/\(∀x c,X.env.cells.lookup x=some c->c≠b)/\∀p∈X.pn++pins,p.1≠b
theorem Inv.oV {X:Cx}{pins:aG}{σ:St}{H H':Hp}{s:au}{b:ah}(I:Inv X pins σ H s) (hb:s.heap.objs.size<=b) (hn:H' b=none):gW X pins H' b:=by
  refine⟨hn,jJ (dX I.lt hb),I.Hg hb,.inr (b7 I.sz hb),fun x c e z=>?_,fun p hp z=>?_⟩
  · obtain⟨v,q⟩:=I.cell x c e;exact absurd (dX q.lt (by rw[z];exact hb)) (eB _)
  · exact absurd (dX (aI (I.pin p hp).1) (by rw[z];exact hb)) (eB _)
structure Turn (P:aU) (w:World) (K:aF) (tg:Expr) (J:It) (fp:List ah) (it:ah) (tn:Nat->Heap->Prop):Prop where
  mem:it∈fp
  obj:∀i h,tn i h->∀b∈fp,∃o,h.get? b=some o/\∀v,o.data≠.cell v
  keep:∀i h h',tn i h->(∀b∈fp,∀o,h.get? b=some o->h'.get? b=some o)->tn i h'
  item:∀(X:Cx),X.prog=P->X.w=w->X.K=K->X.calm=true->∀(i:Nat) (pins:aG) (s:au) (σ:St) (H:Hp) (E:aA),Inv X pins σ H s->(∀b∈fp,gW X pins H b)->tn i s.heap->J.go i H->
    wpAny (model P w) X.A (pyNext (.ref it)) (fun r s1=>∃u,r=some u/\
      wpAny (model P w) X.A (letOwnedTupleGo tg (.ref it) u) (fun _ s2=>∃x H',Inv X pins σ H' s2/\RelV x u/\J.ue i H x H'/\tn (i+1) s2.heap/\∀b∈fp,H' b=none) E s1) E s
  done:∀(X:Cx),X.prog=P->X.w=w->X.K=K->X.calm=true->∀(i:Nat) (pins:aG) (s:au) (σ:St) (H:Hp) (E:aA),Inv X pins σ H s->(∀b∈fp,gW X pins H b)->tn i s.heap->J.stop i H->
    wpAny (model P w) X.A (pyNext (.ref it)) (fun r s1=>r=none/\Inv X pins σ H s1) E s
  self:∀(A:Around) (i:Nat) (s:au) (Q:aA) (E:aA),tn i s.heap->Q (.ref it) s->wpAny (model P w) A (pyIter (.ref it)) Q E s
abbrev TI:=St->Hp->(It->Hp->Prop)->Prop
def Hs (X:Cx) (pins:aG) (σ:St) (tg:Expr) (R:It->Hp->Prop) (zB:ai) (s2:au):Prop:=
  ∃(it:ah) (fp:List ah) (tn:Nat->Heap->Prop) (J:It) (H':Hp),zB = .ref it/\Inv X pins σ H' s2/\Turn X.prog X.w X.K tg J fp it tn/\tn 0 s2.heap/\(∀b∈fp,gW X pins H' b)/\R J H'
def PI (X:Cx) (tg iter:Expr) (wi:TI):Prop:=
  ∀(pins:aG) (s:au) (σ:St) (H:Hp) (R:It->Hp->Prop),Inv X pins σ H s->wi σ H R->
    wpAny (model X.prog X.w) X.A (eval iter X.env) (fun v s1=>wpAny (model X.prog X.w) X.A (pyIter v) (Hs X pins σ tg R) X.xe s1) X.xe s
theorem Fe {M:Model}{A:Around}{E:aA}{s:au}{tg:Expr}{it:ah}{u:ai}{o:Obj}{n:String}{vs:Array ai}{Q:Unit->au->Prop}(ho:s.heap.get? it=some o) (hc:o.cls = .type n) (hd:o.data = .fields vs)
    (hn : ["enumerate","zip","dict_itemiterator","dict_reverseitemiterator","odict_iterator","itertools.zip_longest","itertools.pairwise"].contains n=false) (hQ:Q () s):wpAny M A (letOwnedTupleGo tg (.ref it) u) Q E s:=by
  unfold letOwnedTupleGo;cases tg<;>first
    | exact az hQ
    | (cases u<;>first
        | exact az hQ
        | (refine aj (wpAny_load ho ?_)
           rw[hc,hd];show wpAny M A (if (["enumerate","zip","dict_itemiterator","dict_reverseitemiterator","odict_iterator","itertools.zip_longest","itertools.pairwise"].contains n&&vs[0]? == some (rawInt _))=true then _ else _) Q E s;rw[ao (by intro h;rw[hn,Bool.false_and] at h;cases h)];exact az hQ))
def A3 (K:aF) (a:ah):It:=
  ⟨fun i H=>∃xs x,aJ K H a xs/\xs[i]? = some x,fun i H x H'=>H'=H/\∀xs,aJ K H a xs->xs[i]? = some x,fun i H=>∃xs,aJ K H a xs/\xs.length<=i⟩
def zC (lo:Int) (n:Nat):It:=⟨fun i _=>i<n,fun i H x H'=>H'=H/\x = .int (lo+i),fun i _=>n<=i⟩
theorem Q6 {P:aU}{w:World}{K:aF}{tg:Expr}(a it:ah):Turn P w K tg (A3 K a) [it] it (fun i h=>h.IsListIter it a i) where
  mem:=by simp
  obj:=fun i h st b hb=>by
    have e:b=it:=by simpa using hb
    subst e;obtain⟨o,e,c,d⟩:=st;exact⟨o,e,fun v z=>by rw[d] at z;cases z⟩
  keep:=fun i h h' st k=>st.at fun o e=>k it (by simp) o e
  item:=by
    intro X hP hw hK hc i pins s σ H E I hf st hg;subst hP hw hK;obtain⟨xs,x,hq,hx⟩:=hg;obtain⟨its,rv,p,hz⟩:=I.list hq;obtain⟨u,hu,ru⟩:=rv.get hx;obtain⟨f0,f1,f2,f3,f4,f5⟩:=hf it (by simp);refine lZ st p.isList (x:=u) (by simpa using hu) fun h' pO sb=>?_
    have I1:Inv X pins σ H { s with heap:=h' }:=I.turned (t':=s.toks) (fun b o hb e=>(sb.2 b hb).trans e) f0 f1 f3 f4 f5;obtain⟨o,e,c,d⟩:=id pO;exact⟨u,rfl,Fe (s:={ s with heap:=h' }) e c d (by decide) ⟨x,H,I1,ru,⟨rfl,fun ys hy=>by rw[I.jY hy hq];exact hx⟩,pO,fun b hb=>(hf b hb).1⟩⟩
  done:=by
    intro X hP hw hK hc i pins s σ H E I hf st hg;subst hP hw hK;obtain⟨xs,hq,hx⟩:=hg;obtain⟨its,rv,p,hz⟩:=I.list hq;obtain⟨f0,f1,f2,f3,f4,f5⟩:=hf it (by simp);have hl:=rv.length;exact mz (I.ok.hd hc) st p.isList (by simp;lia) fun h' eb=>⟨rfl,I.turned (t':=s.toks) (fun b o hb e=>eb b o hb e) f0 f1 f3 f4 f5⟩
  self:=fun _ _ _ _ _ st h=>wpAny_pyIter_listiter st h
theorem Q7 {P:aU}{w:World}{K:aF}{tg:Expr}(it:ah) (lo:Int) (n:Nat):Turn P w K tg (zC lo n) [it] it (fun i h=>IsRangeIter h it (lo+(i:Nat) * 1) ((n:Int)-(i:Nat)) 1) where
  mem:=by simp
  obj:=fun i h st b hb=>by
    have e:b=it:=by simpa using hb
    subst e;exact⟨_,st,fun v z=>by
      have z':Data.fields _=Data.cell v:=z;cases z'⟩
  keep:=fun i h h' st k=>k it (by simp) _ st
  item:=by
    intro X hP hw hK hc i pins s σ H E I hf st hg;subst hP hw hK;obtain⟨f0,f1,f2,f3,f4,f5⟩:=hf it (by simp);have W:=Walks.range (prog:=X.prog) (w:=X.w) (I.ok.hd hc) it lo 1 n;refine W.item i s _ _ hg st fun v h' tk hv pO kk=>?_
    obtain⟨t,rfl⟩:=hv;have I1:Inv X pins σ H { s with heap:=h',toks:=tk }:=I.turned (fun b o hb e=>kk b o (by simpa using hb) e) f0 f1 f3 f4 f5;refine⟨_,rfl,Fe (s:={ s with heap:=h',toks:=tk }) (n:="range_iterator") pO rfl rfl (by decide) ⟨.int (lo+i),H,I1,⟨t,?_⟩,⟨rfl,rfl⟩,pO,fun b hb=>(hf b hb).1⟩⟩;rw[Int.mul_one]
  done:=by
    intro X hP hw hK hc i pins s σ H E I hf st hg;subst hP hw hK;obtain⟨f0,f1,f2,f3,f4,f5⟩:=hf it (by simp);exact wpAny_pyNext_range_end (I.ok.hd hc) st (by have:n<=i:=hg;lia) fun h' eb=>⟨rfl,I.turned (t':=s.toks) (fun b o hb e=>eb b o hb e) f0 f1 f3 f4 f5⟩
  self:=fun _ _ _ _ _ st h=>wpAny_pyIter_rangeiter st h
section
variable {X:Cx}{tg:Expr}
def K3 (K:aF) (tl:TE):TI:=fun σ H R=>tl σ H fun x H1=>∃a,x = .ref a/\(∃xs,aJ K H1 a xs)/\R (A3 K a) H1
theorem Q8 {l:Expr}{tl:TE}(hl:PE X l tl):PI X tg l (K3 X.K tl):=by
  intro pins s σ H R I h;refine cA (hl pins s σ H _ I h) fun v s1 bg=>?_
  obtain⟨x,H1,I1,r1,q1⟩:=bg;obtain⟨a,e,⟨xs,hq⟩,q⟩:=q1;subst e;cases r1;obtain⟨its,rv,p,hz⟩:=I1.list hq;refine kB p.isList ?_;refine⟨s1.heap.objs.size,[s1.heap.objs.size],_,_,H1,rfl,I1.kept (t':=s1.toks) fun b o e=>bC _ e,Q6 a _,⟨_,bO _ rfl,rfl,rfl⟩,fun b hb=>?_,q⟩;have e:b=s1.heap.objs.size:=by simpa using hb
  subst e;exact I1.oV (aH _) (I1.bA.fresh (aH _))
theorem Q9 {pins:aG}{σ:St}{H:Hp}{s:au}{R:It->Hp->Prop}{E:aA}{lo hi:Int}{t u v:Tok}{tk:Nat}(I:Inv X pins σ H s) (h1 : -(2 ^ 62)<=lo) (h2:lo<2 ^ 62) (h3 : -(2 ^ 62)<=hi) (h4:hi<2 ^ 62)
    (q:R (zC lo (hi-lo).toNat) H):wpAny (model X.prog X.w) X.A (pyIter (.ref s.heap.objs.size)) (Hs X pins σ tg R) E { s with heap:=s.heap.push { cls:=.type "range",data:=.fields #[.int lo t,.int hi u,.int 1 v] },toks:=tk }:=by
  refine wpAny_pyIter_range (IsRange.new ..) (small_one h1 h2 h3 h4) ?_;have I1:Inv X pins σ H { s with heap:=s.heap.push { cls:=.type "range",data:=.fields #[.int lo t,.int hi u,.int 1 v] },toks:=tk }:=I.kept fun b o e=>bC _ e
  refine⟨(s.heap.push { cls:=.type "range",data:=.fields #[.int lo t,.int hi u,.int 1 v] }).objs.size,[(s.heap.push { cls:=.type "range",data:=.fields #[.int lo t,.int hi u,.int 1 v] }).objs.size],_,_,H,rfl,
    I1.kept (t':=tk) fun b o e=>bC _ e,Q7 _ lo (hi-lo).toNat,?_,fun b hb=>?_,q⟩
  · have e1:lo+((0:Nat):Int) * 1=lo:=by simp
    have e2:(((hi-lo).toNat:Nat):Int)-((0:Nat):Int)=Builtin.Range.rangeSize lo hi 1:=by rw[rangeSize_one];split<;>lia
    show IsRangeIter _ _ (lo+((0:Nat):Int) * 1) ((((hi-lo).toNat:Nat):Int)-((0:Nat):Int)) 1;rw[e1,e2];exact bO _ rfl
  · have e:b=(s.heap.push { cls:=.type "range",data:=.fields #[.int lo t,.int hi u,.int 1 v] }).objs.size:=by simpa using hb
    subst e;exact I1.oV (aH _) (I1.bA.fresh (aH _))
def Ra (ta:TA):TI:=fun σ H R=>ta σ H fun vs H1=>∃j:Int,vs = [.int j]/\-(2 ^ 62)<=j/\j<2 ^ 62/\R (zC 0 j.toNat) H1
theorem zD {a:Expr}{ta:TA}{p pos:Pos}(hg:Gl X "range") (hm:X.mg "range" = none) (ha:PA X [a] ta) (hs:starEach [a] X.env = [(false,eval a X.env)]:=by rfl):PI X tg (.Call (.Name "range" p) [a] [] pos) (Ra ta):=by
  intro pins s σ H R I h;refine Call_ (B0 I hg hm boot_range (qB (cA (ha pos pins s σ H _ I h) fun us s1 bg=>?_) hs rfl));obtain⟨vs,H1,I1,r1,q1⟩:=bg;obtain⟨j,e,q1,q2,q⟩:=q1;subst e;cases r1 with
  | cons r rr=>
    cases rr;obtain⟨t,rfl⟩:=r;exact call_range_1 (Q9 I1 (by lia) (by lia) q1 q2 (by simpa using q))
def Ht (wi:TI) (g:TG) (tb:TS):TS:=fun D σ H=>wi σ H fun J H1=>∃W:Nat->Nat->St->Hp->Prop,(∃m,W 0 m σ H1)/\∀i m σ H,W i m σ H->
  (J.stop i H/\D.nx σ H)\/(J.go i H/\∃N:St->Hp->Prop,(∀aK H',N aK H'->∃m',m'<m/\W (i+1) m' aK H')/\∀x H',J.ue i H x H'->g x σ H' fun nG H2=>tb { D with nx:=N,ct:=N,bk:=D.nx } nG H2)
def Cf (fp:List ah) (h:Heap):aG:=fp.filterMap fun b=>(h.get? b).map fun o=>(b,o)
theorem Ff {fp:List ah}{h:Heap}{b:ah}{o:Obj}(hb:b∈fp) (e:h.get? b=some o):(b,o)∈Cf fp h:=List.mem_filterMap.mpr ⟨b,hb,by rw[e];rfl⟩
theorem Rb {fp:List ah}{h:Heap}{p:ah×Obj}(hp:p∈Cf fp h):p.1∈fp/\h.get? p.1=some p.2:=by
  obtain⟨b,hb,e⟩:=List.mem_filterMap.mp hp;cases q:h.get? b with
  | none=>rw[q] at e;cases e
  | some o=>
    rw[q] at e;have e':(b,o)=p:=cX e;subst e';exact⟨hb,q⟩
theorem Inv.pinned {pins:aG}{σ:St}{H:Hp}{s:au}{fp:List ah}(I:Inv X pins σ H s) (hf:∀b∈fp,gW X pins H b) (ho:∀b∈fp,∃o,s.heap.get? b=some o/\∀v,o.data≠.cell v):Inv X (pins++Cf fp s.heap) σ H s:=
  I.rT fun p hp=>(bM.mp hp).elim (fun z=>I.pin p (f7 _ z)) fun z=>by
    obtain⟨hb,e⟩:=Rb z;obtain⟨f0,f1,f2,_⟩:=hf p.1 hb;obtain⟨o,e',d⟩:=ho p.1 hb;rw[e] at e';cases e';exact⟨e,f0,f1,f2,d⟩
theorem Inv.jZ {pins pl:aG}{σ:St}{H:Hp}{s:au}(I:Inv X (pins++pl) σ H s):Inv X pins σ H s:=I.rT fun p hp=>I.pin p (f7 _ (ee _ hp))
theorem gQ {iter:Expr}{body:List Stmt}{wi:TI}{g:TG}{tb:TS}{pos:Pos}(hp:PassesOwn (model X.prog X.w) X.A X.env X.xe) (hc:X.calm=true) (hi:PI X tg iter wi) (hg:PG X tg g) (hb:pF X body tb)
    (hs:∀x,foldedSetIterable iter X.env x=pure x:=by intro _;rfl):PS X (.For tg iter body [] pos) (Ht wi g tb):=by
  intro pins s σ H D I h;refine wpAny_For (cA (hi pins s σ H _ I h) fun v s1 h1=>cA h1 fun zB s2 h2=>?_) hs;obtain⟨it,fp,tn,J,H2,e,I2,T,Fg,f2,W,⟨m0,w0⟩,turn⟩:=h2;subst e;have qO:∀{H':Hp},(∀b∈fp,H' b=none)->∀b∈fp,gW X pins H' b:=fun hn b hb=>⟨hn b hb,(f2 b hb).2⟩
  refine codeAny_forLoop_any (fun n s'=>∃i aK H',Inv X pins aK H' s'/\tn i s'.heap/\(∀b∈fp,H' b=none)/\W i n aK H') ?_ m0 ⟨0,σ,H2,I2,Fg,fun b hb=>(f2 b hb).1,w0⟩;rintro n s3 ⟨i,nF,H3,I3,K4,K5,w3⟩;rcases turn i n nF H3 w3 with ⟨stop,qn⟩ | ⟨go,N,hN,step⟩
  · refine jF hp (cA (T.done X rfl rfl rfl hc i pins s3 nF H3 X.xe I3 (qO K5) K4 stop) fun r s4 bg=>?_);obtain⟨hr,I4⟩:=bg;subst hr;exact mO ⟨nF,H3,I4,qn⟩
  · refine jF hp (cA (T.item X rfl rfl rfl hc i pins s3 nF H3 X.xe I3 (qO K5) K4 go) fun r s4 bg=>?_);obtain⟨u,hr,h4⟩:=bg;subst hr;refine jF hp (cA h4 fun _ s5 bg=>?_);obtain⟨x,H5,I5,r5,y5,A4,Fi⟩:=bg;have Rf:=I5.pinned (qO Fi) (T.obj _ _ A4);refine jF hp (cA (hg _ s5 nF H5 x u _ Rf r5 (step x H5 y5)) fun _ s6 bg=>?_);obtain⟨Rg,H6,I6,q6⟩:=bg;refine jF hp (cA (hb _ s6 Rg H6 _ I6 q6) fun f s7 q7=>?_);have again:∀{uJ:St}{H7:Hp},Inv X (pins++Cf fp s5.heap) uJ H7 s7->N uJ H7->∃m,m<n/\∃i aK H',Inv X pins aK H' s7/\tn i s7.heap/\(∀b∈fp,H' b=none)/\W i m aK H':=fun {uJ H7} I7 n7=>by
      obtain⟨m',hm,w7⟩:=hN uJ H7 n7;refine⟨m',hm,i+1,uJ,H7,I7.jZ,T.keep _ _ _ A4 fun b hb o e=>(I7.pin (b,o) (f7 _ (f7 _ (Ff hb e)))).1,fun b hb=>?_,w7⟩;obtain⟨o,e,d⟩:=T.obj _ _ A4 b hb;exact (I7.pin (b,o) (f7 _ (f7 _ (Ff hb e)))).2.1
    cases f with
    | next=>obtain⟨uJ,H7,I7,n7⟩:=q7;exact again I7 n7
    | cont=>obtain⟨uJ,H7,I7,n7⟩:=q7;exact again I7 n7
    | brk=>obtain⟨uJ,H7,I7,q7⟩:=q7;exact⟨uJ,H7,I7.jZ,q7⟩
    | ret v=>obtain⟨x7,uJ,H7,I7,r7,q7⟩:=q7;exact⟨x7,uJ,H7,I7.jZ,r7,q7⟩
end
theorem ny {K:aF}{a:ah}{xs:List V}{g:TG}{tb:TS}{D:Ends}{σ:St}{H:Hp}(Pv:Nat->St->Hp->Prop) (h0:Pv 0 σ H) (hl:∀i σ H,i<=xs.length->Pv i σ H->aJ K H a xs)
    (hs:∀i x σ H,xs[i]? = some x->Pv i σ H->g x σ H fun nG H2=>tb { D with nx:=Pv (i+1),ct:=Pv (i+1),bk:=D.nx } nG H2) (hd:∀σ H,Pv xs.length σ H->D.nx σ H) :
    ∃W:Nat->Nat->St->Hp->Prop,(∃m,W 0 m σ H)/\∀i m σ H,W i m σ H->
      ((A3 K a).stop i H/\D.nx σ H)\/((A3 K a).go i H/\∃N:St->Hp->Prop,(∀aK H',N aK H'->∃m',m'<m/\W (i+1) m' aK H')/\∀x H',(A3 K a).ue i H x H'->g x σ H' fun nG H2=>tb { D with nx:=N,ct:=N,bk:=D.nx } nG H2):=by
  refine⟨fun i m σ H=>m=xs.length-i/\i<=xs.length/\Pv i σ H,⟨xs.length,by simp,dj _,h0⟩,?_⟩;rintro i m σ H ⟨rfl,hi,p⟩;have q:=hl i σ H hi p
  by_cases cQ:i<xs.length
  · refine .inr ⟨⟨xs,xs[i],q,by simp[cQ]⟩,Pv (i+1),fun aK H' p'=>⟨xs.length-(i+1),by lia,rfl,cQ,p'⟩,fun x H' y=>?_⟩;obtain⟨e,y⟩:=y;subst e;exact hs i x σ _ (y xs q) p
  · have e:i=xs.length:=by lia
    subst e;exact .inl ⟨⟨xs,q,aH _⟩,hd σ H p⟩
theorem Cg {lo:Int}{n:Nat}{g:TG}{tb:TS}{D:Ends}{σ:St}{H:Hp}(Pv:Nat->St->Hp->Prop) (h0:Pv 0 σ H)
    (hs:∀i σ H,i<n->Pv i σ H->g (.int (lo+i)) σ H fun nG H2=>tb { D with nx:=Pv (i+1),ct:=Pv (i+1),bk:=D.nx } nG H2) (hd:∀σ H,Pv n σ H->D.nx σ H) :
    ∃W:Nat->Nat->St->Hp->Prop,(∃m,W 0 m σ H)/\∀i m σ H,W i m σ H->
      ((zC lo n).stop i H/\D.nx σ H)\/((zC lo n).go i H/\∃N:St->Hp->Prop,(∀aK H',N aK H'->∃m',m'<m/\W (i+1) m' aK H')/\∀x H',(zC lo n).ue i H x H'->g x σ H' fun nG H2=>tb { D with nx:=N,ct:=N,bk:=D.nx } nG H2):=by
  refine⟨fun i m σ H=>m=n-i/\i<=n/\Pv i σ H,⟨n,by simp,dj _,h0⟩,?_⟩;rintro i m σ H ⟨rfl,hi,p⟩
  by_cases cQ:i<n
  · refine .inr ⟨cQ,Pv (i+1),fun aK H' p'=>⟨n-(i+1),by lia,rfl,cQ,p'⟩,fun x H' y=>?_⟩;obtain⟨e,y⟩:=y;subst e y;exact hs i σ _ cQ p
  · have e:i=n:=by lia
    subst e;exact .inl ⟨aH _,hd σ H p⟩
abbrev R2:=V->V->Hp->VK->Prop
def iZ (X:Cx) (f:ai->ai->Sem ai) (r:R2):Prop:=
  ∀(pins:aG) (s:au) (σ:St) (H:Hp) (x y:V) (v u:ai) (Q:VK),Inv X pins σ H s->RelV x v->RelV y u->r x y H Q->
    wpAny (model X.prog X.w) X.A (f v u) (EP X pins σ Q) X.xe s
def Hu (X:Cx) (f:ai->Sem ai) (r:V->Hp->VK->Prop):Prop:=
  ∀(pins:aG) (s:au) (σ:St) (H:Hp) (x:V) (v:ai) (Q:VK),Inv X pins σ H s->RelV x v->r x H Q->
    wpAny (model X.prog X.w) X.A (f v) (EP X pins σ Q) X.xe s
def oW (X:Cx) (f:ai) (r:List V->Hp->VK->Prop):Prop:=
  ∀(pins:aG) (s:au) (σ:St) (H:Hp) (xs:List V) (us:List ai) (Q:VK),Inv X pins σ H s->Vals xs us->r xs H Q->
    wpAny (model X.prog X.w) X.A (call f us) (EP X pins σ Q) X.xe s
def A5 (r:R2) (ta tb:TE):TE:=fun σ H Q=>ta σ H fun x H1=>tb σ H1 fun y H2=>r x y H2 Q
def Rh (r:V->Hp->VK->Prop) (ta:TE):TE:=fun σ H Q=>ta σ H fun x H1=>r x H1 Q
def rI (C:Int->Int->Prop) (g:Int->Int->V):R2:=fun x y H Q=>∃i j,x = .int i/\y = .int j/\C i j/\Q (g i j) H
inductive Hv (g:Int->Int->V) (x y:V) (H:Hp) (Q:VK):Prop
  | mk (i j:Int) (_:x = .int i) (_:y = .int j) (_:Q (g i j) H)
def zE (g:Int->Int->V):R2:=fun x y H Q=>Hv g x y H Q
def rU (g:Int->V):V->Hp->VK->Prop:=fun x H Q=>∃i,x = .int i/\Q (g i) H
section
variable {X:Cx}{a b c:Expr}{ta tb tc:TE}{pos:Pos}
theorem zF (ha:PE X a ta) (hb:PE X b tb) {pins:aG}{s:au}{σ:St}{H:Hp}{R:V->V->Hp->Prop}(I:Inv X pins σ H s)
    (h:ta σ H fun x H1=>tb σ H1 fun y H2=>R x y H2) {Q:aA}{f:ai->ai->Sem ai}
    (hf:∀v u s2 x y H2,Inv X pins σ H2 s2->RelV x v->RelV y u->R x y H2->wpAny (model X.prog X.w) X.A (f v u) Q X.xe s2) :
    wpAny (model X.prog X.w) X.A (eval a X.env) (fun v bI=>wpAny (model X.prog X.w) X.A (eval b X.env) (fun u iQ=>wpAny (model X.prog X.w) X.A (f v u) Q X.xe iQ) X.xe bI) X.xe s:=by
  refine cA (ha pins s σ H _ I h) fun v s1 bg=>?_
  obtain⟨x,H1,I1,r1,q1⟩:=bg;refine cA (hb pins s1 σ H1 _ I1 q1) fun u s2 bg=>?_
  obtain⟨y,H2,I2,r2,q2⟩:=bg;exact hf v u s2 x y H2 I2 r1 r2 q2
theorem gf {op:Operator}{r:R2}(ho:iZ X (binaryOp op) r) (ha:PE X a ta) (hb:PE X b tb):PE X (.BinOp a op b pos) (A5 r ta tb):=by
  intro pins s σ H Q I h;exact wpAny_BinOp (zF ha hb I h fun v u s2 x y H2 I2 rx ry q=>ho pins s2 σ H2 x y v u Q I2 rx ry q)
theorem Ci {op:UnaryOp}{r:V->Hp->VK->Prop}(ho:Hu X (unaryOp op) r) (ha:PE X a ta):PE X (.UnaryOp op a pos) (Rh r ta):=by
  intro pins s σ H Q I h;exact UnaryOp_ (cA (ha pins s σ H _ I h) fun v s1 ⟨x,H1,I1,r1,q1⟩=>ho pins s1 σ H1 x v Q I1 r1 q1)
theorem Hx {f:ai->ai->Sem ai}{C:Int->Int->Prop}{g:Int->Int->Int}
    (rule:∀(i j:Int) (t u:Tok) (s:au) (Q:aA) (E:aA),C i j->Q (.int (g i j) s.toks) { s with toks:=s.toks+1 }->wpAny (model X.prog X.w) X.A (f (.int i t) (.int j u)) Q E s) :
    iZ X f (rI C fun i j=>.int (g i j)):=by
  intro pins s σ H x y v u Q I rx ry h;obtain⟨i,j,rfl,rfl,hc,q⟩:=h;obtain⟨t,rfl⟩:=rx;obtain⟨t',rfl⟩:=ry;exact rule i j t t' s _ _ hc ⟨.int (g i j),H,I.tok _,⟨_,rfl⟩,q⟩
theorem Cj {f:ai->ai->Sem ai}{g:Int->Int->Int}
    (rule:∀(i j:Int) (t u:Tok) (s:au) (Q:aA) (E:aA),Q (.int (g i j) s.toks) { s with toks:=s.toks+1 }->wpAny (model X.prog X.w) X.A (f (.int i t) (.int j u)) Q E s) :
    iZ X f (zE fun i j=>.int (g i j)):=by
  intro pins s σ H x y v u Q I rx ry h;obtain⟨i,j,rfl,rfl,q⟩:=h;obtain⟨t,rfl⟩:=rx;obtain⟨t',rfl⟩:=ry;exact rule i j t t' s _ _ ⟨.int (g i j),H,I.tok _,⟨_,rfl⟩,q⟩
theorem zG {f:ai->ai->Sem ai}{g:Int->Int->Bool}
    (rule:∀(i j:Int) (t u:Tok) (s:au) (Q:aA) (E:aA),Q (.bool (g i j)) s->wpAny (model X.prog X.w) X.A (f (.int i t) (.int j u)) Q E s) :
    iZ X f (zE fun i j=>.bl (g i j)):=by
  intro pins s σ H x y v u Q I rx ry h;obtain⟨i,j,rfl,rfl,q⟩:=h;obtain⟨t,rfl⟩:=rx;obtain⟨t',rfl⟩:=ry;exact rule i j t t' s _ _ ⟨.bl (g i j),H,I,rfl,q⟩
def Ck (i j:Int):Prop:=0<=j/\j<=1000000/\i.natAbs<2 ^ 64
def zH (i j:Int):Prop:=(-(2 ^ 64)<i/\i<2 ^ 64)\/(-(2 ^ 64)<j/\j<2 ^ 64)
theorem zH.ok {i j:Int}(h:zH i j):IntMulOk i j:=by
  rcases h with ⟨h1,h2⟩ | ⟨h1,h2⟩
  · exact .of_left (intBits_le_64 h1 h2)
  · exact .of_right (intBits_le_64 h1 h2)
theorem pP:iZ X (binaryOp .Add) (zE fun i j=>.int (i+j)):=Cj fun _ _ _ _ _ _ _ q=>add_int q
theorem Fj:iZ X (binaryOp .Sub) (zE fun i j=>.int (i-j)):=Cj fun _ _ _ _ _ _ _ q=>sub_int q
theorem Fl:iZ X (binaryOp .Mult) (rI zH fun i j=>.int (i * j)):=Hx fun _ _ _ _ _ _ _ hc q=>mul_int q hc.ok
theorem zI:iZ X (binaryOp .Mod) (rI (fun _ j=>0<j) fun i j=>.int (i%j)):=Hx fun i j _ _ _ _ _ hc q=>by
  have h1:(0:Int)<j:=hc;exact mod_int' (by lia) (by rw[Int.fmod_eq_emod_of_nonneg i (by lia)];exact q)
theorem Ri:iZ X (binaryOp .Pow) (rI Ck fun i j=>.int (i ^ j.toNat)):=Hx fun _ _ _ _ _ _ _ hc q=>pow_int_small hc.1 hc.2.1 hc.2.2 q
theorem Rj {f:ai->Sem ai}{g:Int->Int}
    (rule:∀(i:Int) (t:Tok) (s:au) (Q:aA) (E:aA),Q (.int (g i) s.toks) { s with toks:=s.toks+1 }->wpAny (model X.prog X.w) X.A (f (.int i t)) Q E s) :
    Hu X f (rU fun i=>.int (g i)):=by
  intro pins s σ H x v Q I rx h;obtain⟨i,rfl,q⟩:=h;obtain⟨t,rfl⟩:=rx;exact rule i t s _ _ ⟨.int (g i),H,I.tok _,⟨_,rfl⟩,q⟩
theorem Cm:Hu X (unaryOp .USub) (rU fun i=>.int (-i)):=Rj fun _ _ _ _ _ q=>neg_int q
end
def Co:V->V->Bool
  | .dG,.dG=>true | .dG,.int _=>true | .int _,.dG=>true | .dG,.bl _=>true | .bl _,.dG=>true | .dG,.str _=>true | .str _,.dG=>true
  | .int _,.int _=>true | .bl _,.bl _=>true | .str _,.str _=>true | .sF _,.sF _=>true
  | .int _,.str _=>true | .str _,.int _=>true | .bl _,.str _=>true | .str _,.bl _=>true
  | _,_=>false
def K6:R2:=fun x y H Q=>Co x y=true/\Q (.bl (decide (x=y))) H
def Rk:R2:=fun x y H Q=>Co x y=true/\Q (.bl (!decide (x=y))) H
theorem K7 {i j:Int}:decide (V.int i=V.int j)=(i == j):=by
  rw[jG];simp
theorem K8 {i j:Bool}:decide (V.bl i=V.bl j)=(i == j):=by
  rw[jG];simp
theorem K9 {i j:Str}:decide (V.str i=V.str j)=(i == j):=by
  rw[jG];simp
theorem La {i j:Array UInt8}:decide (V.sF i=V.sF j)=(i.toList == j.toList):=by
  rw[jG];cases i;cases j;simp
section
variable {X:Cx}{a b c:Expr}{ta tb tc:TE}{pos:Pos}
theorem jP {pins:aG}{σ:St}{H:Hp}{s:au}{Q:VK}{k k':Bool}(I:Inv X pins σ H s) (q:Q (.bl k) H) (e:k=k'):EP X pins σ Q (.bool k') s:=by
  subst e;exact⟨.bl k,H,I,rfl,q⟩
theorem jQ:iZ X (compareOp .Eq) K6:=by
  intro pins s σ H x y v u Q I rx ry h;obtain⟨hs,q⟩:=h;cases x with
  | dG=>
    cases rx;cases y with
    | dG=>cases ry;exact PySem.EqNone.eq_none_none (jP I q (by simp))
    | bl j=>cases ry;exact PySem.EqNone.eq_none_bool (jP I q (by simp))
    | int j=>obtain⟨t',rfl⟩:=ry;exact PySem.EqNone.eq_none_int (jP I q (by simp))
    | str j=>obtain⟨t',rfl⟩:=ry;exact PySem.EqNone.eq_none_str (jP I q (by simp))
    | _=>exact absurd (show false=true from hs) bJ
  | bl i=>
    cases rx;cases y with
    | dG=>cases ry;exact PySem.EqNone.eq_bool_none (jP I q (by simp))
    | bl j=>cases ry;exact eq_bool (jP I q K8)
    | str j=>obtain⟨t',rfl⟩:=ry;exact PySem.EqMixed.eq_bool_str (jP I q (by simp))
    | _=>exact absurd (show false=true from hs) bJ
  | int i=>
    obtain⟨t,rfl⟩:=rx;cases y with
    | dG=>cases ry;exact PySem.EqNone.eq_int_none (jP I q (by simp))
    | int j=>obtain⟨t',rfl⟩:=ry;exact eq_int (jP I q K7)
    | str j=>obtain⟨t',rfl⟩:=ry;exact PySem.EqMixed.eq_int_str (jP I q (by simp))
    | _=>exact absurd (show false=true from hs) bJ
  | str i=>
    obtain⟨t,rfl⟩:=rx;cases y with
    | dG=>cases ry;exact PySem.EqNone.eq_str_none (jP I q (by simp))
    | bl j=>cases ry;exact PySem.EqMixed.eq_str_bool (jP I q (by simp))
    | int j=>obtain⟨t',rfl⟩:=ry;exact PySem.EqMixed.eq_str_int (jP I q (by simp))
    | str j=>obtain⟨t',rfl⟩:=ry;exact eq_str (jP I q K9)
    | _=>exact absurd (show false=true from hs) bJ
  | sF i=>
    obtain⟨t,rfl⟩:=rx;cases y with
    | sF j=>obtain⟨t',rfl⟩:=ry;exact PySem.W.eq_bytes (jP I q La)
    | _=>exact absurd (show false=true from hs) bJ
  | _=>cases y<;>exact absurd (show false=true from hs) bJ
theorem Fo:iZ X (compareOp .NotEq) Rk:=by
  intro pins s σ H x y v u Q I rx ry h;obtain⟨hs,q⟩:=h;cases x with
  | dG=>
    cases rx;cases y with
    | dG=>cases ry;exact PySem.EqNone.ne_none_none (jP I q (by simp))
    | bl j=>cases ry;exact PySem.EqNone.ne_none_bool (jP I q (by simp))
    | int j=>obtain⟨t',rfl⟩:=ry;exact PySem.EqNone.ne_none_int (jP I q (by simp))
    | str j=>obtain⟨t',rfl⟩:=ry;exact PySem.EqNone.ne_none_str (jP I q (by simp))
    | _=>exact absurd (show false=true from hs) bJ
  | bl i=>
    cases rx;cases y with
    | dG=>cases ry;exact PySem.EqNone.ne_bool_none (jP I q (by simp))
    | bl j=>cases ry;exact ne_bool (jP I q (bT not K8))
    | str j=>obtain⟨t',rfl⟩:=ry;exact PySem.EqMixed.ne_bool_str (jP I q (by simp))
    | _=>exact absurd (show false=true from hs) bJ
  | int i=>
    obtain⟨t,rfl⟩:=rx;cases y with
    | dG=>cases ry;exact PySem.EqNone.ne_int_none (jP I q (by simp))
    | int j=>obtain⟨t',rfl⟩:=ry;exact ne_int (jP I q (bT not K7))
    | str j=>obtain⟨t',rfl⟩:=ry;exact PySem.EqMixed.ne_int_str (jP I q (by simp))
    | _=>exact absurd (show false=true from hs) bJ
  | str i=>
    obtain⟨t,rfl⟩:=rx;cases y with
    | dG=>cases ry;exact PySem.EqNone.ne_str_none (jP I q (by simp))
    | bl j=>cases ry;exact PySem.EqMixed.ne_str_bool (jP I q (by simp))
    | int j=>obtain⟨t',rfl⟩:=ry;exact PySem.EqMixed.ne_str_int (jP I q (by simp))
    | str j=>obtain⟨t',rfl⟩:=ry;exact ne_str (jP I q (bT not K9))
    | _=>exact absurd (show false=true from hs) bJ
  | sF i=>
    obtain⟨t,rfl⟩:=rx;cases y with
    | sF j=>obtain⟨t',rfl⟩:=ry;exact PySem.W.ne_bytes (jP I q (bT not La))
    | _=>exact absurd (show false=true from hs) bJ
  | _=>cases y<;>exact absurd (show false=true from hs) bJ
theorem A6:iZ X (compareOp .Lt) (zE fun i j=>.bl (decide (i<j))):=zG fun _ _ _ _ _ _ _ q=>lt_int q
theorem Fq:iZ X (compareOp .LtE) (zE fun i j=>.bl (decide (i<=j))):=zG fun _ _ _ _ _ _ _ q=>le_int q
theorem A7:iZ X (compareOp .Gt) (zE fun i j=>.bl (decide (j<i))):=zG fun _ _ _ _ _ _ _ q=>gt_int q
theorem dW (b:Expr) {op:CmpOp}(h:op≠.In:=by decide) (h2:op≠.NotIn:=by decide):behindInMarks op b=false:=by
  have e1:(op == CmpOp.In)=false:=by cases op<;>first | rfl | exact absurd rfl h
  have e2:(op == CmpOp.NotIn)=false:=by cases op<;>first | rfl | exact absurd rfl h2
  cases b<;>simp[behindInMarks,e1,e2]
theorem rW {op:CmpOp}{r:R2}(ho:iZ X (compareOp op) r) (ha:PE X a ta) (hb:PE X b tb) (hm:behindInMarks op b=false):PE X (.Compare a [op] [b] pos) (A5 r ta tb):=by
  intro pins s σ H Q I h;exact wpAny_Compare1 (zF ha hb I h fun v u s2 x y H2 I2 rx ry q=>ho pins s2 σ H2 x y v u Q I2 rx ry q) hm
def Hy (t:TE):TT:=fun σ H Q=>t σ H fun x H'=>∃k,x = .bl k/\Q k H'
theorem e7 {op:CmpOp}{r:R2}(ho:iZ X (compareOp op) r) (ha:PE X a ta) (hb:PE X b tb) (hm:behindInMarks op b=false):PT X (.Compare a [op] [b] pos) (Hy (A5 r ta tb)):=by
  intro pins s σ H Q I h;refine wpAny_isTrue_Compare1 (cA (ha pins s σ H _ I h) fun v s1 ⟨x,H1,I1,r1,q1⟩=>cA (hb pins s1 σ H1 _ I1 q1) fun u s2 ⟨y,H2,I2,r2,q2⟩=>
    cA (ho pins s2 σ H2 x y v u _ I2 r1 r2 q2) fun c s3 ⟨z,H3,I3,r3,k,e,q3⟩=>?_) hm
  subst e;cases r3;exact iJ ⟨H3,I3,q3⟩
def Rl (r r':R2) (ta tb tc:TE):TE:=fun σ H Q=>ta σ H fun x H1=>tb σ H1 fun y H2=>r x y H2 fun z H3=>∃k,z = .bl k/\
  (if k=true then tc σ H3 fun w' H4=>r' y w' H4 Q else Q (.bl false) H3)
theorem Lb {op Hz:CmpOp}{r r':R2}(ho:iZ X (compareOp op) r) (wX:iZ X (compareOp Hz) r') (ha:PE X a ta) (hb:PE X b tb) (hc:PE X c tc)
    (hm:lastMarks [op,Hz] [b,c]=false:=by with_unfolding_all rfl):PT X (.Compare a [op,Hz] [b,c] pos) (Hy (Rl r r' ta tb tc)):=by
  intro pins s σ H Q I h;refine isTrue_chain (cA (ha pins s σ H _ I h) fun v s1 ⟨x,H1,I1,r1,q1⟩=>test_link (cA (hb pins s1 σ H1 _ I1 q1) fun u s2 ⟨y,H2,I2,r2,q2⟩=>
    cA (ho pins s2 σ H2 x y v u _ I2 r1 r2 q2) fun d s3 ⟨z,H3,I3,r3,k,e,q3⟩=>?_)) hm
  subst e;cases r3;refine iJ ?_;cases k with
  | false=>
    obtain⟨k',e',q'⟩:=q3;cases e';exact ite_ff ⟨H3,I3,q'⟩
  | true=>
    refine ite_tt (test_last (cA (hc pins s3 σ H3 _ I3 q3) fun w' s4 ⟨z',H4,I4,r4,q4⟩=>cA (wX pins s4 σ H4 y z' u w' _ I4 r2 r4 q4) fun d' s5 bg=>?_));obtain⟨z2,H5,I5,r5,k2,e2,q5⟩:=bg;subst e2;cases r5;exact iJ ⟨H5,I5,q5⟩
theorem Ft:(sizeLine:Nat)<2 ^ 63:=by rw[fP];decide
theorem Rm:iZ X (binaryOp .Add) (fun x y H Q=>∃i j,x = .str i/\y = .str j/\i.length+j.length<=sizeLine/\Q (.str (i++j)) H):=by
  intro pins s σ H x y v u Q I rx ry h;obtain⟨i,j,rfl,rfl,hz,q⟩:=h;obtain⟨t,rfl⟩:=rx;obtain⟨t',rfl⟩:=ry;exact add_str (fun t' tk=>⟨.str (i++j),H,I.tok _,⟨_,rfl⟩,q⟩) hz
theorem qj {x:V}{us:List ai}(r:Vals [x] us):∃u,us = [u]/\RelV x u:=by
  cases r with
  | cons r1 r2=>cases r2;exact⟨_,rfl,r1⟩
theorem Cp {x y:V}{us:List ai}(r:Vals [x,y] us):∃u w',us = [u,w']/\RelV x u/\RelV y w':=by
  cases r with
  | cons r1 r2=>
    cases r2 with
    | cons r3 r4=>cases r4;exact⟨_,_,rfl,r1,r3⟩
end
theorem Lc {h:Heap}{dx:ah}{mA:Str->Option ai}(n:h.Ns1 dx mA):∃od,h.get? dx=some od/\∀name,PySem.W.lookIn name od=some (mA name):=by
  obtain⟨o,es,ep,ho,hd,hk,_,hm⟩:=n;refine⟨o,ho,fun name=>?_⟩;have e:=hm name;unfold nsFind findBy at e;rw[←Array.find?_toList] at e;unfold PySem.W.lookIn;rw[hd];dsimp only;split
  · rename_i y q;rw[q] at e;exact bT some e
  · rename_i q;rw[q] at e;have a:es.toList.any (·.refKey)=false:=by
      rw[List.any_eq_false];intro y hy;obtain⟨z,t,HA⟩:=hk y (Array.mem_toList_iff.mp hy);simp[DictEntry.refKey,HA]
    have a':¬es.toList.any (·.refKey)=true:=by rw[a];exact bJ
    rw[ao a'];exact bT some e
theorem jd.some_of {v:V}{o:Option ai}(r:jd (some v) o):∃u,o=some u/\RelV v u:=by
  cases o with
  | none=>exact (show False from r).elim
  | some u=>exact⟨u,rfl,r⟩
theorem jd.none_of {o:Option ai}(r:jd none o):o=none:=by
  cases o with
  | none=>rfl
  | some u=>exact (show False from r).elim
theorem Ro {v:V}{u:ai}(r:RelV v u):PySem.W.handedIn u=true:=by
  cases v with
  | dG=>cases (show u=Value.none from r);rfl
  | bl b=>cases (show u=Value.bool b from r);rfl
  | int i=>obtain⟨t,e⟩:=(show ∃t,u=Value.int i t from r);cases e;rfl
  | str x=>obtain⟨t,e⟩:=(show ∃t,u=Value.str x t from r);cases e;rfl
  | sF b=>obtain⟨t,e⟩:=(show ∃t,u=Value.bytes b t from r);cases e;rfl
  | BS b=>obtain⟨t,e⟩:=(show ∃t,u=Value.float b t from r);cases e;rfl
  | ref a=>cases (show u=Value.ref a from r);rfl
  | ty n=>cases (show u=Value.type n from r);rfl
def gw (K:aF) (C:ah) (f:Str):Prop:=PySem.W.findIn K (.ref C) f=some none
theorem gw.Cq {K:aF}{C:ah}{f:Str}(n:gw K C f):PySem.W.takerIn K C f=some none:=by
  unfold PySem.W.takerIn;rw[show PySem.W.findIn K (.ref C) f=some none from n];rfl
structure Meth (K:aF) (C:ah) (m:Str) (f:ah):Prop where
  at_:PySem.W.findIn K (.ref C) m=some (some (.ref f))
  fn:PySem.W.isFn K (.ref f)=true
  kp:PySem.W.keepIn K (.ref f)=true
section
variable {X:Cx}{pins:aG}{σ:St}{H:Hp}{s:au}{a C dx:ah}{fs:List (Str×V)}{f:Str}{v:V}{A:Around}{E:aA}
theorem Rp {prog:aU}{w:World}{env:Env}{e:Expr}{f:Str}{pos:Pos}{s:au}{Q:aA}(hb:attributeBase e f env (eval e env)=eval e env)
    (h:wpAny (model prog w) A (eval e env) (fun o bI=>wpAny (model prog w) A (getAttr o f true) Q E bI) E s):wpAny (model prog w) A (eval (.Attribute e f pos) env) Q E s:=
  Attribute_any_ h (by rw[arm_eval_Attribute,hb])
end
structure cV (k:Nat) (A:Around):Prop where
  hd:A.handled=none
  dp:A.depth+3 * k+5<recursionLimit
  un:A.units+16 * k+200<cLine
theorem cV.mono {j k:Nat}{A:Around}(r:cV k A) (h:j<=k):cV j A:=⟨r.hd,by have:=r.dp;lia,by have:=r.un;lia⟩
theorem cV.deeper {k:Nat}{A:Around}(r:cV (k+1) A) (env:Env):cV k (A.deeper env):=
  ⟨r.hd,by have:=r.dp;show A.depth+1+3 * k+5<_;lia,by have:=r.un;show A.units+3+16 * k+200<_;lia⟩
theorem Rq {A:Around}{C:ah}{us:List ai}{kw:List (Str×ai)}:(A.under (.builtin "type.__call__" ⟨.ref C::us,kw⟩)).depth=A.depth+1:=by
  first | rfl | simp[Around.under,Code.weight,Code.isCreation,Code.isGuard,Code.isCaller,Code.frames,Code.isFrame,guardIds]
theorem Rr {A:Around}{C:ah}{us:List ai}{kw:List (Str×ai)}:(A.under (.builtin "type.__call__" ⟨.ref C::us,kw⟩)).units=A.units+1:=by
  first | rfl | simp[Around.under,Code.cUnits,Code.frames,Code.isFrame]
theorem cV.make {k:Nat}{A:Around}(r:cV (k+1) A) (C:ah) (us:List ai) (kw:List (Str×ai)):cV k (A.under (.builtin "type.__call__" ⟨.ref C::us,kw⟩)):=
  ⟨r.hd,by have:=r.dp;rw[Rq];lia,by have:=r.un;rw[Rr];lia⟩
theorem cV.depth {k:Nat}{A:Around}(r:cV k A):A.depth<recursionLimit:=by have:=r.dp;lia
theorem cV.units {k:Nat}{A:Around}(r:cV k A):A.units+64<cLine:=by have:=r.un;lia
def Cr:TA:=fun _ H Q=>Q [] H
def Ld (ta:TE) (tr:TA):TA:=fun σ H Q=>ta σ H fun x H1=>tr σ H1 fun xs H2=>Q (x::xs) H2
section
variable {X:Cx}{e:Expr}{es:List Expr}{te:TE}{t:TA}{pos:Pos}
theorem zf:PA X [] Cr:=fun _ _ _ _ H Q I h=>Calls.spliced_nil ⟨[],H,I,.nil,h⟩
theorem za (ha:PE X e te) (hr:PA X es t) (hs:starEach (e::es) X.env=(false,eval e X.env)::starEach es X.env:=by rfl):PA X (e::es) (Ld te t):=by
  intro pos pins s σ H Q I h;rw[hs];show wpAny _ _ (spliced ((false,eval e X.env)::backTo pos (starEach es X.env))) _ _ s;refine Calls.spliced_cons (cA (ha pins s σ H _ I h) fun u s1 bg=>?_);obtain⟨x,H1,I1,r1,q1⟩:=bg;exact cA (hr pos pins s1 σ H1 _ I1 q1) fun us s2 ⟨xs,H2,I2,r2,q2⟩=>⟨x::xs,H2,I2,.cons r1 r2,q2⟩
def HB (t:TA):TE:=fun σ H Q=>t σ H fun xs H1=>xs.length<=sizeLine/\∀p,H1 p=none->Q (.ref p) (upd H1 p (.tup xs))
def HC (t:TA):TE:=fun σ H Q=>t σ H fun xs H1=>xs.length<=sizeLine/\∀p,H1 p=none->Q (.ref p) (upd H1 p (.lst xs))
theorem iz {x1}(h:PA X es t):PE X (.Tuple es x1 pos) (HB t):=by
  intro pins s σ H Q I hq;refine wpAny_Tuple_spliced (cA (h pos pins s σ H _ I hq) fun us s1 ⟨xs,H1,I1,r,z,q⟩=>⟨by rw[←r.length];exact z,?_⟩);have hf:H1 s1.heap.objs.size=none:=I1.bA.fresh (aH _);refine⟨.ref s1.heap.objs.size,upd H1 s1.heap.objs.size (.tup xs),I1.laid (t':=s1.toks) (fun b u e=>bC _ e) (aH _) ?_,rfl,q _ hf⟩;exact⟨z,us,r,⟨_,bO _ rfl,rfl,_,rfl⟩⟩
theorem fB (h:PA X es t):PE X (.List es pos) (HC t):=by
  intro pins s σ H Q I hq;refine wpAny_List_spliced (cA (h pos pins s σ H _ I hq) fun us s1 ⟨xs,H1,I1,r,z,q⟩=>⟨by rw[←r.length];exact z,?_⟩);have hf:H1 s1.heap.objs.size=none:=I1.bA.fresh (aH _);refine⟨.ref s1.heap.objs.size,upd H1 s1.heap.objs.size (.lst xs),I1.laid (t':=s1.toks) (fun b u e=>bC _ e) (aH _) ?_,rfl,q _ hf⟩;exact⟨z,us,0,r,bO _ rfl⟩
end
abbrev Sp:=List V->Hp->VK->XK->Prop
abbrev qP:=List Env->Hp->au->XK->aA
structure qQ (P:aU) (w:World) (K:aF) (mg:Str->Option ai) (base:Heap) (A:Around) (outer:List Env) (s:au) (H:Hp):Prop where
  frames:A.frames=some outer
  mod:Mod K mg base
  bs:∀b o,base.get? b=some o->s.heap.get? b=some o/\H b=none
  uD:base.objs.size<=s.heap.objs.size
  jX:s.heap.FunFrames base outer
  wW:∀b∈je outer,H b=none
  bA:jM P w H s.heap
  bare:AllBare s.gens
def CE (outer:List Env) (P:aU) (w:World) (H:Hp) (s:au) (Q:VK) (u:ai) (s':au):Prop:=
  ∃v H',s'.os=s.os/\AllBare s'.gens/\Un (je outer) [] H H' s.heap s'.heap/\jM P w H' s'.heap/\RelV v u/\Q v H'
def CR (CX:qP) (outer:List Env) (P:aU) (w:World) (H:Hp) (s:au) (Q:VK) (E:XK) (r:Result) (s':au):Prop:=
  match r with
  | .ok (.ret u)=>CE outer P w H s Q u s'
  | .ok _=>False
  | .error e=>CX outer H s E e s'
structure mT (P:aU) (w:World) (K:aF) (mg:Str->Option ai) (base:Heap) (CX:qP) (k:Nat) (f:ah) (fd:FuncData) (ps:List Str) (sp:Sp):Prop where
  len:∀vs H Q E,sp vs H Q E->vs.length=ps.length
  run:∀(A:Around) (outer:List Env) (s:au) (H:Hp) (args:Args) (us:List ai) (vs:List V) (Q:VK) (E:XK),cV k A->qQ P w K mg base A outer s H->BindsTo s fd args (ps.zip us)->Vals vs us->sp vs H Q E->
    codeAny (model P w) A (.call (.ref f) args) (CR CX outer P w H s Q E) s
theorem qQ.make {P:aU}{w:World}{K:aF}{mg:Str->Option ai}{base:Heap}{A:Around}{outer:List Env}{s:au}{H:Hp}(e:qQ P w K mg base A outer s H) (C:ah) (us:List ai) (kw:List (Str×ai)) :
    qQ P w K mg base (A.under (.builtin "type.__call__" ⟨.ref C::us,kw⟩)) outer s H:=⟨by first | exact e.frames | (simpa[Around.under,Code.envs,Code.isFrame,pushEnvs] using e.frames),e.mod,e.bs,e.uD,e.jX,e.wW,e.bA,e.bare⟩
section
variable {X:Cx}{pins:aG}{σ:St}{H:Hp}{s s':au}
theorem Inv.zJ (I:Inv X pins σ H s):qQ X.prog X.w X.K X.mg X.base X.A X.stack s H:=
  ⟨I.ok.frames,I.ok.mod,I.bs,b7 I.ok.uD I.sz,I.stack,I.lP,I.bA,I.bare⟩
theorem Inv.after {Q:VK}{u:ai}(I:Inv X pins σ H s) (h:CE X.stack X.prog X.w H s Q u s'):EP X pins σ Q u s':=by
  obtain⟨v,H',os,bare,un,bA,r,q⟩:=h;obtain⟨hh,g,d,t,Rt⟩:=s';obtain rfl:Rt=s.os:=os;exact⟨v,H',I.call (h':=hh) (g':=g) (d':=d) (t':=t) (ch:=[]) un bA bare (fun b z=>absurd z (by simp)),r,q⟩
end
def Fv (sp:Sp) (qk:List V) (E:XK) (t:TA):TE:=fun σ H Q=>t σ H fun vs H1=>sp (vs++qk) H1 Q E
def Binds (K:aF) (fd:FuncData) (ps:List Str) (ds:List ai):Prop:=
  ∀(s:au) (us:List ai),K.In s.heap->(us++ds).length=ps.length->BindsTo s fd ⟨us,[]⟩ (ps.zip (us++ds))
theorem Binds.all {K:aF}{fd:FuncData}{ps:List Str}(h:∀us:List ai,us.length=ps.length->bindArgs fd ⟨us,[]⟩=pure (ps.zip us)):Binds K fd ps []:=fun s us _ hl=>by
  rw[g8] at hl ⊢;exact .of_eq (h us hl)
def Cs (CX:qP) (X:Cx) (E:XK):Prop:=∀(pins:aG) (σ:St) (H:Hp) (s:au) (e:ai) (s':au),Inv X pins σ H s->CX X.stack H s E e s'->X.xe e s'
section
variable {X:Cx}{CX:qP}{k:Nat}{f C:ah}{fd:FuncData}{ps:List Str}{sp:Sp}{qk:List V}{ds:List ai}{E:XK}{x m:Str}{p pos apos:Pos}{e o:Expr}{es:List Expr}{ta:TE}{t:TA}
theorem Ru {pins:aG}{σ:St}{H:Hp}{s:au}{Q:VK}{us:List ai}{vs:List V}(F:mT X.prog X.w X.K X.mg X.base CX k f fd ps sp) (hr:cV k X.A) (hb:Binds X.K fd ps ds) (hd:Vals qk ds) (hx:Cs CX X E)
    (I:Inv X pins σ H s) (r:Vals vs us) (h:sp (vs++qk) H Q E):wpAny (model X.prog X.w) X.A (call (.ref f) us) (EP X pins σ Q) X.xe s:=by
  have r2:Vals (vs++qk) (us++ds):=r.append hd;have hl:(us++ds).length=ps.length:=by rw[←r2.length];exact F.len _ _ _ _ h
  refine eG (gU (F.run X.A X.stack s H ⟨us,[]⟩ (us++ds) (vs++qk) Q E hr I.zJ (hb s us I.lF hl) r2 h) fun r s' hq=>?_);cases r with
  | error e=>exact hx pins σ H s e s' I hq
  | ok fl=>
    cases fl with
    | ret u=>exact I.after hq
    | next=>exact False.elim hq
    | brk=>exact False.elim hq
    | cont=>exact False.elim hq
theorem Le (F:mT X.prog X.w X.K X.mg X.base CX k f fd ps sp) (hr:cV k X.A) (hg:Gl X x) (hm:X.mg x=some (.ref f)) (hk:PySem.W.keepIn X.K (.ref f)=true) (hb:Binds X.K fd ps ds) (hd:Vals qk ds) (hx:Cs CX X E)
    (ha:PA X (e::es) t) (j0:(x == ("__debug__" : Str))=false:=by decide) (he:starEach (e::es) X.env=(false,eval e X.env)::starEach es X.env:=by rfl) (kq:(backTo pos (starEach es X.env)).any (·.1)=false:=by rfl) :
    PE X (.Call (.Name x p) (e::es) [] pos) (Fv sp qk E t):=by
  intro pins s σ H Q I h;refine mD (yZ I hg hm ?_ j0);refine PySem.W.callWith_K (h₀:=X.base) I.ok.mod.E4 hk (cA (ha pos pins s σ H _ I h) fun us s1 ⟨vs,H1,I1,r,q⟩=>⟨I1.lF,?_⟩) he kq;exact Ru F hr hb hd hx I1 r q
end
def PK (X:Cx) (Ct:List Keyword) (t:TA):Prop:=
  ∀(pos:Pos) (pins:aG) (s:au) (σ:St) (H:Hp) (Q:List V->Hp->Prop),Inv X pins σ H s->t σ H Q->wpAny (model X.prog X.w) X.A (evalAll ((backToKw pos (keywordEach Ct X.env)).map (·.2))) (AP X pins σ Q) X.xe s
section
variable {X:Cx}{CX:qP}{k:Nat}{f C:ah}{fd:FuncData}{ps ks:List Str}{sp:Sp}{E:XK}{x m:Str}{p pos apos kpos:Pos}{e o:Expr}{es:List Expr}{Ct:List Keyword}{te ta:TE}{t tk:TA}{nm:Option Str}
theorem Rx:PK X [] Cr:=fun _ _ _ _ H Q I h=>wpAny_evalAll_nil ⟨[],H,I,.nil,h⟩
theorem Ry (ha:PE X e te) (hr:PK X Ct t):PK X (⟨nm,e,kpos⟩::Ct) (Ld te t):=by
  intro pos pins s σ H Q I h;show wpAny _ _ (evalAll ((do let v ←eval e X.env;standAt pos;pure v)::(backToKw pos (keywordEach Ct X.env)).map (·.2))) _ _ s;refine wpAny_evalAll_cons (aj (cA (ha pins s σ H _ I h) fun u s1 ⟨x,H1,I1,r1,q1⟩=>aj (gp (az ?_))));exact cA (hr pos pins s1 σ H1 _ I1 q1) fun us s2 ⟨xs,H2,I2,r2,q2⟩=>⟨x::xs,H2,I2,.cons r1 r2,q2⟩
variable {g:List ai->List ai->List ai}{gV:List V->List V->List V}
end
structure aE (N P:List Str) (sc:Scope):Prop where
  kind:sc.kind = .function
  co:sc.isCoroutine=false
  gen:sc.isGenerator=false
  nd:N.Nodup
  pre:N.take P.length=P
  par:∀x∈P,sc.names.lookup x=some .local\/sc.names.lookup x=some .cell
  zK:∀y∈sc.names,y.2≠.free
theorem Lf {kindOf:Str->Option NameKind}{x:Str}:∀{binds:List (Str×ai)}{m:Str->Option ai},(∀v,(x,v) ∉ binds)->bindL kindOf binds m x=m x
  | [],_,_=>rfl
  | (n,v)::r,m,h=>by
    unfold bindL;rw[Lf fun w hw=>h w (bD _ hw)];split
    · have:x≠n:=by rintro rfl;exact h v iE
      simp[this]
    · rfl
theorem Lg {kindOf:Str->Option NameKind}{x:Str}:∀{binds:List (Str×ai)}{m:Str->Option ai},(∀v,(x,v) ∉ binds)->bindC kindOf binds m x=m x
  | [],_,_=>rfl
  | (n,v)::r,m,h=>by
    unfold bindC;rw[Lg fun w hw=>h w (bD _ hw)];split
    · rfl
    · have:x≠n:=by rintro rfl;exact h v iE
      simp[this]
theorem Lh {kindOf:Str->Option NameKind}{x:Str}{v:ai}:∀{P:List Str}{vs:List ai}{i:Nat}{m:Str->Option ai},P.Nodup->P[i]? = some x->vs[i]? = some v->kindOf x=some .local->
    bindL kindOf (P.zip vs) m x=some v
  | [],_,_,_,_,h,_,_=>by simp at h
  | _::_,[],_,_,_,_,h,_=>by simp at h
  | p::P,w::vs,0,m,nd,h1,h2,hk=>by
    simp at h1 h2;subst h1;subst h2;show bindL kindOf ((p,w)::P.zip vs) m p=_;unfold bindL;rw[Lf fun v hv=>(iL.mp nd).1 (jH hv).1,aq hk];simp
  | p::P,w::vs,i+1,m,nd,h1,h2,hk=>by
    show bindL kindOf ((p,w)::P.zip vs) m x=_;unfold bindL;exact Lh (i:=i) (iL.mp nd).2 (by simpa using h1) (by simpa using h2) hk
theorem Li {kindOf:Str->Option NameKind}{x:Str}{v:ai}:∀{P:List Str}{vs:List ai}{i:Nat}{m:Str->Option ai},P.Nodup->P[i]? = some x->vs[i]? = some v->kindOf x≠some .local->
    bindC kindOf (P.zip vs) m x=some v
  | [],_,_,_,_,h,_,_=>by simp at h
  | _::_,[],_,_,_,_,h,_=>by simp at h
  | p::P,w::vs,0,m,nd,h1,h2,hk=>by
    simp at h1 h2;subst h1;subst h2;show bindC kindOf ((p,w)::P.zip vs) m p=_;unfold bindC;rw[Lg fun v hv=>(iL.mp nd).1 (jH hv).1,ao hk];simp
  | p::P,w::vs,i+1,m,nd,h1,h2,hk=>by
    show bindC kindOf ((p,w)::P.zip vs) m x=_;unfold bindC;exact Li (i:=i) (iL.mp nd).2 (by simpa using h1) (by simpa using h2) hk
def start (N:List Str) (vs:List V):St:=vs.map some++List.replicate (N.length-vs.length) none
def nH (CX:qP) (P:aU) (w:World) (K:aF) (mg:Str->Option ai) (base:Heap) (N:List Str) (qual:Str) (scope:Scope) (f:ah) (cd:ai) (A:Around) (outer:List Env) (s:au) (H:Hp) (E:XK):Cx where
  prog:=P
  w:=w
  K:=K
  mg:=mg
  base:=base
  A:=A.deeper (envOfC qual scope s.heap.objs.size f cd)
  N:=N
  cY:=s
  pM:=H
  env:=envOfC qual scope s.heap.objs.size f cd
  outer:=outer
  stack:=envOfC qual scope s.heap.objs.size f cd::outer
  ex:=[]
  calm:=true
  fn:=fun _=>true
  pn:=[]
  xe:=fun e s'=>wpAny (model P w) (A.deeper (envOfC qual scope s.heap.objs.size f cd)) (leaving (envOfC qual scope s.heap.objs.size f cd) e) (fun _ wg=>CX outer H s E e wg) (fun e' wg=>CX outer H s E e' wg) s'
theorem Lj {sc:Scope}{n:Nat}{x:Str}(h:sc.names.lookup x=some .cell):∃c,(cellsFrom n sc.names []).lookup x=some c:=by
  have q:=PySem.W.cellsFrom_some sc.names n [] (.inl h);exact qE.mp q
theorem Rz {CX:qP}{P:aU}{w:World}{K:aF}{mg:Str->Option ai}{base:Heap}{N ps:List Str}{qual:Str}{scope:Scope}{f:ah}{cd:ai}{A:Around}{outer:List Env}{s s1:au}{H:Hp}{E:XK}{us:List ai}{vs:List V}
    (S:aE N ps scope) (hd:A.handled=none) (e0:qQ P w K mg base A outer s H) (hl:vs.length=ps.length) (r:Vals vs us)
    (x:InCallC s s.heap.objs.size (bindL (envOfC qual scope s.heap.objs.size f cd).kindOf (ps.zip us) fun _=>none) (cellsFrom (s.heap.objs.size+1) scope.names []) (bindC (envOfC qual scope s.heap.objs.size f cd).kindOf (ps.zip us) fun _=>none) s1) :
    Inv (nH CX P w K mg base N qual scope f cd A outer s H E) [] (start N vs) H s1:=by
  have kq:ps.length<=N.length:=by have:=bT List.length S.pre;rw[bF] at this;lia
  obtain⟨h1,tk,rfl,hk⟩:=x.done;have Cu:∀b:ah,b ∉ (nH CX P w K mg base N qual scope f cd A outer s H E).ex:=fun b z=>absurd (show b∈([]:List ah) from z) (by simp)
  refine⟨⟨e0.mod,S.kind,rfl,rfl,aH _,fun y z c h1 h2=>?_,fun y hy=>?_,fun y c _ h=>?_,fun _=>hd,Around.frames_deeper e0.frames,.inr ⟨rfl,rfl⟩,fun b z=>absurd z (Cu b),e0.bs,e0.uD,fun b _ _=>Cu b,fun b z=>absurd z (Cu b),e0.jX,e0.wW⟩,
    rfl,e0.bare,Un.kept hk,⟨_,x.toInCall.ns,fun i y v h1 h2 h3=>?_⟩,fun y c h=>⟨_,x.cell y c h⟩,e0.bA.fresh (aH _),fun y c h=>?_,fun p hp=>absurd (show p∈([]:aG) from hp) (by simp),e0.bA.kept hk,?_⟩
  · exact name_of_addr x.apart (PySem.mem_of_lookup h1) (PySem.mem_of_lookup h2)
  · have hy:scope.names.lookup y=some .cell\/scope.names.lookup y=some .free:=hy;rcases hy with hy | hy
    · exact Lj hy
    · exact absurd rfl (S.zK _ (PySem.mem_of_lookup hy))
  · exact kK (x.above y c (PySem.mem_of_lookup h))
  · have hi:i<vs.length:=by
      unfold start at h2
      by_cases hi:i<vs.length
      · exact hi
      · rw[k8 (by simpa using hi)] at h2;rw[List.getElem?_replicate] at h2;split at h2<;>cases h2
    have ha:vs[i]? = some v:=by
      unfold start at h2;rw[jl (by simpa using hi),aM] at h2;cases e:vs[i]? with
      | none=>rw[e] at h2;cases h2
      | some a=>rw[e] at h2;cases h2;rfl
    obtain⟨u,hu,rv⟩:=r.get ha;have hp:ps[i]? = some y:=by
      rw[←S.pre,List.getElem?_take_of_lt (by lia)];exact h1
    have Ll:ps.Nodup:=by rw[←S.pre];exact S.nd.sublist (List.take_sublist _ _)
    refine⟨u,rv,?_⟩;rcases S.par y (bN hp) with k | k
    · exact .inl ⟨k,Lh Ll hp hu k⟩
    · obtain⟨c,e⟩:=Lj (n:=s.heap.objs.size+1) k;refine .inr ⟨.inl k,c,e,?_⟩;have q:=x.cell y c e;rw[Li Ll hp hu (by show scope.names.lookup y≠_;rw[k];decide)] at q;exact q
  · exact e0.bA.fresh (kK (x.above y c (PySem.mem_of_lookup h)))
  · unfold start;show _=N.length;rw[bL,ay,List.length_replicate];lia
theorem Lm {CX:qP}{P:aU}{w:World}{K:aF}{mg:Str->Option ai}{base:Heap}{k:Nat}{f:ah}{name qual:Str}{params:Arguments}{body:List Stmt}{scope:Scope}{dV kV doc pm bX ct oc:ai}{an od:Option ah}
    {nI:Array (Option ai)}{N ps:List Str}{sp:Sp}(lk:K.lookup f=some ⟨oc,od,.func (PySem.W.fnOf name qual params body scope dV kV doc pm an bX ct),nI⟩) (qg:PySem.W.codeIn K bX qual=true) (S:aE N ps scope)
    (len:∀vs H Q E,sp vs H Q E->vs.length=ps.length)
    (mU:∀(A:Around) (outer:List Env) (s:au) (H:Hp) (vs:List V) (Q:VK) (E:XK),cV k (A.deeper (envOfC qual scope s.heap.objs.size f bX))->sp vs H Q E->
      ∃t,pF (nH CX P w K mg base N qual scope f bX A outer s H E) body t/\t { nx:=fun _ H'=>Q .dG H',rt:=Q } (start N vs) H) :
    mT P w K mg base CX (k+1) f (PySem.W.fnOf name qual params body scope dV kV doc pm an bX ct) ps sp:=by
  refine⟨len,fun A outer s H args us vs Q E hr e0 hb r uf=>?_⟩;have hl:=len _ _ _ _ uf;have KX:K.In s.heap:=e0.mod.E4.keeps fun b o e=>(e0.bs b o e).1
  have lim:s.heap.NoLimit:=e0.mod.nolimit.keeps fun b o e=>(e0.bs b o e).1
  have Cv:∀y∈ps.zip us,scope.names.lookup y.1=some .local\/(scope.names.lookup y.1=some .cell/\((cellsFrom (s.heap.objs.size+1) scope.names []).lookup y.1).isSome=true):=fun ⟨n,v⟩ hy=>by
    rcases S.par n (jH hy).1 with q | q
    · exact .inl q
    · exact .inr ⟨q,PySem.W.cellsFrom_some _ _ _ (.inl q)⟩
  refine codeAny_call_function hr.depth (KX _ _ lk) rfl S.co S.gen rfl (PySem.W.codeRec_of KX qg) (hb _ _ _ _ ?_);refine wpAny_newFunctionEnv_cells S.kind Cv fun env he s1 x=>?_
  subst he;refine⟨lim.keeps x.toInCall.keep,codeAny_func ?_⟩;obtain⟨t,ht,hq⟩:=mU A outer s H vs Q E (hr.deeper _) uf;have I:Inv (nH CX P w K mg base N qual scope f bX A outer s H E) [] (start N vs) H s1:=Rz S hr.hd e0 hl r x;refine b8 (ht [] s1 (start N vs) H _ I hq) (fun fl s' hs=>?_) fun e s' hs=>hs
  have fin:∀{aK:St}{H':Hp}{v:V}{u:ai},Inv (nH CX P w K mg base N qual scope f bX A outer s H E) [] aK H' s'->RelV v u->Q v H'->CE outer P w H s Q u s':=
    fun {aK H' v u} J rv q=>⟨v,H',J.os,J.bare,J.base,J.bA,rv,q⟩
  cases fl with
  | ret u=>
    obtain⟨v,aK,H',J,rv,q⟩:=hs;exact fin J rv q
  | next=>
    obtain⟨aK,H',J,q⟩:=hs;exact fin (v:=V.dG) (u:=Value.none) J rfl q
  | brk=>
    obtain⟨_,_,_,q⟩:=hs;exact False.elim q
  | cont=>
    obtain⟨_,_,_,q⟩:=hs;exact False.elim q
section
variable {X:Cx}{x:Str}{p pos:Pos}{e:Expr}{es:List Expr}{t:TA}{id T:String}{r:List V->Hp->VK->Prop}
def Lo (r:List V->Hp->VK->Prop) (t:TA):TE:=fun σ H Q=>t σ H fun vs H1=>r vs H1 Q
theorem jf (hc:oW X (.builtin id) r) (hg:Gl X x) (hm:X.mg x=none) (hv:bootBuiltins x=some (.builtin id)) (ha:PA X (e::es) t) (hn:x≠"__name__":=by decide) (j0:(x == ("__debug__" : Str))=false:=by decide)
    (he:starEach (e::es) X.env=(false,eval e X.env)::starEach es X.env:=by rfl) (kq:(backTo pos (starEach es X.env)).any (·.1)=false:=by rfl):PE X (.Call (.Name x p) (e::es) [] pos) (Lo r t):=by
  intro pins s σ H Q I h;refine mD (B0 I hg hm hv ?_ hn j0);exact PyProof.Rows.callWith_builtin1 (cA (ha pos pins s σ H _ I h) fun us s1 ⟨vs,H1,I1,r1,q1⟩=>hc pins s1 σ H1 vs us Q I1 r1 q1) he kq
theorem xm (hc:oW X (.type T) r) (hg:Gl X x) (hm:X.mg x=none) (hv:bootBuiltins x=some (.type T)) (ha:PA X (e::es) t) (hn:x≠"__name__":=by decide) (j0:(x == ("__debug__" : Str))=false:=by decide)
    (he:starEach (e::es) X.env=(false,eval e X.env)::starEach es X.env:=by rfl) (kq:(backTo pos (starEach es X.env)).any (·.1)=false:=by rfl):PE X (.Call (.Name x p) (e::es) [] pos) (Lo r t):=by
  intro pins s σ H Q I h;refine mD (B0 I hg hm hv ?_ hn j0);exact qB (cA (ha pos pins s σ H _ I h) fun us s1 ⟨vs,H1,I1,r1,q1⟩=>hc pins s1 σ H1 vs us Q I1 r1 q1) he kq
end
end L2
namespace HT
open PySem PyProof.Rows
section
open PySem.SeqAt
open PySem.AutoSeq1 (wpAny_loadPart')
open PySem.MeetsSeq PySem.MeetsSeq2 PySem.MeetsSeq3
end
section
variable {prog:aU}{w:World}{A:Around}{E:aA}{s:au}
theorem xq {t b:ah}{vs ws:List ai}{Q:aA}(ht:IsTup s.heap t vs.toArray) (hb:IsTup s.heap b ws.toArray) (hv:vs≠[])
    (h1:ws = []->Q (.ref t) s) (h2:ws≠[]->Q (.ref s.heap.objs.size) { s with heap:=s.heap.push { cls:=.type "tuple",data:=.seq (vs++ws).toArray } })
    (hsz:vs.length+ws.length<=sizeLine):wpAny (model prog w) A (binaryOp .Add (.ref t) (.ref b)) Q E s:=by
  obtain⟨⟨cls,dd,data,sl⟩,ho,hc,n,hd⟩:=id ht;obtain⟨⟨HD,Fx,data2,Fy⟩,zL,zM,n2,hd2⟩:=id hb;simp only at hc hd zM hd2;subst hc hd zM hd2;have e:vs.toArray++ws.toArray=(vs++ws).toArray:=by simp
  by_cases hw:ws = []
  · exact concat_meets ⟨_,ho,rfl⟩ ⟨_,zL,rfl⟩ noFill_tuple_add seq_tuple_add PySem.F.slot_tuple_add PySem.F.entry_tuple_add (PySem.F.args_tuple_add_2 _ _)
      (tuple_addW1 t b vs.toArray ws.toArray n n2 dd Fx sl Fy (by simpa using hv) (by simp[hw])) ⟨ho,zL,h1 hw⟩
  · refine concat_meets ⟨_,ho,rfl⟩ ⟨_,zL,rfl⟩ noFill_tuple_add seq_tuple_add PySem.F.slot_tuple_add PySem.F.entry_tuple_add (PySem.F.args_tuple_add_2 _ _)
      (tuple_addW2 t b vs.toArray ws.toArray n n2 dd Fx sl Fy (by simpa using hv) (by simpa using hw) (by rw[bS,bS];exact hsz)) ⟨ho,zL,?_⟩
    rw[e];exact h2 hw
def dO (n d:Nat):Option Int->Nat
  | none=>d
  | some v=>if v<0 then (v+(n:Int)).toNat else min v.toNat n
theorem RA (n d:Nat) (hd:d<=n) (o:Option Int):dO n d o<=n:=by
  cases o with
  | none=>exact hd
  | some v=>
    show (if v<0 then (v+(n:Int)).toNat else min v.toNat n)<=n
    by_cases hv:v<0
    · rw[aq hv];lia
    · rw[ao hv];exact Nat.min_le_right _ _
theorem Lp (v:Int) (n d:Nat):(if v<0 then max (v+(n:Int)) 0 else min v (n:Int))=((dO n d (some v):Nat):Int):=by
  show (if v<0 then max (v+(n:Int)) 0 else min v (n:Int))=(((if v<0 then (v+(n:Int)).toNat else min v.toNat n):Nat):Int)
  by_cases hv:v<0
  · simp only [aq hv];lia
  · simp only [ao hv];lia
theorem RB (lo hi:Option Int) (n:Nat):Builtin.Slice.sliceAdjust lo hi 1 (n:Int)=(((dO n 0 lo:Nat):Int),((dO n n hi:Nat):Int)):=by
  have h1:¬((1:Int)<0):=by lia
  unfold Builtin.Slice.sliceAdjust;simp only [h1,dZ];refine Prod.ext ?_ ?_
  · cases lo with
    | none=>rfl
    | some v=>exact Lp v n 0
  · cases hi with
    | none=>rfl
    | some v=>exact Lp v n n
theorem RC (i j:Nat):Builtin.Slice.slicePlaces (i:Int) (j:Int) 1=j-i:=by
  unfold Builtin.Slice.slicePlaces;have h1:(1:Int) > 0:=by lia
  simp only [h1,if_true,Int.ediv_one];split<;>lia
theorem Lq {v:ai}{o:Option Int}{Q:Option Int->au->Prop}(p:IsPart v o) (h:Q o s):wpAny (model prog w) A (Builtin.Slice.slicePartIndex v) Q E s:=by
  cases p with
  | none=>exact slicePart_none h
  | int i t=>exact slicePart_int h
theorem RD {sl:ah}{vl vu:ai}{lo hi:Option Int}{n:Nat}{Q:Int×Int×Nat->au->Prop}(hs:s.heap.IsSliceOf sl vl vu .none) (pl:IsPart vl lo) (pu:IsPart vu hi)
    (h:Q (((dO n 0 lo:Nat):Int),1,dO n n hi-dO n 0 lo) s):wpAny (model prog w) A (Builtin.Slice.sliceApplied (.ref sl) (pure (n:Int))) Q E s:=by
  obtain⟨os,zN,Lr,FA⟩:=id hs;unfold Builtin.Slice.sliceApplied Builtin.Slice.sliceFields;refine aj (aj (eY zN FA (x:=vl) rfl (aj (eY zN FA (x:=vu) rfl (aj (eY zN FA (x:=.none) rfl (az ?_)))))));refine aj (slicePart_none ?_);show wpAny _ _ (if ((1:Int) == 0)=true then _ else _) _ _ s;rw[ao (by decide)];refine aj (Lq pl (aj (Lq pu (aj (az ?_)))));show wpAny _ _ (match Builtin.Slice.sliceAdjust lo hi 1 (n:Int) with | (lo,hi)=>pure (lo,(1:Int),Builtin.Slice.slicePlaces lo hi 1)) _ _ s;rw[RB lo hi n];show wpAny _ _ (pure (((dO n 0 lo:Nat):Int),(1:Int),Builtin.Slice.slicePlaces ((dO n 0 lo:Nat):Int) ((dO n n hi:Nat):Int) 1)) _ _ s;rw[RC];exact az h
theorem RE (xs:Array ai) (i k:Nat):((List.range k).filterMap fun (m:Nat)=>xs[((i:Int)+(m:Int) * 1).toNat]?).toArray=((xs.toList.drop i).take k).toArray:=by
  have e:(fun (m:Nat)=>xs[((i:Int)+(m:Int) * 1).toNat]?)=fun m=>xs[i+m]?:=by
    funext m;have:((i:Int)+(m:Int) * 1).toNat=i+m:=by lia
    rw[this]
  rw[e];have:=pick_run xs i k;rw[List.filterMap_map] at this;have e2:((fun x=>xs[x]?) ∘ fun x=>i+x)=fun m=>xs[i+m]?:=rfl
  rw[e2] at this;rw[this]
theorem j3 {t sl:ah}{items:Array ai}{vl vu:ai}{lo hi:Option Int}{Q:aA}(ht:IsTup s.heap t items) (hs:s.heap.IsSliceOf sl vl vu .none) (pl:IsPart vl lo) (pu:IsPart vu hi)
    (hw:¬(dO items.size 0 lo=0/\dO items.size items.size hi=items.size))
    (h:Q (.ref s.heap.objs.size) { s with heap:=s.heap.push { cls:=.type "tuple",data:=.seq ((items.toList.drop (dO items.size 0 lo)).take (dO items.size items.size hi-dO items.size 0 lo)).toArray } })
    (hsz:items.size<=sizeLine):wpAny (model prog w) A (getItem (.ref t) (.ref sl)) Q E s:=by
  have rX:sizeOk (.seq ((items.toList.drop (dO items.size 0 lo)).take (dO items.size items.size hi-dO items.size 0 lo)).toArray):=by
    show ((items.toList.drop (dO items.size 0 lo)).take (dO items.size items.size hi-dO items.size 0 lo)).toArray.size<=sizeLine;rw[bS,bF,kD,jq];lia
  have hj:dO items.size items.size hi<=items.size:=RA _ _ (aH _) hi;obtain⟨os,zN,Lr,FA⟩:=id hs;have RG:s.TypeIs (.ref sl) "slice":=⟨os,zN,Lr⟩;unfold getItem
  try with_reducible refine cT ?_
  first | refine aj (az ?_) | skip
  refine aj (wpAny_sequenceKey ht.typeIs (by decide) ?_);refine aj (mj (name:=Str.ofString "__getitem__") ht.typeIs qA
    (jv qA ht.typeIs entry_tuple_getitem ?_ (args_tuple_getitem _ _)))
  show wpAny _ _ (Builtin.Tuple.tupleItemsOf (.ref t) >>= _) _ _ s;refine aj (tupleItemsOf_ ht ?_);refine aj (kL RG ?_);rw[aq (by decide)];refine aj (RD hs pl pu ?_);have RH:¬((((dO items.size 0 lo:Nat):Int) == 0&&(1:Int) == 1&&(dO items.size items.size hi-dO items.size 0 lo) == items.size)=true):=by
    intro q;rw[fj,fj] at q;have q1:((dO items.size 0 lo:Nat):Int)=0:=eq_of_beq q.1.1;have q2:dO items.size items.size hi-dO items.size 0 lo=items.size:=eq_of_beq q.2;exact hw ⟨by lia,by lia⟩
  show wpAny _ _ (if (((dO items.size 0 lo:Nat):Int) == 0&&(1:Int) == 1&&(dO items.size items.size hi-dO items.size 0 lo) == items.size)=true then _ else _) _ _ s;rw[ao RH,RE]
  first
    | exact aj (m:=Builtin.Tuple.tupleExact _) (fh (az ⟨_,rfl,az h⟩) rX)
    | exact aj (m:=Builtin.Tuple.tupleExact _) (fh (aj (az (az ⟨_,rfl,az h⟩))) rX)
    | exact aj (aj (m:=Builtin.Tuple.tupleExact _) (fh (az (az ⟨_,rfl,az h⟩)) rX))
    | exact aj (aj (m:=Builtin.Tuple.tupleExact _) (fh (az ⟨_,rfl,az h⟩) rX))
end
end HT
namespace L2
open PySem PySem.Spec PyProof.Rows
abbrev TO:=St->Hp->(Option Int->Hp->Prop)->Prop
def PO (X:Cx) (e:Option Expr) (t:TO):Prop:=
  ∀(pins:aG) (s:au) (σ:St) (H:Hp) (Q:Option Int->Hp->Prop),Inv X pins σ H s->t σ H Q->
    wpAny (model X.prog X.w) X.A (evalPart e X.env) (fun u s'=>∃o H',Inv X pins σ H' s'/\IsPart u o/\Q o H') X.xe s
def RI:TO:=fun _ H Q=>Q none H
def RJ (t:TE):TO:=fun σ H Q=>t σ H fun x H1=>∃i,x = .int i/\Q (some i) H1
section
variable {X:Cx}{e:Expr}{te:TE}{lo hi:Option Expr}{tl th:TO}{pos p2:Pos}
theorem uK:PO X none RI:=by
  intro pins s σ H Q I h;rw[evalPart_none];exact az ⟨none,H,I,.none,h⟩
theorem qR (h:PE X e te):PO X (some e) (RJ te):=by
  intro pins s σ H Q I hw;rw[evalPart_some];refine cA (h pins s σ H _ I hw) fun u s1 bg=>?_
  obtain⟨x,H1,I1,r1,q1⟩:=bg;obtain⟨i,rfl,q⟩:=q1;obtain⟨t,rfl⟩:=r1;exact⟨some i,H1,I1,.int i t,q⟩
def A8 (X:Cx) (r:V->Option Int->Option Int->Hp->VK->Prop):Prop:=
  ∀(pins:aG) (s:au) (σ:St) (H:Hp) (x:V) (v vl vu:ai) (lo hi:Option Int) (sl:ah) (Q:VK),Inv X pins σ H s->RelV x v->s.heap.IsSliceOf sl vl vu .none->IsPart vl lo->IsPart vu hi->r x lo hi H Q->
    ∃T id,typeLookup (.type T) "__getitem__" = pure (some (.builtin id))/\s.TypeIs v T/\wpAny (model X.prog X.w) X.A (getItem v (.ref sl)) (EP X pins σ Q) X.xe s
def RK (r:V->Option Int->Option Int->Hp->VK->Prop) (te:TE) (tl th:TO):TE:=fun σ H Q=>te σ H fun x H1=>tl σ H1 fun l H2=>th σ H2 fun u H3=>r x l u H3 Q
theorem sL {r:V->Option Int->Option Int->Hp->VK->Prop}(hr:A8 X r) (he:PE X e te) (hl:PO X lo tl) (hu:PO X hi th):PE X (.Subscript e (.Slice lo hi none p2) pos) (RK r te tl th):=by
  intro pins s σ H Q I h;refine Subscript_ (cA (he pins s σ H _ I h) fun v s1 bg=>?_);obtain⟨x,H1,I1,r1,q1⟩:=bg;refine wpAny_Slice (cA (hl pins s1 σ H1 _ I1 q1) fun vl s2 ⟨l,H2,I2,pl,q2⟩=>cA (hu pins s2 σ H2 _ I2 q2) fun vu s3 bg=>?_);obtain⟨u,H3,I3,pu,q3⟩:=bg;rw[evalPart_none];refine az ?_;have I4:Inv X pins σ H3 { s3 with heap:=s3.heap.push { cls:=.type "slice",data:=.fields #[vl,vu,.none] } }:=I3.kept (t':=s3.toks) fun b ob q=>bC _ q
  obtain⟨T,id,hT,ht,hg⟩:=hr pins { s3 with heap:=s3.heap.push { cls:=.type "slice",data:=.fields #[vl,vu,.none] } } σ H3 x v vl vu l u s3.heap.objs.size Q I4 r1 (Heap.IsSliceOf.new ..) pl pu q3;show wpAny (model X.prog X.w) X.A (subscriptTail e (.Slice lo hi none p2) v (.ref s3.heap.objs.size)) (EP X pins σ Q) X.xe { s3 with heap:=s3.heap.push { cls:=.type "slice",data:=.fields #[vl,vu,.none] } };exact tail_any (ops:=[.ref s3.heap.objs.size,v]) ht hT hg (by with_unfolding_all rfl)
def jg (xs:List V) (lo hi:Option Int):List V:=(xs.drop (HT.dO xs.length 0 lo)).take (HT.dO xs.length xs.length hi-HT.dO xs.length 0 lo)
theorem Ls (xs:List V) (lo hi:Option Int):(jg xs lo hi).length<=xs.length:=by
  unfold jg;rw[bF,kD];lia
def Cw (K:aF):V->Option Int->Option Int->Hp->VK->Prop:=fun x lo hi H Q=>∃a xs,x = .ref a/\bu K H a xs/\
  ¬(HT.dO xs.length 0 lo=0/\HT.dO xs.length xs.length hi=xs.length)/\∀p,H p=none->Q (.ref p) (upd H p (.tup (jg xs lo hi)))
theorem RL:A8 X (Cw X.K):=by
  intro pins s σ H x v vl vu lo hi sl Q I rx hs pl pu h;obtain⟨a,xs,rfl,hx,hw,q⟩:=h;cases rx;obtain⟨its,r,ht,hz⟩:=I.tuple hx;have hlen:its.toArray.size=xs.length:=by rw[bS];exact r.length.symm
  refine⟨"tuple",_,qA.lookup,ht.typeIs,?_⟩;refine HT.j3 ht hs pl pu (by rw[hlen];exact hw) ?_ (by rw[hlen];exact hz);rw[hlen];refine⟨.ref s.heap.objs.size,_,I.laid (t':=s.toks) (o:=.tup (jg xs lo hi)) (fun b ob q=>bC _ q) (aH _) ?_,rfl,q _ (I.bA.fresh (aH _))⟩;exact⟨b7 (Ls xs lo hi) hz,_,(r.drop (HT.dO xs.length 0 lo)).take (HT.dO xs.length xs.length hi-HT.dO xs.length 0 lo),IsTup.new _ _⟩
def Lu (K:aF):R2:=fun x y H Q=>∃a b xs ys,x = .ref a/\y = .ref b/\bu K H a xs/\bu K H b ys/\xs≠[]/\xs.length+ys.length<=sizeLine/\
  (ys = []->Q (.ref a) H)/\(ys≠[]->∀p,H p=none->Q (.ref p) (upd H p (.tup (xs++ys))))
theorem Vals.gh {xs:List V}{us:List ai}(r:Vals xs us):us = []↔xs = []:=by
  cases r with
  | nil=>simp
  | cons _ _=>simp
theorem RM:iZ X (binaryOp .Add) (Lu X.K):=by
  intro pins s σ H x y v u Q I rx ry h;obtain⟨a,b,xs,ys,rfl,rfl,ha,hb,hx,hz,q1,q2⟩:=h;cases rx;cases ry;obtain⟨its,r1,p1,_⟩:=I.tuple ha;obtain⟨dU,r2,p2,_⟩:=I.tuple hb;refine HT.xq p1 p2 (fun z=>hx (r1.gh.mp z)) (fun z=>⟨.ref a,H,I,rfl,q1 (r2.gh.mp z)⟩) (fun z=>?_) (by rw[←r1.length,←r2.length];exact hz);refine⟨.ref s.heap.objs.size,_,I.laid (t':=s.toks) (o:=.tup (xs++ys)) (fun b ob q=>bC _ q) (aH _) ?_,rfl,q2 (fun w=>z (r2.gh.mpr w)) _ (I.bA.fresh (aH _))⟩;exact⟨by rw[bL];exact hz,_,r1.append r2,IsTup.new _ _⟩
end
def zO (n:Nat) (i:Int):Option Nat:=if 0<=i then (if i<n then some i.toNat else none) else if -(n:Int)<=i then some (i+n).toNat else none
def kr {α:Type}(xs:List α) (i:Int):Option α:=(zO xs.length i).bind fun j=>xs[j]?
theorem RN {n:Nat}{i:Int}{j:Nat}(h:zO n i=some j):seqIndex? i n=some j/\j<n/\-(n:Int)<=i/\i<n:=by
  unfold zO at h
  by_cases h0:0<=i
  · rw[aq h0] at h
    by_cases h1:i<n
    · rw[aq h1] at h;have e:i.toNat=j:=cX h;exact⟨by rw[seqIndex_of h0 h1,e],by lia,by lia,h1⟩
    · rw[ao h1] at h;cases h
  · rw[ao h0] at h
    by_cases h1 : -(n:Int)<=i
    · rw[aq h1] at h;have e:(i+n).toNat=j:=cX h;exact⟨by rw[seqIndex_neg (by lia) h1,e],by lia,h1,by lia⟩
    · rw[ao h1] at h;cases h
theorem HE {α:Type}{xs:List α}{i:Int}{v:α}(h:kr xs i=some v):∃j,seqIndex? i xs.length=some j/\xs[j]? = some v/\j<xs.length/\-(xs.length:Int)<=i/\i<xs.length:=by
  unfold kr at h;cases e:zO xs.length i with
  | none=>rw[e] at h;cases h
  | some j=>
    rw[e] at h;obtain⟨h1,h2,h3,h4⟩:=RN e;exact⟨j,h1,h,h2,h3,h4⟩
theorem nJ {α:Type}{xs:List α}{j:Nat}{v:α}(h:xs[j]? = some v):kr xs (j:Int)=some v:=by
  have hj:j<xs.length:=(bV.mp h).1;have e:zO xs.length (j:Int)=some j:=by
    unfold zO;rw[aq (by lia),aq (by lia)];simp
  unfold kr;rw[e];exact h
def Lw (b:Expr):Prop:=∀o i,subscripted b false o i=operate [o,i] (getItem o i)
def zP (X:Cx) (r:R2):Prop:=
  ∀(value slice:Expr) (pins:aG) (s:au) (σ:St) (H:Hp) (x y:V) (v u:ai) (Q:VK),Inv X pins σ H s->RelV x v->RelV y u->r x y H Q->
    subscripted slice false v u=operate [v,u] (getItem v u)->wpAny (model X.prog X.w) X.A (subscriptTail value slice v u) (EP X pins σ Q) X.xe s
def Cy (X:Cx) (id:String) (r:V->List V->Hp->VK->Prop):Prop:=
  ∀(pins:aG) (s:au) (σ:St) (H:Hp) (x:V) (xs:List V) (v:ai) (us:List ai) (Q:VK),Inv X pins σ H s->RelV x v->Vals xs us->r x xs H Q->
    wpAny (model X.prog X.w) X.A (call (.builtin id) (v::us)) (EP X pins σ Q) X.xe s
section
variable {X:Cx}{a b:Expr}{ta tb:TE}{pos:Pos}
theorem RO {r:R2}(hr:zP X r) (ha:PE X a ta) (hb:PE X b tb) (hs:Lw b):PE X (.Subscript a b pos) (A5 r ta tb):=by
  intro pins s σ H Q I h;exact Subscript_ (zF ha hb I h fun v u s2 x y H2 I2 rx ry q=>hr a b pins s2 σ H2 x y v u Q I2 rx ry q (hs _ _))
inductive Cz (K:aF) (x y:V) (H:Hp) (Q:VK):Prop
  | mk (p:ah) (xs:List V) (i:Int) (v:V) (_:x = .ref p) (_:y = .int i) (_:aJ K H p xs) (_:kr xs i=some v) (_:Q v H)
def CA (K:aF):R2:=fun x y H Q=>Cz K x y H Q
inductive CB (K:aF) (x y:V) (H:Hp) (Q:VK):Prop
  | mk (p:ah) (xs:List V) (i:Int) (v:V) (_:x = .ref p) (_:y = .int i) (_:bu K H p xs) (_:kr xs i=some v) (_:Q v H)
def CC (K:aF):R2:=fun x y H Q=>CB K x y H Q
def HF:R2:=fun x y H Q=>∃z i c,x = .str z/\y = .int i/\z.length<=sizeLine/\kr z.cps.toList i=some c/\Q (.str ⟨#[c]⟩) H
theorem RP:zP X (CA X.K):=by
  intro value slice pins s σ H x y v u Q I rx ry h hs;obtain⟨p,xs,i,z,rfl,rfl,hq,he,q⟩:=h;cases rx;obtain⟨t,rfl⟩:=ry;obtain⟨its,r,pl,hz⟩:=I.list hq;obtain⟨j,h1,h2,h3,h4,h5⟩:=HE he;obtain⟨w,ew,iY⟩:=r.get h2;have hl:=r.length;have hn:=Ft;have fin:EP X pins σ Q w s:=⟨z,H,I,iY,q⟩
  by_cases h0:0<=i
  · have hj:i.toNat=j:=by
      rw[seqIndex_of h0 h5] at h1;exact cX h1
    exact item_listR pl.isList h0 (by lia) (by rw[hj];simpa using ew) fin hs
  · have hj:(i+(its.toArray.size:Int)).toNat=j:=by
      rw[seqIndex_neg (by lia) h4] at h1;rw[bS,←hl];exact cX h1
    exact subscriptTail_builtinR (x:=w) pl.isList.typeIs slot_list_getitem.lookup
      (wpAny_getItem_list_neg (Q:=fun r s'=>r=w/\EP X pins σ Q r s') pl.isList (by lia) (by rw[bS]<;>lia) (by lia) (by rw[hj];simpa using ew) ⟨rfl,fin⟩) hs
theorem RQ:zP X (CC X.K):=by
  intro value slice pins s σ H x y v u Q I rx ry h hs;obtain⟨p,xs,i,z,rfl,rfl,hq,he,q⟩:=h;cases rx;obtain⟨t,rfl⟩:=ry;obtain⟨its,r,pl,hz⟩:=I.tuple hq;obtain⟨j,h1,h2,h3,h4,h5⟩:=HE he;obtain⟨w,ew,iY⟩:=r.get h2;have hl:=r.length;have hn:=Ft;have fin:EP X pins σ Q w s:=⟨z,H,I,iY,q⟩;exact subscriptTail_builtinR (x:=w) pl.typeIs slot_tuple_getitem.lookup
    (getItem_tuple (j:=j) (Q:=fun r s'=>r=w/\EP X pins σ Q r s') pl (by lia) (by lia) (by rw[bS,←hl];exact h1) (by simpa using ew) ⟨rfl,fin⟩) hs
theorem RS:zP X HF:=by
  intro value slice pins s σ H x y v u Q I rx ry h hs;obtain⟨z,i,c,rfl,rfl,hz,he,q⟩:=h;obtain⟨t,rfl⟩:=rx;obtain⟨t',rfl⟩:=ry;obtain⟨j,h1,h2,h3,h4,h5⟩:=HE he;have hl:z.cps.toList.length=z.length:=by simp[Str.length]
  rw[hl] at h1 h4 h5;have hn:=Ft;exact tail_any (typeIs_str s z t) slot_str_getitem.lookup (getItem_str (c:=c) (by
    have e1:decide (i < -(2 ^ 63:Int))=false:=aV (by lia);have e2:decide (i≥2 ^ 63)=false:=aV (by lia);rw[e1,e2,Bool.or_false]) (by rw[h1];simpa using h2) ⟨.str ⟨#[c]⟩,H,I.tok _,⟨_,rfl⟩,q⟩) hs
theorem RT (lo hi:Option Int) (n:Nat):(sliceBounds lo hi none n).1=((HT.dO n 0 lo:Nat):Int)/\(sliceBounds lo hi none n).2.1=((HT.dO n n hi:Nat):Int)/\(sliceBounds lo hi none n).2.2=1:=by
  refine⟨?_,?_,rfl⟩
  · cases lo with
    | none=>simp[sliceBounds,HT.dO]
    | some i=>
      simp only [sliceBounds,HT.dO,Option.getD_none,show (1:Int) > 0 by decide,if_true]
      by_cases h:i<0
      · simp only [h,if_true]<;>lia
      · simp only [h,dZ]<;>lia
  · cases hi with
    | none=>simp[sliceBounds,HT.dO]
    | some i=>
      simp only [sliceBounds,HT.dO,Option.getD_none,show (1:Int) > 0 by decide,if_true]
      by_cases h:i<0
      · simp only [h,if_true]<;>lia
      · simp only [h,dZ]<;>lia
theorem RU (its:List ai) (lo hi:Option Int):slicePick its.toArray lo hi none=((its.drop (HT.dO its.length 0 lo)).take (HT.dO its.length its.length hi-HT.dO its.length 0 lo)).toArray:=by
  obtain⟨h1,h2,h3⟩:=RT lo hi its.toArray.size;unfold slicePick;rw[h1,h2,h3];simp only [sliceRange_one,pick_run,bS]<;>rfl
def CD (K:aF):V->Option Int->Option Int->Hp->VK->Prop:=fun x lo hi H Q=>∃a xs,x = .ref a/\aJ K H a xs/\∀p,H p=none->Q (.ref p) (upd H p (.lst (jg xs lo hi)))
theorem RV:A8 X (CD X.K):=by
  intro pins s σ H x v vl vu lo hi sl Q I rx hs pl pu h;obtain⟨a,xs,rfl,hx,q⟩:=h;cases rx;obtain⟨its,r,ht,hz⟩:=I.list hx;have hlen:=r.length;refine⟨"list",_,slot_list_getitem.lookup,ht.isList.typeIs,?_⟩;refine wpAny_getItem_list_slice ht.isList hs pl pu .none (by simp) ?_ (by rw[bS]<;>lia);rw[RU,←hlen];refine⟨.ref s.heap.objs.size,_,I.laid (t':=s.toks) (o:=.lst (jg xs lo hi)) (fun b ob q=>bC _ q) (aH _) ?_,rfl,q _ (I.bA.fresh (aH _))⟩;exact⟨b7 (Ls xs lo hi) hz,_,0,(r.drop (HT.dO xs.length 0 lo)).take (HT.dO xs.length xs.length hi-HT.dO xs.length 0 lo),bO _ rfl⟩
def oX:V->Bool
  | .dG=>true
  | .bl _=>true
  | .int _=>true
  | .str _=>true
  | _=>false
def rY:V->V->Bool
  | .dG,.dG=>true
  | .bl a,.bl b=>a == b
  | .bl a,.int b=>(if a then 1 else 0) == b
  | .int a,.bl b=>a == (if b then 1 else 0)
  | .int a,.int b=>a == b
  | .str a,.str b=>a == b
  | _,_=>false
theorem Lx {A:Around}{s:au}{y x:V}{u v:ai}(ry:RelV y u) (rx:RelV x v) (fy:oX y=true) (fx:oX x=true):SeqAt.EqAt A s u v (rY y x):=by
  cases y with
  | dG=>
    cases ry;cases x with
    | dG=>cases rx;exact SeqAt.EqAt.same _
    | bl b=>cases rx;exact SeqAt.EqAt.none_bool b
    | int b=>obtain⟨t,rfl⟩:=rx;exact SeqAt.EqAt.none_int b t
    | str b=>obtain⟨t,rfl⟩:=rx;exact SeqAt.EqAt.none_str b t
    | _=>exact absurd (show false=true from fx) bJ
  | bl a=>
    cases ry;cases x with
    | dG=>cases rx;exact SeqAt.EqAt.bool_none a
    | bl b=>cases rx;exact SeqAt.EqAt.bool_bool a b
    | int b=>obtain⟨t,rfl⟩:=rx;exact SeqAt.EqAt.bool_int a b t
    | str b=>obtain⟨t,rfl⟩:=rx;exact SeqAt.EqAt.bool_str a b t
    | _=>exact absurd (show false=true from fx) bJ
  | int a=>
    obtain⟨t',rfl⟩:=ry;cases x with
    | dG=>cases rx;exact SeqAt.EqAt.int_none a t'
    | bl b=>cases rx;exact SeqAt.EqAt.int_bool a t' b
    | int b=>obtain⟨t,rfl⟩:=rx;exact SeqAt.EqAt.int_int a t' b t
    | str b=>obtain⟨t,rfl⟩:=rx;exact SeqAt.EqAt.int_str a t' b t
    | _=>exact absurd (show false=true from fx) bJ
  | str a=>
    obtain⟨t',rfl⟩:=ry;cases x with
    | dG=>cases rx;exact SeqAt.EqAt.str_none a t'
    | bl b=>cases rx;exact SeqAt.EqAt.str_bool a t' b
    | int b=>obtain⟨t,rfl⟩:=rx;exact SeqAt.EqAt.str_int a t' b t
    | str b=>obtain⟨t,rfl⟩:=rx;exact SeqAt.EqAt.str_str a t' b t
    | _=>exact absurd (show false=true from fx) bJ
  | _=>exact absurd (show false=true from fy) bJ
def qS (x:V) (u:ai):Bool:=match u with
  | .none=>rY .dG x
  | .bool b=>rY (.bl b) x
  | .int i _=>rY (.int i) x
  | .str z _=>rY (.str z) x
  | _=>false
theorem Ly {x y:V}{u:ai}(r:RelV y u) (f:oX y=true):qS x u=rY y x:=by
  cases y with
  | dG=>cases r;rfl
  | bl b=>cases r;rfl
  | int i=>obtain⟨t,rfl⟩:=r;rfl
  | str z=>obtain⟨t,rfl⟩:=r;rfl
  | _=>exact absurd (show false=true from f) bJ
theorem CF {x:V}:∀{xs:List V}{us:List ai},Vals xs us->xs.all oX=true->us.any (qS x)=xs.any fun y=>rY y x
  | _,_,.nil,_=>rfl
  | y::xs,u::us,.cons r t,f=>by
    rw[List.all_cons,fj] at f;rw[gT,gT,Ly r f.1,CF t f.2]
theorem CG {A:Around}{s:au}{x:V}{v:ai}(rx:RelV x v) (fx:oX x=true):∀{xs:List V}{us:List ai},Vals xs us->xs.all oX=true->∀u∈us,SeqAt.EqAt A s u v (qS x u)
  | _,_,.nil,_=>fun u hu=>by cases hu
  | y::xs,u::us,.cons r t,f=>fun u' hu=>by
    rw[List.all_cons,fj] at f;rcases aN.mp hu with rfl | hu
    · rw[Ly r f.1];exact Lx r rx f.1 fx
    · exact CG rx fx t f.2 u' hu
def A9 (x:V) (xs:List V):Bool:=xs.any fun y=>rY y x
def FD (K:aF) (neg:Bool):R2:=fun x y H Q=>∃p xs,y = .ref p/\(aJ K H p xs\/bu K H p xs)/\oX x=true/\xs.all oX=true/\Q (.bl (if neg then !A9 x xs else A9 x xs)) H
theorem RW:iZ X (compareOp .In) (FD X.K false):=by
  intro pins s σ H x y v u Q I rx ry h;obtain⟨p,xs,rfl,hq,fx,fs,q⟩:=h;cases ry;rcases hq with hq | hq
  · obtain⟨its,r,pl,hz⟩:=I.list hq;refine SeqAt.in_listAt (qS x) pl.isList (fun w hw=>CG rx fx r fs w (by simpa using hw)) ⟨.bl _,H,I,rfl,?_⟩;rw[show its.toArray.any (qS x)=its.any (qS x) by simp,CF r fs];exact q
  · obtain⟨its,r,pl,hz⟩:=I.tuple hq;refine SeqAt.in_tupleAt (qS x) pl (fun w hw=>CG rx fx r fs w (by simpa using hw)) ⟨.bl _,H,I,rfl,?_⟩;rw[show its.toArray.any (qS x)=its.any (qS x) by simp,CF r fs];exact q
theorem RX:iZ X (compareOp .NotIn) (FD X.K true):=by
  intro pins s σ H x y v u Q I rx ry h;obtain⟨p,xs,rfl,hq,fx,fs,q⟩:=h;cases ry;rcases hq with hq | hq
  · obtain⟨its,r,pl,hz⟩:=I.list hq;refine SeqAt.notIn_listAt (qS x) pl.isList (fun w hw=>CG rx fx r fs w (by simpa using hw)) ⟨.bl _,H,I,rfl,?_⟩;rw[show its.toArray.any (qS x)=its.any (qS x) by simp,CF r fs];exact q
  · obtain⟨its,r,pl,hz⟩:=I.tuple hq;refine SeqAt.notIn_tupleAt (qS x) pl (fun w hw=>CG rx fx r fs w (by simpa using hw)) ⟨.bl _,H,I,rfl,?_⟩;rw[show its.toArray.any (qS x)=its.any (qS x) by simp,CF r fs];exact q
theorem RY:oW X (.builtin "len") (fun xs H Q=>∃p ys,xs = [.ref p]/\(aJ X.K H p ys\/bu X.K H p ys)/\Q (.int ys.length) H):=by
  intro pins s σ H xs us Q I r h;obtain⟨p,ys,rfl,hq,q⟩:=h;obtain⟨u,rfl,rx⟩:=qj r;cases rx;have hn:=Ft;rcases hq with hq | hq
  · obtain⟨its,r',pl,hz⟩:=I.list hq;have hlen:=r'.length;exact Calls.call_len_list pl.isList (by simp only [bS]<;>lia) ⟨.int ys.length,H,I.tok _,⟨s.toks+1,by rw[bS,hlen]⟩,q⟩
  · obtain⟨its,r',pl,hz⟩:=I.tuple hq;have hlen:=r'.length;exact len_tuple pl (by simp only [bS]<;>lia) ⟨.int ys.length,H,I.tok _,⟨s.toks+1,by rw[bS,hlen]⟩,q⟩
theorem RZ:oW X (.type "list") (fun xs H Q=>∃p ys,xs = [.ref p]/\(aJ X.K H p ys\/bu X.K H p ys)/\∀l,H l=none->Q (.ref l) (upd H l (.lst ys))):=by
  intro pins s σ H xs us Q I r h;obtain⟨p,ys,rfl,hq,q⟩:=h;obtain⟨u,rfl,rx⟩:=qj r;cases rx;have fin:∀(its:List ai),Vals ys its->ys.length<=sizeLine->∀(h':Heap) (c':Nat),(∀b o',s.heap.get? b=some o'->h'.get? b=some o')->
      h'.get? s.heap.objs.size=some { cls:=.type "list",dict:=none,data:=.seq its.toArray c',slots:=#[] }->EP X pins σ Q (.ref s.heap.objs.size) { s with heap:=h' }:=fun its r' hz h' c' kp e=>
    ⟨.ref s.heap.objs.size,_,I.laid (t':=s.toks) kp (aH _) (show bU X.prog X.w _ h' _ (.lst ys) from ⟨hz,its,c',r',e⟩),rfl,q _ (I.bA.fresh (aH _))⟩
  rcases hq with hq | hq
  · obtain⟨its,r',pl,hz⟩:=I.list hq;have hlen:=r'.length;obtain⟨o,ho,hc,n,hd⟩:=pl.isList;exact call_list_seq p (.inl rfl) ho hc hd (fun h' c' kp e=>fin its r' hz h' c' kp e) (by simp only [bS]<;>lia)
  · obtain⟨its,r',pl,hz⟩:=I.tuple hq;have hlen:=r'.length;obtain⟨o,ho,hc,n,hd⟩:=pl;exact call_list_seq p (.inr rfl) ho hc hd (fun h' c' kp e=>fin its r' hz h' c' kp e) (by simp only [bS]<;>lia)
def HG (K:aF) (T:String) (x:V) (H:Hp):Prop:=match x with
  | .str _=>T = "str"
  | .int _=>T = "int"
  | .ref p=>(T = "list"/\∃xs,aJ K H p xs)\/(T = "tuple"/\∃o,K.lookup p=some o/\o.cls = .type "tuple"/\o.dict=none)\/
      (T = "dict"/\((∃kvs,H p=some (.dK kvs))\/∃kvs,H p=some (.dT kvs)))\/(T = "set"/\∃S n,H p=some (.set S n))
  | _=>False
theorem Lz {pins:aG}{σ:St}{H:Hp}{s:au}{T:String}{x:V}{v:ai}(I:Inv X pins σ H s) (r:RelV x v) (ty:HG X.K T x H) :
    s.TypeIs v T/\∀a,v = .ref a->∃ob,s.heap.get? a=some ob/\ob.dict=none:=by
  cases x with
  | str z=>
    obtain⟨t,rfl⟩:=r;cases (show T = "str" from ty);exact⟨typeIs_str s z t,fun _ e=>nomatch e⟩
  | int i=>
    obtain⟨t,rfl⟩:=r;cases (show T = "int" from ty);exact⟨typeIs_int s i t,fun _ e=>nomatch e⟩
  | ref p=>
    cases r;rcases ty with ⟨rfl,xs,hq⟩ | ⟨rfl,o,hk,hc,hd⟩ | ⟨rfl,hk⟩ | ⟨rfl,S,n,hk⟩
    · obtain⟨its,_,pl,_⟩:=I.list hq;refine⟨pl.isList.typeIs,fun a e=>?_⟩;cases e;obtain⟨o,n,e,c,hd,_⟩:=pl;exact⟨o,e,hd⟩
    · refine⟨⟨o,I.lF p o hk,hc⟩,fun a e=>?_⟩;cases e;exact⟨o,I.lF _ o hk,hd⟩
    · have z:∃o,s.heap.get? p=some o/\o.ExactDict:=by
        rcases hk with ⟨kvs,hk⟩ | ⟨kvs,hk⟩
        · obtain⟨_,_,_,_,o,_,_,e,ex,_⟩:=I.bA p _ hk;exact⟨o,e,ex⟩
        · obtain⟨_,_,_,_,o,_,_,e,ex,_⟩:=I.bA p _ hk;exact⟨o,e,ex⟩
      obtain⟨o,e,ex⟩:=z;refine⟨⟨o,e,ex.1⟩,fun a e2=>?_⟩;cases e2;exact⟨o,e,ex.2.1⟩
    · obtain⟨o,_,_,_,e,ex,_⟩:=I.bA p _ hk;refine⟨⟨o,e,ex.1⟩,fun a e2=>?_⟩;cases e2;exact⟨o,e,ex.2.1⟩
  | _=>exact False.elim ty
def CH (K:aF) (T:String) (r:V->List V->Hp->VK->Prop) (to:TE):TE:=fun σ H Q=>to σ H fun x H1=>HG K T x H1/\r x [] H1 Q
def LA (K:aF) (T:String) (r:V->List V->Hp->VK->Prop) (to:TE) (t:TA):TE:=fun σ H Q=>to σ H fun x H1=>HG K T x H1/\t σ H1 fun xs H2=>r x xs H2 Q
variable {o e:Expr}{es:List Expr}{to:TE}{t:TA}{name:Str}{apos bY:Pos}{T id:String}{r:V->List V->Hp->VK->Prop}
theorem R1 (pa:PlainAttrs T) (slot:Slot T name id) (zQ:typeOf (.builtin id)=pure (.type "method_descriptor")) (hm:Cy X id r) (ho:PE X o to)
    (mV:attributeBase o name X.env (eval o X.env)=eval o X.env:=by rfl) (mW:(apos.endLine == bY.line)=true:=by rfl):PE X (.Call (.Attribute o name apos) [] [] bY) (CH X.K T r to):=by
  intro pins s σ H Q I h;refine wpAny_Call_method0_late mV mW (cA (ho pins s σ H _ I h) fun v s1 bg=>?_);obtain⟨x,H1,I1,r1,ty,q1⟩:=bg;obtain⟨h1,h2⟩:=Lz I1 r1 ty;exact⟨T,id,pa,slot,zQ,h1,h2,oq rfl (PySem.evalArgs_none (hm pins s1 σ H1 x [] v [] Q I1 r1 .nil q1))⟩
theorem R3 (pa:PlainAttrs T) (slot:Slot T name id) (zQ:typeOf (.builtin id)=pure (.type "method_descriptor")) (hm:Cy X id r) (ho:PE X o to) (ha:PA X (e::es) t)
    (mV:attributeBase o name X.env (eval o X.env)=eval o X.env:=by rfl)
    (zR:((backTo bY (starEach (e::es) X.env)).all (fun x=>!x.1)&&(backToKw bY (keywordEach [] X.env)).all (fun x=>x.1.isSome)
      && decide ((e::es).length+([]:List Keyword).length+(if ([]:List Keyword).isEmpty then 0 else 1)<30))=true:=by rfl)
    (mW:(apos.endLine == bY.line)=true:=by rfl) (hs:starEach (e::es) X.env=(false,eval e X.env)::starEach es X.env:=by rfl) (qT:(backTo bY (starEach es X.env)).any (·.1)=false:=by rfl) :
    PE X (.Call (.Attribute o name apos) (e::es) [] bY) (LA X.K T r to t):=by
  intro pins s σ H Q I h;refine wpAny_Call_method_late mV zR mW rfl (cA (ho pins s σ H _ I h) fun v s1 bg=>?_);obtain⟨x,H1,I1,r1,ty,q1⟩:=bg;obtain⟨h1,h2⟩:=Lz I1 r1 ty;refine⟨T,id,pa,slot,zQ,h1,h2,?_⟩;have hA:=ha bY pins s1 σ H1 _ I1 q1;rw[hs] at hA ⊢;refine oq (by show (false||(backTo bY (starEach es X.env)).any (·.1))=false;rw[qT]<;>rfl) (oB ?_);exact cA hA fun us s2 ⟨vs,H2,I2,r2,q2⟩=>hm pins s2 σ H2 x vs v us Q I2 r1 r2 q2
end
def LB (X:Cx) (id:String) (r:V->List V->Hp->VK->Prop):Prop:=
  ∀(pins:aG) (s:au) (σ:St) (H:Hp) (x:V) (xs:List V) (v:ai) (us:List ai) (Q:VK),Inv X pins σ H s->RelV x v->Vals xs us->r x xs H Q->
    wpAny (model X.prog X.w) X.A (call (.builtin id) (v::us)) (EP X pins σ Q) X.xe s
theorem Vals.one:∀{x:V}{us:List ai},Vals [x] us->∃u,us = [u]/\RelV x u
  | _,_,.cons r .nil=>⟨_,rfl,r⟩
section
variable {X:Cx}{pins:aG}{σ:St}{H:Hp}{s:au}{l b:ah}{xs ys zs:List V}
theorem Inv.HH {its its':List ai}{n:Nat}{f:Array ai->Array ai}{t':Nat}(I:Inv X pins σ H s) (hH:H l=some (.lst xs))
    (e:s.heap.get? l=some { cls:=.type "list",data:=.seq its.toArray n }) (hf:f its.toArray=its'.toArray) (hv:Vals ys its') (hz:ys.length<=sizeLine) :
    Inv X pins σ (upd H l (.lst ys)) { s with heap:=s.heap.update l (Obj.mapSeq f),toks:=t' }:=by
  have q:=PySem.IsL.update e f;rw[hf] at q;refine I.write (x:=l) (e:=l) (by rw[hH];exact trivial) (.inl rfl) (fun b' u hb hu=>(cE s.heap (Obj.mapSeq f) (aD hb)).trans hu) ⟨_,q⟩ ?_;exact⟨hz,its',_,hv,q⟩
theorem Inv.zS {its:List ai}{t':Nat}(I:Inv X pins σ H s) (hv:Vals ys its) (hz:ys.length<=sizeLine) :
    Inv X pins σ (upd H s.heap.objs.size (.lst ys)) { s with heap:=s.heap.push { cls:=.type "list",data:=.seq its.toArray },toks:=t' }:=
  I.laid (fun _ _ q=>bC _ q) (aH _) ⟨hz,its,0,hv,bO _ rfl⟩
theorem Inv.fresh (I:Inv X pins σ H s):H s.heap.objs.size=none:=I.bA.fresh (aH _)
theorem Inv.zT (I:Inv X pins σ H s) (hH:H l=some (.lst xs)):xs.length<=sizeLine/\∃(its:List ai) (n:Nat),Vals xs its/\xs.length=its.length/\s.heap.get? l=some { cls:=.type "list",data:=.seq its.toArray n }:=by
  obtain⟨z,its,n,r,e⟩:=I.bA l _ hH;exact⟨z,its,n,r,r.length,e⟩
theorem zyq {n:Nat}(h:n<=sizeLine):Builtin.List.listTooLong n=false:=by
  unfold Builtin.List.listTooLong;exact aV (by lia)
end
section
variable {X:Cx}
inductive uL (x:V) (vs:List V) (H:Hp) (Q:VK):Prop
  | mk (l:ah) (xs:List V) (y:V) (_:x = .ref l) (_:vs = [y]) (_:H l=some (.lst xs)) (_:xs.length<sizeLine) (_:Q .dG (upd H l (.lst (xs++[y]))))
def R4:V->List V->Hp->VK->Prop:=fun x vs H Q=>uL x vs H Q
theorem ql:LB X "list.append" R4:=by
  intro pins s σ H x vs v us Q I rx rv h;obtain⟨l,xs,y,rfl,rfl,hH,hz,q⟩:=h;cases rx;obtain⟨u,rfl,ru⟩:=rv.one;obtain⟨z,its,n,r,hl,e⟩:=I.zT hH;refine call_meets F.slot_list_append ⟨_,e,rfl⟩ F.entry_list_append (F.args_list_append_2 _ _) (PySem.list_append l its.toArray n u (by rw[bS];lia)) ⟨e,?_⟩;refine⟨.dG,_,I.HH (its':=its++[u]) hH e (by simp) (r.append (.cons ru .nil)) ?_,rfl,q⟩;rw[bL,List.length_singleton];lia
def HJ:R2:=fun x y H Q=>∃l b xs zs,x = .ref l/\y = .ref b/\H l=some (.lst xs)/\H b=some (.lst zs)/\xs.length+zs.length<=sizeLine/\∀p,H p=none->Q (.ref p) (upd H p (.lst (xs++zs)))
theorem zU:iZ X (binaryOp .Add) HJ:=by
  intro pins s σ H x y v u Q I rx ry h;obtain⟨l,b,xs,zs,rfl,rfl,hH,hB,hz,q⟩:=h;cases rx;cases ry;obtain⟨z,its,n,r,hl,e⟩:=I.zT hH;obtain⟨z2,dU,n2,r2,nA,e2⟩:=I.zT hB;refine PySem.P.add_list e e2 ?_ (by rw[bS,bS];lia);have ea:its.toArray++dU.toArray=(its++dU).toArray:=by simp
  rw[ea];exact⟨.ref _,_,I.zS (t':=s.toks) (r.append r2) (by rw[bL];lia),rfl,q _ I.fresh⟩
end
section
variable {κ:Type} [DecidableEq κ]
def e8 (kvs:List (κ×V)) (k:κ):Option V:=(kvs.find? fun kv=>decide (kv.1=k)).map (·.2)
def putK (kvs:List (κ×V)) (k:κ) (v:V):List (κ×V):=
  if (kvs.any fun kv=>decide (kv.1=k))=true then kvs.map (fun kv=>if kv.1=k then (kv.1,v) else kv) else kvs++[(k,v)]
theorem CI {p:κ×V}{r:List (κ×V)}{k:κ}(e:p.1=k):e8 (p::r) k=some p.2:=by simp[e8,kH,e]
theorem HK {p:κ×V}{r:List (κ×V)}{k:κ}(e:¬p.1=k):e8 (p::r) k=e8 r k:=by simp[e8,kH,e]
theorem LC (k:κ):∀kvs:List (κ×V),(kvs.any fun kv=>decide (kv.1=k))=(e8 kvs k).isSome
  | []=>rfl
  | p::r=>by
    rw[gT]
    by_cases e:p.1=k
    · simp only [CI e,aO e,Bool.true_or,Option.isSome_some]
    · rw[HK e,aV e,Bool.false_or];exact LC k r
theorem FE (kvs:List (κ×V)) (k:κ) (v:V):(putK kvs k v).length<=kvs.length+1:=by
  unfold putK;split
  · rw[ay];lia
  · rw[bL,iK,List.length_nil];lia
theorem jd.gH {o:Option V}{u:Option ai}(r:jd o u):o.isSome=u.isSome:=by
  cases o with
  | none=>cases u with
    | none=>rfl
    | some _=>exact (show False from r).elim
  | some _=>cases u with
    | none=>exact (show False from r).elim
    | some _=>rfl
theorem KV.val {kvs:List (κ×V)}{vs:List (κ×ai)}(r:KV kvs vs) (k:κ):jd (e8 kvs k) (valueAt vs k):=by
  unfold KV at r
  induction r with
  | nil=>exact True.intro
  | @cons p q ps qs h t ih=>
    obtain⟨h1,h2⟩:=h
    by_cases e:p.1=k
    · have e':q.1=k:=h1.symm.trans e;have b:valueAt (q::qs) k=some q.2:=by simp[valueAt,kH,e']
      rw[CI e,b];exact h2
    · have e':¬q.1=k:=fun z=>e (h1.trans z)
      have b:valueAt (q::qs) k=valueAt qs k:=by simp[valueAt,kH,e']
      rw[HK e,b];exact ih
theorem KV.any {kvs:List (κ×V)}{vs:List (κ×ai)}(r:KV kvs vs) (k:κ):(kvs.any fun kv=>decide (kv.1=k))=vs.any fun kv=>decide (kv.1=k):=by
  unfold KV at r
  induction r with
  | nil=>rfl
  | cons h t ih=>rw[gT,gT,ih,h.1]
theorem KV.zV {kvs:List (κ×V)}{vs:List (κ×ai)}(r:KV kvs vs) (k:κ) {y:V}{u:ai}(ry:RelV y u) :
    KV (kvs.map fun kv=>if kv.1=k then (kv.1,y) else kv) (vs.map fun kv=>if kv.1=k then (kv.1,u) else kv):=by
  unfold KV at r ⊢
  induction r with
  | nil=>exact .nil
  | @cons p q ps qs h t ih=>
    rw[fL,fL];refine .cons ?_ ih;obtain⟨h1,h2⟩:=h
    by_cases e:p.1=k
    · rw[aq e,aq (h1.symm.trans e)];exact⟨h1,ry⟩
    · rw[ao e,ao (fun z=>e (h1.trans z))];exact⟨h1,h2⟩
theorem KV.put {kvs:List (κ×V)}{vs:List (κ×ai)}(r:KV kvs vs) (k:κ) {y:V}{u:ai}(ry:RelV y u):KV (putK kvs k y) (stored vs k u):=by
  unfold putK stored;rw[r.any k]
  by_cases e:(vs.any fun kv=>decide (kv.1=k))=true
  · rw[aq e,aq e];exact r.zV k ry
  · rw[ao e,ao e];exact Paired.snoc r ⟨rfl,ry⟩
theorem KV.length {kvs:List (κ×V)}{vs:List (κ×ai)}(r:KV kvs vs):kvs.length=vs.length:=Paired.length r
end
theorem Ba {P:aU}{w:World}{k:Key}{u:ai}(r:RelV (kV k) u):(qe P w).is k u=true:=by
  cases k with
  | inl i=>obtain⟨t,e⟩:=(show ∃t,u=Value.int i t from r);subst e;exact QF P w i t
  | inr x=>obtain⟨t,e⟩:=(show ∃t,u=Value.str x t from r);subst e;exact QG P w x t
theorem LD {P:aU}{w:World}:∀{ks:List Key}{us:List ai},Vals (ks.map kV) us->ItemsAre (qe P w) ks us
  | [],_,r=>by rw[jK] at r;cases r;exact .nil
  | k::ks,_,r=>by
    rw[fL] at r;cases r with
    | cons h t=>exact .cons (Ba h) (LD t)
abbrev KT (H:Hp):List (List Key×V)->List (List Key×ah×ai)->Prop:=Paired fun p q=>p.1=q.1/\H q.2.1=some (.tup (p.1.map kV))/\RelV p.2 q.2.2
theorem KT.val {H:Hp}{kvs:List (List Key×V)}{xs:List (List Key×ah×ai)}(r:KT H kvs xs) (k:List Key):jd (e8 kvs k) ((atKey xs k).map (·.2)):=by
  induction r with
  | nil=>exact True.intro
  | @cons p q ps qs h t ih=>
    obtain⟨h1,_,h2⟩:=h
    by_cases e:p.1=k
    · have e':q.1=k:=h1.symm.trans e;have b:atKey (q::qs) k=some q.2:=by simp[atKey,kH,e']
      rw[CI e,b];exact h2
    · have e':¬q.1=k:=fun z=>e (h1.trans z)
      have b:atKey (q::qs) k=atKey qs k:=by simp[atKey,kH,e']
      rw[HK e,b];exact ih
theorem KT.zV {H:Hp}{kvs:List (List Key×V)}{xs:List (List Key×ah×ai)}(r:KT H kvs xs) (k:List Key) {y:V}{u:ai}(ry:RelV y u) :
    KT H (kvs.map fun kv=>if kv.1=k then (kv.1,y) else kv) (xs.map (putAt k u)):=by
  induction r with
  | nil=>exact .nil
  | @cons p q ps qs h t ih=>
    rw[fL,fL];refine .cons ?_ ih;obtain⟨h1,h2,h3⟩:=h;unfold putAt
    by_cases e:p.1=k
    · rw[aq e,aq (h1.symm.trans e)];exact⟨h1,h2,ry⟩
    · rw[ao e,ao (fun z=>e (h1.trans z))];exact⟨h1,h2,h3⟩
theorem KT.put {H:Hp}{kvs:List (List Key×V)}{xs:List (List Key×ah×ai)}(r:KT H kvs xs) (k:List Key) {b:ah}{y:V}{u:ai}(hb:H b=some (.tup (k.map kV))) (ry:RelV y u) :
    KT H (putK kvs k y) (storedH xs k b u):=by
  have e:(kvs.any fun kv=>decide (kv.1=k))=(atKey xs k).isSome:=by
    rw[LC,(r.val k).gH,Option.isSome_map]
  unfold putK storedH;rw[e]
  by_cases q:(atKey xs k).isSome=true
  · rw[aq q,aq q];exact r.zV k ry
  · rw[ao q,ao q];exact Paired.snoc r ⟨rfl,hb,ry⟩
theorem KT.keeps {H H':Hp}{kvs:List (List Key×V)}{xs:List (List Key×ah×ai)}(r:KT H kvs xs) (ht:∀b ys,H b=some (.tup ys)->H' b=some (.tup ys)):KT H' kvs xs:=
  Paired.fV r fun _ _ z=>⟨z.1,ht _ _ z.2.1,z.2.2⟩
section
variable {P:aU}{w:World}{H:Hp}{h:Heap}{a:ah}
theorem HL {u:HO}(ok:jM P w H h) (e:Rd H a u):bU P w H h a u:=e.ok ok
theorem wj {kvs:List (Key×V)}(ok:jM P w H h) (e:Rd H a (.dK kvs)):kvs.length<=sizeLine/\(a == sysModules)=false/\∃vs,KV kvs vs/\h.DictOf (qe P w) a vs:=
  show bU P w H h a (.dK kvs) from HL ok e
theorem HM {kvs:List (Key×V)}(ok:jM P w H h) (e:H a=some (.dK kvs)):kvs.length<=sizeLine/\(a == sysModules)=false/\∃vs,KV kvs vs/\h.DictOf (qe P w) a vs:=wj ok (.inl e)
theorem CJ {ks:List Key}(ok:jM P w H h) (e:H a=some (.tup (ks.map kV))):(tupleKind (qe P w)).is h ks a:=by
  obtain⟨_,its,r,o,h1,h2,n,h3⟩:=(show bU P w H h a (.tup (ks.map kV)) from ok a _ e);exact⟨o,its.toArray,n,h1,h2,h3,by simpa using LD r⟩
theorem Bb {kvs:List (List Key×V)}(ok:jM P w H h) (e:Rd H a (.dT kvs)):kvs.length<=sizeLine/\(a == sysModules)=false/\
    ∃xs,KT H kvs xs/\h.DictOfH (tupleKind (qe P w)) a xs:=by
  obtain⟨z,y,xs,r,o,es,ep,h1,h2,h3,h4,h5⟩:=(show bU P w H h a (.dT kvs) from HL ok e);refine⟨z,y,xs,r,o,es,ep,h1,h2,h3,h4,fun x hx=>?_,h5⟩;have all:∀{l:List (List Key×V)}{m:List (List Key×ah×ai)},KT H l m->∀x∈m,(tupleKind (qe P w)).is h x.1 x.2.1:=by
    intro l m q
    induction q with
    | nil=>intro x hx;exact nomatch hx
    | @cons p q ps qs hq t ih=>
      intro x hx;rcases aN.mp hx with e | hx
      · subst e;exact CJ ok (by rw[←hq.1];exact hq.2.1)
      · exact ih x hx
  exact all r x hx
theorem uM {kvs:List (List Key×V)}(ok:jM P w H h) (e:H a=some (.dT kvs)):kvs.length<=sizeLine/\(a == sysModules)=false/\
    ∃xs,KT H kvs xs/\h.DictOfH (tupleKind (qe P w)) a xs:=Bb ok (.inl e)
end
def cj (H:Hp) (a:ah) (y:V) (r:Option V):Prop:=
  (∃kvs k,Rd H a (.dK kvs)/\y=kV k/\r=e8 kvs k)\/∃kvs k b,Rd H a (.dT kvs)/\y = .ref b/\H b=some (.tup (k.map kV))/\r=e8 kvs k
def ff (H:Hp) (a:ah) (y v:V) (H':Hp):Prop:=
  (∃kvs k,H a=some (.dK kvs)/\y=kV k/\kvs.length<sizeLine/\H'=upd H a (.dK (putK kvs k v)))\/
  ∃kvs k b,H a=some (.dT kvs)/\y = .ref b/\H b=some (.tup (k.map kV))/\kvs.length<sizeLine/\H'=upd H a (.dT (putK kvs k v))
theorem cj.k {H:Hp}{a:ah}{kvs:List (Key×V)}{k:Key}(e:H a=some (.dK kvs)):cj H a (kV k) (e8 kvs k):=.inl ⟨kvs,k,.inl e,rfl,rfl⟩
theorem ff.k {H:Hp}{a:ah}{kvs:List (Key×V)}{k:Key}{v:V}(e:H a=some (.dK kvs)) (hl:kvs.length<sizeLine):ff H a (kV k) v (upd H a (.dK (putK kvs k v))):=.inl ⟨kvs,k,e,rfl,hl,rfl⟩
theorem ff.t {H:Hp}{a b:ah}{kvs:List (List Key×V)}{k:List Key}{v:V}(e:H a=some (.dT kvs)) (eb:H b=some (.tup (k.map kV))) (hl:kvs.length<sizeLine) :
    ff H a (.ref b) v (upd H a (.dT (putK kvs k v))):=.inr ⟨kvs,k,b,e,rfl,eb,hl,rfl⟩
section
variable {X:Cx}{pins:aG}{σ:St}{H:Hp}{s:au}{a:ah}{y v:V}{u r:ai}{o:Option V}{A:Around}{E:aA}
theorem Inv.big (I:Inv X pins σ H s):sysModules<s.heap.objs.size:=by
  have h:mainGlobals<s.heap.objs.size:=(I.mod.glob.keeps I.bk).lt;exact Nat.lt_trans (by decide) h
theorem R5 {Q:aA}(hu:A.units+1<cLine) (I:Inv X pins σ H s) (g:cj H a y (some v)) (ry:RelV y u) (h:∀w' s',Inv X pins σ H s'->RelV v w'->Q w' s') :
    wpAny (model X.prog X.w) A (getItem (.ref a) u) Q E s:=by
  rcases g with ⟨kvs,k,e,ey,l⟩ | ⟨kvs,k,b,e,ey,eb,l⟩
  · subst ey;obtain⟨z,hd,vs,rel,dd⟩:=wj I.bA e;obtain⟨w',hw,iY⟩:=jd.some_of (v:=v) (o:=valueAt vs k) (by rw[l];exact rel.val k);exact wpAny_getItem_of (Ba ry) dd.mapOf hw (h w' _ (I.tok _) iY)
  · subst ey;cases (show u=Value.ref b from ry);obtain⟨z,hd,xs,rel,dd⟩:=Bb I.bA e;obtain⟨w',hw,iY⟩:=jd.some_of (v:=v) (o:=(atKey xs k).map (·.2)) (by rw[l];exact rel.val k);obtain⟨p,hp,oY⟩:=Option.map_eq_some_iff.mp hw;refine wpAny_getItem_heap (oG hu) (CJ I.bA eb) dd hp ?_;rw[oY];exact h w' _ (I.tok _) iY
theorem HN {Q:aA}(hu:A.units+1<cLine) (I:Inv X pins σ H s) (g:cj H a y o) (ry:RelV y u) (h:∀s',Inv X pins σ H s'->Q (.bool o.isSome) s') :
    wpAny (model X.prog X.w) A (compareOp .In u (.ref a)) Q E s:=by
  rcases g with ⟨kvs,k,e,ey,l⟩ | ⟨kvs,k,b,e,ey,eb,l⟩
  · subst ey;obtain⟨z,hd,vs,rel,dd⟩:=wj I.bA e;refine wpAny_in_of (Ba ry) hd dd.mapOf ?_;rw[←(rel.val k).gH,←l];exact h _ (I.tok _)
  · subst ey;cases (show u=Value.ref b from ry);obtain⟨z,hd,xs,rel,dd⟩:=Bb I.bA e;refine wpAny_in_heap (oG hu) (CJ I.bA eb) hd dd ?_;have q:=(rel.val k).gH;rw[Option.isSome_map] at q;rw[←q,←l];exact h _ (I.tok _)
theorem R6 {Q:aA}(hu:A.units+1<cLine) (I:Inv X pins σ H s) (g:cj H a y o) (ry:RelV y u) (h:∀s',Inv X pins σ H s'->Q (.bool (!o.isSome)) s') :
    wpAny (model X.prog X.w) A (compareOp .NotIn u (.ref a)) Q E s:=by
  rcases g with ⟨kvs,k,e,ey,l⟩ | ⟨kvs,k,b,e,ey,eb,l⟩
  · subst ey;obtain⟨z,hd,vs,rel,dd⟩:=wj I.bA e;refine wpAny_notIn_of (Ba ry) hd dd.mapOf ?_;rw[←(rel.val k).gH,←l];exact h _ (I.tok _)
  · subst ey;cases (show u=Value.ref b from ry);obtain⟨z,hd,xs,rel,dd⟩:=Bb I.bA e;refine wpAny_notIn_heap (oG hu) (CJ I.bA eb) hd dd ?_;have q:=(rel.val k).gH;rw[Option.isSome_map] at q;rw[←q,←l];exact h _ (I.tok _)
theorem FF {h':Heap}{t':Nat}{ob:HO}(I:Inv X pins σ H s) (mu:BU (H a)) (hs:Heap.SameBut a s.heap h') (he:∃q,h'.get? a=some q) (new:bU X.prog X.w (upd H a ob) h' a ob) :
    Inv X pins σ (upd H a ob) { s with heap:=h',toks:=t' }:=
  I.write (x:=a) (e:=a) mu (.inl rfl) (fun b q hb z=>(hs.2 b hb).trans z) he new
theorem HP {P:aU}{w:World}{H':Hp}{h':Heap}{kvs:List (Key×V)}{vs:List (Key×ai)}(z:kvs.length<=sizeLine) (hd:(a == sysModules)=false) (rel:KV kvs vs) (dd:h'.DictOf (qe P w) a vs) :
    bU P w H' h' a (.dK kvs):=⟨z,hd,vs,rel,dd⟩
theorem R7 {H':Hp}{Q:Unit->au->Prop}(hu:A.units+1<cLine) (I:Inv X pins σ H s) (g:ff H a y v H') (ry:RelV y u) (rv:RelV v r) (h:∀s',Inv X pins σ H' s'->Q () s') :
    wpAny (model X.prog X.w) A (setItem (.ref a) u r) Q E s:=by
  rcases g with ⟨kvs,k,e,ey,l,eH⟩ | ⟨kvs,k,b,e,ey,eb,l,eH⟩
  · subst ey eH;obtain⟨z,hd,vs,rel,dd⟩:=HM I.bA e;have hz:vs.length<=sizeLine:=by rw[←rel.length];exact z
    have hl:(putK kvs k v).length<=sizeLine:=by have:=FE kvs k v;lia
    refine wpAny_setItem_pairs (hsz:=hz) (Ba ry) dd fun h' wm hs=>h _ ?_
    have he:∃q,h'.get? a=some q:=let ⟨q,_,_,hq,_⟩:=wm;⟨q,hq⟩
    exact FF I (by rw[e];exact True.intro) hs he (HP hl hd (rel.put k rv) wm)
  · subst ey eH;cases (show u=Value.ref b from ry);obtain⟨z,hd,xs,rel,dd⟩:=uM I.bA e;have hz:xs.length<=sizeLine:=by rw[←Paired.length rel];exact z
    have hl:(putK kvs k v).length<=sizeLine:=by have:=FE kvs k v;lia
    refine wpAny_setItem_heap (hsz:=hz) (oG hu) (CJ I.bA eb) dd fun h' wm hs=>h _ ?_
    obtain⟨q,es,ep,hq,h2,h3,h4,_,h5⟩:=wm;refine FF I (by rw[e];exact True.intro) hs ⟨q,hq⟩ ⟨hl,hd,_,(rel.put k eb rv).keeps fun c ys ec=>?_,q,es,ep,hq,h2,h3,h4,h5⟩;rw[zr (qf ec e (fun z=>nomatch z))];exact ec
end
section
variable {X:Cx}{pins:aG}{σ:St}{H:Hp}{s:au}{a:ah}{kvs:List (Key×V)}{k:Key}{u:ai}{A:Around}{E:aA}
theorem LF {Q:aA}(I:Inv X pins σ H s) (e:Rd H a (.dK kvs)) (h:∀t s',Inv X pins σ H s'->Q (.int kvs.length t) s'):wpAny (model X.prog X.w) A (call (.builtin "len") [.ref a]) Q E s:=by
  obtain⟨z,hd,vs,rel,dd⟩:=wj I.bA e;refine call_len_dict hd dd (by rw[←rel.length];rw[fP] at z;lia) ?_;rw[←rel.length];exact h _ _ (I.tok _)
end
def CK (i:Expr):Prop:=∀ov iv,subscripted i false ov iv=operate [ov,iv] (getItem ov iv)
theorem R8 {prog:aU}{w:World}{A:Around}{E:aA}{s:au}{env:Env}{value slice:Expr}{pos:Pos}{T id:String}{Q:aA}
    (hl:typeLookup (.type T) "__getitem__" = pure (some (.builtin id))) (hs:CK slice)
    (h:wpAny (model prog w) A (eval value env) (fun o bI=>wpAny (model prog w) A (eval slice env) (fun i iQ=>iQ.TypeIs o T/\wpAny (model prog w) A (getItem o i) Q E iQ) E bI) E s) :
    wpAny (model prog w) A (eval (.Subscript value slice pos) env) Q E s:=by
  refine Subscript_ (b8 h (fun o bI iS=>b8 iS (fun i iQ oZ=>?_) fun _ _ x=>x) fun _ _ x=>x);obtain⟨hT,oZ⟩:=oZ;unfold subscriptTail;refine aj ?_;rw[getitemInPython_of_ne hT.not_modules];refine aj (wpAny_specialOf hT hl ?_);have fin:wpAny (model prog w) A (subscripted slice false o i) (fun r nK=>wpAny (model prog w) A (letTemporaryGo value o r >>= fun _=>pure r) Q E nK) E iQ:=by
    rw[hs o i];exact wpAny_operating (b8 oZ (fun r nK xr=>aj (wpAny_letTemporaryGo (az xr))) fun _ _ x=>x)
  first
    | exact az (aj fin)
    | exact aj (az (aj fin))
    | exact aj fin
theorem R9 {X:Cx}{pins:aG}{σ:St}{H:Hp}{s:au}{a:ah}{y:V}{o:Option V}(I:Inv X pins σ H s) (g:cj H a y o):s.TypeIs (.ref a) "dict":=by
  rcases g with ⟨kvs,k,e,_,_⟩ | ⟨kvs,k,b,e,_,_,_⟩
  · obtain⟨_,_,vs,_,dd⟩:=wj I.bA e;exact dd.typeIs
  · obtain⟨_,_,xs,_,dd⟩:=Bb I.bA e;exact dd.typeIs
def Sa (td ty:TE):TE:=fun σ H Q=>td σ H fun x H1=>ty σ H1 fun y H2=>∃a v,x = .ref a/\cj H2 a y (some v)/\Q v H2
def HQ (ty td:TE):TE:=fun σ H Q=>ty σ H fun y H1=>td σ H1 fun x H2=>∃a o,x = .ref a/\cj H2 a y o/\Q (.bl o.isSome) H2
def Sb (ty td:TE):TE:=fun σ H Q=>ty σ H fun y H1=>td σ H1 fun x H2=>∃a o,x = .ref a/\cj H2 a y o/\Q (.bl (!o.isSome)) H2
def Sd (td ty tv:TE):TS:=fun D σ H=>tv σ H fun v H1=>td σ H1 fun x H2=>ty σ H2 fun y H3=>∃a H4,x = .ref a/\ff H3 a y v H4/\D.nx σ H4
section
variable {X:Cx}{o i e value:Expr}{pos pos' Se:Pos}{td ty tv:TE}
theorem zw (hu:X.A.units+1<cLine) (ho:PE X o td) (hi:PE X i ty) (hs:CK i):PE X (.Subscript o i pos) (Sa td ty):=by
  intro pins s σ H Q I h;refine R8 PySem.F.slot_dict_getitem.lookup hs (cA (ho pins s σ H _ I h) fun u s1 ⟨x,H1,I1,rx,q1⟩=>cA (hi pins s1 σ H1 _ I1 q1) fun iv s2 bg=>?_);obtain⟨y,H2,I2,ry,a,v,ex,g,q2⟩:=bg;subst ex;obtain rfl:u=Value.ref a:=rx;exact⟨R9 I2 g,R5 hu I2 g ry fun w' s3 I3 iY=>⟨v,H2,I3,iY,q2⟩⟩
theorem FG (hu:X.A.units+1<cLine) (hi:PE X i ty) (ho:PE X o td):PC X .In i o (HQ ty td):=by
  intro pins s σ H Q I h;refine cA (hi pins s σ H _ I h) fun iv s1 ⟨y,H1,I1,ry,q1⟩=>cA (ho pins s1 σ H1 _ I1 q1) fun u s2 bg=>?_
  obtain⟨x,H2,I2,rx,a,ov,ex,g,q2⟩:=bg;subst ex;obtain rfl:u=Value.ref a:=rx;exact HN hu I2 g ry fun s3 I3=>⟨.bl ov.isSome,H2,I3,rfl,q2⟩
theorem CL (hu:X.A.units+1<cLine) (hi:PE X i ty) (ho:PE X o td):PC X .NotIn i o (Sb ty td):=by
  intro pins s σ H Q I h;refine cA (hi pins s σ H _ I h) fun iv s1 ⟨y,H1,I1,ry,q1⟩=>cA (ho pins s1 σ H1 _ I1 q1) fun u s2 bg=>?_
  obtain⟨x,H2,I2,rx,a,ov,ex,g,q2⟩:=bg;subst ex;obtain rfl:u=Value.ref a:=rx;exact R6 hu I2 g ry fun s3 I3=>⟨.bl (!ov.isSome),H2,I3,rfl,q2⟩
theorem lS (hu:X.A.units+1<cLine) (ho:PE X o td) (hi:PE X i ty) (hv:PE X value tv) (hs:swapsWith value (some (.Subscript o i pos')) pos.line X.env=pure false) :
    PS X (.Assign [.Subscript o i pos'] value pos) (Sd td ty tv):=by
  intro pins s σ H D I h;refine wpAny_Assign_Subscript (cA (hv pins s σ H _ I h) fun r s1 ⟨v,H1,I1,rv,q1⟩=>cA (ho pins s1 σ H1 _ I1 q1) fun u s2 ⟨x,H2,I2,rx,q2⟩=>cA (hi pins s2 σ H2 _ I2 q2) fun iv s3 bg=>?_) hs;obtain⟨y,H3,I3,ry,a,H4,ex,g,q3⟩:=bg;subst ex;obtain rfl:u=Value.ref a:=rx;exact R7 hu I3 g ry rv fun s4 I4=>⟨σ,H4,I4,q3⟩
end
theorem Sf {P:aU}{w:World}{H:Hp}(h:Heap) (hb:sysModules<h.objs.size):bU P w H (h.push { cls:=.type "dict",data:=.dict #[] }) h.objs.size (.dK []):=
  ⟨dj _,jo.mpr (aD (bq hb)),[],.nil,Heap.DictOf.new h⟩
theorem Sg {P:aU}{w:World}{H:Hp}(h:Heap) (hb:sysModules<h.objs.size):bU P w H (h.push { cls:=.type "dict",data:=.dict #[] }) h.objs.size (.dT []):=
  ⟨dj _,jo.mpr (aD (bq hb)),[],.nil,_,#[],0,bO _ rfl,⟨rfl,rfl,rfl⟩,rfl,rfl,List.nodup_nil⟩
def Sh:TE:=fun _ H Q=>∀p,H p=none->Q (.ref p) (upd H p (.dK []))
def Si:TE:=fun _ H Q=>∀p,H p=none->Q (.ref p) (upd H p (.dT []))
section
variable {X:Cx}{pos:Pos}
theorem o4:PE X (.Dict [] [] pos) Sh:=fun pins s σ H Q I h=>
  wpAny_Dict_empty ⟨.ref s.heap.objs.size,_,I.laid (a:=s.heap.objs.size) (o:=.dK []) (t':=s.toks) (fun _ _ q=>bC _ q) (aH _) (Sf s.heap I.big),rfl,h _ (I.bA.fresh (aH _))⟩
theorem LG:PE X (.Dict [] [] pos) Si:=fun pins s σ H Q I h=>
  wpAny_Dict_empty ⟨.ref s.heap.objs.size,_,I.laid (a:=s.heap.objs.size) (o:=.dT []) (t':=s.toks) (fun _ _ q=>bC _ q) (aH _) (Sg s.heap I.big),rfl,h _ (I.bA.fresh (aH _))⟩
end
def Bc (kvs more:List (Key×V)):List (Key×V):=more.foldl (fun acc kv=>putK acc kv.1 kv.2) kvs
theorem KV.merge:∀{more:List (Key×V)}{rs:List (Key×ai)}{kvs:List (Key×V)}{vs:List (Key×ai)},KV more rs->KV kvs vs->KV (Bc kvs more) (merged vs rs):=by
  intro more rs kvs vs r;unfold KV at r
  induction r generalizing kvs vs with
  | nil=>intro q;exact q
  | @cons p q ps qs h t ih=>
    intro r0;have e:KV (putK kvs p.1 p.2) (stored vs q.1 q.2):=by
      have:=r0.put p.1 h.2;rw[←h.1];exact this
    exact ih e
theorem LH:∀(more kvs:List (Key×V)),(Bc kvs more).length<=kvs.length+more.length
  | [],kvs=>by show kvs.length<=kvs.length+0;lia
  | p::r,kvs=>by
    have h1:=LH r (putK kvs p.1 p.2);have h2:=FE kvs p.1 p.2;show (Bc (putK kvs p.1 p.2) r).length<=_;rw[iK];lia
structure M2 (X:Cx) (o:Expr) (m:Str) (apos:Pos) (e f:Expr) (bY:Pos):Prop where
  base:attributeBase o m X.env (eval o X.env)=eval o X.env
  Sj:((backTo bY (starEach [e,f] X.env)).all (fun x=>!x.1)&&(backToKw bY (keywordEach [] X.env)).all (fun x=>x.1.isSome)
    && decide (([e,f]:List Expr).length+([]:List Keyword).length+(if ([]:List Keyword).isEmpty then 0 else 1)<30))=true
  line:(apos.endLine == bY.line)=true
  trees:backTo bY (starEach [e,f] X.env) = [(false,eval e X.env),(false,eval f X.env)]
def LI (H:Hp) (a:ah):Prop:=(∃kvs,Rd H a (.dK kvs))\/∃kvs,Rd H a (.dT kvs)
theorem Sk {X:Cx}{pins:aG}{σ:St}{H:Hp}{s:au}{a:ah}(I:Inv X pins σ H s) (d:LI H a) :
    s.TypeIs (.ref a) "dict"/\(∀b,Value.ref a = .ref b->∃ob,s.heap.get? b=some ob/\ob.dict=none)/\(a == sysModules)=false:=by
  rcases d with ⟨kvs,e⟩ | ⟨kvs,e⟩
  · obtain⟨_,hd,vs,_,dd⟩:=wj I.bA e;refine⟨dd.typeIs,fun b q=>?_,hd⟩;cases q;obtain⟨ob,_,_,h1,h2,_⟩:=dd;exact⟨ob,h1,h2.2.1⟩
  · obtain⟨_,hd,xs,_,dd⟩:=Bb I.bA e;refine⟨dd.typeIs,fun b q=>?_,hd⟩;cases q;obtain⟨ob,_,_,h1,h2,_⟩:=dd;exact⟨ob,h1,h2.2.1⟩
end L2
namespace LJ
open PySem PySem.W PySem.Calls PyProof.Rows
theorem Sl {P:Params}{h:Heap}:∀(ns:List Int) (vs:List ai),WellAll P h vs (ns.map WData.int)->IntsAre vs ns:=by
  intro ns
  induction ns with
  | nil=>
    intro vs w;rw[jK] at w;cases w;exact .nil
  | cons n ns ih=>
    intro vs w;rw[fL] at w;cases w with
    | cons a b=>
      cases a;exact .cons _ _ (ih _ b)
theorem Sm {l:OpenLaw}{n:Nat}(hn:l.most=some n) {P:Params}{h:Heap}{args:List WData}{vals:List ai}
    (xu:l.row.toRowW.claim.pre args=true) (HR:WellAll P h vals args) :
    ∃a vs ns,vals = [Value.ref a]/\args = [WData.list (ns.map WData.int)]/\h.get? a=some { cls:=.type "list",data:=.seq vs.toArray }/\IntsAre vs ns/\ns.length<=n:=by
  have Sn:WShape.hasAll [] args [.list .int]=true:=(pre_splitW xu).1;have hc:l.pre.holds [] { args:=args } = true:=(pre_splitW xu).2;obtain⟨d,r,rfl,h1,h2⟩:=hasAllW_cons Sn;obtain rfl:=hasAllW_nil h2;obtain⟨xs,rfl,h3⟩:=hasW_list h1;obtain⟨ns,rfl⟩:=items_int h3;have hlen:ns.length<=n:=by
    unfold OpenLaw.pre at hc;have h4:(WTm.not (.lt (.lit (.int (n:Int))) (.len (.arg 0)))).holds [] { args:=[.list (ns.map .int)] } = true:=by
      have h4:=(holds_andW hc).1;rw[hn] at h4;exact h4
    have h5:=condW_of h4 (w_not (w_lt w_lit (w_len_list (w_arg rfl))));rw[ay] at h5;refine mJ fun q=>?_
    have q':(n:Int)<((ns.length:Nat):Int):=by lia
    first
      | (rw[aO q'] at h5;exact absurd h5 (by decide))
      | (simp at h5;lia)
  cases HR with
  | cons w1 w2=>
    cases w2;cases w1 with
    | list ho HS=>exact⟨_,_,ns,rfl,rfl,ho,Sl ns _ HS,hlen⟩
theorem So (l:OpenLaw) (args:List WData):l.row.toRowW.claim.post args (.bool true) args=true:=
  postW_of (r:=l.row.toRowW) (X:=(true == true))
    (show WShape.has [] (.bool true) .bool=true by first | rfl | decide | simp[WShape.has,WShape.arms,WShape.armsAll])
    (show (WTm.eq .res (.lit (.bool true))).value [] { args:=args,res:=some (.bool true),after:=args } = some (.bool (true == true)) from w_eq_bool (w_res rfl) w_lit) rfl
theorem pQ {l:OpenLaw}{n:Nat}{q:aU}{loose:List Str}{XP:(Str->Option ai)->Heap->Prop}{YP:World->Heap->Prop}{d:DefRec}
    (hn:l.most=some n) (zW:d.params.defaults = [])
    (call:∀(w:World) (cY bI:au) (mg mb:Str->Option ai) (fa:ah) (o:Obj) (pm cd doc:ai) (a:ah) (vs:List ai) (ns:List Int),
      Ground q loose [] XP w cY mg mb bI.heap->YP w bI.heap->
      bI.heap.get? fa=some o->o.data = .func (docDef d.name d.params d.body d.scope pm cd doc)->bI.heap.CodeRec cd d.name->mg d.name=some (.ref fa)->
      bI.heap.get? a=some { cls:=.type "list",data:=.seq vs.toArray }->IntsAre vs ns->ns.length<=n->bI.gens = #[]->
      codeAny (model l.prog w) callerA (.call (.ref fa) ⟨[.ref a],[]⟩) (fun r s'=>r = .ok (.ret (.bool true))/\OldK bI.heap s'.heap/\s'.os=bI.os/\AllBare s'.gens) bI) :
    WalkO q loose XP YP l.row.toRowW d [] (fun f vs=>PySem.call f vs):=by
  intro w cY bI mg mb G Y fa o pm cd doc dV kV ho hd qg hD Be hg args vals as xu Sq hrd HR HU;obtain rfl:dV = .none:=Dflts.none hD zW;obtain rfl:kV = .none:=Dflts.noKw hD;obtain⟨a,vs,ns,rfl,rfl,zX,hints,hlen⟩:=Sm hn xu HR;refine enter_call (gU (call w cY bI mg mb fa o pm cd doc a vs ns G Y ho (fd_plain hd) qg Be zX hints hlen hg) fun r s' hq=>?_);obtain⟨rfl,h2,h3,h4⟩:=hq;exact⟨.inl ⟨.bool true,.bool true,[],rfl,fun _=>rfl,.bool true,So l _,fun _=>⟨List.Pairwise.nil,fun _ hm=>(nomatch hm)⟩⟩,h2,h3,h4⟩
end LJ
namespace L2
open PySem PySem.Spec PyProof.Rows
theorem LK:∀{vs:List ai}{ns:List Int},IntsAre vs ns->Vals (ns.map V.int) vs
  | _,_,.nil=>.nil
  | _,_,.cons n t h=>.cons ⟨t,rfl⟩ (LK h)
def xw (H:Hp):Prop:=∀b,H b=none\/∃o xs,H b=some (.ie o (.lst xs))
theorem Ss {P:aU}{w:World}{K:aF}{mg mb:Str->Option ai}{CX:qP}{k:Nat}{fa a:ah}{fd:FuncData}{x:Str}{sp:Sp}{bI:au}{vs:List ai}{ns:List Int}
    (KX:K.In bI.heap) (FH:bI.heap.Ns mainGlobals mg) (hb:bI.heap.Ns builtinsNs mb) (Su:∀x:Str,x≠"__name__"->mb x=bootBuiltins x) (HV:bI.heap.NoLimit) (hg:bI.gens = #[])
    (ha:bI.heap.get? a=some { cls:=.type "list",data:=.seq vs.toArray }) (hi:IntsAre vs ns) (hl:ns.length<=sizeLine) (hr:cV k callerA)
    (F:∀base:Heap,K.In base->base.Ns mainGlobals mg->mT P w K mg base CX k fa fd [x] sp) (CM:∀(s:au) (u:ai),BindsTo s fd ⟨[u],[]⟩ [(x,u)])
    (uf:∀H:Hp,xw H->aJ K H a (ns.map V.int)->sp [.ref a] H (fun v _=>v = .bl true) fun _ _ _=>False)
    (CO:∀H e s',CX [] H bI (fun _ _ _=>False) e s'->False) :
    codeAny (model P w) callerA (.call (.ref fa) ⟨[.ref a],[]⟩) (fun r s'=>r = .ok (.ret (.bool true))/\OldK bI.heap s'.heap/\s'.os=bI.os/\AllBare s'.gens) bI:=by
  have rv:=LK hi;have HW:=hi.length;have core:∀H:Hp,xw H->aJ K H a (ns.map V.int)->jM P w H bI.heap->(∀b,H b≠none->b=a)->(H a≠none->K.lookup a=none)->
      codeAny (model P w) callerA (.call (.ref fa) ⟨[.ref a],[]⟩) (fun r s'=>r = .ok (.ret (.bool true))/\OldK bI.heap s'.heap/\s'.os=bI.os/\AllBare s'.gens) bI:=by
    intro H hO hS bA hA hK;have rZ:∀{b:ah}{o:Obj},bI.heap.get? b=some o->H b=none->(oS bI.heap H).get? b=some o:=fun e n=>QJ e n
    have Cu:∀{b:ah}{o:Obj}{es:Array DictEntry}{ep:Nat},bI.heap.get? b=some o->o.data = .dict es ep->H b=none:=fun {b o es ep} e d=>by
      cases q:H b with
      | none=>rfl
      | some u=>
        have e':b=a:=hA b (by rw[q];simp);subst e';rw[ha] at e;cases e;have d':Data.seq vs.toArray _=Data.dict es ep:=d;cases d'
    have FI:∀{b:ah}{m:Str->Option ai},bI.heap.Ns b m->(oS bI.heap H).Ns b m:=fun {b m} ⟨o,es,ep,e,d,r⟩=>⟨o,es,ep,rZ e (Cu e d),d,r⟩
    have LL:K.In (oS bI.heap H):=fun b o e=>rZ (KX b o e) (by
      cases q:H b with
      | none=>rfl
      | some u=>
        have e':b=a:=hA b (by rw[q];simp);subst e';rw[hK (by rw[q];simp)] at e;cases e)
    have hM:Mod K mg (oS bI.heap H):=⟨LL,FI FH,⟨mb,FI hb,Su⟩,let ⟨mc,h1,h2⟩:=HV;⟨mc,FI h1,h2⟩⟩;have e0:qQ P w K mg (oS bI.heap H) callerA [] bI H:=⟨rfl,hM,fun b o e=>QK e,Nat.le_of_eq (QI _ _),trivial,fun b hb=>absurd (show b∈([]:List ah) from hb) (by simp),bA,.of_eq hg⟩;refine gU ((F _ LL (FI FH)).run callerA [] bI H ⟨[.ref a],[]⟩ [.ref a] [.ref a] _ _ hr e0 (CM bI (.ref a)) (.cons rfl .nil) (uf H hO hS)) fun r s' h=>?_
    cases r with
    | error e=>exact (CO H e s' h).elim
    | ok fl=>
      cases fl with
      | next=>exact False.elim h
      | brk=>exact False.elim h
      | cont=>exact False.elim h
      | ret u=>
        obtain⟨v,H',os,bare,un,zY,r',q⟩:=h;have q':v = .bl true:=q;subst q';obtain rfl:u=Value.bool true:=r';refine⟨rfl,OldK.of_keep fun b o e=>?_,os,bare⟩;cases q:H b with
        | none=>exact un.keep b o e q (by intro z;exact absurd (show b∈([]:List ah) from z) (by simp)) (by simp)
        | some u=>
          rcases hO b with z | ⟨ob,xs,z⟩
          · rw[q] at z;cases z
          · have z2:=un.kU b ob _ z;obtain⟨e1,_⟩:=bA b _ z;obtain⟨e2,_⟩:=zY b _ z2;rw[e] at e1;cases e1;exact e2
  cases hk:K.lookup a with
  | some o=>
    have e:=KX a o hk;rw[ha] at e;cases e;refine core (fun _=>none) (fun _=>.inl rfl) (.inr ⟨_,vs.toArray,_,hk,rfl,rfl,rfl,by rw[bS,HW];exact hl,by simpa using rv⟩) (fun b u z=>by have z':(none:Option HO)=some u:=z;cases z') (fun b z=>absurd rfl z) fun z=>absurd rfl z
  | none=>
    refine core (fun b=>if b=a then some (.ie { cls:=.type "list",data:=.seq vs.toArray } (.lst (ns.map V.int))) else none) (fun b=>?_) (.inl (.inr ⟨{ cls:=.type "list",data:=.seq vs.toArray },aq rfl⟩)) (fun b u z=>?_) (fun b z=>?_) fun _=>hk
    · by_cases hb:b=a
      · exact .inr ⟨_,_,aq hb⟩
      · exact .inl (ao hb)
    · by_cases hb:b=a
      · have z':=(aq hb).symm.trans z;cases z';subst hb;exact⟨ha,by rw[ay];exact hl,vs,_,rv,ha⟩
      · have z':=(ao hb).symm.trans z;cases z'
    · by_cases hb:b=a
      · exact hb
      · exact absurd (ao hb) z
abbrev LM {K:aF}{h:Heap}(_:K.In h):aF:=K
theorem Sv {l:PySem.W.OpenLaw}{n k:Nat}{q:aU}{loose:List Str}{XP:(Str->Option ai)->Heap->Prop}{YP:World->Heap->Prop}{d:DefRec}{K:Params->aF}{CX:World->qP}{sp:World->Sp}{x:Str}
    (hn:l.most=some n) (qU:n<=sizeLine) (zW:d.params.defaults = []) (hr:cV k callerA)
    (hY:∀(w:World) (h:Heap),YP w h->(K w.params).In h)
    (F:∀(w:World) (mg:Str->Option ai) (fa:ah) (h:Heap),(K w.params).In h->h.Ns mainGlobals mg->mg d.name=some (.ref fa)->
      ∃fd:FuncData,(∀(s:au) (u:ai),BindsTo s fd ⟨[u],[]⟩ [(x,u)])/\
        ∀base:Heap,(K w.params).In base->base.Ns mainGlobals mg->mT l.prog w (K w.params) mg base (CX w) k fa fd [x] (sp w))
    (uf:∀(w:World) (H:Hp) (a:ah) (ns:List Int),ns.length<=n->xw H->aJ (K w.params) H a (ns.map V.int)->sp w [.ref a] H (fun v _=>v = .bl true) fun _ _ _=>False)
    (CO:∀(w:World) (H:Hp) (s:au) (e:ai) (s':au),CX w [] H s (fun _ _ _=>False) e s'->False) :
    PySem.W.WalkO q loose XP YP l.row.toRowW d [] (fun f vs=>PySem.call f vs):=by
  refine LJ.pQ hn zW fun w cY bI mg mb fa o pm cd doc a vs ns G Y ho hd qg Be zX hints hlen hg=>?_
  have KX:=hY w _ Y;obtain⟨fd,hb,hF⟩:=F w mg fa _ KX G.T.g Be;exact Ss KX G.T.g G.T.b G.T.builtins G.T.nolimit hg zX hints (b7 hlen qU) hr hF hb (fun H hO hS=>uf w H a ns hlen hO hS) fun H e s'=>CO w H bI e s'
theorem uN {l:PySem.W.OpenLaw}{n k:Nat}{q:aU}{loose:List Str}{XP:(Str->Option ai)->Heap->Prop}{YP:World->Heap->Prop}{d:DefRec}{K:Params->aF}{CX:qP}{sp:aF->Sp}{x:Str}
    (hn:l.most=some n) (qU:n<=sizeLine) (zW:d.params.defaults = []) (hr:cV k callerA)
    (hY:∀(w:World) (h:Heap),YP w h->(K w.params).In h)
    (F:∀(w:World) (mg:Str->Option ai) (fa:ah) (h:Heap),(K w.params).In h->h.Ns mainGlobals mg->mg d.name=some (.ref fa)->
      ∃fd:FuncData,(∀(s:au) (u:ai),BindsTo s fd ⟨[u],[]⟩ [(x,u)])/\
        ∀base:Heap,(K w.params).In base->base.Ns mainGlobals mg->mT l.prog w (K w.params) mg base CX k fa fd [x] (sp (K w.params)))
    (uf:∀(K:aF) (H:Hp) (a:ah) (ns:List Int),ns.length<=n->xw H->aJ K H a (ns.map V.int)->sp K [.ref a] H (fun v _=>v = .bl true) fun _ _ _=>False)
    (CO:∀(H:Hp) (s:au) (e:ai) (s':au),CX [] H s (fun _ _ _=>False) e s'->False) :
    PySem.W.WalkO q loose XP YP l.row.toRowW d [] (fun f vs=>PySem.call f vs):=
  Sv (K:=K) (CX:=fun _=>CX) (sp:=fun w=>sp (K w.params)) hn qU zW hr hY F (fun w H a ns h1 h2 h3=>uf (K w.params) H a ns h1 h2 h3) fun _ H s e s'=>CO H s e s'
def FJ (s:Stmt) (j:Nat):Stmt:=match s with
  | .ClassDef _ _ _ body _ _ _ _ _ _ _=>body.getD j (.Pass ⟨0,0,0,0⟩)
  | _=>.Pass ⟨0,0,0,0⟩
def zZ (s:Stmt):Arguments:=match s with
  | .FunctionDef _ a _ _ _ _ _ _ _ _=>a
  | _=>{ posonlyargs:=[],args:=[],vararg:=none,kwonlyargs:=[],kw_defaults:=[],kwarg:=none,defaults:=[] }
def uO (s:Stmt):List Stmt:=match s with
  | .FunctionDef _ _ b _ _ _ _ _ _ _=>b
  | _=>[]
def zq (s:Stmt):Scope:=match s with
  | .FunctionDef _ _ _ _ _ _ sc _ _ _=>sc
  | _=>{ kind:=.function,names:=[],isGenerator:=false,isCoroutine:=false }
abbrev yp:qP:=fun _ _ _ _ _ _=>False
abbrev E0:XK:=fun _ _ _=>False
theorem Sw {X:Cx}:Cs yp X E0:=fun _ _ _ _ _ _ _ h=>h.elim
structure CP (K:aF) (x qual:Str) (st:Stmt) (f:ah) (fd:FuncData):Prop where
  ex:∃(oc:ai) (od:Option ah) (kV doc pm:ai) (an:Option ah) (bX ct:ai) (nI:Array (Option ai)),
    fd=PySem.W.fnOf x qual (zZ st) (uO st) (zq st) .none kV doc pm an bX ct/\K.lookup f=some ⟨oc,od,.func fd,nI⟩/\PySem.W.codeIn K bX qual=true
  kp:PySem.W.keepIn K (.ref f)=true
section
variable {P:aU}{w:World}{K:aF}{mg:Str->Option ai}{base:Heap}
theorem CP.ok {x qual:Str}{st:Stmt}{f:ah}{fd:FuncData}{N ps:List Str}{k:Nat}{sp:Sp}(F:CP K x qual st f fd) (S:aE N ps (zq st)) (len:∀vs H Q E,sp vs H Q E->vs.length=ps.length)
    (mU:∀(bX:ai) (A:Around) (outer:List Env) (s:au) (H:Hp) (vs:List V) (Q:VK) (E:XK),cV k (A.deeper (envOfC qual (zq st) s.heap.objs.size f bX))->sp vs H Q E->
      ∃t,pF (nH yp P w K mg base N qual (zq st) f bX A outer s H E).A1 (uO st) t/\t { nx:=fun _ H'=>Q .dG H',rt:=Q } (start N vs) H):mT P w K mg base yp (k+1) f fd ps sp:=by
  obtain⟨oc,od,kV,doc,pm,an,bX,ct,nI,rfl,lk,qg⟩:=F.ex;refine Lm lk qg S len fun A outer s H vs Q E hr uf=>?_
  obtain⟨t,h,q⟩:=mU bX A outer s H vs Q E hr uf;exact⟨t,h.A1,q⟩
theorem LN {x qual:Str}{st:Stmt}{f:ah}{oc:ai}{od an:Option ah}{nI:Array (Option ai)}{kV doc pm bX ct:ai}(l:K.lookup f=some ⟨oc,od,.func (PySem.W.fnOf x qual (zZ st) (uO st) (zq st) .none kV doc pm an bX ct),nI⟩)
    (c:PySem.W.codeIn K bX qual=true) (k:PySem.W.keepIn K (.ref f)=true):CP K x qual st f (PySem.W.fnOf x qual (zZ st) (uO st) (zq st) .none kV doc pm an bX ct):=⟨⟨oc,od,kV,doc,pm,an,bX,ct,nI,rfl,l,c⟩,k⟩
end
theorem i0 {A:Around}{k:Nat}(hr:cV k A):A.units+1<cLine:=oH (Nat.add_le_add_left (by decide:1<=64) _) hr.units
theorem jx {n:Nat}(h:n<=1000):n<sizeLine:=oH h (by decide)
section
variable {X:Cx}
theorem pv (i:Nat) {x:Str}{pos:Pos}(hN:X.N[i]? = some x:=by rfl) (hv:G9 X.env.scope x:=by first | exact Or.inl rfl | exact Or.inr (Or.inl rfl) | exact Or.inr (Or.inr rfl)) (hd:(x == ("__debug__" : Str))=false:=by decide)
    (qg:(x == ("__classdict__" : Str))=false:=by decide):PE X (.Name x pos) (wZ i):=QM hN hv hd qg
end
theorem fR {A B:Prop}(h:B):if false=true then A else B:=by
  rw[ao bJ];exact h
theorem gx {A B:Prop}(h:A):if true=true then A else B:=by
  rw[aq rfl];exact h
theorem bZ {c A B:Prop} [Decidable c] (h1:c->A) (h2:¬c->B):if c then A else B:=by
  by_cases h:c
  · rw[aq h];exact h1 h
  · rw[ao h];exact h2 h
def ak (H H':Hp):Prop:=∀b o,H b=some o->H' b=some o
theorem ak.refl (H:Hp):ak H H:=fun _ _ h=>h
theorem ak.trans {H H1 H2:Hp}(a:ak H H1) (b:ak H1 H2):ak H H2:=fun c o h=>b c o (a c o h)
theorem ak.free {H H':Hp}(e:ak H H') {l:ah}(h:H' l=Option.none):H l=Option.none:=by
  cases q:H l with
  | none=>rfl
  | some o=>
    rw[e l o q] at h;cases h
theorem ak.seq {K:aF}{H H':Hp}{a:ah}{xs:List V}(e:ak H H') (h:aJ K H a xs):aJ K H' a xs:=by
  rcases h with (h | ⟨o,h⟩) | h
  · exact .inl (.inl (e _ _ h))
  · exact .inl (.inr ⟨o,e _ _ h⟩)
  · exact .inr h
section
variable {X:Cx}
theorem LO:oW X (.builtin "len") (fun xs H Q=>∃a kvs,xs = [V.ref a]/\H a=some (.dK kvs)/\Q (.int kvs.length) H):=by
  intro pins s σ H xs us Q I r h;obtain⟨a,kvs,rfl,ha,q⟩:=h;obtain⟨u,rfl,ru⟩:=qj r;cases ru;exact LF I (.inl ha) fun t s' I'=>⟨.int kvs.length,H,I',⟨t,rfl⟩,q⟩
end
def sM (cells:List (Str×ah)):List (Str×NameKind)->List (Str×ah)->List (Str×ah)
  | [],cs=>cs
  | (n,k)::r,cs=>sM cells r (if (k == NameKind.free)=true then (match cells.lookup n with | some c=>(n,c)::cs | none=>cs) else cs)
theorem Sx {scope:Scope}{env:Env}(h:∀x∈scope.names,x.2 = .free->∃c,env.cells.lookup x.1=some c):closureFor scope env=pure (sM env.cells scope.names []):=by
  unfold closureFor;have go:∀(names:List (Str×NameKind)) (cs:List (Str×ah)),(∀x∈names,x.2 = .free->∃c,env.cells.lookup x.1=some c)->
      (forIn names cs (fun (x:Str×NameKind) (r:List (Str×ah))=>if (x.2 == NameKind.free)=true then (do let a ←cellOf env x.1;pure (ForInStep.yield ((x.1,a)::r))) else pure (ForInStep.yield r)):Sem (List (Str×ah)))=pure (sM env.cells names cs):=by
    intro names
    induction names with
    | nil=>intro cs _;rfl
    | cons x r ih=>
      intro cs hc;obtain⟨n,k⟩:=x;have hr:∀y∈r,y.2 = .free->∃c,env.cells.lookup y.1=some c:=fun y hy=>hc y (bD _ hy)
      rw[kI];cases e:(k == NameKind.free) with
      | true=>
        obtain⟨c,hl⟩:=hc (n,k) iE (by simpa using e);have o5:env.cells.lookup n=some c:=hl;have ec:cellOf env n=pure c:=by unfold cellOf;rw[o5]
        show (_ >>= _)=pure (sM env.cells r (if (k == NameKind.free)=true then _ else _));rw[e,o5];simp only [if_true,ec,pure_bind];exact ih _ hr
      | false=>
        show (_ >>= _)=pure (sM env.cells r (if (k == NameKind.free)=true then _ else _));rw[e];simp only [jU,dZ,pure_bind];exact ih _ hr
  exact (bT (· >>= fun r=>pure r) (go scope.names [] h)).trans (pure_bind _ _)
theorem Bg {α:Type}{y n:Str}{c:α}{r:List (Str×α)}(h:y=n):((n,c)::r).lookup y=some c:=by
  subst h;simp
theorem CQ {α:Type}{y n:Str}{c:α}{r:List (Str×α)}(h:¬y=n):((n,c)::r).lookup y=r.lookup y:=by
  rw[List.lookup_cons,jo.mpr h]
theorem LP {cells:List (Str×ah)}{n:Str}{k:NameKind}{cs:List (Str×ah)}(hs:∀y d,cs.lookup y=some d->cells.lookup y=some d) :
    ∀y d,(if (k == NameKind.free)=true then (match cells.lookup n with | some c=>(n,c)::cs | none=>cs) else cs).lookup y=some d->cells.lookup y=some d:=by
  intro y d h;split at h
  · split at h
    · rename_i c hc
      by_cases hy:y=n
      · rw[Bg hy] at h;rw[hy,hc];exact h
      · rw[CQ hy] at h;exact hs y d h
    · exact hs y d h
  · exact hs y d h
theorem HX (cells:List (Str×ah)):∀(names:List (Str×NameKind)) (cs:List (Str×ah)),(∀y d,cs.lookup y=some d->cells.lookup y=some d)->
    ∀y d,(sM cells names cs).lookup y=some d->cells.lookup y=some d
  | [],_,hs,y,d,h=>hs y d h
  | (n,k)::r,cs,hs,y,d,h=>HX cells r _ (LP hs) y d h
theorem LQ (cells:List (Str×ah)) {x:Str}{c:ah}(hc:cells.lookup x=some c):∀(names:List (Str×NameKind)) (cs:List (Str×ah)),(∀y d,cs.lookup y=some d->cells.lookup y=some d)->
    ((x,NameKind.free)∈names\/cs.lookup x=some c)->(sM cells names cs).lookup x=some c
  | [],_,_,h=>by
    rcases h with h | h
    · cases h
    · exact h
  | (n,k)::r,cs,hs,h=>by
    refine LQ cells hc r _ (LP hs) ?_
    by_cases hx:(x,NameKind.free)=(n,k)
    · cases hx
      right
      rw[aq (by rfl),hc];exact Bg rfl
    · rcases h with h | h
      · rcases aN.mp h with h | h
        · exact absurd h hx
        · exact .inl h
      · right
        split
        · split
          · rename_i c' vZ
            by_cases hn:x=n
            · rw[Bg hn];rw[hn,vZ] at hc;exact hc
            · rw[CQ hn];exact h
          · exact h
        · exact h
theorem HY (env:Env) (x:Str):∀names:List (Str×NameKind),
    (names.map fun (n,k)=>if (k == NameKind.free&&env.scope.kind == .function&&env.kindOf n == some .cell) then (n,NameKind.cell) else (n,k)).lookup x =
      (names.lookup x).map fun k=>if (k == NameKind.free&&env.scope.kind == .function&&env.kindOf x == some .cell) then NameKind.cell else k
  | []=>rfl
  | (n,k)::r=>by
    have ih:=HY env x r;rw[fL]
    by_cases hx:x=n
    · subst hx;rw[Bg rfl];show List.lookup x ((if (k == NameKind.free&&env.scope.kind == .function&&env.kindOf x == some .cell)=true then (x,NameKind.cell) else (x,k))::_)=some (if (k == NameKind.free&&env.scope.kind == .function&&env.kindOf x == some .cell)=true then NameKind.cell else k)
      by_cases hc:(k == NameKind.free&&env.scope.kind == .function&&env.kindOf x == some .cell)=true
      · rw[aq hc,aq hc];exact Bg rfl
      · rw[ao hc,ao hc];exact Bg rfl
    · rw[CQ hx,←ih];show List.lookup x ((if (k == NameKind.free&&env.scope.kind == .function&&env.kindOf n == some .cell)=true then (n,NameKind.cell) else (n,k))::_)=_
      by_cases hc:(k == NameKind.free&&env.scope.kind == .function&&env.kindOf n == some .cell)=true
      · rw[aq hc];exact CQ hx
      · rw[ao hc];exact CQ hx
theorem Sy {scope:Scope}{env:Env}{x:Str}(h:scope.names.lookup x=some .free):(relabel scope env).names.lookup x=some .cell\/(relabel scope env).names.lookup x=some .free:=by
  have e:=HY env x scope.names;rw[h] at e;have e':(relabel scope env).names.lookup x=some (if (NameKind.free == NameKind.free&&env.scope.kind == .function&&env.kindOf x == some .cell)=true then NameKind.cell else NameKind.free):=e;rw[e'];split
  · exact .inl rfl
  · exact .inr rfl
theorem Sz {scope:Scope}{env:Env}{x:Str}(nc:∀y∈scope.names,y.2≠.cell) (h:(relabel scope env).names.lookup x=some .cell\/(relabel scope env).names.lookup x=some .free):(x,NameKind.free)∈scope.names:=by
  have e:=HY env x scope.names;have e':(relabel scope env).names.lookup x=_:=e;cases q:scope.names.lookup x with
  | none=>
    rw[q] at e';rw[e'] at h;rcases h with h | h<;>cases h
  | some k=>
    rw[q] at e';have m:=PySem.mem_of_lookup q;cases k with
    | free=>exact m
    | cell=>exact absurd rfl (nc _ m)
    | _=>
      rw[e'] at h;rcases h with h | h<;>cases h
structure eK (scope kW:Scope) (cap:List Str):Prop where
  kind:scope.kind = .function
  uP:∀y∈scope.names,y.2≠.cell
  loc:∀y∈scope.names,y.2 = .local->scope.names.lookup y.1=some .local
  free:∀y∈scope.names,y.2 = .free->kW.names.lookup y.1=some .cell\/kW.names.lookup y.1=some .free
  cap:∀x∈cap,scope.names.lookup x=some .free
def pG (X:Cx) (N:List Str) (scope:Scope) (C:ah) (s:au) (H:Hp) (ex:List ah):Cx where
  prog:=X.prog
  w:=X.w
  K:=X.K
  mg:=X.mg
  base:=X.base
  A:=X.A
  N:=N
  cY:=s
  pM:=H
  env:=compEnvC scope (sM X.env.cells scope.names []) C X.env
  outer:=X.stack
  stack:=X.stack
  ex:=ex
  fn:=fun _=>false
  calm:=X.calm
  pn:=[]
  xe:=fun _ _=>False
def sN (own:List Str) (ix:List Nat) (σ:St):St:=own.map (fun _=>none)++ix.map fun i=>(σ[i]?).join
theorem LR {X:Cx}{pins:aG}{σ:St}{H:Hp}{s:au}{scope:Scope}{cap:List Str}(I:Inv X pins σ H s) (S:eK scope X.env.scope cap) :
    closureFor scope X.env=pure (sM X.env.cells scope.names []):=
  Sx fun x hx hf=>I.ok.has x.1 (S.free x hx hf)
theorem SA {X:Cx}{pins:aG}{σ:St}{H:Hp}{s:au}{scope:Scope}{own cap:List Str}{ix:List Nat}{fp:List ah}{iS:Heap}{m:Str->Option ai}{tk:Nat}
    (I:Inv X pins σ H s) (S:eK scope X.env.scope cap) (gI:ix.map (fun i=>X.N[i]?)=cap.map some) (hf:∀b∈fp,gW X pins H b) (cQ:∀b∈fp,b<s.heap.objs.size)
    (hn:iS.Ns s.heap.objs.size m) (hk:∀b o,s.heap.get? b=some o->iS.get? b=some o) :
    Inv (pG X (own++cap) scope s.heap.objs.size s H fp) [] (sN own ix σ) H { s with heap:=iS,toks:=tk }:=by
  have sub:∀y d,(sM X.env.cells scope.names []).lookup y=some d->X.env.cells.lookup y=some d:=HX _ _ _ (fun y d h=>by cases h);have has:∀y c,(y,NameKind.free)∈scope.names->X.env.cells.lookup y=some c->(sM X.env.cells scope.names []).lookup y=some c:=fun y c hy hc=>LQ _ hc _ _ (fun y d h=>by cases h) (.inl hy)
  have hlen:ix.length=cap.length:=by
    have:=bT List.length gI;simpa using this
  refine⟨⟨I.mod,S.kind,I.ok.glob,I.ok.blt,aH _,fun x y c e1 e2=>I.ok.inj x y c (sub _ _ e1) (sub _ _ e2),fun x hx=>?_,fun x c z=>(by cases z),I.ok.hd,I.ok.frames,.inl rfl,fun b hb=>⟨bq (cQ b hb),fun x c e=>(hf b hb).2.2.2.2.1 x c (sub _ _ e)⟩,I.bs,
      b7 I.ok.uD I.sz,fun b o e hb=>?_,fun b hb z=>?_,I.stack,I.lP⟩,rfl,I.bare,Un.kept hk,⟨m,hn,fun i x v e1 e2 e3=>?_⟩,fun x c e=>?_,I.bA.fresh (aH _),fun x c e=>I.fm x c (sub _ _ e),fun p hp=>absurd (show p∈([]:aG) from hp) (by simp),I.bA.kept hk,?_⟩
  · have m':=Sz (env:=X.env) S.uP hx;obtain⟨c,hc⟩:=I.ok.has x (S.free _ m' rfl);exact⟨c,has x c m' hc⟩
  · obtain⟨f0,f1,f2,f3,f4,f5⟩:=hf b hb;rcases f3 with z | z
    · exact I.ok.qN b o e z
    · exact absurd (dX (dX (aI e) I.ok.uD) z) (eB _)
  · obtain⟨f0,f1,f2,f3,f4,f5⟩:=hf b hb;rcases aN.mp (I.oU b z) with z | z
    · exact f1 z
    · exact f2 z
  · have e1:(own++cap)[i]? = some x:=e1;unfold sN at e2
    by_cases hi:i<own.length
    · rw[jl (by simpa using hi),aM] at e2;cases q:own[i]? with
      | none=>rw[q] at e2;cases e2
      | some y=>rw[q] at e2;cases e2
    · rw[k8 (by simpa using hi)] at e1;rw[k8 (by simpa using hi),ay,aM] at e2;generalize i-own.length=j at e1 e2;cases q:ix[j]? with
      | none=>rw[q] at e2;cases e2
      | some k=>
        rw[q] at e2;have e2:(σ[k]?).join=some v:=cX e2;have SD:σ[k]? = some (some v):=by
          cases q2:σ[k]? with
          | none=>rw[q2] at e2;cases e2
          | some o=>rw[q2] at e2;exact bT some e2
        have eN:X.N[k]? = some x:=by
          have:=bT (fun l=>l[j]?) gI;simp only [aM,q,e1,Option.map_some] at this;exact cX this
        have iT:=S.cap x (bN e1);have lG:=PySem.mem_of_lookup iT;have CS:=S.free _ lG rfl;obtain⟨m0,hn0,hl⟩:=I.loc;obtain⟨u,r,l⟩:=hl k x v eN SD (.inr CS);rcases l with ⟨kd,_⟩ | ⟨kd,c,e,z⟩
        · have kd:X.env.scope.names.lookup x=some .local:=kd;rcases CS with ho | ho<;>(have ho:X.env.scope.names.lookup x=_:=ho;rw[kd] at ho;cases ho)
        · exact⟨u,r,.inr ⟨Sy iT,c,has x c lG e,z.keeps hk⟩⟩
  · obtain⟨v,q⟩:=I.cell x c (sub _ _ e);exact⟨v,q.keeps hk⟩
  · show (sN own ix σ).length=(own++cap).length;unfold sN;simp[hlen]
theorem SE {X:Cx}{pins:aG}{σ aK:St}{H H':Hp}{s s':au}{scope:Scope}{N:List Str}{fp:List ah}{h':Heap}
    (I:Inv X pins σ H s) (hf:∀b∈fp,gW X pins H b) (J:Inv (pG X N scope s.heap.objs.size s H fp) [] aK H' s') (hs:Heap.SameBut s.heap.objs.size s'.heap h'):Inv X pins σ H' { s' with heap:=h' }:=by
  have ne:∀b o,s.heap.get? b=some o->b≠s.heap.objs.size:=fun b o e=>bq (aI e)
  have B:Un (je X.stack) fp H H' s.heap s'.heap:=J.base;refine I.rV (s':={ s' with heap:=h' }) (ch:=fp) J.os ⟨fun b o e n hb hx=>?_,fun b o e n hb hx=>?_,B.free,fun b o e hx=>?_,B.lD,B.kU,B.lE⟩ (fun b ob e=>?_) J.bare fun b hb=>?_
  · exact (hs.2 b (ne b o e)).trans (B.keep b o e n hb hx)
  · obtain⟨sl,e1⟩:=B.slot b o e n hb hx;exact⟨sl,(hs.2 b (ne b o e)).trans e1⟩
  · obtain⟨o',e1⟩:=B.there b o e hx;exact⟨o',(hs.2 b (ne b o e)).trans e1⟩
  · have fr:H' s.heap.objs.size=none:=J.free;refine (J.bA b ob e).iy (fun c w' hc q=>(hs.2 c ?_).trans q) (fun _ q=>q) fun _ _ q=>q
    rintro rfl;rcases hc with hc | hc
    · rw[←hc,fr] at e;cases e
    · rw[fr] at hc;cases hc
  · obtain⟨f0,f1,f2,f3,f4,f5⟩:=hf b hb;exact⟨f3,f1,f4,f5⟩
def CT (X:Cx) (ifs:List Expr) (t:TT):Prop:=
  ∀(pins:aG) (s:au) (σ:St) (H:Hp) (Q:Bool->Hp->Prop),Inv X pins σ H s->t σ H Q->
    wpAny (model X.prog X.w) X.A (forIn ifs true fun c r=>if r=true then do let ok ←isTrue c X.env (eval c X.env);pure (ForInStep.yield ok) else pure (ForInStep.yield r)) (TP X pins σ Q) X.xe s
def lH:TT:=fun _ H Q=>Q true H
theorem qo {X:Cx}:CT X [] lH:=fun _ s σ H Q I h=>wpAny_tests_nil ⟨H,I,h⟩
theorem HZ {X:Cx}{c:Expr}{t:TT}(h:PT X c t):CT X [c] t:=fun pins s σ H Q I hw=>wpAny_tests_one (h pins s σ H Q I hw)
theorem SG {prog:aU}{w:World}{A:Around}{R:Result->au->Prop}{s:au}{elt target iter:Expr}{ifs:List Expr}{scope:Scope}{pos:Pos}{it acc:ai}{env:Env}(I:Nat->au->Prop)
    (turn:∀n s,I n s->wpAny (model prog w) A (pyNext it) (fun r bI=>match r with
      | none=>R (.ok .next) bI
      | some v=>wpAny (model prog w) A (letOwnedTupleGo target it v) (fun _ yq=>wpAny (model prog w) A (assign target env v) (fun _ iQ=>
          wpAny (model prog w) A (forIn ifs true fun c r=>if r=true then do let ok ←isTrue c env (eval c env);pure (ForInStep.yield ok) else pure (ForInStep.yield r)) (fun ok nK=>
            if ok=true then wpAny (model prog w) A (eval elt env) (fun x pR=>
              wpAny (model prog w) A (call (.builtin "list.append") [acc,x]) (fun _ CU=>∃m,m<n/\I m CU) (notedBy (model prog w) A env fun e s'=>R (.error e) s') pR) (notedBy (model prog w) A env fun e s'=>R (.error e) s') nK
            else ∃m,m<n/\I m nK) (notedBy (model prog w) A env fun e s'=>R (.error e) s') iQ) (notedBy (model prog w) A env fun e s'=>R (.error e) s') yq) (notedBy (model prog w) A env fun e s'=>R (.error e) s') bI) (notedBy (model prog w) A env fun e s'=>R (.error e) s') s)
    (n:Nat) (h:I n s):codeAny (model prog w) A (.compLoop (.ListComp elt [⟨target,iter,ifs,0⟩] scope pos) 0 it acc env) R s:=by
  refine codeAny_loop rfl I (fun n s hI=>?_) n h;show wpAny _ A ((compTurn (.ListComp elt [⟨target,iter,ifs,0⟩] scope pos) 0 it acc env).onRaise (fun x=>do noteFrame x env;theTreesLotGoes x)) _ _ s;refine wpAny_noted ?_;rw[compTurn_list];refine aj (gp (aj (b8 (turn n s hI) (fun r bI iS=>?_) fun _ _ h'=>h')));cases r with
  | none=>exact az iS
  | some v=>
    refine aj (b8 iS (fun _ yq CV=>?_) fun _ _ h'=>h');refine aj (b8 CV (fun _ iQ oZ=>aj (b8 oZ (fun ok nK xr=>?_) fun _ _ h'=>h')) fun _ _ h'=>h');cases ok with
    | false=>exact az ⟨rfl,xr⟩
    | true=>
      exact aj (aj (b8 xr (fun x pR Ia=>aj (b8 Ia (fun _ CU Ib=>az (az ⟨rfl,Ib⟩)) fun _ _ h'=>h')) fun _ _ h'=>h'))
def CW (own:List Str) (ix:List Nat) (J:It) (g:TG) (tc:TT) (te:TE) (σ:St) (H1:Hp) (D:ah) (Q:VK):Prop:=
  ∃W:Nat->Nat->St->List V->Hp->Prop,(∃m,W 0 m (sN own ix σ) [] (upd H1 D (.lst [])))/\∀i m aK ys H',W i m aK ys H'->H' D=some (.lst ys)/\
    ((J.stop i H'/\Q (.ref D) H')\/(J.go i H'/\ys.length<sizeLine/\∀x H2,J.ue i H' x H2->g x aK H2 fun nF H3=>tc nF H3 fun b H4=>
      if b=true then te nF H4 fun y H5=>H5 D=some (.lst ys)/\∃m',m'<m/\W (i+1) m' nF (ys++[y]) (upd H5 D (.lst (ys++[y]))) else H4 D=some (.lst ys)/\∃m',m'<m/\W (i+1) m' nF ys H4))
def LS (own:List Str) (ix:List Nat) (wi:TI) (g:TG) (tc:TT) (te:TE):TE:=fun σ H Q=>wi σ H fun J H1=>∀D,H1 D=none->CW own ix J g tc te σ H1 D Q
section
variable {X:Cx}{tg iter elt:Expr}{ifs:List Expr}{scope:Scope}{pos:Pos}{own cap:List Str}{ix:List Nat}{wi:TI}{g:TG}{tc:TT}{te:TE}
theorem LU {pins:aG}{σ:St}{s:au}{E:aA}{RR:ai->ah->Result->au->Prop}{Q:VK}
    (hc:X.calm=true) (S:eK scope X.env.scope cap) (gI:ix.map (fun i=>X.N[i]?)=cap.map some)
    (hg:∀C s H ex,PG (pG X (own++cap) scope C s H ex) tg g) (ht:∀C s H ex,CT (pG X (own++cap) scope C s H ex) ifs tc) (he:∀C s H ex,PE (pG X (own++cap) scope C s H ex) elt te)
    {zB:ai}(h:Hs X pins σ tg (fun J H1=>∀D,H1 D=none->CW own ix J g tc te σ H1 D Q) zB s)
    (hR:∀(D C:ah) (s':au) (H':Hp) (m:Str->Option ai),s'.heap.Ns C m->gW X pins H' C->(∀h',Heap.SameBut C s'.heap h'->Inv X pins σ H' { s' with heap:=h' })->Q (.ref D) H'->RR (.ref D) C (.ok .next) s') :
    wpAny (model X.prog X.w) X.A (newList []) (fun acc nK=>wpAny (model X.prog X.w) X.A (newFunctionEnv scope X.env.globals (sM X.env.cells scope.names []) [] X.env.qual none .none (some X.env)) (fun CZ pR=>
      codeAny (model X.prog X.w) X.A (.compStart (.ListComp elt [⟨tg,iter,ifs,0⟩] scope pos) 0 zB acc { CZ with scope:=relabel scope X.env }) (RR acc CZ.locals) pR) E nK) E s:=by
  obtain⟨it,fp,tn,J,H2,rfl,I2,T,Fg,f2,q2⟩:=h;refine fh (wpAny_newFunctionEnv S.uP (by intro y hy;simp at hy) (fun iS qV qW=>?_) S.kind);dsimp only at qV qW ⊢;have hD:H2 s.heap.objs.size=none:=I2.bA.fresh (aH _);obtain⟨W,⟨m0,w0⟩,turn⟩:=q2 s.heap.objs.size hD;have I3:Inv X pins σ (upd H2 s.heap.objs.size (.lst [])) { s with heap:=s.heap.push { cls:=.type "list",data:=.seq ([]:List ai).toArray } }:=I2.zS (t':=s.toks) (its:=[]) .nil (dj _);have LV:∀b∈fp,b<s.heap.objs.size:=fun b hb=>by
    obtain⟨o,e,_⟩:=T.obj 0 _ Fg b hb;exact aI e
  have f3:∀b∈fp,gW X pins (upd H2 s.heap.objs.size (.lst [])) b:=fun b hb=>⟨by rw[zr (bq (LV b hb))];exact (f2 b hb).1,(f2 b hb).2⟩
  generalize hH:s.heap.push { cls:=.type "list",data:=.seq ([]:List ai).toArray } = H3 at I3 qV qW ⊢;have sz:H3.objs.size=s.heap.objs.size+1:=by rw[←hH,gS]
  have up:∀b o,H3.get? b=some o->iS.get? b=some o:=fun b o e=>qW.extBut b o (bq (aI e)) (bC _ e)
  have old:∀b o,s.heap.get? b=some o->iS.get? b=some o:=fun b o e=>up b o (by rw[←hH];exact bC _ e)
  have LW:∀b∈fp,b<({ s with heap:=H3 }:au).heap.objs.size:=fun b hb=>by show b<H3.objs.size;rw[sz];exact jD (LV b hb)
  have LX:tn 0 iS:=T.keep _ _ _ Fg fun b _ o e=>old b o e
  have qO:∀{H':Hp},(∀b∈fp,H' b=none)->∀b∈fp,gW (pG X (own++cap) scope H3.objs.size { s with heap:=H3 } (upd H2 s.heap.objs.size (.lst [])) fp) [] H' b:=fun hn b hb=>
    ⟨hn b hb,bq (LW b hb),fun z=>(aN.mp (I3.oU b z)).elim (f2 b hb).2.1 (f2 b hb).2.2.1,.inl hb,fun x c e=>(f2 b hb).2.2.2.2.1 x c (HX _ _ _ (fun y d h=>by cases h) _ _ e),fun p hp=>absurd (show p∈([]:aG) from hp) (by simp)⟩
  have loop:∀pR:au,pR = { s with heap:=iS,toks:=s.toks+([]:List (Str×ai)).length }->
      codeAny (model X.prog X.w) X.A (.compLoop (.ListComp elt [⟨tg,iter,ifs,0⟩] scope pos) 0 (.ref it) (.ref s.heap.objs.size) (compEnvC scope (sM X.env.cells scope.names []) H3.objs.size X.env))
        (RR (.ref s.heap.objs.size) H3.objs.size) pR:=by
    rintro pR rfl;have I4:=SA (own:=own) (fp:=fp) (tk:=s.toks+([]:List (Str×ai)).length) I3 S gI f3 LW qV up;refine SG (fun n s'=>∃i aK ys H',Inv (pG X (own++cap) scope H3.objs.size { s with heap:=H3 } (upd H2 s.heap.objs.size (.lst [])) fp) [] aK H' s'/\tn i s'.heap/\(∀b∈fp,H' b=none)/\W i n aK ys H') ?_ m0
      ⟨0,_,[],_,I4,LX,fun b hb=>(f3 b hb).1,w0⟩
    rintro n s5 ⟨i,FL,ys,H5,I5,A4,Fi,w5⟩;obtain⟨hD5,C0⟩:=turn i n FL ys H5 w5;rcases C0 with ⟨stop,q⟩ | ⟨go,hz,step⟩
    · refine cA (T.done (pG X (own++cap) scope H3.objs.size { s with heap:=H3 } (upd H2 s.heap.objs.size (.lst [])) fp) rfl rfl rfl hc i [] s5 FL H5 _ I5 (qO Fi) A4 stop) fun r s6 bg=>?_
      obtain⟨hr,I6⟩:=bg;subst hr;obtain⟨m6,Ic,_⟩:=I6.loc;exact hR _ _ s6 H5 m6 Ic (I3.oV (aH _) I6.free) (fun h' hs=>SE I3 f3 I6 hs) q
    · refine cA (T.item (pG X (own++cap) scope H3.objs.size { s with heap:=H3 } (upd H2 s.heap.objs.size (.lst [])) fp) rfl rfl rfl hc i [] s5 FL H5 _ I5 (qO Fi) A4 go) fun r s6 bg=>?_
      obtain⟨u,hr,h6⟩:=bg;subst hr;refine cA h6 fun _ s7 bg=>?_
      obtain⟨x,H7,I7,r7,y7,Ie,SH⟩:=bg;have SJ:=I7.pinned (qO SH) (T.obj _ _ Ie);refine b8 (hg _ _ _ _ _ s7 FL H7 x u _ SJ r7 (step x H7 y7)) (fun _ s8 bg=>?_) fun _ _ z=>False.elim z
      obtain⟨Ig,H8,I8,q8⟩:=bg;refine b8 (ht _ _ _ _ _ s8 Ig H8 _ I8 q8) (fun ok s9 bg=>?_) fun _ _ z=>False.elim z
      obtain⟨H9,I9,q9⟩:=bg;have again:∀{s':au}{aK:St}{H':Hp}{Ih:List V}{m':Nat},Inv (pG X (own++cap) scope H3.objs.size { s with heap:=H3 } (upd H2 s.heap.objs.size (.lst [])) fp) ([]++Cf fp s7.heap) aK H' s'->m'<n->W (i+1) m' aK Ih H'->
          ∃m,m<n/\∃i aK ys H',Inv (pG X (own++cap) scope H3.objs.size { s with heap:=H3 } (upd H2 s.heap.objs.size (.lst [])) fp) [] aK H' s'/\tn i s'.heap/\(∀b∈fp,H' b=none)/\W i m aK ys H':=fun {s' aK H' Ih m'} I' hm w'=>by
        refine⟨m',hm,i+1,aK,Ih,H',I'.jZ,T.keep _ _ _ Ie fun b hb o e=>(I'.pin (b,o) (f7 _ (f7 _ (Ff hb e)))).1,fun b hb=>?_,w'⟩;obtain⟨o,e,d⟩:=T.obj _ _ Ie b hb;exact (I'.pin (b,o) (f7 _ (f7 _ (Ff hb e)))).2.1
      cases ok with
      | false=>
        rw[ao bJ] at q9 ⊢;obtain⟨_,m',hm,w'⟩:=q9;exact again I9 hm w'
      | true=>
        rw[aq rfl] at q9 ⊢;refine b8 (he _ _ _ _ _ s9 Ig H9 _ I9 q9) (fun v C2 bg=>?_) fun _ _ z=>False.elim z
        obtain⟨y,FN,SK,SM,Ii,m',hm,w'⟩:=bg;refine b8 (ql (X:=pG X (own++cap) scope H3.objs.size { s with heap:=H3 } (upd H2 s.heap.objs.size (.lst [])) fp) _ C2 Ig FN (.ref s.heap.objs.size) [y] (.ref s.heap.objs.size) [v] (fun _ H'=>H'=upd FN s.heap.objs.size (.lst (ys++[y]))) SK rfl (.cons SM .nil) ⟨_,ys,y,rfl,rfl,Ii,hz,rfl⟩)
          (fun _ s11 ⟨_,H11,SN,_,SO⟩=>?_) fun _ _ z=>False.elim z
        subst SO;exact again SN hm w'
  exact codeAny_compStart_list (loop _ rfl) (T.self _ 0 _ _ _ LX (loop _ rfl))
theorem r8 {kW:Scope}(hc:X.calm=true) (S':eK scope kW cap) (gI:ix.map (fun i=>X.N[i]?)=cap.map some) (hi:PI X tg iter wi)
    (hg:∀C s H ex,PG (pG X (own++cap) scope C s H ex) tg g) (ht:∀C s H ex,CT (pG X (own++cap) scope C s H ex) ifs tc) (he:∀C s H ex,PE (pG X (own++cap) scope C s H ex) elt te)
    (hs:∀x,foldedSetIterable iter X.env x=pure x:=by intro _;rfl) (ho:X.env.scope=kW:=by rfl):PE X (.ListComp elt [⟨tg,iter,ifs,0⟩] scope pos) (LS own ix wi g tc te):=by
  have S:eK scope X.env.scope cap:=ho▸S';intro pins s σ H Q I h;rw[eval_ListComp];refine wpAny_comprehension_free (use:=none) rfl hs (LR I S) S.kind S.loc (cA (hi pins s σ H _ I h) fun xv bI iS=>cA iS fun zB iQ oZ=>?_);refine LU (RR:=fun acc C=>compPost (model X.prog X.w) X.A X.xe none (EP X pins σ Q) acc C) hc S gI hg ht he oZ fun D C s' H' m hn _ hI q=>?_
  exact⟨m,hn,fun h' yr=>⟨.ref D,H',hI h' yr,rfl,q⟩⟩
theorem C3 {kW:Scope}{i:Nat}{y:Str}{py C4:Pos}(hc:X.calm=true) (hN:X.N.Nodup) (Bh:X.N[i]? = some y) (hy:X.env.scope.names.lookup y=some .local)
    (SQ:swapsWith (.ListComp elt [⟨tg,iter,ifs,0⟩] scope pos) (some (.Name y py)) C4.line X.env=pure true) (S':eK scope kW cap) (gI:ix.map (fun i=>X.N[i]?)=cap.map some) (hi:PI X tg iter wi)
    (hg:∀C s H ex,PG (pG X (own++cap) scope C s H ex) tg g) (ht:∀C s H ex,CT (pG X (own++cap) scope C s H ex) ifs tc) (he:∀C s H ex,PE (pG X (own++cap) scope C s H ex) elt te)
    (hs:∀x,foldedSetIterable iter X.env x=pure x:=by intro _;rfl) (ho:X.env.scope=kW:=by rfl):PS X (.Assign [.Name y py] (.ListComp elt [⟨tg,iter,ifs,0⟩] scope pos) C4) (zA (LS own ix wi g tc te) (zx i)):=by
  have S:eK scope X.env.scope cap:=ho▸S';intro pins s σ H D I h;rw[exec_Assign_Name_used _ _ _ _ SQ];refine aj (gp (aj ?_));show wpAny _ X.A (do let _ ←comprehension (.ListComp elt [⟨tg,iter,ifs,0⟩] scope pos) scope X.env _ (newList []) false (eval iter X.env) (some (assign (.Name y py) X.env))) _ _ s;refine aj (b8 (wpAny_comprehension_free (use:=some (assign (.Name y py) X.env)) (Q:=fun _ s'=>SP X pins D .next s') rfl hs (LR I S) S.kind S.loc
    (cA (hi pins s σ H _ I h) fun xv bI iS=>cA iS fun zB iQ oZ=>?_)) (fun _ s' hq=>az (az hq)) fun _ _ e=>e)
  refine LU (RR:=fun acc C=>compPost (model X.prog X.w) X.A X.xe (some (assign (.Name y py) X.env)) (fun _ s'=>SP X pins D .next s') acc C) hc S gI hg ht he oZ fun D' C s' H' m hn hF hI q=>?_
  show wpAny _ X.A (assign (.Name y py) X.env (.ref D')) _ _ _;have I':Inv X pins σ H' s':=hI s'.heap (Heap.SameBut.refl ..);refine wpAny_assign_Name (KY I' hN Bh (.inl hy) (v:=.ref D') rfl (fun wg SR bg=>?_) (.inr hy));obtain⟨a,Ij,ha⟩:=bg;obtain⟨f0,f1,f2,f3,f4,f5⟩:=hF;have SV:C≠a:=by
    rcases ha with ha | ha
    · rw[ha];exact f1
    · exact fun z=>f4 _ _ ha z.symm
  exact⟨m,hn.sameBut Ij SV,fun h' yr=>⟨_,H',SR.turned (t':=wg.toks) (fun b o hb e=>(yr.2 b hb).trans e) f0 f1 f3 f4 f5,q⟩⟩
end
structure Fix (J:It) (xs:List V) (P:Hp->Prop):Prop where
  go:∀i H,P H->i<xs.length->J.go i H
  ue:∀i H x H',P H->J.ue i H x H'->H'=H/\(i<xs.length->xs[i]? = some x)
  stop:∀i H,P H->xs.length<=i->J.stop i H
theorem wo {K:aF}{a:ah}{xs:List V}:Fix (A3 K a) xs (fun H=>aJ K H a xs):=
  ⟨fun i H h hi=>⟨xs,xs[i],h,by simp[hi]⟩,fun i H x H' h y=>⟨y.1,fun _=>y.2 xs h⟩,fun i H h hi=>⟨xs,h,hi⟩⟩
theorem LY {lo:Int}{n:Nat}:Fix (zC lo n) ((List.range n).map fun i=>V.int (lo+(i:Nat))) (fun _=>True):=
  ⟨fun i H h hi=>by show i<n;simpa using hi,fun i H x H' h y=>⟨y.1,fun hi=>by
    have Bh:i<n:=by simpa using hi
    rw[aM,List.getElem?_range Bh,y.2];rfl⟩,fun i H h hi=>by show n<=i;simpa using hi⟩
theorem SW {J:It}{xs:List V}{P:Hp->Prop}{own:List Str}{ix:List Nat}{tc:TT}{te:TE}{σ:St}{H1:Hp}{D:ah}{Q:VK}(F:Fix J xs P) (p:V->Bool) (f:V->V)
    (hP:∀ys,P (upd H1 D (.lst ys))) (hz:xs.length<=sizeLine)
    (ht:∀x∈xs,∀ys (Q':Bool->Hp->Prop),Q' (p x) (upd H1 D (.lst ys))->tc ((sN own ix σ).set 0 (some x)) (upd H1 D (.lst ys)) Q')
    (he:∀x∈xs,p x=true->∀ys (Q':VK),Q' (f x) (upd H1 D (.lst ys))->te ((sN own ix σ).set 0 (some x)) (upd H1 D (.lst ys)) Q')
    (hQ:Q (.ref D) (upd H1 D (.lst ((xs.filter p).map f)))):CW own ix J (zx 0) tc te σ H1 D Q:=by
  refine⟨fun i m aK ys H'=>m=xs.length-i/\i<=xs.length/\(∀z,aK.set 0 z=(sN own ix σ).set 0 z)/\ys=((xs.take i).filter p).map f/\H'=upd H1 D (.lst ys),
    ⟨xs.length,by simp,dj _,fun _=>rfl,by simp,rfl⟩,?_⟩
  rintro i m aK ys H' ⟨rfl,hi,Ik,rfl,rfl⟩;refine⟨zb,?_⟩
  by_cases cQ:i<xs.length
  · refine .inr ⟨F.go i _ (hP _) cQ,?_,fun x H2 y=>?_⟩
    · rw[ay];have h1:((xs.take i).filter p).length<=(xs.take i).length:=gE _ _;rw[bF] at h1;lia
    · obtain⟨e,y'⟩:=F.ue i _ x H2 (hP _) y;subst e;have hx:=y' cQ;have hm:x∈xs:=bN hx;have tk:=take_succ_filter p xs i x hx;show tc (aK.set 0 (some x)) _ _;rw[Ik];refine ht x hm _ _ ?_;have C5:∀z,((sN own ix σ).set 0 (some x)).set 0 z=(sN own ix σ).set 0 z:=fun z=>List.set_set ..
      cases hp:p x with
      | true=>
        rw[aq rfl];refine he x hm hp _ _ ⟨zb,xs.length-(i+1),by lia,rfl,cQ,C5,?_,?_⟩
        · rw[tk,hp];simp
        · rw[QH]
      | false=>
        rw[ao bJ];refine⟨zb,xs.length-(i+1),by lia,rfl,cQ,C5,?_,?_⟩
        · rw[tk,hp];simp
        · rfl
  · have e:i=xs.length:=by lia
    subst e;refine .inl ⟨F.stop _ _ (hP _) (aH _),?_⟩;rw[bG];exact hQ
def sg (c:Nat):V:=.str ⟨#[c]⟩
section
variable {X:Cx}
theorem Il:∀{bs:List Bool}{us:List ai},Vals (bs.map V.bl) us->us=bs.map Value.bool
  | [],_,r=>by cases r;rfl
  | b::bs,_,r=>by
    cases r with
    | cons r1 r2=>rw[show _=Value.bool b from r1,Il r2];rfl
theorem SX (bs:List Bool):((List.range bs.length).all fun i=>(bs[i]?).getD true)=bs.all id:=by
  rw[jG,gF,gF];constructor
  · intro h b hb;obtain⟨i,hi,e⟩:=lg.mp hb;have:=h i (eV.mpr hi);rw[bz hi,oN,e] at this;exact this
  · intro h i hi;have Bh:=eV.mp hi;rw[bz Bh,oN];exact h _ (jW Bh)
theorem SY (hc:X.calm=true):oW X (.builtin "all") (fun xs H Q=>∃(a:ah) (bs:List Bool),xs = [V.ref a]/\aJ X.K H a (bs.map V.bl)/\Q (.bl (bs.all id)) H):=by
  intro pins s σ H xs us Q I r h;obtain⟨a,bs,rfl,ha,q⟩:=h;obtain⟨u,rfl,ru⟩:=qj r;cases ru;obtain⟨its,rv,pl,hz⟩:=I.list ha;have e:its=bs.map Value.bool:=Il rv;subst e;have hl:=pl.isList;have cQ:a<s.heap.objs.size:=by obtain⟨_,e,_⟩:=hl;exact aI e
  refine call_all_walk (kB hl ?_);refine⟨s.heap.objs.size,[s.heap.objs.size,a],[s.heap.objs.size],(bs.map Value.bool).toArray.size,_,_,fun i=>(bs[i]?).getD true,rfl,Walks.list (A:=X.A.in1) (I.ok.hd hc) _ a (bq cQ) (bs.map Value.bool).toArray,
    ⟨⟨_,bO _ rfl,rfl,rfl⟩,hl.push _⟩,fun i v s' Q' E' hP hQ=>?_,fun h' tk hk=>?_⟩
  · have qp:(bs.map Value.bool)[i]? = some v:=by simpa using hP
    rw[aM] at qp;cases e:bs[i]? with
    | none=>rw[e] at qp;cases qp
    | some b=>
      rw[e] at qp;cases qp;simp only [e,oN] at hQ;exact iJ hQ
  · have e:((List.range (bs.map Value.bool).toArray.size).all fun i=>(bs[i]?).getD true)=bs.all id:=by
      rw[bS,ay];exact SX bs
    rw[e];refine⟨.bl (bs.all id),H,?_,rfl,q⟩;exact I.kept fun b o eb=>hk b o (fun z=>by rw[iF.mp z] at eb;exact absurd (aI eb) (eB _)) (bC _ eb)
theorem LZ:∀{ys:List Str}{us:List ai},Vals (ys.map V.str) us->StrsAre us ys
  | [],_,r=>by cases r;exact .nil
  | y::ys,_,r=>by
    cases r with
    | cons r1 r2=>
      obtain⟨t,rfl⟩:=r1;exact .cons y t (LZ r2)
def Im:V->Option Int->Option Int->Hp->VK->Prop:=fun x lo hi H Q=>∃z,x = .str z/\z.length<=sizeLine/\Q (.str (Txt.slice z lo hi)) H
theorem L7:A8 X Im:=by
  intro pins s σ H x v vl vu lo hi sl Q I rx hs pl pu h;obtain⟨z,rfl,hz,q⟩:=h;obtain⟨t,rfl⟩:=rx;refine⟨"str",_,F.slot_str_getitem.lookup,typeIs_str _ _ _,?_⟩;have fin:∀(t':Tok) (k:Nat),EP X pins σ Q (.str (Txt.slice z lo hi) t') { s with toks:=k }:=fun t' k=>⟨.str _,H,I.tok k,⟨_,rfl⟩,q⟩
  obtain⟨o,ho,yt,hd⟩:=hs;cases pl<;>cases pu
  · exact oj (l:=none) (u:=none) (st:=none) ⟨o,ho,yt,hd⟩ rfl (oQ ⟨b7 (Txt.slice_le z _ _) hz,fin⟩)
  · exact oj (l:=none) (u:=some (_,_)) (st:=none) ⟨o,ho,yt,hd⟩ rfl (oQ ⟨b7 (Txt.slice_le z _ _) hz,fin⟩)
  · exact oj (l:=some (_,_)) (u:=none) (st:=none) ⟨o,ho,yt,hd⟩ rfl (oQ ⟨b7 (Txt.slice_le z _ _) hz,fin⟩)
  · exact oj (l:=some (_,_)) (u:=some (_,_)) (st:=none) ⟨o,ho,yt,hd⟩ rfl (oQ ⟨b7 (Txt.slice_le z _ _) hz,fin⟩)
end
theorem uQ {Pl:List ai->Prop}{n:Nat}(h:∀a r,r.length=n->Pl (a::r)):∀us:List ai,us.length=n+1->Pl us:=fun us e=>by
  cases us with
  | nil=>cases e
  | cons a r=>exact h a r (Nat.succ.inj e)
theorem fS {Pl:List ai->Prop}(h:∀a,Pl [a]):∀us:List ai,us.length=1->Pl us:=uQ fun a r e=>by
  cases r with
  | nil=>exact h a
  | cons=>cases e
theorem jh {Pl:List ai->Prop}(h:∀a b,Pl [a,b]):∀us:List ai,us.length=2->Pl us:=uQ fun a=>fS (h a)
theorem qX {Pl:List ai->Prop}(h:∀a b c,Pl [a,b,c]):∀us:List ai,us.length=3->Pl us:=uQ fun a=>jh (h a)
theorem uR {Pl:List ai->Prop}(h:∀a b c d,Pl [a,b,c,d]):∀us:List ai,us.length=4->Pl us:=uQ fun a=>qX (h a)
theorem C6 {Pl:List ai->Prop}(h:∀a b c d e,Pl [a,b,c,d,e]):∀us:List ai,us.length=5->Pl us:=uQ fun a=>uR (h a)
def Df (K:aF) (mg:Str->Option ai) (x:Str) (st:Stmt) (ps:List Str):Prop:=
  ∃(f:ah) (fd:FuncData),CP K x x st f fd/\mg x=some (.ref f)/\∀us:List ai,us.length=ps.length->bindArgs fd ⟨us,[]⟩=pure (ps.zip us)
theorem aY {K:aF}{h:Heap}{mg:Str->Option ai}(X:K.In h) (G:h.Ns mainGlobals mg) {x:Str}{st:Stmt}{ps:List Str}{f:ah}{oc kV dc pm cd ct:ai}{od an:Option ah}{sl:Array (Option ai)}
    (hb:∀(kV doc pm:ai) (an:Option ah) (bX ct:ai) (us:List ai),us.length=ps.length->bindArgs (PySem.W.fnOf x x (zZ st) (uO st) (zq st) .none kV doc pm an bX ct) ⟨us,[]⟩=pure (ps.zip us))
    (a:PySem.W.nsIn K mainGlobals x=some (some (.ref f))) (l:K.lookup f=some ⟨oc,od,.func (PySem.W.fnOf x x (zZ st) (uO st) (zq st) .none kV dc pm an cd ct),sl⟩) (c:PySem.W.codeIn K cd x=true) (k:PySem.W.keepIn K (.ref f)=true):Df K mg x st ps:=
  ⟨f,_,LN l c k,PySem.W.mg_of X G a,fun us hl=>hb kV dc pm an cd ct us hl⟩
theorem j4 {K:aF}{h:Heap}{mg:Str->Option ai}(X:K.In h) (G:h.Ns mainGlobals mg) {x:Str}{u:ai}(a:PySem.W.nsIn K mainGlobals x=some (some u)):mg x=some u:=PySem.W.mg_of X G a
theorem gy {K:aF}{h:Heap}{mg:Str->Option ai}(X:K.In h) (G:h.Ns mainGlobals mg) {x:Str}(a:PySem.W.nsIn K mainGlobals x=some none):mg x=none:=PySem.W.mg_none_of X G a
def eX (P:aU) (w:World) (K:aF) (mg:Str->Option ai) (base:Heap) (x:Str) (ps:List Str) (k:Nat) (sp:Sp):Prop:=
  ∃(f:ah) (fd:FuncData),mg x=some (.ref f)/\PySem.W.keepIn K (.ref f)=true/\(∃oc od nI,K.lookup f=some ⟨oc,od,.func fd,nI⟩)/\(∀us:List ai,us.length=ps.length->bindArgs fd ⟨us,[]⟩=pure (ps.zip us))/\mT P w K mg base yp k f fd ps sp
section
variable {P:aU}{w:World}{K:aF}{mg:Str->Option ai}{base:Heap}
theorem Df.has {x:Str}{st:Stmt}{N ps:List Str}{k:Nat}{sp:Sp}(D:Df K mg x st ps) (S:aE N ps (zq st)) (len:∀vs H Q E,sp vs H Q E->vs.length=ps.length)
    (mU:∀(f:ah) (bX:ai) (A:Around) (outer:List Env) (s:au) (H:Hp) (vs:List V) (Q:VK) (E:XK),cV k (A.deeper (envOfC x (zq st) s.heap.objs.size f bX))->sp vs H Q E->
      ∃t,pF (nH yp P w K mg base N x (zq st) f bX A outer s H E).A1 (uO st) t/\t { nx:=fun _ H'=>Q .dG H',rt:=Q } (start N vs) H):eX P w K mg base x ps (k+1) sp:=by
  obtain⟨f,fd,F,a,b⟩:=D;obtain⟨oc,od,kV,doc,pm,an,bX,ct,nI,e,lk,qg⟩:=id F.ex;exact⟨f,fd,a,F.kp,⟨oc,od,nI,lk⟩,b,F.ok S len (mU f)⟩
end
section
variable {X:Cx}{k:Nat}{ps:List Str}{sp:Sp}{x:Str}{p pos:Pos}{e:Expr}{es:List Expr}{t:TA}
theorem S0 (F:eX X.prog X.w X.K X.mg X.base x ps k sp) (hr:cV k X.A) (hg:Gl X x) (ha:PA X (e::es) t) (j0:(x == ("__debug__" : Str))=false:=by decide)
    (he:starEach (e::es) X.env=(false,eval e X.env)::starEach es X.env:=by rfl) (kq:(backTo pos (starEach es X.env)).any (·.1)=false:=by rfl):PE X (.Call (.Name x p) (e::es) [] pos) (Fv sp [] E0 t):=by
  obtain⟨f,fd,a,kp,lk,b,G⟩:=F;exact Le G hr hg a kp (.all b) .nil Sw ha j0 he kq
end
theorem uS {l:PySem.W.OpenLaw}{q:aU}{loose:List Str}{XP:(Str->Option ai)->Heap->Prop}{YP:World->Heap->Prop}{d:DefRec}{K:Params->aF}{k:Nat}{x:Str}{sp:aF->Sp}
    (hn:l.most=some 63) (zW:d.params.defaults = []) (hr:cV k callerA) (hY:∀(w:World) (h:Heap),YP w h->(K w.params).In h)
    (uf:∀(K:aF) (H:Hp) (a:ah) (ns:List Int),ns.length<=63->aJ K H a (ns.map V.int)->sp K [.ref a] H (fun v _=>v = .bl true) fun _ _ _=>False)
    (F:∀(w:World) (mg:Str->Option ai) (h:Heap),(K w.params).In h->h.Ns mainGlobals mg->∀base:Heap,(K w.params).In base->base.Ns mainGlobals mg->eX l.prog w (K w.params) mg base d.name [x] k (sp (K w.params))) :
    PySem.W.WalkO q loose XP YP l.row.toRowW d [] (fun f vs=>PySem.call f vs):=by
  refine L2.uN (n:=63) (k:=k) (x:=x) (CX:=yp) (sp:=sp) hn (by decide) zW hr hY (fun w mg fa h KX G Be=>?_) (fun K H a ns hl _ hS=>uf K H a ns hl hS) fun _ _ _ _ z=>z
  obtain⟨f,fd,a,kp,⟨oc,od,nI,lk⟩,b,_⟩:=F w mg h KX G h KX G;have ef:fa=f:=by
    rw[Be] at a;cases a;rfl
  subst ef;refine⟨fd,fun s u=>.of_eq (b [u] rfl),fun base kb nb=>?_⟩;obtain⟨f',S1,a',C7,⟨S2,S3,Io,FO⟩,b',G'⟩:=F w mg h KX G base kb nb;have ef:f'=fa:=by
    rw[Be] at a';cases a';rfl
  subst ef;rw[lk] at FO;cases FO;exact G'
inductive dH (K:aF) (H:Hp):Nat->V->V->Bool->Prop where
  | flat {n:Nat}{x y:V}(fx:oX x=true) (fy:oX y=true):dH K H n x y (rY x y)
  | lst {n:Nat}{a b:ah}{xs ys:List V}(e:Nat->Bool) (hx:aJ K H a xs) (hy:aJ K H b ys) (hl:xs.length=ys.length) (he:∀(i:Nat) x y,xs[i]? = some x->ys[i]? = some y->dH K H n x y (e i)) :
      dH K H (n+1) (.ref a) (.ref b) ((List.range xs.length).all e)
  | xx {n:Nat}{a b:ah}{xs ys:List V}(hx:aJ K H a xs) (hy:aJ K H b ys) (hl:xs.length≠ys.length):dH K H (n+1) (.ref a) (.ref b) false
  | tup {n:Nat}{a b:ah}{xs ys:List V}(e:Nat->Bool) (hx:bu K H a xs) (hy:bu K H b ys) (he:∀(i:Nat) x y,xs[i]? = some x->ys[i]? = some y->dH K H n x y (e i)) :
      dH K H (n+1) (.ref a) (.ref b) ((List.range (min xs.length ys.length)).all e&&xs.length == ys.length)
  | lt {n:Nat}{a b:ah}{xs ys:List V}(hx:aJ K H a xs) (hy:bu K H b ys):dH K H (n+1) (.ref a) (.ref b) false
  | tl {n:Nat}{a b:ah}{xs ys:List V}(hx:bu K H a xs) (hy:aJ K H b ys):dH K H (n+1) (.ref a) (.ref b) false
theorem C8 {x:V}(h:oX x=true):rY x x=true:=by
  cases x<;>first | rfl | (simp[oX] at h;done) | (simp[rY];done)
section
variable {X:Cx}{pins:aG}{σ:St}{H:Hp}{s:au}
theorem L8 (I:Inv X pins σ H s) {a:ah}{xs ys:List V}(hx:aJ X.K H a xs) (hy:bu X.K H a ys):False:=by
  obtain⟨its,_,⟨o,n,e,c,_,_⟩,_⟩:=I.list hx;obtain⟨its',_,⟨o',e',c',_⟩,_⟩:=I.tuple hy;rw[e] at e';cases e';rw[c] at c';injection c' with c'
  exact absurd c' (by decide)
theorem dH.refl (I:Inv X pins σ H s) {n:Nat}{x y:V}{b:Bool}(h:dH X.K H n x y b):x=y->b=true:=by
  induction h with
  | flat fx fy=>intro e;subst e;exact C8 fx
  | lst e hx hy hl he ih=>
    intro q;cases q;have:=I.jY hx hy;subst this;rw[gF];intro i hi;have hi:=eV.mp hi;exact ih i _ _ (bz hi) (bz hi) rfl
  | xx hx hy hl=>
    intro q;cases q;exact absurd (bT List.length (I.jY hx hy)) hl
  | tup e hx hy he ih=>
    intro q;cases q;have:=I.sI hx hy;subst this;rw[Nat.min_self,oO,Bool.and_true,gF];intro i hi;have hi:=eV.mp hi;exact ih i _ _ (bz hi) (bz hi) rfl
  | lt hx hy=>intro q;cases q;exact (L8 I hx hy).elim
  | tl hx hy=>intro q;cases q;exact (L8 I hy hx).elim
theorem FP (A:Around):A.in1.units<=A.units+1:=by
  first
    | exact aH _
    | exact gq _
    | (unfold Around.in1;simp)
theorem dH.at (I:Inv X pins σ H s) {n:Nat}{x y:V}{b:Bool}(h:dH X.K H n x y b):∀{u v:ai}{A:Around},RelV x u->RelV y v->A.units+n<cLine->
    SeqAt.EqAt A s u v b/\((∃p q,x = .ref p/\y = .ref q)->SeqAt.RcAt A s u v b):=by
  induction h with
  | flat fx fy=>
    intro u v A ru rv hu;refine⟨Lx ru rv fx fy,fun bg=>?_⟩;obtain⟨p,q,e,_⟩:=bg;subst e;cases fx
  | @lst n a b xs ys e hx hy hl he ih=>
    intro u v A ru rv hu;cases ru;cases rv;obtain⟨its,r1,p1,_⟩:=I.list hx;obtain⟨dU,r2,p2,_⟩:=I.list hy;have l1:=r1.length;have l2:=r2.length;have h1:=FP A;have rc:SeqAt.RcAt A s (.ref a) (.ref b) ((List.range xs.length).all e):=by
      have:=SeqAt.RcAt.lists (A:=A) (e:=e) p1.isList p2.isList (by simp;lia) (by lia) (fun j j1 j2=>by
        have g1:xs[j]? = some (xs[j]'(by simp at j1;lia)):=bz _;have g2:ys[j]? = some (ys[j]'(by simp at j2;lia)):=bz _;obtain⟨w1,q1,t1⟩:=r1.get g1;obtain⟨w2,q2,t2⟩:=r2.get g2;have:=(ih j _ _ g1 g2 t1 t2 (A:=A.in1) (by lia)).1;have z1:its.toArray[j]=w1:=by
          have:=bV.mp q1;obtain⟨_,z⟩:=this;simpa using z
        have z2:dU.toArray[j]=w2:=by
          have:=bV.mp q2;obtain⟨_,z⟩:=this;simpa using z
        rw[z1,z2];exact this)
      have es:its.toArray.size=xs.length:=by simp;lia
      rw[es] at this;exact this
    refine⟨?_,fun _=>rc⟩
    by_cases i6:a=b
    · subst i6;have:=(dH.lst e hx hy hl he).refl I rfl;rw[this];exact .same _
    · exact .of_refs i6 rc
  | @xx n a b xs ys hx hy hl=>
    intro u v A ru rv hu;cases ru;cases rv;obtain⟨its,r1,p1,_⟩:=I.list hx;obtain⟨dU,r2,p2,_⟩:=I.list hy;have l1:=r1.length;have l2:=r2.length;have rc:SeqAt.RcAt A s (.ref a) (.ref b) false:=SeqAt.RcAt.lists_lengths p1.isList p2.isList (by simp;lia) (by lia);refine⟨?_,fun _=>rc⟩
    by_cases i6:a=b
    · subst i6;exact absurd (bT List.length (I.jY hx hy)) hl
    · exact .of_refs i6 rc
  | @tup n a b xs ys e hx hy he ih=>
    intro u v A ru rv hu;cases ru;cases rv;obtain⟨its,r1,p1,_⟩:=I.tuple hx;obtain⟨dU,r2,p2,_⟩:=I.tuple hy;have l1:=r1.length;have l2:=r2.length;have h1:=FP A;have rc:SeqAt.RcAt A s (.ref a) (.ref b) ((List.range (min xs.length ys.length)).all e&&xs.length == ys.length):=by
      have:=SeqAt.RcAt.tuples (A:=A) (e:=e) (show s.heap.IsTuple a its.toArray from p1) (show s.heap.IsTuple b dU.toArray from p2) (by lia) (fun j j1 j2=>by
        have g1:xs[j]? = some (xs[j]'(by simp at j1;lia)):=bz _;have g2:ys[j]? = some (ys[j]'(by simp at j2;lia)):=bz _;obtain⟨w1,q1,t1⟩:=r1.get g1;obtain⟨w2,q2,t2⟩:=r2.get g2;have:=(ih j _ _ g1 g2 t1 t2 (A:=A.in1) (by lia)).1;have z1:its.toArray[j]=w1:=by
          have:=bV.mp q1;obtain⟨_,z⟩:=this;simpa using z
        have z2:dU.toArray[j]=w2:=by
          have:=bV.mp q2;obtain⟨_,z⟩:=this;simpa using z
        rw[z1,z2];exact this)
      have es:its.toArray.size=xs.length:=by simp;lia
      have S4:dU.toArray.size=ys.length:=by simp;lia
      rw[es,S4] at this;exact this
    refine⟨?_,fun _=>rc⟩
    by_cases i6:a=b
    · subst i6;have:=(dH.tup e hx hy he).refl I rfl;rw[this];exact .same _
    · exact .of_refs i6 rc
  | @lt n a b xs ys hx hy=>
    intro u v A ru rv hu;cases ru;cases rv;obtain⟨its,r1,p1,_⟩:=I.list hx;obtain⟨dU,r2,p2,_⟩:=I.tuple hy;exact⟨SeqAt.EqAt.list_tuple p1.isList (show s.heap.IsTuple b dU.toArray from p2) (by lia),fun _=>SeqAt.RcAt.list_tuple p1.isList (show s.heap.IsTuple b dU.toArray from p2) (by lia)⟩
  | @tl n a b xs ys hx hy=>
    intro u v A ru rv hu;cases ru;cases rv;obtain⟨its,r1,p1,_⟩:=I.tuple hx;obtain⟨dU,r2,p2,_⟩:=I.list hy;exact⟨SeqAt.EqAt.tuple_list (show s.heap.IsTuple a its.toArray from p1) p2.isList (by lia),fun _=>SeqAt.RcAt.tuple_list (show s.heap.IsTuple a its.toArray from p1) p2.isList (by lia)⟩
end
section
variable {X:Cx}{pins:aG}{σ:St}{H:Hp}{s:au}
theorem Ma (I:Inv X pins σ H s) {n:Nat}{xs ys:List V}{its dU:List ai}{e:Nat->Bool}(r1:Vals xs its) (r2:Vals ys dU) (he:∀(i:Nat) x y,xs[i]? = some x->ys[i]? = some y->dH X.K H n x y (e i)) {A:Around}(hu:A.units+n<cLine) :
    ∀(j:Nat) (h1:j<its.toArray.size) (h2:j<dU.toArray.size),SeqAt.EqAt A s its.toArray[j] dU.toArray[j] (e j):=fun j j1 j2=>by
  have l1:=r1.length;have l2:=r2.length;have g1:xs[j]? = some (xs[j]'(by simp at j1;lia)):=bz _;have g2:ys[j]? = some (ys[j]'(by simp at j2;lia)):=bz _;obtain⟨w1,q1,t1⟩:=r1.get g1;obtain⟨w2,q2,t2⟩:=r2.get g2;have:=((he j _ _ g1 g2).at I t1 t2 (A:=A) hu).1;have z1:its.toArray[j]=w1:=by
    obtain⟨_,z⟩:=bV.mp q1;simpa using z
  have z2:dU.toArray[j]=w2:=by
    obtain⟨_,z⟩:=bV.mp q2;simpa using z
  rw[z1,z2];exact this
theorem dH.ne (I:Inv X pins σ H s) {n:Nat}{p q:ah}{b:Bool}(h:dH X.K H n (.ref p) (.ref q) b) {A:Around}(hu:A.units+n<cLine):SeqAt.RcNeAt A s (.ref p) (.ref q) (!b):=by
  have h1:=FP A;cases h with
  | flat fx fy=>cases fx
  | lst e hx hy hl he=>
    obtain⟨its,r1,p1,_⟩:=I.list hx;obtain⟨dU,r2,p2,_⟩:=I.list hy;have l1:=r1.length;have l2:=r2.length;have:=SeqAt.RcNeAt.lists (A:=A) (e:=e) p1.isList p2.isList (by simp;lia) (by lia) (Ma I r1 r2 he (A:=A.in1) (by lia));rw[bS,←l1] at this;exact this
  | xx hx hy hl=>
    obtain⟨its,r1,p1,_⟩:=I.list hx;obtain⟨dU,r2,p2,_⟩:=I.list hy;have l1:=r1.length;have l2:=r2.length;exact SeqAt.RcNeAt.lists_lengths p1.isList p2.isList (by simp;lia) (by lia)
  | tup e hx hy he=>
    obtain⟨its,r1,p1,_⟩:=I.tuple hx;obtain⟨dU,r2,p2,_⟩:=I.tuple hy;have l1:=r1.length;have l2:=r2.length;have:=SeqAt.RcNeAt.tuples (A:=A) (e:=e) (show s.heap.IsTuple p its.toArray from p1) (show s.heap.IsTuple q dU.toArray from p2) (by lia) (Ma I r1 r2 he (A:=A.in1) (by lia));rw[bS,bS,←l1,←l2] at this;exact this
  | lt hx hy=>
    obtain⟨its,r1,p1,_⟩:=I.list hx;obtain⟨dU,r2,p2,_⟩:=I.tuple hy;exact SeqAt.RcNeAt.list_tuple p1.isList (show s.heap.IsTuple q dU.toArray from p2) (by lia)
  | tl hx hy=>
    obtain⟨its,r1,p1,_⟩:=I.tuple hx;obtain⟨dU,r2,p2,_⟩:=I.list hy;exact SeqAt.RcNeAt.tuple_list (show s.heap.IsTuple p its.toArray from p1) p2.isList (by lia)
end
section
variable {X:Cx}
def C9 (K:aF):R2:=fun x y H Q=>∃p q b,x = .ref p/\y = .ref q/\dH K H 8 x y b/\Q (.bl b) H
theorem S5 (hu:X.A.units+9<cLine):iZ X (compareOp .Eq) (C9 X.K):=by
  intro pins s σ H x y v u Q I rx ry h;obtain⟨p,q,b,rfl,rfl,d,hq⟩:=h;exact (d.at I rx ry (A:=X.A) (by lia)).2 ⟨p,q,rfl,rfl⟩ X.prog X.w _ _ ⟨.bl b,H,I,rfl,hq⟩
def Dd (K:aF):R2:=fun x y H Q=>∃p q b,x = .ref p/\y = .ref q/\dH K H 8 x y b/\Q (.bl (!b)) H
theorem S6 (hu:X.A.units+9<cLine):iZ X (compareOp .NotEq) (Dd X.K):=by
  intro pins s σ H x y v u Q I rx ry h;obtain⟨p,q,b,rfl,rfl,d,hq⟩:=h;cases rx;cases ry;exact d.ne I (A:=X.A) (by lia) X.prog X.w _ _ ⟨.bl (!b),H,I,rfl,hq⟩
def De (K:aF) (neg:Bool):R2:=fun x y H Q=>∃(p:ah) (xs:List V) (e:V->Bool),y = .ref p/\(aJ K H p xs\/bu K H p xs)/\(∀z∈xs,dH K H 8 z x (e z))/\Q (.bl (if neg then !xs.any e else xs.any e)) H
theorem Mb:∀{xs:List V}{us:List ai}{u:ai},Vals xs us->u∈us->∃x∈xs,RelV x u
  | _,_,_,.cons r t,h=>by
    rcases aN.mp h with h | h
    · subst h;exact⟨_,iE ..,r⟩
    · obtain⟨x,hx,q⟩:=Mb t h;exact⟨x,bD _ hx,q⟩
def nM (e:V->Bool) (u:ai):Bool:=match Cb u with
  | some x=>e x
  | none=>false
theorem Mc {e:V->Bool}{x:V}{u:ai}(r:RelV x u):nM e u=e x:=by unfold nM;rw[r.abs]
theorem Ip {e:V->Bool}:∀{xs:List V}{us:List ai},Vals xs us->us.any (nM e)=xs.any e
  | _,_,.nil=>rfl
  | _,_,.cons r t=>by rw[gT,gT,Mc r,Ip t]
theorem S7 (hu:X.A.units+10<cLine):iZ X (compareOp .NotIn) (De X.K true):=by
  intro pins s σ H x y v u Q I rx ry h;obtain⟨p,xs,e,rfl,hq,hd,q⟩:=h;cases ry;have h1:=FP X.A;have items:∀{its:List ai},Vals xs its->∀z,z∈its.toArray->SeqAt.EqAt X.A.in1 s z v (nM e z):=fun {its} r z hz=>by
    obtain⟨x',Hr,rz⟩:=Mb r (by simpa using hz);rw[Mc rz];exact ((hd x' Hr).at I rz rx (A:=X.A.in1) (by lia)).1
  rcases hq with hq | hq
  · obtain⟨its,r,pl,hz⟩:=I.list hq;refine SeqAt.notIn_listAt (nM e) pl.isList (items r) ⟨.bl _,H,I,rfl,?_⟩;rw[show its.toArray.any (nM e)=its.any (nM e) by simp,Ip r];exact q
  · obtain⟨its,r,pl,hz⟩:=I.tuple hq;refine SeqAt.notIn_tupleAt (nM e) pl (items r) ⟨.bl _,H,I,rfl,?_⟩;rw[show its.toArray.any (nM e)=its.any (nM e) by simp,Ip r];exact q
end
def Wd (v:V):Prop:=(∃x,v = .str x/\x.length<=100)\/∃i:Int,v = .int i/\i.natAbs<10 ^ 60
theorem Wd.flat {v:V}(h:Wd v):oX v=true:=by
  rcases h with ⟨x,rfl,_⟩ | ⟨i,rfl,_⟩<;>rfl
def Dg (xs ys:List V):Bool:=(List.range (min xs.length ys.length)).all (fun i=>match xs[i]?,ys[i]? with | some x,some y=>rY x y | _,_=>true)&&xs.length == ys.length
theorem dH.uT {K:aF}{H:Hp}{n:Nat}{a b:ah}{xs ys:List V}(hx:bu K H a xs) (hy:bu K H b ys) (fx:∀x∈xs,oX x=true) (fy:∀x∈ys,oX x=true):dH K H (n+1) (.ref a) (.ref b) (Dg xs ys):=by
  refine dH.tup _ hx hy fun i x y e1 e2=>?_
  rw[e1,e2];exact dH.flat (fx x (bN e1)) (fy y (bN e2))
theorem Iq {xs:List V}(h:∀x∈xs,oX x=true):Dg xs xs=true:=by
  unfold Dg;rw[oO,Bool.and_true,gF];intro i hi;rw[Nat.min_self] at hi;have hi:=eV.mp hi;rw[bz hi];exact C8 (h _ (jW hi))
theorem dH.uU {K:aF}{H:Hp}{n:Nat}{a b:ah}{xs:List V}(hx:aJ K H a xs) (hy:aJ K H b xs) (h:∀x∈xs,dH K H n x x true):dH K H (n+1) (.ref a) (.ref b) true:=by
  have:=dH.lst (n:=n) (fun _=>true) hx hy rfl fun i x y e1 e2=>by
    rw[e1] at e2;cases e2;exact h x (bN e1)
  rw[show (List.range xs.length).all (fun _=>true)=true from gF.mpr fun _ _=>rfl] at this;exact this
theorem dH.Dh {K:aF}{H:Hp}{n:Nat}{a b:ah}{xs ys:List V}(hx:bu K H a xs) (hy:bu K H b ys) (hl:xs.length=ys.length) (h:∀(i:Nat) x y,xs[i]? = some x->ys[i]? = some y->dH K H n x y true):dH K H (n+1) (.ref a) (.ref b) true:=by
  have:=dH.tup (n:=n) (fun _=>true) hx hy h;rw[show (List.range (min xs.length ys.length)).all (fun _=>true)=true from gF.mpr fun _ _=>rfl,hl,oO] at this;exact this
theorem ak.tup {K:aF}{H H':Hp}{a:ah}{xs:List V}(e:ak H H') (h:bu K H a xs):bu K H' a xs:=by
  rcases h with (h | ⟨o,h⟩) | h
  · exact .inl (.inl (e _ _ h))
  · exact .inl (.inr ⟨o,e _ _ h⟩)
  · exact .inr h
theorem ak.new {H:Hp}{D:ah}{o:HO}(h:H D=none):ak H (upd H D o):=fun b u e=>by rw[zr (zv e h)];exact e
theorem ak.upd {H H':Hp}{D:ah}{o:HO}(e:ak H H') (h:H D=none):ak H (upd H' D o):=fun b u q=>by
  rw[zr (zv q h)];exact e b u q
theorem Ir {J:It}{xs:List V}{P:Hp->Prop}{own:List Str}{ix:List Nat}{te:TE}{σ:St}{H1:Hp}{D:ah}{Q:VK}(F:Fix J xs P) (f:V->V) (hD:H1 D=none)
    (hP:∀H',ak H1 H'->P H') (hz:xs.length<=sizeLine)
    (he:∀x∈xs,∀H' (Q':VK),ak H1 H'->(∀FQ,ak H' FQ->Q' (f x) FQ)->te ((sN own ix σ).set 0 (some x)) H' Q')
    (hQ:∀H',ak H1 H'->H' D=some (.lst (xs.map f))->Q (.ref D) H'):CW own ix J (zx 0) lH te σ H1 D Q:=by
  refine⟨fun i m aK ys H'=>m=xs.length-i/\i<=xs.length/\(∀z,aK.set 0 z=(sN own ix σ).set 0 z)/\ys=(xs.take i).map f/\ak H1 H'/\H' D=some (.lst ys),
    ⟨xs.length,by simp,dj _,fun _=>rfl,by simp,ak.new hD,zb⟩,?_⟩
  rintro i m aK ys H' ⟨rfl,hi,Ik,rfl,hs,FT⟩;refine⟨FT,?_⟩
  by_cases cQ:i<xs.length
  · refine .inr ⟨F.go i _ (hP _ hs) cQ,?_,fun x H2 y=>?_⟩
    · rw[ay,bF];lia
    · obtain⟨e,y'⟩:=F.ue i _ x H2 (hP _ hs) y;subst e;have hx:=y' cQ;have hm:x∈xs:=bN hx;unfold zx lH;dsimp only;rw[aq rfl,Ik];refine he x hm _ _ hs fun FQ yr=>⟨yr D _ FT,xs.length-(i+1),by lia,rfl,cQ,fun z=>List.set_set ..,?_,(hs.trans yr).upd hD,zb⟩
      rw[aS,hx,aT];rfl
  · have e:i=xs.length:=by lia
    subst e;refine .inl ⟨F.stop _ _ (hP _ hs) (aH _),hQ _ hs ?_⟩;rw[bG] at FT;exact FT
section
variable {X:Cx}(K:aF) (h:X.K=K)
include h
theorem gJ:zP X (CA K):=h▸RP
theorem zo:zP X (CC K):=h▸RQ
theorem Aa:A8 X (CD K):=h▸RV
theorem FU:A8 X (Cw K):=h▸RL
theorem S8:iZ X (binaryOp .Add) (Lu K):=h▸RM
theorem Me:iZ X (compareOp .In) (FD K false):=h▸RW
theorem S9:iZ X (compareOp .NotIn) (FD K true):=h▸RX
theorem Ab (hu:X.A.units+9<cLine):iZ X (compareOp .Eq) (C9 K):=h▸S5 hu
theorem zev (hu:X.A.units+9<cLine):iZ X (compareOp .NotEq) (Dd K):=h▸S6 hu
theorem Mf (hu:X.A.units+10<cLine):iZ X (compareOp .NotIn) (De K true):=h▸S7 hu
theorem r9:oW X (.builtin "len") (fun xs H Q=>∃p ys,xs = [.ref p]/\(aJ K H p ys\/bu K H p ys)/\Q (.int ys.length) H):=h▸RY
theorem Di:oW X (.type "list") (fun xs H Q=>∃p ys,xs = [.ref p]/\(aJ K H p ys\/bu K H p ys)/\∀l,H l=none->Q (.ref l) (upd H l (.lst ys))):=h▸RZ
theorem Tc (hc:X.calm=true):oW X (.builtin "all") (fun xs H Q=>∃(a:ah) (bs:List Bool),xs = [V.ref a]/\aJ K H a (bs.map V.bl)/\Q (.bl (bs.all id)) H):=h▸SY hc
variable {o e:Expr}{es:List Expr}{to:TE}{t:TA}{name:Str}{apos bY:Pos}{T id:String}{r:V->List V->Hp->VK->Prop}
theorem Td (pa:PlainAttrs T) (slot:Slot T name id) (zQ:typeOf (.builtin id)=pure (.type "method_descriptor")) (hm:Cy X id r) (ho:PE X o to)
    (mV:attributeBase o name X.env (eval o X.env)=eval o X.env:=by rfl) (mW:(apos.endLine == bY.line)=true:=by rfl):PE X (.Call (.Attribute o name apos) [] [] bY) (CH K T r to):=h▸R1 pa slot zQ hm ho mV mW
theorem pS (pa:PlainAttrs T) (slot:Slot T name id) (zQ:typeOf (.builtin id)=pure (.type "method_descriptor")) (hm:Cy X id r) (ho:PE X o to) (ha:PA X (e::es) t)
    (mV:attributeBase o name X.env (eval o X.env)=eval o X.env:=by rfl)
    (zR:((backTo bY (starEach (e::es) X.env)).all (fun x=>!x.1)&&(backToKw bY (keywordEach [] X.env)).all (fun x=>x.1.isSome)
      && decide ((e::es).length+([]:List Keyword).length+(if ([]:List Keyword).isEmpty then 0 else 1)<30))=true:=by rfl)
    (mW:(apos.endLine == bY.line)=true:=by rfl) (hs:starEach (e::es) X.env=(false,eval e X.env)::starEach es X.env:=by rfl) (qT:(backTo bY (starEach es X.env)).any (·.1)=false:=by rfl) :
    PE X (.Call (.Attribute o name apos) (e::es) [] bY) (LA K T r to t):=h▸R3 pa slot zQ hm ho ha mV zR mW hs qT
end
section
variable {X:Cx}{tg:Expr}(K:aF) (h:X.K=K)
include h
theorem ir {l:Expr}{tl:TE}(hl:PE X l tl):PI X tg l (K3 K tl):=h▸Q8 hl
theorem ug {es:List Expr}{k:Nat}{t:yo}{n:Nat}{pos:Pos}(hc:X.calm=true) (h':Cc X es t)
    (hn:(assignEach es X.env).length=n:=by rfl) (sJ:(assignEach es X.env).findIdx? (·.1)=none:=by rfl):PG X (.Tuple es k pos) (Cd K n t):=h▸Q2 hc h' hn sJ
end
theorem j5 {A:Around}{k:Nat}(hr:cV k A):A.units+9<cLine:=oH (Nat.add_le_add_left (by decide:9<=64) _) hr.units
theorem Dj {A:Around}{k:Nat}(hr:cV k A):A.units+10<cLine:=oH (Nat.add_le_add_left (by decide:10<=64) _) hr.units
theorem yu {c:TT}{t u:TS}{D:Ends}{σ:St}{H:Hp}(b:Bool) (ht:∀Q':Bool->Hp->Prop,(∀H',ak H H'->Q' b H')->c σ H Q') (hs:∀H',ak H H'->if b=true then t D σ H' else u D σ H'):uI c t u D σ H:=ht _ hs
theorem mX {c:TT}{t u:TS}{D:Ends}{σ:St}{H:Hp}(b:Bool) (ht:∀Q':Bool->Hp->Prop,Q' b H->c σ H Q') (hs:if b=true then t D σ H else u D σ H):uI c t u D σ H:=ht _ hs
theorem dH.sO {K:aF}{H:Hp}{n:Nat}{a b:ah}{xs:List V}(hx:aJ K H a xs) (hy:aJ K H b []):dH K H (n+1) (.ref a) (.ref b) (decide (xs = [])):=by
  by_cases h:xs = []
  · subst h;exact dH.lst (fun _=>true) hx hy rfl fun i x y e _=>by simp at e
  · rw[aV h];exact dH.xx hx hy fun z=>h (mq.mp z)
theorem sd {α:Type}{x:α}{xs:List α}:kr (x::xs) 0=some x:=by
  have:=nJ (xs:=x::xs) (j:=0) (v:=x) rfl;exact this
theorem pH {n:Nat}(h:n<=1000):n<=sizeLine:=kK (jx h)
open Builtin Builtin.Str
section
variable {X:Cx}{pins:aG}{σ:St}{H:Hp}{s:au}{h':Heap}
theorem Inv.se {t':Nat}{ch:List ah}(I:Inv X pins σ H s) (k:∀b o,b ∉ ch->s.heap.get? b=some o->h'.get? b=some o) (hf:∀b∈ch,gW X pins H b):Inv X pins σ H { s with heap:=h',toks:=t' }:=by
  have BX:∀b u,H b=some u->b ∉ ch:=fun b u e z=>by rw[(hf b z).1] at e;cases e
  refine I.step (g':=s.gens) (d':=s.drawn) (ch:=ch) (fun b hb=>⟨(hf b hb).2.2.2.1,(hf b hb).2.1,(hf b hb).2.2.2.2.1,(hf b hb).2.2.2.2.2⟩) (fun b o _ _ hc e _=>k b o hc e) (fun b o _ _ hc e _=>⟨o.slots,k b o hc e⟩) (fun _ _ _ _ n=>n)
    (fun b o hc e=>⟨o,k b o hc e⟩) (fun _ _ e=>e) (fun _ _ _ e=>e) (fun b ps e=>⟨#[],by rw[e];simp⟩) (fun m hm=>?_) (fun b u e=>?_) I.bare
  · obtain⟨o,es,ep,ho,r⟩:=hm;exact⟨o,es,ep,k _ o (fun z=>(hf _ z).2.1 rfl) ho,r⟩
  · refine (I.bA b u e).iy (fun c v hc q=>k c v ?_ q) (fun _ q=>q) fun _ _ q=>q
    rcases hc with z | z
    · rw[z];exact BX b u e
    · exact BX c _ z
end
open Sem (wp)
open Sem (wp)
def j6 (h:Heap) (d:ah) (es:Array DictEntry) (ep:Nat):Prop:=∃o,h.get? d=some o/\o.ExactDict/\o.data = .dict es ep
theorem j6.at {h h':Heap}{d:ah}{es:Array DictEntry}{ep:Nat}(q:j6 h d es ep) (k:∀o,h.get? d=some o->h'.get? d=some o):j6 h' d es ep:=let ⟨o,ho,r⟩:=q;⟨o,k o ho,r⟩
theorem j6.typeIs {s:au}{d:ah}{es:Array DictEntry}{ep:Nat}(q:j6 s.heap d es ep):s.TypeIs (.ref d) "dict":=let ⟨o,ho,c,_⟩:=q;⟨o,ho,c.1⟩
section
variable {prog:aU}{w:World}{A:Around}{E:aA}{s:au}
theorem Iu {d:ah}{es:Array DictEntry}{ep:Nat}{Q:aA}(hd:(d == sysModules)=false) (hm:j6 s.heap d es ep)
    (hQ:Q (.ref s.heap.objs.size) { s with heap:=s.heap.push { cls:=.type "dict_keyiterator",data:=.fields #[.ref d,.int 0 0,.int es.size 0,.int ep 0] } }):wpAny (model prog w) A (pyIter (.ref d)) Q E s:=by
  obtain⟨o,ho,hc,Dk⟩:=id hm;have T:s.TypeIs (.ref d) "dict":=hm.typeIs;refine wpAny_pyIter_slot T F.slot_dict_iter (jv F.slot_dict_iter T F.entry_dict_iter ?_ (F.args_dict_iter_1 _));unfold Builtin.«dict.__iter__»;refine aj ?_;unfold Builtin.Dict.dictSlotNone;refine aj (wpAny_notOrdered_dict T ?_);show wpAny (model prog w) _ (pure (Value.ref d)) _ _ s;refine az ?_;show wpAny (model prog w) _ (Builtin.Dict.showsAll d >>= _) _ _ s;unfold Builtin.Dict.showsAll;rw[ao (by rw[hd];exact bJ)];refine aj (az (aj (oK ho Dk (aj (oR ho Dk ?_)))));exact aj (fh (az ⟨_,rfl,"dict_keyiterator",_,⟨_,bO _ rfl,rfl⟩,pL.lookup,hQ⟩))
theorem Mg {it d:ah}{i ep:Nat}{es:Array DictEntry}{e:DictEntry}{Q:Option ai->au->Prop}(hit:s.heap.IsKeyIter it d i es.size ep) (hm:j6 s.heap d es ep) (hx:es[i]? = some e)
    (hQ:∀h1,h1.IsKeyIter it d (i+1) es.size ep->Heap.SameBut it s.heap h1->Q (some e.key) { s with heap:=h1 }):wpAny (model prog w) A (pyNext (.ref it)) Q E s:=by
  obtain⟨o,ho,hc,hd⟩:=id hit;obtain⟨od,Dl,qg,Dq⟩:=id hm;obtain⟨cQ,he⟩:=gD.mp hx;subst he;unfold pyNext;refine aj (iO (mj (name:=Str.ofString "__next__") hit.typeIs pL (jv pL hit.typeIs F.entry_dict_keyiterator_next ?_ (F.args_dict_keyiterator_next_1 _))));refine aj (az (aj (aj ?_)));refine aj (nZ hit.typeIs (az (aj (wpAny_fieldsOf ho hd ?_))));have own:Builtin.Dict_items.ownsTuple "dict_keyiterator" = false:=by decide
  simp only [own,jU,dZ];show wpAny (model prog w) _ (if (Value.ref d == Value.none)=true then _ else _) _ _ s;rw[ao (show ¬((Value.ref d == Value.none)=true) from bJ)];refine aj (az (aj (oK Dl Dq ?_)));rw[ao (by simp)];refine aj (az (aj (oR Dl Dq ?_)));rw[ao (by simp)];refine az ?_;simp only [show ¬((i:Int)<0) from by lia,dZ,mF,gZ cQ];refine aj (aj (nZ hit.typeIs (az (aj (wpAny_isOneOf_keyiter hit.typeIs ?_)))));show wpAny (model prog w) _ (setField (.ref it) 1 (rawInt ((i:Int)+1)) >>= _) _ _ s;refine aj (iN ho hd (by simp) ?_);have nx:(s.heap.update it (Obj.mapFields (·.setIfInBounds 1 (rawInt ((i:Int)+1))))).IsKeyIter it d (i+1) es.size ep:=
    ⟨_,dB _ ho (jS (jt hd _)),(Obj.cls_mapFields ..).trans hc,by rw[jt hd];simp[rawInt]⟩
  refine aj (cT (aj (wpAny_isOneOf_keyiter (s:={ s with heap:=s.heap.update it (Obj.mapFields (·.setIfInBounds 1 (rawInt ((i:Int)+1)))) }) nx.typeIs ?_)));show wpAny (model prog w) _ (pure es[i].key) _ _ _;exact az (az ⟨_,rfl,az (hQ _ nx (Heap.SameBut.update ..))⟩)
theorem Mh {it d:ah}{i ep:Nat}{es:Array DictEntry}{Q:Option ai->au->Prop}(hh:A.handled=none) (hit:s.heap.IsKeyIter it d i es.size ep) (hm:j6 s.heap d es ep) (hx:es.size<=i)
    (hQ:∀h1,Heap.ExtBut it s.heap h1->Q none { s with heap:=h1 }):wpAny (model prog w) A (pyNext (.ref it)) Q E s:=by
  obtain⟨o,ho,hc,hd⟩:=id hit;obtain⟨od,Dl,qg,Dq⟩:=id hm;unfold pyNext;refine aj (iO (mj (name:=Str.ofString "__next__") hit.typeIs pL (jv pL hit.typeIs F.entry_dict_keyiterator_next ?_ (F.args_dict_keyiterator_next_1 _))));refine aj (az (aj (aj ?_)));refine aj (nZ hit.typeIs (az (aj (wpAny_fieldsOf ho hd ?_))));have own:Builtin.Dict_items.ownsTuple "dict_keyiterator" = false:=by decide
  simp only [own,jU,dZ];show wpAny (model prog w) _ (if (Value.ref d == Value.none)=true then _ else _) _ _ s;rw[ao (show ¬((Value.ref d == Value.none)=true) from bJ)];refine aj (az (aj (oK Dl Dq ?_)));rw[ao (by simp)];refine aj (az (aj (oR Dl Dq ?_)));rw[ao (by simp)];refine az ?_;simp only [show ¬((i:Int)<0) from by lia,dZ,mF,mw hx];refine aj (aj (nZ hit.typeIs (az ?_)));show wpAny (model prog w) _ (setField (.ref it) 0 .none >>= _) _ _ s;refine aj (iN ho hd (by simp) ?_);show wpAny (model prog w) _ (newExc (.type "StopIteration") [] >>= _) _ _ _;refine aj ?_;simp only [newExc,newTuple];refine aj (fh (aj (m:=firstArgMember _ _) (kP (a:=Value.none) (by first | rfl | (simp only [firstArgMember];rfl)) (fh ?_ (by size_fits)))) (by size_fits));simp only [raiseNew];refine aj (wpAny_handled ?_);rw[show A.in1.handled=none from hh];refine aj (az (wpAny_throw ?_));exact aj (kF (T:="StopIteration") (b:=true) ⟨_,bO _ rfl,rfl⟩ isSubtype_stop (az (hQ _ (((Heap.SameBut.update ..).extBut.push _).push _))))
theorem Mi (hh:A.handled=none) (I d:ah) (mY:d≠I) (es:Array DictEntry) (ep:Nat) :
    Walks prog w A I [I,d] [I] es.size (fun i v=>∃e,es[i]? = some e/\v=e.key) (fun i h=>h.IsKeyIter I d i es.size ep/\j6 h d es ep) where
  sub:=fun b hb=>by simp at hb;simp[hb]
  frame:=fun _ _ _ st hk=>⟨st.1.at fun o e=>hk I (by simp) o e,st.2.at fun o e=>hk d (by simp) o e⟩
  item:=fun i s Q E hi st hQ=>by
    have hx:es[i]? = some es[i]:=gZ hi;exact Mg st.1 st.2 hx fun h1 qq hs=>hQ _ h1 s.toks ⟨_,hx,rfl⟩ ⟨qq,st.2.at fun o e=>(hs.2 d mY).trans e⟩ fun b o hb e=>(hs.2 b (fun h=>hb (by simp[h]))).trans e
  done:=fun s Q E st hQ=>Mh hh st.1 st.2 (aH _) fun h1 he=>hQ h1 s.toks fun b o hb e=>he b o (fun h=>hb (by simp[h])) e
  self:=fun _ _ _ _ st hQ=>wpAny_pyIter_keyiter st.1 hQ
theorem Mj {d:ah}{Q:Bool->au->Prop}(T:s.TypeIs (.ref d) "dict") (hq:Q false s):wpAny (model prog w) A (Builtin.List.listLengthHint (.ref d)) Q E s:=by
  unfold Builtin.List.listLengthHint;refine aj (wpAny_specialOf T F.slot_dict_len.lookup ?_);have e:splitId "dict.__len__" = some ("dict","__len__"):=by kernel_rfl
  simp only [e];have sub:isSubtype (.type "dict") (.type "dict")=pure true:=by rw[jI];kernel_rfl
  exact aj (kF (T:="dict") (b:=true) T sub (aj (kL T (az hq))))
theorem Tf {d:ah}{Q:Bool->au->Prop}(T:s.TypeIs (.ref d) "dict_values") (hq:Q false s):wpAny (model prog w) A (Builtin.List.listLengthHint (.ref d)) Q E s:=by
  unfold Builtin.List.listLengthHint;refine aj (wpAny_specialOf T F.slot_dict_values_len.lookup ?_);have e:splitId "dict_values.__len__" = some ("dict_values","__len__"):=by kernel_rfl
  simp only [e];have sub:isSubtype (.type "dict_values") (.type "dict_values")=pure true:=by rw[jI];kernel_rfl
  exact aj (kF (T:="dict_values") (b:=true) T sub (aj (kL T (az hq))))
end
section
variable {prog:aU}{w:World}{A:Around}{s:au}{R:Result->au->Prop}{I:ah}{fp wr:List ah}{n:Nat}{P:Nat->ai->Prop}{St:Nat->Heap->Prop}
theorem Mk (W:Walks prog w A.in1 I fp wr n P St) (hn:n<=sizeLine) (S:ah) (c:Nat) (sJ:St 0 s.heap) (hS:S ∉ fp) (hl:s.heap.get? S=some { cls:=.type "list",data:=.seq #[] c })
    (hR:∀s1 acc c1,Moved (S::wr) (fun a b=>b=a) s s1->s1.heap.get? S=some { cls:=.type "list",dict:=none,data:=.seq acc c1,slots:=#[] }->ItemsOf P acc n->R (.ok (.ret .none)) s1) :
    wpAny (model prog w) A.in1 (rule "list.extend.makes-room" >>= fun _=>Builtin.List.listTouch (.ref S) >>= fun _=>again (.builtin "list.extend.loop" ⟨[.ref S,.ref I,.none],[]⟩))
      (fun fin s1=>match fin with | .done f=>R (.ok f) s1 | .again c1=>c1.quiet=true/\codeAny (model prog w) A c1 R s1) (fun e s1=>R (.error e) s1) s:=by
  refine aj (gv (aj ?_));show wpAny (model prog w) A.in1 (updateSeq S (·.push .none) >>= fun _=>updateSeq S (·.pop)) _ _ _;refine aj (gc hl rfl ?_);have l2:=dB (Obj.mapSeq (·.push Value.none)) hl rfl;refine gc (hz:=by seq_fits) l2 rfl ?_;have l3:=dB (Obj.mapSeq (·.pop)) l2 rfl;have nN:∀b o,b≠S->s.heap.get? b=some o->((s.heap.update S (Obj.mapSeq (·.push Value.none))).update S (Obj.mapSeq (·.pop))).get? b=some o:=fun b o hb e=>(cE _ _ (aD hb)).trans ((cE _ _ (aD hb)).trans e)
  refine az ⟨fM F.plain_extend_loop _,codeAny_extend_loopS W.toS hn _ hS _ n 0 _ _ _ rfl (dj _) (W.toS.frame 0 s _ s.toks sJ (aH _) fun b hb o e=>nN b o (fun h=>hS (h▸hb)) e) l3 (ItemsOf.nil P) fun s1 acc c1 hm h1 h2=>?_⟩;have m0:Moved (S::wr) (fun (a b:Array GenState)=>b=a) s { s with heap:=(s.heap.update S (Obj.mapSeq (·.push Value.none))).update S (Obj.mapSeq (·.pop)) }:=⟨fun b o hb e=>nN b o (fun h=>hb (by simp[h])) e,rfl,rfl,rfl,aH _⟩;exact hR s1 acc c1 (Moved.trans (fun _ _ _ h1 h2=>h2.trans h1) m0 hm) h1 h2
end
section
variable {prog:aU}{w:World}{A:Around}{s:au}{R:Result->au->Prop}
theorem Ml {S:ah}{x:ai}(hl:s.heap.get? S=some { cls:=.type "list",data:=.seq #[] })
    (h:wpAny (model prog w) A.in1 (Builtin.List.listExtendWith (.ref S) x .none) (fun fin s1=>match fin with | .done f=>R (.ok f) s1 | .again c1=>c1.quiet=true/\codeAny (model prog w) A c1 R s1) (fun e s1=>R (.error e) s1)
      { s with heap:=s.heap.update S (Obj.mapSeq (fun _=>(#[]:Array ai))) }) :
    wpAny (model prog w) A.in1 (Builtin.«list.__init__» ⟨[.ref S,x],[]⟩) (fun fin s1=>match fin with | .done f=>R (.ok f) s1 | .again c1=>c1.quiet=true/\codeAny (model prog w) A c1 R s1) (fun e s1=>R (.error e) s1) s:=by
  show wpAny (model prog w) A.in1 (do let Tg ←Builtin.List.listItems (.ref S);Builtin.List.listUpdate (.ref S) (fun _=>#[]);letGo Tg.toList.reverse;Builtin.List.listExtendWith (.ref S) x .none) _ _ s;refine aj ?_;unfold Builtin.List.listItems;refine aj (ic hl rfl (az ?_));show wpAny (model prog w) A.in1 (updateSeq S (fun _=>#[]) >>= fun _=>letGo (#[]:Array ai).toList.reverse >>= fun _=>Builtin.List.listExtendWith (.ref S) x .none) _ _ s;exact aj (gc hl rfl (aj (eF h)))
end
section
variable {prog:aU}{w:World}{A:Around}{E:aA}{s:au}
theorem Th {d:ah}{es:Array DictEntry}{ep:Nat}{Q:aA}(hh:A.handled=none) (hd:(d == sysModules)=false) (hm:j6 s.heap d es ep) (hn:es.size<=sizeLine)
    (hQ:∀h1 acc c tk,(∀b o,s.heap.get? b=some o->h1.get? b=some o)->h1.get? s.heap.objs.size=some { cls:=.type "list",dict:=none,data:=.seq acc c,slots:=#[] }->ItemsOf (fun i v=>∃e,es[i]? = some e/\v=e.key) acc es.size->
      Q (.ref s.heap.objs.size) { s with heap:=h1,toks:=tk }):wpAny (model prog w) A (call (.type "list") [.ref d]) Q E s:=by
  have dl:d<s.heap.objs.size:=by obtain⟨o,ho,_⟩:=hm;exact aI ho
  refine callType_codes (Q₁:=fun obj s1=>obj = .ref s.heap.objs.size/\s1 = { s with heap:=s.heap.push { cls:=.type "list",data:=.seq #[] } }) F.called_list (F.typeCall_list_1 _) F.entry_list_init (code_list_new _ ⟨rfl,rfl⟩) fun obj s1 h1=>?_
  obtain⟨rfl,rfl⟩:=h1;have hS:(s.heap.push { cls:=.type "list",data:=.seq #[] }).get? s.heap.objs.size=some { cls:=.type "list",data:=.seq #[] }:=bO _ rfl;refine⟨⟨_,hS,rfl⟩,F.args_list_init_2 _ _,Ml hS ?_⟩;have l2:=dB (Obj.mapSeq (fun _=>(#[]:Array ai))) hS rfl;have old:∀b o,s.heap.get? b=some o->((s.heap.push { cls:=.type "list",data:=.seq #[] }).update s.heap.objs.size (Obj.mapSeq (fun _=>(#[]:Array ai)))).get? b=some o:=fun b o e=>
    (cE _ _ (fun z=>eB _ (z▸aI e))).trans (bC _ e)
  have wu:=hm.at (h':=(s.heap.push { cls:=.type "list",data:=.seq #[] }).update s.heap.objs.size (Obj.mapSeq (fun _=>(#[]:Array ai)))) fun o e=>old d o e
  have zu:((s.heap.push { cls:=.type "list",data:=.seq #[] }).update s.heap.objs.size (Obj.mapSeq (fun _=>(#[]:Array ai)))).objs.size=s.heap.objs.size+1:=by rw[Heap.size_update,gS]
  generalize (s.heap.push { cls:=.type "list",data:=.seq #[] }).update s.heap.objs.size (Obj.mapSeq (fun _=>(#[]:Array ai)))=g at l2 old wu zu;have T:({ s with heap:=g }:au).TypeIs (.ref d) "dict":=wu.typeIs;unfold Builtin.List.listExtendWith;refine aj (kL T ?_);have sr:Builtin.List.listSameRef (.ref s.heap.objs.size) (.ref d)=false:=by
    have:s.heap.objs.size≠d:=aD (bq dl);simp[Builtin.List.listSameRef,this]
  have t1:(Value.type "dict" == Value.type "list")=false:=by decide
  have t2:(Value.type "dict" == Value.type "tuple")=false:=by decide
  simp only [sr,t1,t2,Bool.or_false,jU,dZ];refine aj (Iu (s:={ s with heap:=g }) hd wu ?_);have wz:=wu.at (h':=g.push { cls:=.type "dict_keyiterator",data:=.fields #[.ref d,.int 0 0,.int es.size 0,.int ep 0] }) fun o e=>bC _ e
  refine aj (cT (Mj (s:={ s with heap:=g.push { cls:=.type "dict_keyiterator",data:=.fields #[.ref d,.int 0 0,.int es.size 0,.int ep 0] } }) wz.typeIs ?_));have dI:d≠g.objs.size:=by rw[zu];exact bq (jD dl)
  have SI:s.heap.objs.size ∉ [g.objs.size,d]:=by
    rw[zu];intro z;simp only [aN,cW,eZ] at z;rcases z with z | z
    · exact absurd z (bq (mK _))
    · exact absurd z (aD (bq dl))
  refine Mk (A:=A.in1) (s:={ s with heap:=g.push { cls:=.type "dict_keyiterator",data:=.fields #[.ref d,.int 0 0,.int es.size 0,.int ep 0] } }) (Mi (A:=A.in1.in1) hh g.objs.size d dI es ep) hn _ _ ⟨⟨_,bO _ rfl,rfl,rfl⟩,wz⟩ SI (bC _ l2) fun s2 acc c Dr h2 h3=>?_
  obtain⟨hp,ge,dr,tk,os⟩:=s2;obtain⟨m1,m2,m3,m4,m5⟩:=Dr;obtain rfl:ge=s.gens:=m2;obtain rfl:dr=s.drawn:=m3;obtain rfl:os=s.os:=m4;refine⟨rfl,hQ hp acc c tk (fun b o e=>m1 b o ?_ (bC _ (old b o e))) h2 h3⟩;intro z;have bl:=aI e;simp only [aN,cW,eZ] at z;rcases z with z | z
  · exact absurd bl (by rw[z];exact eB _)
  · have z:b=g.objs.size:=z;rw[z,zu] at bl;exact absurd bl (mL (gq _))
theorem Ti {κ:Type} [DecidableEq κ] {knd:KeyKind prog w κ}{d v:ah}{kvs:List (κ×ai)}{Q:aA}(hh:A.handled=none) (hv:s.heap.IsValuesView v d) (hm:s.heap.DictOf knd d kvs) (hn:kvs.length<=sizeLine)
    (hQ:∀h1 acc c tk,(∀b o,s.heap.get? b=some o->h1.get? b=some o)->h1.get? s.heap.objs.size=some { cls:=.type "list",dict:=none,data:=.seq acc c,slots:=#[] }->ItemsOf (fun i v=>∃k,kvs[i]? = some (k,v)) acc kvs.length->
      Q (.ref s.heap.objs.size) { s with heap:=h1,toks:=tk }):wpAny (model prog w) A (call (.type "list") [.ref v]) Q E s:=by
  obtain⟨ep,hm⟩:=hm.dictAt;have dl:d<s.heap.objs.size:=hm.lt_size;have vl:v<s.heap.objs.size:=by obtain⟨o,ho,_⟩:=hv;exact aI ho
  refine callType_codes (Q₁:=fun obj s1=>obj = .ref s.heap.objs.size/\s1 = { s with heap:=s.heap.push { cls:=.type "list",data:=.seq #[] } }) F.called_list (F.typeCall_list_1 _) F.entry_list_init (code_list_new _ ⟨rfl,rfl⟩) fun obj s1 h1=>?_
  obtain⟨rfl,rfl⟩:=h1;have hS:(s.heap.push { cls:=.type "list",data:=.seq #[] }).get? s.heap.objs.size=some { cls:=.type "list",data:=.seq #[] }:=bO _ rfl;refine⟨⟨_,hS,rfl⟩,F.args_list_init_2 _ _,Ml hS ?_⟩;have l2:=dB (Obj.mapSeq (fun _=>(#[]:Array ai))) hS rfl;have old:∀b o,s.heap.get? b=some o->((s.heap.push { cls:=.type "list",data:=.seq #[] }).update s.heap.objs.size (Obj.mapSeq (fun _=>(#[]:Array ai)))).get? b=some o:=fun b o e=>
    (cE _ _ (fun z=>eB _ (z▸aI e))).trans (bC _ e)
  have wu:=hm.keep old;have FW:((s.heap.push { cls:=.type "list",data:=.seq #[] }).update s.heap.objs.size (Obj.mapSeq (fun _=>(#[]:Array ai)))).IsValuesView v d:=let ⟨o,ho,r⟩:=hv;⟨o,old v o ho,r⟩
  have zu:((s.heap.push { cls:=.type "list",data:=.seq #[] }).update s.heap.objs.size (Obj.mapSeq (fun _=>(#[]:Array ai)))).objs.size=s.heap.objs.size+1:=by rw[Heap.size_update,gS]
  generalize (s.heap.push { cls:=.type "list",data:=.seq #[] }).update s.heap.objs.size (Obj.mapSeq (fun _=>(#[]:Array ai)))=g at l2 old wu FW zu;have T:({ s with heap:=g }:au).TypeIs (.ref v) "dict_values":=FW.typeIs;unfold Builtin.List.listExtendWith;refine aj (kL T ?_);have sr:Builtin.List.listSameRef (.ref s.heap.objs.size) (.ref v)=false:=by
    have:s.heap.objs.size≠v:=aD (bq vl);simp[Builtin.List.listSameRef,this]
  have t1:(Value.type "dict_values" == Value.type "list")=false:=by decide
  have t2:(Value.type "dict_values" == Value.type "tuple")=false:=by decide
  simp only [sr,t1,t2,Bool.or_false,jU,dZ];refine aj (wpAny_pyIter_values (s:={ s with heap:=g }) FW wu ?_);have wz:=wu.push { cls:=.type "dict_valueiterator",data:=.fields #[.ref d,.int 0 0,.int kvs.length 0,.int ep 0] };have Tj:(g.push { cls:=.type "dict_valueiterator",data:=.fields #[.ref d,.int 0 0,.int kvs.length 0,.int ep 0] }).IsValuesView v d:=let ⟨o,ho,r⟩:=FW;⟨o,bC _ ho,r⟩
  refine aj (cT (Tf (s:={ s with heap:=g.push { cls:=.type "dict_valueiterator",data:=.fields #[.ref d,.int 0 0,.int kvs.length 0,.int ep 0] } }) Tj.typeIs ?_));have dI:d≠g.objs.size:=by rw[zu];exact bq (jD dl)
  have SI:s.heap.objs.size ∉ [g.objs.size,d]:=by
    rw[zu];intro z;simp only [aN,cW,eZ] at z;rcases z with z | z
    · exact absurd z (bq (mK _))
    · exact absurd z (aD (bq dl))
  refine Mk (A:=A.in1) (s:={ s with heap:=g.push { cls:=.type "dict_valueiterator",data:=.fields #[.ref d,.int 0 0,.int kvs.length 0,.int ep 0] } }) (Walks.dictValues (A:=A.in1.in1) hh g.objs.size d dI kvs ep) hn _ _ ⟨⟨_,bO _ rfl,rfl,rfl⟩,wz⟩ SI (bC _ l2) fun s2 acc c Dr h2 h3=>?_
  obtain⟨hp,ge,dr,tk,os⟩:=s2;obtain⟨m1,m2,m3,m4,m5⟩:=Dr;obtain rfl:ge=s.gens:=m2;obtain rfl:dr=s.drawn:=m3;obtain rfl:os=s.os:=m4;refine⟨rfl,hQ hp acc c tk (fun b o e=>m1 b o ?_ (bC _ (old b o e))) h2 h3⟩;intro z;have bl:=aI e;simp only [aN,cW,eZ] at z;rcases z with z | z
  · exact absurd bl (by rw[z];exact eB _)
  · have z:b=g.objs.size:=z;rw[z,zu] at bl;exact absurd bl (mL (gq _))
end
theorem Vals.of_get:∀{xs:List V}{us:List ai},xs.length=us.length->(∀(i:Nat) x u,xs[i]? = some x->us[i]? = some u->RelV x u)->Vals xs us
  | [],[],_,_=>.nil
  | x::xs,u::us,hl,h=>.cons (h 0 x u rfl rfl) (Vals.of_get (by simpa using hl) fun i y v e1 e2=>h (i+1) y v (by simpa using e1) (by simpa using e2))
  | [],_::_,hl,_=>by simp at hl
  | _::_,[],hl,_=>by simp at hl
theorem Mp {k:Key}{v:ai}(h:yT k v=true):RelV (kV k) v:=by
  rcases vX h with ⟨i,t,rfl,rfl⟩ | ⟨x,t,rfl,rfl⟩
  · exact⟨t,rfl⟩
  · exact⟨t,rfl⟩
theorem Paired.get' {α β:Type}{F:α->β->Prop}:∀{l₁:List α}{l₂:List β}{i:Nat}{a:α},Paired F l₁ l₂->l₁[i]? = some a->∃b,l₂[i]? = some b/\F a b
  | _,_,_,_,.nil,e=>by simp at e
  | _,_,0,_,.cons r _,e=>by simp at e;subst e;exact⟨_,rfl,r⟩
  | _,_,i+1,a,.cons _ t,e=>by
    obtain⟨u,h1,h2⟩:=Paired.get' (i:=i) (a:=a) t (by simpa using e);exact⟨u,by simpa using h1,h2⟩
section
variable {X:Cx}
theorem Mq {pins:aG}{σ:St}{H:Hp}{s:au}{Q:VK}{ys:List V}{h1:Heap}{acc:Array ai}{c tk:Nat}(I:Inv X pins σ H s) (kp:∀b o,s.heap.get? b=some o->h1.get? b=some o)
    (e:h1.get? s.heap.objs.size=some { cls:=.type "list",dict:=none,data:=.seq acc c,slots:=#[] }) (r:Vals ys acc.toList) (hz:ys.length<=sizeLine) (q:∀l,H l=none->Q (.ref l) (upd H l (.lst ys))):EP X pins σ Q (.ref s.heap.objs.size) { s with heap:=h1,toks:=tk }:=
  ⟨.ref s.heap.objs.size,_,I.laid (t':=tk) (o:=.lst ys) kp (aH _) ⟨hz,acc.toList,c,r,by simpa using e⟩,rfl,q _ (I.bA.fresh (aH _))⟩
theorem Iv (hc:X.calm=true):oW X (.type "list") (fun xs H Q=>∃p kvs,xs = [V.ref p]/\H p=some (.dK kvs)/\∀l,H l=none->Q (.ref l) (upd H l (.lst (kvs.map fun kv=>kV kv.1)))):=by
  intro pins s σ H xs us Q I r h;obtain⟨p,kvs,rfl,hp,q⟩:=h;obtain⟨u,rfl,ru⟩:=qj r;cases ru;obtain⟨z,hd,vs,rel,o,es,ep,e,ex,dt,kk,pr,nd⟩:=I.bA p _ hp;have l1:kvs.length=vs.length:=Paired.length rel;have l2:es.size=vs.length:=by rw[←pr.length];simp
  refine Th (I.ok.hd hc) hd ⟨o,e,ex,dt⟩ (by lia) fun h1 acc c tk kp el it=>Mq I kp el (Vals.of_get ?_ fun i x v ex ev=>?_) (by rw[ay];exact z) q
  · have:=it.1;simp only [ay,jq];lia
  · rw[aM] at ex;cases ek:kvs[i]? with
    | none=>rw[ek] at ex;cases ex
    | some kv=>
      rw[ek] at ex;cases ex;obtain⟨en,FY,rfl⟩:=it.2 i v (by simpa using ev);obtain⟨w',hw,iY⟩:=Paired.get' rel ek;have:=(pr.get? (e:=en) (k:=w'.1) (v:=w'.2) (by simpa using FY) (by rw[hw])).1;have e1:kv.1=w'.1:=iY.1;show RelV (kV kv.1) en.key;rw[e1];exact Mp this
def FZ (p d:ah):HO:=.ext fun h=>h.IsValuesView p d
theorem Tn:Cy X "dict.values" (fun x xs H Q=>∃d kvs,x=V.ref d/\xs = []/\H d=some (.dK kvs)/\∀p,H p=none->Q (.ref p) (upd H p (FZ p d))):=by
  intro pins s σ H x xs v us Q I rx rs h;obtain⟨d,kvs,rfl,rfl,hd,q⟩:=h;cases rx;cases rs;obtain⟨z,hs,vs,rel,dd⟩:=I.bA d _ hd;refine call_meetsIn PySem.F.slot_dict_values dd.typeIs PySem.F.entry_dict_values (PySem.F.args_dict_values_1 _) (meets_dict_values (qe X.prog X.w) d hs) ⟨⟨vs,dd⟩,?_⟩;refine⟨.ref s.heap.objs.size,_,I.laid (t':=s.toks) (a:=s.heap.objs.size) (o:=FZ s.heap.objs.size d) (fun b u e=>bC _ e) (aH _) ⟨⟨_,bO _ rfl,rfl,rfl⟩,⟨_,bO _ rfl⟩,fun h1 h2 ⟨o,ho,r⟩ k=>⟨o,k o ho,r⟩⟩,rfl,q _ (I.bA.fresh (aH _))⟩
theorem To (hc:X.calm=true):oW X (.type "list") (fun xs H Q=>∃p d kvs,xs = [V.ref p]/\H p=some (FZ p d)/\H d=some (.dK kvs)/\∀l,H l=none->Q (.ref l) (upd H l (.lst (kvs.map (·.2))))):=by
  intro pins s σ H xs us Q I r h;obtain⟨p,d,kvs,rfl,hp,hd,q⟩:=h;obtain⟨u,rfl,ru⟩:=qj r;cases ru;obtain⟨z,hs,vs,rel,dd⟩:=I.bA d _ hd;obtain⟨hv,_,_⟩:=I.bA p _ hp;have l1:kvs.length=vs.length:=Paired.length rel;refine Ti (I.ok.hd hc) hv dd (by lia) fun h1 acc c tk kp el it=>Mq I kp el (Vals.of_get ?_ fun i x v ex ev=>?_) (by rw[ay];exact z) q
  · have:=it.1;simp only [ay,jq];lia
  · rw[aM] at ex;cases ek:kvs[i]? with
    | none=>rw[ek] at ex;cases ex
    | some kv=>
      rw[ek] at ex;cases ex;obtain⟨k,hk⟩:=it.2 i v (by simpa using ev);obtain⟨w',hw,iY⟩:=Paired.get' rel ek;rw[hk] at hw;cases hw;exact iY.2
end
def Ds (K:aF) (C:ah) (qual m:Str) (st:Stmt) (ps:List Str):Prop:=
  ∃(f:ah) (fd:FuncData),CP K m qual st f fd/\Meth K C m f/\∀us:List ai,us.length=ps.length->bindArgs fd ⟨us,[]⟩=pure (ps.zip us)
theorem uV {K:aF}{C:ah}{qual m:Str}{st:Stmt}{ps:List Str}{f:ah}{oc kV dc pm cd ct:ai}{od an:Option ah}{sl:Array (Option ai)}
    (hb:∀(kV doc pm:ai) (an:Option ah) (bX ct:ai) (us:List ai),us.length=ps.length->bindArgs (PySem.W.fnOf m qual (zZ st) (uO st) (zq st) .none kV doc pm an bX ct) ⟨us,[]⟩=pure (ps.zip us))
    (a:PySem.W.findIn K (.ref C) m=some (some (.ref f))) (l:K.lookup f=some ⟨oc,od,.func (PySem.W.fnOf m qual (zZ st) (uO st) (zq st) .none kV dc pm an cd ct),sl⟩) (c:PySem.W.codeIn K cd qual=true) (k:PySem.W.keepIn K (.ref f)=true)
    (i:PySem.W.isFn K (.ref f)=true):Ds K C qual m st ps:=⟨f,_,LN l c k,⟨a,i,k⟩,fun us hl=>hb kV dc pm an cd ct us hl⟩
def xy (P:aU) (w:World) (K:aF) (mg:Str->Option ai) (base:Heap) (C:ah) (m:Str) (ps:List Str) (k:Nat) (sp:Sp):Prop:=
  ∃(f:ah) (fd:FuncData),Meth K C m f/\(∀us:List ai,us.length=ps.length->bindArgs fd ⟨us,[]⟩=pure (ps.zip us))/\mT P w K mg base yp k f fd ps sp
section
variable {P:aU}{w:World}{K:aF}{mg:Str->Option ai}{base:Heap}
theorem Ds.has {C:ah}{qual m:Str}{st:Stmt}{N ps:List Str}{k:Nat}{sp:Sp}(D:Ds K C qual m st ps) (S:aE N ps (zq st)) (len:∀vs H Q E,sp vs H Q E->vs.length=ps.length)
    (mU:∀(f:ah) (bX:ai) (A:Around) (outer:List Env) (s:au) (H:Hp) (vs:List V) (Q:VK) (E:XK),cV k (A.deeper (envOfC qual (zq st) s.heap.objs.size f bX))->sp vs H Q E->
      ∃t,pF (nH yp P w K mg base N qual (zq st) f bX A outer s H E).A1 (uO st) t/\t { nx:=fun _ H'=>Q .dG H',rt:=Q } (start N vs) H):xy P w K mg base C m ps (k+1) sp:=by
  obtain⟨f,fd,F,a,b⟩:=D;obtain⟨oc,od,kV,doc,pm,an,bX,ct,nI,e,lk,qg⟩:=id F.ex;exact⟨f,fd,a,b,F.ok S len (mU f)⟩
end
section
variable {X:Cx}(K:aF) (h:X.K=K)
include h
end
def Iw (n i:Nat) (p:Prop):Prop:=∃m',m'<n-i/\m'=n-(i+1)/\i+1<=n/\p
theorem pI {n i:Nat}{p:Prop}(h:i<n) (q:p):Iw n i p:=⟨n-(i+1),by lia,rfl,h,q⟩
theorem iA {α:Type}{xs:List α}{i:Nat}{x:α}(h:xs[i]? = some x):i<xs.length:=(bV.mp h).1
theorem uh {J:It}{xs:List V}{P:Hp->Prop}{own:List Str}{ix:List Nat}{g:TG}{tc:TT}{te:TE}{σ:St}{H1:Hp}{D:ah}{Q:VK}(F:Fix J xs P)
    (R:Nat->St->List V->Hp->Prop) (h0:R 0 (sN own ix σ) [] (upd H1 D (.lst [])))
    (hP:∀i aK ys H',R i aK ys H'->P H'/\H' D=some (.lst ys)/\ys.length<=i) (hz:xs.length<=sizeLine)
    (hs:∀i x aK ys H',xs[i]? = some x->R i aK ys H'->g x aK H' fun nF H3=>tc nF H3 fun b H4=>
      if b=true then te nF H4 fun y H5=>H5 D=some (.lst ys)/\Iw xs.length i (R (i+1) nF (ys++[y]) (upd H5 D (.lst (ys++[y])))) else H4 D=some (.lst ys)/\Iw xs.length i (R (i+1) nF ys H4))
    (hQ:∀aK ys H',R xs.length aK ys H'->Q (.ref D) H'):CW own ix J g tc te σ H1 D Q:=by
  refine⟨fun i m aK ys H'=>m=xs.length-i/\i<=xs.length/\R i aK ys H',⟨xs.length,by simp,dj _,h0⟩,?_⟩;rintro i m aK ys H' ⟨rfl,hi,r⟩;obtain⟨p1,p2,p3⟩:=hP i aK ys H' r;refine⟨p2,?_⟩
  by_cases cQ:i<xs.length
  · refine .inr ⟨F.go i _ p1 cQ,by lia,fun x H2 y=>?_⟩;obtain⟨e,y'⟩:=F.ue i _ x H2 p1 y;subst e;exact hs i x aK ys _ (y' cQ) r
  · have e:i=xs.length:=by lia
    subst e;exact .inl ⟨F.stop _ _ p1 (aH _),hQ aK ys H' r⟩
end L2
namespace Dm
open PySem PySem.NumText
abbrev co (x:Str):List Nat:=x.cps.toList
theorem Mr (x:Str):(co x).length=x.length:=by simp[Str.length]
theorem Iz {x y:Str}(h:co x=co y):x=y:=by
  cases x with
  | mk a=>cases y with
    | mk b=>
      have:a=b:=by
        have h:a.toList=b.toList:=h;exact Array.toList_inj.mp h
      rw[this]
theorem Ms (l:List Nat):co ⟨l.toArray⟩=l:=by simp[co]
def gz (n d:Nat):Option Int->Nat
  | none=>d
  | some i=>if i<0 then (max (i+(n:Int)) 0).toNat else min i.toNat n
theorem Tp (l:List Nat) (i k:Nat):((List.range k).map fun m=>i+m).filterMap (fun j=>l[j]?)=(l.drop i).take k:=by
  induction k generalizing i with
  | zero=>simp
  | succ k ih=>
    rw[List.range_succ_eq_map,fL,fO];have e:((List.range k).map ((fun m=>i+m) ∘ Nat.succ))=(List.range k).map fun m=>(i+1)+m:=by
      apply jr;intro a _;simp only [Function.comp,Nat.succ_eq_add_one];lia
    rw[e,ku];simp only [Nat.add_zero];rw[ih (i+1)];cases h:l[i]? with
    | none=>
      have hl:l.length<=i:=List.getElem?_eq_none_iff.mp h;rw[List.drop_eq_nil_of_le hl,List.drop_eq_nil_of_le (by lia)];simp
    | some v=>
      obtain⟨hi,e⟩:=bV.mp h;rw[List.drop_eq_getElem_cons hi,List.take_succ_cons,e]
def F4 (n:Nat) (d:Int):Option Int->Int
  | none=>d
  | some i=>max 0 (min (if i<0 then i+(n:Int) else i) n)
theorem Mt (n d:Nat) (hd:d<=n) (o:Option Int):F4 n d o=((gz n d o:Nat):Int):=by
  cases o with
  | none=>rfl
  | some i=>simp only [gz,F4];split<;>lia
theorem Tq (n d:Nat) (hd:d<=n) (o:Option Int):gz n d o<=n:=by
  cases o with
  | none=>exact hd
  | some i=>simp only [gz];split<;>lia
theorem Mu (lo hi:Option Int) (n:Nat):Builtin.Str.strSliceIndices lo hi 1 n=(List.range (gz n n hi-gz n 0 lo)).map fun m=>gz n 0 lo+m:=by
  have:Builtin.Str.strSliceIndices lo hi 1 n=sliceRange (F4 n 0 lo) (F4 n n hi) 1:=by
    cases lo<;>cases hi<;>rfl
  rw[this,show (0:Int)=((0:Nat):Int) from rfl,Mt n 0 (dj _),Mt n n (aH _)];unfold sliceRange;simp only [show (1:Int) > 0 by decide,if_true,Int.one_mul,Int.ediv_one];have ec:(if ((gz n 0 lo:Nat):Int)<((gz n n hi:Nat):Int) then ((gz n n hi:Nat):Int)-((gz n 0 lo:Nat):Int)+1-1 else 0).toNat=gz n n hi-gz n 0 lo:=by
    split<;>lia
  rw[ec];apply jr;intro a _;lia
theorem Tt (x:Str) (lo hi:Option Int):co (Txt.slice x lo hi)=((co x).drop (gz x.length 0 lo)).take (gz x.length x.length hi-gz x.length 0 lo):=by
  have key:(Builtin.Str.strSliceIndices lo hi 1 x.length).filterMap (x.cps[·]?)=((co x).drop (gz x.length 0 lo)).take (gz x.length x.length hi-gz x.length 0 lo):=by
    rw[Mu,←Tp (co x)]
    congr 1
    funext j;simp[co]
  unfold Txt.slice;split
  · rename_i h;have hl:(Builtin.Str.strSliceIndices lo hi 1 x.length).length=x.length:=by
      simpa using h
    rw[Mu,ay,ju] at hl;have h1:=Tq x.length x.length (aH _) hi;have h2:gz x.length 0 lo=0\/x.length=0:=by lia
    have h3:=Mr x;rcases h2 with h2 | h2
    · rw[hl,h2,List.drop_zero,ou (by lia)]
    · have:co x = []:=mq.mp (by lia);rw[this];simp
  · rw[Ms];exact key
def dQ:Str:="abcdefghijklmnopqrstuvwxyz0123456789-"
def Mv (l:List Nat) (sg:Str):Bool:=l.all fun c=>decide (c∈co sg)
def sP (x:Str):Bool:=decide (1<=x.length)&&decide (x.length<=12)&&Mv (co x) dQ
def lT (ns:List Int) (i:Int):Int:=ns.getD i.toNat 0
def pt (c k m:Int):Int:=(c%99991+17) * (48271+7919 * k)%65537 * (k+3)%8191%m
theorem iB (c k m:Int) (h:0<m):0<=pt c k m/\pt c k m<m:=⟨mP _ (by lia),mE _ h⟩
def uW (one at':Int) (k j:Nat):Int:=if (j:Int)=at' then pt one ((j:Int)+2) 37+k else pt one ((j:Int)+2) 37
def qt (one at':Int) (k j:Nat):Nat:=(co dQ).getD (uW one at' k j%37).toNat 0
def qu (one at':Int) (k size:Nat):List Nat:=(List.range size).map (qt one at' k)
theorem Tu:(co dQ).length=37:=by decide +kernel
theorem Tv:(co dQ).Nodup:=by decide +kernel
theorem sQ (z:Int):0<=z%37/\(z%37).toNat<(co dQ).length:=by
  have h1:=mP z (show (37:Int)≠0 by decide);have h2:=mE z (show (0:Int)<37 by decide);rw[Tu];lia
theorem Tw (one at':Int) (k j:Nat):qt one at' k j∈co dQ:=by
  unfold qt;have h:=(sQ (uW one at' k j)).2;rw[cR,bz h];exact jW h
theorem Tz {i j:Nat}(hi:i<(co dQ).length) (hj:j<(co dQ).length) (h:(co dQ).getD i 0=(co dQ).getD j 0):i=j:=by
  rw[cR,cR,bz hi,bz hj] at h;have h:(co dQ)[i]=(co dQ)[j]:=h;exact (List.getElem_inj Tv).mp h
theorem Bj (one at':Int) (k size:Nat):(qu one at' k size).length=size:=by unfold qu;simp
theorem Mw {one at':Int}{k size j:Nat}(h:j<size):(qu one at' k size)[j]? = some (qt one at' k j):=by
  unfold qu;rw[aM,List.getElem?_range h];rfl
theorem TF {one at':Int}{k k' size:Nat}(h0:0<=at') (h1:at'<size) (hk:k<9) (gj:k'<9) (h:qu one at' k size=qu one at' k' size):k=k':=by
  have hj:at'.toNat<size:=by lia
  have e1:=Mw (one:=one) (at':=at') (k:=k) hj;have e2:=Mw (one:=one) (at':=at') (k:=k') hj;rw[h,e2] at e1;have e:qt one at' k' at'.toNat=qt one at' k at'.toNat:=cX e1;unfold qt at e;have q:=Tz (sQ _).2 (sQ _).2 e;have a1:=(sQ (uW one at' k' at'.toNat)).1;have a2:=(sQ (uW one at' k at'.toNat)).1;have q2:uW one at' k' at'.toNat%37=uW one at' k at'.toNat%37:=by lia
  unfold uW at q2;rw[aq (mC h0),aq (mC h0)] at q2;lia
def o6 (l:List Nat):Str:=⟨l.toArray⟩
theorem Ac (l:List Nat):co (o6 l)=l:=Ms l
theorem Mx {l m:List Nat}(h:o6 l=o6 m):l=m:=by
  have:=bT co h
  rwa [Ac,Ac] at this
theorem TJ {x:Str}(h1:1<=(co x).length) (h2:(co x).length<=12) (h3:∀c∈co x,c∈co dQ):sP x=true:=by
  rw[Mr] at h1 h2;unfold sP;rw[aO h1,aO h2];show Mv (co x) dQ=true;exact gF.mpr fun c hc=>aO (h3 c hc)
theorem TL {one at':Int}{k size c:Nat}(h:c∈qu one at' k size):c∈co dQ:=by
  obtain⟨j,_,rfl⟩:=br.mp h;exact Tw ..
theorem IA {f:Nat->Str}{n:Nat}(h:∀i j,i<n->j<n->f i=f j->i=j):((List.range n).map f).Nodup:=by
  unfold List.Nodup;rw[List.pairwise_map];refine List.Pairwise.imp_of_mem (R:=(·≠·)) (fun {a b} ha hb i6 e=>?_) List.nodup_range;exact i6 (h a b (eV.mp ha) (eV.mp hb) e)
theorem TM:(Str.ofString "" : Str)=o6 []:=by decide +kernel
theorem My (l m:List Nat):o6 l++o6 m=o6 (l++m):=by
  apply Iz;show (l.toArray++m.toArray).toList=(l++m).toArray.toList;simp
theorem F9 (l:List Nat):(o6 l).length=l.length:=by show l.toArray.size=_;simp
theorem Mz (l:List Nat) (z:Int) (h0:0<=z) (h1:z<=l.length):Txt.slice (o6 l) none (some z)=o6 (l.take z.toNat):=by
  apply Iz;rw[Tt,Ac,Ac,F9];simp only [gz];rw[ao (by lia),List.drop_zero,Nat.sub_zero]
  congr 1
  lia
end Dm
namespace Dm
open PySem PySem.NumText L2
def Bl:List Str:=["over","cuts","fills","same"]
def uX (z:Int):Prop:=z.natAbs<10 ^ 60
inductive iU (us:List Str):List V->Prop where
  | plain {kd x y:Str}(hk:kd∈Bl) (hx:x∈us) (hy:y∈us):iU us [.str kd,.str x,.str y]
  | after {x y:Str}{n:Int}(hx:x∈us) (hy:y∈us) (h0:0<=n) (h1:uX n):iU us [.str "after",.str x,.str y,.int n]
theorem iU.mono {us yv:List Str}{ws:List V}(h:iU us ws) (s:∀x∈us,x∈yv):iU yv ws:=by
  cases h with
  | plain hk hx hy=>exact .plain hk (s _ hx) (s _ hy)
  | after hx hy h0 h1=>exact .after (s _ hx) (s _ hy) h0 h1
theorem IB {x:Str}(h:sP x=true):x.length<=12:=by
  unfold sP at h;simp only [fj,decide_eq_true_eq] at h;exact h.1.2
theorem TN:∀k∈Bl,k.length<=100:=by decide +kernel
theorem iU.words {us:List Str}{ws:List V}(h:iU us ws) (hu:∀x∈us,sP x=true):(∀v∈ws,Wd v)/\ws.length<=5/\∃x r,ws = .str x::r:=by
  have nm:∀x∈us,Wd (.str x):=fun x hx=>.inl ⟨x,rfl,b7 (IB (hu x hx)) (by decide)⟩
  cases h with
  | plain hk hx hy=>
    refine⟨fun v hv=>?_,by simp,_,_,rfl⟩;simp only [aN,cW,eZ] at hv;rcases hv with rfl | rfl | rfl
    · exact .inl ⟨_,rfl,TN _ hk⟩
    · exact nm _ hx
    · exact nm _ hy
  | after hx hy h0 h1=>
    refine⟨fun v hv=>?_,by simp,_,_,rfl⟩;simp only [aN,cW,eZ] at hv;rcases hv with rfl | rfl | rfl | rfl
    · exact .inl ⟨_,rfl,by decide +kernel⟩
    · exact nm _ hx
    · exact nm _ hy
    · exact .inr ⟨_,rfl,h1⟩
abbrev cy (H:Hp):List ah->List (List V)->Prop:=Paired fun a ws=>H a=some (.tup ws)
theorem cy.same {H H':Hp}(s:ak H H'):∀{as:List ah}{i7:List (List V)},cy H as i7->cy H' as i7
  | _,_,.nil=>.nil
  | _,_,.cons h t=>.cons (s _ _ h) (cy.same s t)
theorem cy.get {H:Hp}:∀{as:List ah}{i7:List (List V)}{a:ah},cy H as i7->a∈as->∃ws∈i7,H a=some (.tup ws)
  | _,_,_,.cons h t,ha=>by
    rcases aN.mp ha with ha | ha
    · subst ha;exact⟨_,iE ..,h⟩
    · obtain⟨ws,hw,e⟩:=cy.get t ha;exact⟨ws,bD _ hw,e⟩
theorem cy.snoc {H:Hp}{a:ah}{ws:List V}{as:List ah}{i7:List (List V)}(t:cy H as i7) (h:H a=some (.tup ws)):cy H (as++[a]) (i7++[ws]):=Paired.snoc t h
theorem cy.iy {H H':Hp}(s:∀b xs,H b=some (.tup xs)->H' b=some (.tup xs)):∀{as:List ah}{i7:List (List V)},cy H as i7->cy H' as i7
  | _,_,.nil=>.nil
  | _,_,.cons h t=>.cons (s _ _ h) (cy.iy s t)
theorem qv {H:Hp}{p:ah}{xs ys:List V}(h:H p=some (.lst xs)):∀b zs,H b=some (.tup zs)->upd H p (.lst ys) b=some (.tup zs):=fun b zs e=>by
  rw[zr (qf e h (by intro z;cases z))];exact e
theorem um {xs:List Str}(nd:xs.Nodup) (k:Nat) (h:k<xs.length):xs[k] ∉ xs.take k:=by
  intro z;obtain⟨j,hj,e⟩:=lg.mp z;rw[List.getElem_take] at e;rw[bF] at hj;have:=(List.getElem_inj nd).mp e;lia
theorem TQ {x y:V}(hx:Wd x) (hy:Wd y):rY x y=decide (x=y):=by
  rcases hx with ⟨a,rfl,_⟩ | ⟨a,rfl,_⟩<;>rcases hy with ⟨b,rfl,_⟩ | ⟨b,rfl,_⟩
  · show (a == b)=_
    by_cases h:a=b
    · subst h;simp
    · rw[aV (fun z=>h (V.str.inj z))];exact jo.mpr h
  · exact (aV (fun z=>nomatch z)).symm
  · exact (aV (fun z=>nomatch z)).symm
  · show (a == b)=_
    by_cases h:a=b
    · subst h;simp
    · rw[aV (fun z=>h (V.int.inj z))];exact jo.mpr h
theorem TR {xs ys:List V}(hx:∀v∈xs,Wd v) (hy:∀v∈ys,Wd v):Dg xs ys=decide (xs=ys):=by
  by_cases h:xs=ys
  · subst h;rw[Iq fun x q=>(hx x q).flat,aO rfl]
  · rw[aV h];rw[←Bool.not_eq_true];intro q;unfold Dg at q;rw[fj] at q;obtain⟨q1,q2⟩:=q;have q2:xs.length=ys.length:=by simpa using q2
    apply h;apply List.ext_getElem q2;intro i h1 h2;have:=gF.mp q1 i (eV.mpr (by lia));rw[bz h1,bz h2] at this;have e:rY xs[i] ys[i]=true:=this;rw[TQ (hx _ (jW h1)) (hy _ (jW h2))] at e;exact aP e
theorem cy.at {H:Hp}:∀{as:List ah}{i7:List (List V)}{i:Nat}{a:ah},cy H as i7->as[i]? = some a->∃ws,i7[i]? = some ws/\H a=some (.tup ws)
  | _,_,_,_,.nil,e=>by simp at e
  | _,_,0,_,.cons h _,e=>by simp at e;subst e;exact⟨_,rfl,h⟩
  | _,_,i+1,_,.cons _ t,e=>by
    obtain⟨ws,q,r⟩:=cy.at (i:=i) t (by simpa using e);exact⟨ws,by simpa using q,r⟩
theorem cy.len {H:Hp}{as:List ah}{i7:List (List V)}(t:cy H as i7):as.length=i7.length:=Paired.length t
theorem cy.any {H:Hp}{as:List ah}{i7:List (List V)}{ws:List V}(t:cy H as i7):∀(e:V->Bool),(∀a vs,vs∈i7->H a=some (.tup vs)->e (.ref a)=decide (vs=ws))->(as.map V.ref).any e=decide (ws∈i7):=by
  intro e he
  induction t with
  | nil=>simp
  | @cons a vs as i7 h t ih=>
    rw[fL,gT,he a vs (iE ..) h,ih fun b us q r=>he b us (bD _ q) r]
    by_cases q:vs=ws
    · subst q;simp
    · rw[aV q,Bool.false_or];have:ws∈vs::i7↔ws∈i7:=by
        rw[aN];constructor
        · rintro (z | z)
          · exact absurd z.symm q
          · exact z
        · exact .inr
      exact jw.mpr this.symm
def Ad (H:Hp) (ws:List V):V->Bool
  | .ref a=>match H a with
    | some (.tup vs)=>decide (vs=ws)
    | _=>false
  | _=>false
theorem MA {H:Hp}{ws vs:List V}{a:ah}(h:H a=some (.tup vs)):Ad H ws (.ref a)=decide (vs=ws):=by
  show (match H a with | some (.tup vs)=>decide (vs=ws) | _=>false)=_;rw[h]
theorem cy.Du {H:Hp}{as:List ah}{i7:List (List V)}{ws:List V}(t:cy H as i7):(as.map V.ref).any (Ad H ws)=decide (ws∈i7):=t.any _ fun _ _ _ h=>MA h
theorem cy.MB {K:aF}{H:Hp}{n:Nat}{as:List ah}{i7:List (List V)}{ws:List V}{p:ah}(t:cy H as i7) (hw:∀vs∈i7,∀v∈vs,Wd v) (hp:H p=some (.tup ws)) (hv:∀v∈ws,Wd v) :
    ∀z∈as.map V.ref,dH K H (n+1) z (.ref p) (Ad H ws z):=by
  intro z hz;obtain⟨a,ha,rfl⟩:=br.mp hz;obtain⟨vs,MC,e⟩:=t.get ha;rw[MA e,←TR (hw vs MC) hv];exact dH.uT (bu.of e) (bu.of hp) (fun x q=>(hw vs MC x q).flat) fun x q=>(hv x q).flat
theorem MD (ns:List Int) (lo hi:Option Int):∃cs:List Int,jg (ns.map V.int) lo hi=cs.map V.int/\cs.length<=ns.length:=by
  refine⟨(ns.drop (HT.dO (ns.map V.int).length 0 lo)).take (HT.dO (ns.map V.int).length (ns.map V.int).length hi-HT.dO (ns.map V.int).length 0 lo),?_,?_⟩
  · unfold jg;rw[kJ,List.map_drop]
  · rw[bF,kD];lia
structure o7 (K:aF) (H:Hp) (pm pu pt pf:ah) (lo hi:Int) (us:List Str) (ts fs:List (List V)) (at' af:List ah):Prop where
  m:bu K H pm [.int lo,.int hi]
  u:aJ K H pu (us.map V.str)
  t:aJ K H pt (at'.map V.ref)
  tt:cy H at' ts
  f:aJ K H pf (af.map V.ref)
  ft:cy H af fs
theorem o7.same {K:aF}{H H':Hp}{pm pu pt pf:ah}{lo hi:Int}{us:List Str}{ts fs:List (List V)}{at' af:List ah}(t:o7 K H pm pu pt pf lo hi us ts fs at' af) (s:ak H H'):o7 K H' pm pu pt pf lo hi us ts fs at' af:=
  ⟨s.tup t.m,s.seq t.u,s.seq t.t,t.tt.same s,s.seq t.f,t.ft.same s⟩
theorem Dv {α:Type}{H:Hp}{g:α->List V}{av:List ah}{ps:List α}{i:Nat}{x:V}(t:cy H av (ps.map g)) (hx:(av.map V.ref)[i]? = some x) :
    ∃q p,x = .ref q/\ps[i]? = some p/\av[i]? = some q/\H q=some (.tup (g p)):=by
  rw[aM] at hx;cases e:av[i]? with
  | none=>rw[e] at hx;cases hx
  | some q=>
    rw[e] at hx;cases hx;obtain⟨ws,h1,h2⟩:=Paired.get' t e;rw[aM] at h1;cases e':ps[i]? with
    | none=>rw[e'] at h1;cases h1
    | some p=>
      rw[e'] at h1;cases h1;exact⟨q,p,rfl,rfl,rfl,h2⟩
theorem ME {α:Type}{p:α->Prop}{xs:List α}{i:Nat}{x:α}(hx:xs[i]? = some x) (h:∀y∈xs.take i,p y) (hp:p x):∀y∈xs.take (i+1),p y:=by
  intro y hy;rw[aS,hx,bM] at hy;rcases hy with hy | hy
  · exact h y hy
  · simp at hy;subst hy;exact hp
theorem Dw {u v:V}{i:Int}(h0:0<=i) (h1:i<2):∃z,kr [u,v] i=some z/\(z=u\/z=v):=by
  have h:i=0\/i=1:=by lia
  rcases h with rfl | rfl
  · exact⟨u,rfl,.inl rfl⟩
  · exact⟨v,rfl,.inr rfl⟩
structure aQ where
  k:Str
  a:Str
  b:Str
  g:Option Int
def cH (t:aQ):List V:=.str t.k :: .str t.a :: .str t.b::(match t.g with
  | some n=>[V.int n]
  | none=>[])
def dw:Str:="same"
structure nB (us:List Str) (t:aQ):Prop where
  ok:iU us (cH t)
  a:t.a∈us
  b:t.b∈us
theorem Dy (t:aQ):kr (cH t) 0=some (.str t.k):=sd
theorem Dz (t:aQ):kr (cH t) 1=some (.str t.a):=nJ (xs:=cH t) (j:=1) rfl
theorem DA (t:aQ):kr (cH t) 2=some (.str t.b):=nJ (xs:=cH t) (j:=2) rfl
theorem MF {xs:List V}{z:Int}(h0:0<=z) (h1:z<=xs.length):jg xs none (some z)=xs.take z.toNat:=by
  unfold jg HT.dO;simp;split
  · lia
  · congr 1
    lia
theorem DB {x y:Str}(h1:¬co x<co y) (h2:¬co y<co x):x=y:=by
  rw[kT] at h1 h2;exact Iz (List.le_antisymm h2 h1)
theorem DC {x y:Str}(h1:co x<co y) (h2:co y<co x):False:=fk _ (mR h1 h2)
theorem IC {y m f:List Nat}(h1:y<m) (h2:¬f<m):y<f:=by
  exact d9 fun z=>h2 (List.lt_of_le_of_lt (kT.mp z) h1)
def j7 (x y:Str):Str:=if co y<co x then y else x
theorem ID (x y:Str):j7 x y=x\/j7 x y=y:=by unfold j7;split<;>simp
theorem IE (x y:Str):¬co x<co (j7 x y):=by
  unfold j7;split
  · next h=>exact fun z=>DC h z
  · exact fk _
theorem IF (x y:Str):¬co y<co (j7 x y):=by
  unfold j7;split
  · exact fk _
  · next h=>exact h
def Nb (ts:List aQ) (y z:Str):Prop:=∃t∈ts,t.k=dw/\((t.a=y/\t.b=z)\/(t.b=y/\t.a=z))
inductive Cn (ts:List aQ):Str->Str->Prop where
  | refl (x:Str):Cn ts x x
  | step {x y z:Str}(h:Cn ts x y) (n:Nb ts y z):Cn ts x z
theorem Nb.symm {ts:List aQ}{y z:Str}(h:Nb ts y z):Nb ts z y:=by
  obtain⟨t,ht,hk,h⟩:=h;exact⟨t,ht,hk,h.elim (fun q=>.inr ⟨q.2,q.1⟩) fun q=>.inl ⟨q.2,q.1⟩⟩
theorem Cn.trans {ts:List aQ}{x y z:Str}(h:Cn ts x y) (h2:Cn ts y z):Cn ts x z:=by
  induction h2 with
  | refl=>exact h
  | step _ n ih=>exact ih.step n
theorem Cn.one {ts:List aQ}{y z:Str}(n:Nb ts y z):Cn ts y z:=(Cn.refl y).step n
theorem Cn.symm {ts:List aQ}{x y:Str}(h:Cn ts x y):Cn ts y x:=by
  induction h with
  | refl=>exact .refl _
  | step _ n ih=>exact (Cn.one n.symm).trans ih
theorem Nb.mono {ts Ae:List aQ}{y z:Str}(h:Nb ts y z) (s:∀t∈ts,t∈Ae):Nb Ae y z:=by
  obtain⟨t,ht,r⟩:=h;exact⟨t,s t ht,r⟩
theorem Cn.mono {ts Ae:List aQ}{y z:Str}(h:Cn ts y z) (s:∀t∈ts,t∈Ae):Cn Ae y z:=by
  induction h with
  | refl=>exact .refl _
  | step _ n ih=>exact ih.step (n.mono s)
theorem Nb.mem {us:List Str}{ts:List aQ}{y z:Str}(h:Nb ts y z) (ht:∀t∈ts,t.a∈us/\t.b∈us):z∈us:=by
  obtain⟨t,h1,_,h2⟩:=h;rcases h2 with ⟨_,rfl⟩ | ⟨_,rfl⟩
  · exact (ht t h1).2
  · exact (ht t h1).1
theorem Cn.mem {us:List Str}{ts:List aQ}{y z:Str}(h:Cn ts y z) (hy:y∈us) (ht:∀t∈ts,t.a∈us/\t.b∈us):z∈us:=by
  cases h with
  | refl=>exact hy
  | step _ n=>exact n.mem ht
def jn (bE:Str->Str) (f s:Str):Str->Str:=fun x=>if bE x=f\/bE x=s then j7 f s else bE x
def xA (bE:Str->Str) (t:aQ):Str->Str:=if t.k=dw then jn bE (bE t.a) (bE t.b) else bE
def aC (ts:List aQ):Str->Str:=ts.foldl xA id
structure Good (ts:List aQ) (bE:Str->Str):Prop where
  to:∀x,Cn ts x (bE x)
  eq:∀x y,Cn ts x y->bE x=bE y
  le:∀x y,Cn ts x y->¬co y<co (bE x)
theorem TU:Good [] id:=by
  have h:∀x y,Cn [] x y->x=y:=by
    intro x y c
    induction c with
    | refl=>rfl
    | step _ n _=>obtain⟨t,ht,_⟩:=n;cases ht
  exact⟨fun x=>.refl x,h,fun x y c=>by rw[h x y c];exact fk _⟩
theorem TV {ts:List aQ}{bE:Str->Str}{t:aQ}(g:Good ts bE):Good (ts++[t]) (xA bE t):=by
  have sub:∀u∈ts,u∈ts++[t]:=fun u hu=>ee _ hu
  by_cases hk:t.k=dw
  · unfold xA;rw[aq hk];have nt:Nb (ts++[t]) t.a t.b:=⟨t,by simp,hk,.inl ⟨rfl,rfl⟩⟩;have ca:∀x,bE x=bE t.a->Cn (ts++[t]) x t.a:=fun x e=>by
      have h1:=(g.to x).mono sub;have h2:=(g.to t.a).mono sub;rw[e] at h1;exact h1.trans h2.symm
    have cb:∀x,bE x=bE t.b->Cn (ts++[t]) x t.b:=fun x e=>by
      have h1:=(g.to x).mono sub;have h2:=(g.to t.b).mono sub;rw[e] at h1;exact h1.trans h2.symm
    have la:Cn (ts++[t]) t.a (bE t.a):=(g.to t.a).mono sub;have lb:Cn (ts++[t]) t.b (bE t.b):=(g.to t.b).mono sub;have to:∀x,Cn (ts++[t]) x (jn bE (bE t.a) (bE t.b) x):=by
      intro x;unfold jn;split
      · next h=>
        have hx:Cn (ts++[t]) x t.a:=h.elim (ca x) fun e=>(cb x e).trans (Cn.one nt.symm)
        rcases ID (bE t.a) (bE t.b) with e | e
        · rw[e];exact hx.trans la
        · rw[e];exact (hx.trans (Cn.one nt)).trans lb
      · exact (g.to x).mono sub
    have ja:jn bE (bE t.a) (bE t.b) t.a=j7 (bE t.a) (bE t.b):=aq (.inl rfl);have jb:jn bE (bE t.a) (bE t.b) t.b=j7 (bE t.a) (bE t.b):=aq (.inr rfl);have eq:∀x y,Cn (ts++[t]) x y->jn bE (bE t.a) (bE t.b) x=jn bE (bE t.a) (bE t.b) y:=by
      intro x y c
      induction c with
      | refl=>rfl
      | @step y z _ n ih=>
        rw[ih];obtain⟨u,hu,Ga,h⟩:=n;rcases bM.mp hu with hu | hu
        · have:bE y=bE z:=g.eq y z (Cn.one ⟨u,hu,Ga,h⟩);unfold jn;rw[this]
        · have hu:u=t:=by simpa using hu
          subst hu;rcases h with ⟨rfl,rfl⟩ | ⟨rfl,rfl⟩
          · rw[ja,jb]
          · rw[ja,jb]
    refine⟨to,eq,fun x y c=>?_⟩;rw[eq x y c];have old:=g.le y y (.refl y);unfold jn;split
    · next h=>
      rcases h with e | e
      · intro z;rw[e] at old;exact old (IC z (IE _ _))
      · intro z;rw[e] at old;exact old (IC z (IF _ _))
    · exact old
  · unfold xA;rw[ao hk];have back:∀x y,Cn (ts++[t]) x y->Cn ts x y:=by
      intro x y c
      induction c with
      | refl=>exact .refl _
      | step _ n ih=>
        obtain⟨u,hu,Ga,h⟩:=n;rcases bM.mp hu with hu | hu
        · exact ih.step ⟨u,hu,Ga,h⟩
        · have hu:u=t:=by simpa using hu
          subst hu;exact absurd Ga hk
    exact⟨fun x=>(g.to x).mono sub,fun x y c=>g.eq x y (back x y c),fun x y c=>g.le x y (back x y c)⟩
theorem MG:∀(MH ts:List aQ) (bE:Str->Str),Good ts bE->Good (ts++MH) (MH.foldl xA bE)
  | [],ts,bE,g=>by rw[g8];exact g
  | t::r,ts,bE,g=>by
    have:=MG r (ts++[t]) (xA bE t) (TV g);rw[mG] at this;exact this
theorem Af (ts:List aQ):Good ts (aC ts):=MG ts [] id TU
theorem MI {ts:List aQ}{i:Nat}{t:aQ}(h:ts[i]? = some t):aC (ts.take (i+1))=xA (aC (ts.take i)) t:=by
  unfold aC;rw[aS,h,oM];rfl
theorem MJ {us:List Str}{ts:List aQ}{x:Str}(hx:x∈us) (ht:∀t∈ts,t.a∈us/\t.b∈us):aC ts x∈us:=((Af ts).to x).mem hx ht
def dN (us:List Str) (bE:Str->Str):List (Key×V):=us.map fun x=>(Sum.inr x,V.str (bE x))
theorem qw {us:List Str}{bE:Str->Str}{x:Str}(h:x∈us):e8 (dN us bE) (Sum.inr x)=some (.str (bE x)):=by
  induction us with
  | nil=>cases h
  | cons y r ih=>
    unfold dN;rw[fL]
    by_cases e:y=x
    · subst e;exact CI rfl
    · have hx:x∈r:=by
        rcases aN.mp h with h | h
        · exact absurd h.symm e
        · exact h
      have:=ih hx;unfold e8 at this ⊢;rw[List.find?_cons_of_neg (by simpa using e)];exact this
theorem IG {us:List Str}{bE:Str->Str}{x y:Str}(h:x∈us):putK (dN us bE) (Sum.inr x) (.str y)=dN us (fun z=>if z=x then y else bE z):=by
  have ha:((dN us bE).any fun kv=>decide (kv.1=(Sum.inr x:Key)))=true:=by
    rw[iM];exact⟨(Sum.inr x,V.str (bE x)),br.mpr ⟨x,h,rfl⟩,aO rfl⟩
  unfold putK;rw[aq ha];unfold dN;rw[fO];apply jr;intro z _;show (if (Sum.inr z:Key)=Sum.inr x then (Sum.inr z,V.str y) else (Sum.inr z,V.str (bE z)))=_
  by_cases e:z=x
  · subst e;simp
  · rw[ao (fun q=>e (kO q))];show _=(Sum.inr z,V.str (if z=x then y else bE z));rw[ao e]
theorem MK {us:List Str}{x:Str}(h:x ∉ us):putK (dN us id) (Sum.inr x) (.str x)=dN (us++[x]) id:=by
  have ha:¬((dN us id).any fun kv=>decide (kv.1=(Sum.inr x:Key)))=true:=by
    rw[iM];rintro ⟨kv,h1,h2⟩;obtain⟨z,hz,rfl⟩:=br.mp h1;have h2:z=x:=kO (aP h2);subst h2;exact h hz
  unfold putK;rw[ao ha];unfold dN;rw[aT];rfl
theorem Bm {us:List Str}{f g:Str->Str}(h:∀x∈us,f x=g x):dN us f=dN us g:=by
  unfold dN;apply jr;intro x hx;rw[h x hx]
theorem DE (us:List Str) (f:Str->Str):(dN us f).length=us.length:=ay _
theorem TX (us:List Str) (f:Str->Str):((dN us f).map fun kv=>kV kv.1)=us.map V.str:=by
  unfold dN;rw[fO];rfl
theorem sj {us rs:List Str}(hn:rs.Nodup) (hs:∀x∈rs,x∈us):rs.length<=us.length:=by
  induction rs generalizing us with
  | nil=>simp
  | cons a r ih=>
    rw[iL] at hn;have ha:=hs a (by simp);have h2:∀x∈r,x∈us.erase a:=fun x hx=>by
      refine (List.mem_erase_of_ne (fun z=>by subst z;exact hn.1 hx)).mpr (hs x (bD _ hx))
    have:=ih hn.2 h2;rw[oh ha] at this;have hp:0<us.length:=qH ha;rw[iK];lia
def Ag (l:List Str):Prop:=l.Pairwise (fun a b=>¬co b<co a)
theorem ML:∀{a b:List Str},a.Perm b->Ag a->Ag b->a=b
  | [],b,p,_,_=>by rw[List.nil_perm.mp p]
  | x::r,[],p,_,_=>by have:=p.length_eq;cases this
  | x::r,y::r',p,ha,hb=>by
    have hx:x∈y::r':=p.mem_iff.mp (by simp);have hy:y∈x::r:=p.mem_iff.mpr (by simp);have e:x=y:=by
      rcases aN.mp hx with h | h
      · exact h
      · rcases aN.mp hy with h2 | h2
        · exact h2.symm
        · exact DB ((iG.mp hb).1 x h) ((iG.mp ha).1 y h2)
    subst e;rw[ML (List.Perm.cons_inv p) (iG.mp ha).2 (iG.mp hb).2]
def sR (x:Str):List Str->List Str
  | []=>[x]
  | y::r=>if co y<co x then y::sR x r else x::y::r
def aL:List Str->List Str
  | []=>[]
  | x::r=>sR x (aL r)
theorem II (x:Str):∀l,(sR x l).Perm (x::l)
  | []=>.refl _
  | y::r=>by
    unfold sR;split
    · exact ((II x r).cons y).trans (.swap x y r)
    · exact .refl _
theorem DF:∀l,(aL l).Perm l
  | []=>.refl _
  | x::r=>(II x (aL r)).trans ((DF r).cons x)
theorem MM (x:Str):∀l,Ag l->Ag (sR x l)
  | [],_=>List.pairwise_singleton ..
  | y::r,h=>by
    unfold sR;obtain⟨h1,h2⟩:=iG.mp h;split
    · next c=>
      refine iG.mpr ⟨fun z hz=>?_,MM x r h2⟩;rcases aN.mp ((II x r).mem_iff.mp hz) with e | hz
      · subst e;exact fun q=>DC q c
      · exact h1 z hz
    · next c=>
      refine iG.mpr ⟨fun z hz=>?_,h⟩;rcases aN.mp hz with e | hz
      · subst e;exact c
      · intro q;exact h1 z hz (IC q c)
theorem IJ:∀l,Ag (aL l)
  | []=>.nil
  | x::r=>MM x (aL r) (IJ r)
theorem IK {ms us:List Str}(p:ms.Perm us) (h:Ag ms):ms=aL us:=ML (p.trans (DF us).symm) h (IJ us)
theorem IL {us:List Str}(h:us.Nodup):(aL us).Nodup:=(DF us).nodup_iff.mpr h
theorem j8 {us:List Str}{x:Str}:x∈aL us↔x∈us:=(DF us).mem_iff
theorem IM (us:List Str):(aL us).length=us.length:=(DF us).length_eq
theorem Gb {us:List Str}(h:us.Nodup):(aL us).Pairwise (fun a b=>co a<co b):=by
  have h1:=IJ us;have h2:=IL h;refine (h1.and h2).imp fun {a b} bg=>?_
  obtain⟨p,q⟩:=bg;exact d9 fun k=>q (DB k p)
theorem TY {ss:List Str}(h:ss.Pairwise (fun a b=>co a<co b)) {i j:Nat}{x y:Str}(hx:ss[i]? = some x) (hy:ss[j]? = some y) (hl:co x<co y):i<j:=by
  obtain⟨hi,ex⟩:=bV.mp hx;obtain⟨hj,ey⟩:=bV.mp hy;rcases kC i j with c | c | c
  · exact c
  · subst c;rw[ex] at ey;subst ey;exact absurd hl (fk _)
  · have:=(lY.mp h) j i hj hi c;rw[ex,ey] at this;exact (DC hl this).elim
def dV (ks:List Str) (f:Str->V):List (Key×V):=ks.map fun x=>(Sum.inr x,f x)
theorem o8 {ks:List Str}{f:Str->V}{x:Str}(h:x∈ks):e8 (dV ks f) (Sum.inr x)=some (f x):=by
  induction ks with
  | nil=>cases h
  | cons y r ih=>
    unfold dV;rw[fL]
    by_cases e:y=x
    · subst e;exact CI rfl
    · have hx:x∈r:=by
        rcases aN.mp h with h | h
        · exact absurd h.symm e
        · exact h
      have:=ih hx;unfold e8 at this ⊢;rw[List.find?_cons_of_neg (by simpa using e)];exact this
theorem Ah {ks:List Str}{f:Str->V}{x:Str}(h:x ∉ ks):e8 (dV ks f) (Sum.inr x)=none:=by
  unfold e8;rw[List.find?_eq_none.mpr]
  · rfl
  · intro kv Gd;obtain⟨z,hz,rfl⟩:=br.mp Gd;intro e;have e:z=x:=kO (aP e);subst e;exact h hz
theorem Ge {ks:List Str}{f:Str->V}{x:Str}{v:V}(h:x∈ks):putK (dV ks f) (Sum.inr x) v=dV ks (fun z=>if z=x then v else f z):=by
  have ha:((dV ks f).any fun kv=>decide (kv.1=(Sum.inr x:Key)))=true:=by
    rw[iM];exact⟨(Sum.inr x,f x),br.mpr ⟨x,h,rfl⟩,aO rfl⟩
  unfold putK;rw[aq ha];unfold dV;rw[fO];apply jr;intro z _;show (if (Sum.inr z:Key)=Sum.inr x then (Sum.inr z,v) else (Sum.inr z,f z))=(Sum.inr z,if z=x then v else f z)
  by_cases e:z=x
  · subst e;simp
  · rw[ao (fun q=>e (kO q)),ao e]
theorem wA {ks:List Str}{f:Str->V}{x:Str}{v:V}(h:x ∉ ks):putK (dV ks f) (Sum.inr x) v=dV (ks++[x]) (fun z=>if z=x then v else f z):=by
  have ha:¬((dV ks f).any fun kv=>decide (kv.1=(Sum.inr x:Key)))=true:=by
    rw[iM];rintro ⟨kv,h1,h2⟩;obtain⟨z,hz,rfl⟩:=br.mp h1;have h2:z=x:=kO (aP h2);subst h2;exact h hz
  unfold putK;rw[ao ha];unfold dV;rw[aT]
  congr 1
  · apply jr;intro z hz;have:¬z=x:=fun e=>h (e▸hz)
    show _=(Sum.inr z,if z=x then v else f z);rw[ao this]
  · show [(Sum.inr x,v)] = [(Sum.inr x,if x=x then v else f x)];rw[aq rfl]
theorem sS {ks:List Str}{f g:Str->V}(h:∀x∈ks,f x=g x):dV ks f=dV ks g:=by
  unfold dV;apply jr;intro x hx;rw[h x hx]
theorem ji (ks:List Str) (f:Str->V):(dV ks f).length=ks.length:=ay _
theorem DG (ks:List Str) (f:Str->V):((dV ks f).map fun kv=>kV kv.1)=ks.map V.str:=by
  unfold dV;rw[fO];rfl
theorem TZ (ks:List Str) (f:Str->V):((dV ks f).map (·.2))=ks.map f:=by
  unfold dV;rw[fO];rfl
def zn (ts:List aQ) (ss:List Str):List Str:=ss.filter fun x=>decide (aC ts x=x)
def pJ (ts:List aQ) (ss:List Str) (k:Str):List Str:=ss.filter fun x=>decide (aC ts x=k)
def uo (us:List Str) (ts:List aQ):List (List Str):=(zn ts (aL us)).map (pJ ts (aL us))
theorem MN {ts:List aQ}{ss:List Str}{i:Nat}{u:Str}(h:ss[i]? = some u):zn ts (ss.take (i+1))=zn ts (ss.take i)++(if aC ts u=u then [u] else []):=by
  unfold zn;rw[aS,h,iH]
  by_cases c:aC ts u=u
  · rw[aq c];simp[c]
  · rw[ao c];simp[c]
theorem IP {ts:List aQ}{ss:List Str}{i:Nat}{u k:Str}(h:ss[i]? = some u):pJ ts (ss.take (i+1)) k=pJ ts (ss.take i) k++(if aC ts u=k then [u] else []):=by
  unfold pJ;rw[aS,h,iH]
  by_cases c:aC ts u=k
  · rw[aq c];simp[c]
  · rw[ao c];simp[c]
theorem IQ (ts:List aQ) (x:Str):aC ts (aC ts x)=aC ts x:=((Af ts).eq x _ ((Af ts).to x)).symm
theorem IT (ts:List aQ) (x:Str):¬co x<co (aC ts x):=(Af ts).le x x (.refl x)
theorem T3 {us:List Str}{ts:List aQ}(nd:us.Nodup) (ht:∀t∈ts,t.a∈us/\t.b∈us) {i:Nat}{u:Str}(h:(aL us)[i]? = some u) (mY:aC ts u≠u):aC ts u∈zn ts ((aL us).take i):=by
  have hu:u∈us:=j8.mp (bN h);have hl:aC ts u∈aL us:=j8.mpr (MJ hu ht);obtain⟨j,hj,ej⟩:=lg.mp hl;have T4:(aL us)[j]? = some (aC ts u):=by rw[bz hj,ej]
  have cQ:co (aC ts u)<co u:=d9 fun k=>mY (DB k (IT ts u))
  have qi:=TY (Gb nd) T4 h cQ;unfold zn;rw[cF];refine⟨?_,aO (IQ ts u)⟩;rw[l9];exact⟨j,by lia,ej⟩
theorem T5 {us:List Str}{ts:List aQ}(nd:us.Nodup) {i:Nat}{u:Str}(h:(aL us)[i]? = some u):u ∉ zn ts ((aL us).take i)/\(aC ts u=u->pJ ts ((aL us).take i) u = []):=by
  have hi:=(bV.mp h).1;have eu:=(bV.mp h).2;have cQ:∀x∈(aL us).take i,co x<co u:=by
    intro x hx;obtain⟨j,hj,ej⟩:=l9.mp hx;have:=(lY.mp (Gb nd)) j i (by lia) hi (by lia);rw[ej,eu] at this;exact this
  refine⟨fun z=>?_,fun e=>?_⟩
  · have:=cQ u (cF.mp z).1;exact fk _ this
  · unfold pJ;rw[qI];intro x hx c;have c:aC ts x=u:=aP c;have:=IT ts x;rw[c] at this;exact this (cQ x hx)
section
variable {us:List Str}{ts:List aQ}
theorem pT {k:Str}:k∈zn ts (aL us)↔k∈us/\aC ts k=k:=by
  unfold zn;rw[cF,j8,dg]
theorem uY (nd:us.Nodup):(zn ts (aL us)).Nodup:=(IL nd).sublist (l8 ..)
theorem MO (nd:us.Nodup):(zn ts (aL us)).Pairwise (fun a b=>co a<co b):=(Gb nd).sublist (l8 ..)
theorem T6 (nd:us.Nodup) (k:Str):(pJ ts (aL us) k).Pairwise (fun a b=>co a<co b):=(Gb nd).sublist (l8 ..)
theorem sq {k y:Str}:y∈pJ ts (aL us) k↔y∈us/\aC ts y=k:=by
  unfold pJ;rw[cF,j8,dg]
theorem yw (ht:∀t∈ts,t.a∈us/\t.b∈us) {x:Str}(hx:x∈us):aC ts x∈zn ts (aL us):=pT.mpr ⟨MJ hx ht,IQ ts x⟩
theorem MP (nd:us.Nodup) {k:Str}(hk:k∈zn ts (aL us)):∃r,pJ ts (aL us) k=k::r:=by
  obtain⟨h1,h2⟩:=pT.mp hk;have hm:k∈pJ ts (aL us) k:=sq.mpr ⟨h1,h2⟩;have hp:=T6 (ts:=ts) nd k;cases e:pJ ts (aL us) k with
  | nil=>rw[e] at hm;cases hm
  | cons x r=>
    rw[e] at hm hp;rcases aN.mp hm with z | z
    · rw[z];exact⟨r,rfl⟩
    · have h3:=(iG.mp hp).1 k z;have hx:x∈pJ ts (aL us) k:=by rw[e];simp
      have h4:=IT ts x;rw[(sq.mp hx).2] at h4;exact absurd h3 h4
theorem IU (nd:us.Nodup):(uo us ts).length<=us.length:=by
  unfold uo;rw[ay];have:=gE (fun x=>decide (aC ts x=x)) (aL us);rw[IM] at this;exact this
end
theorem MQ {one at':Int}{k size:Nat}(h:size<=12):(qu one at' k 12).take size=qu one at' k size:=by
  unfold qu;rw[←kJ,List.take_range,Nat.min_eq_left h]
def wB (one at':Int) (tu:Bool) (size k:Nat):Str:=o6 ((qu one at' (if tu then k else 0) 12).take (if tu then size else 1+(size+k)%12))
def Bo (one at':Int) (tu:Bool) (size:Nat):List Str:=(List.range 8).map (wB one at' tu size)
theorem T8 {one at':Int}{tu:Bool}{size:Nat}(h0:0<=at') (h1:at'<size) (h2:1<=size) (h3:size<=12):(Bo one at' tu size).Nodup/\(∀x∈Bo one at' tu size,sP x=true)/\(Bo one at' tu size).length=8:=by
  refine⟨?_,?_,by unfold Bo;simp⟩
  · unfold Bo;refine IA fun i j hi hj e=>?_
    unfold wB at e;cases tu with
    | true=>
      rw[aq rfl,aq rfl,aq rfl,MQ h3,MQ h3] at e;exact TF h0 h1 (by lia) (by lia) (Mx e)
    | false=>
      rw[ao bJ,ao bJ,ao bJ] at e;have:=bT List.length (Mx e);simp only [bF,Bj] at this;lia
  · intro x hx;unfold Bo at hx;obtain⟨k,hk,rfl⟩:=br.mp hx;unfold wB;refine TJ ?_ ?_ ?_
    · rw[Ac,bF,Bj];split<;>lia
    · rw[Ac,bF,Bj];split<;>lia
    · intro c hc;rw[Ac] at hc;exact TL (ly hc)
def wC (xs:List Str) (ps:List Int) (x:Str):Int:=ps.getD (xs.idxOf x) 0
theorem MR {xs:List Str}{ps:List Int}(nd:xs.Nodup) {i:Nat}{x:Str}{p:Int}(hx:xs[i]? = some x) (hp:ps[i]? = some p):wC xs ps x=p:=by
  unfold wC;have hi:=(bV.mp hx).1;have ex:=(bV.mp hx).2;have:xs.idxOf x=i:=by
    rw[←ex];exact nd.idxOf_getElem i hi
  rw[this,cR,hp];rfl
structure c8 where
  n:Str
  u:Str
  lo:Int
  hi:Int
def gK (f:c8):List V:=[.str f.n,.str f.u,.int f.lo,.int f.hi]
structure uZ (us:List Str) (f:c8):Prop where
  n:sP f.n=true
  u:f.u∈us
  le:f.lo<=f.hi
  lo:uX f.lo
  hi:uX f.hi
theorem nB.mono {us yv:List Str}{t:aQ}(h:nB us t) (s:∀x∈us,x∈yv):nB yv t:=⟨h.ok.mono s,s _ h.a,s _ h.b⟩
theorem uZ.mono {us yv:List Str}{f:c8}(h:uZ us f) (s:∀x∈us,x∈yv):uZ yv f:=⟨h.n,s _ h.u,h.le,h.lo,h.hi⟩
theorem uZ.words {us:List Str}{f:c8}(h:uZ us f) (hu:∀x∈us,sP x=true):∀v∈gK f,Wd v:=by
  intro v hv;simp[gK] at hv;rcases hv with rfl | rfl | rfl | rfl
  · exact .inl ⟨_,rfl,b7 (IB h.n) (by decide)⟩
  · exact .inl ⟨_,rfl,b7 (IB (hu _ h.u)) (by decide)⟩
  · exact .inr ⟨_,rfl,h.lo⟩
  · exact .inr ⟨_,rfl,h.hi⟩
structure Gf (lo hi:Int) (us:List Str) (ts:List aQ) (fs:List c8):Prop where
  fr:lo<=hi
  ylo:uX lo
  MS:uX hi
  nd:us.Nodup
  nm:∀x∈us,sP x=true
  ul:us.length<=8
  tok:∀t∈ts,nB us t
  yx:ts.Nodup
  tl:ts.length<=16
  Bp:∀f∈fs,uZ us f
  MT:(fs.map c8.n).Nodup
  fl:fs.length<=6
theorem Gf.tw {lo hi:Int}{us:List Str}{ts:List aQ}{fs:List c8}(h:Gf lo hi us ts fs):∀vs∈ts.map cH,∀v∈vs,Wd v:=fun vs hv=>by
  obtain⟨u,hu,rfl⟩:=br.mp hv;exact ((h.tok u hu).ok.words h.nm).1
structure kX (K:aF) (H:Hp) (p pm pu pt pf:ah) (lo hi:Int) (us:List Str) (ts:List aQ) (fs:List c8) (at' af:List ah):Prop where
  p:bu K H p [.ref pm,.ref pu,.ref pt,.ref pf]
  at':o7 K H pm pu pt pf lo hi us (ts.map cH) (fs.map gK) at' af
theorem kX.same {K:aF}{H H':Hp}{p pm pu pt pf:ah}{lo hi:Int}{us:List Str}{ts:List aQ}{fs:List c8}{at' af:List ah}(h:kX K H p pm pu pt pf lo hi us ts fs at' af) (s:ak H H'):kX K H' p pm pu pt pf lo hi us ts fs at' af:=
  ⟨s.tup h.p,h.at'.same s⟩
theorem T9 {xs:List Str}(nd:xs.Nodup) (t m:Nat):((xs.drop t++xs.take t).filter fun x=>decide (x∈xs.take m)).Nodup/\∀x,x∈(xs.drop t++xs.take t).filter (fun x=>decide (x∈xs.take m))↔x∈xs.take m:=by
  have pm:(xs.drop t++xs.take t).Perm xs:=by
    have:=List.perm_append_comm (l₁:=xs.drop t) (l₂:=xs.take t)
    rwa [qJ] at this
  refine⟨(pm.nodup_iff.mpr nd).sublist (l8 ..),fun x=>?_⟩;rw[cF,dg,pm.mem_iff];exact⟨fun h=>h.2,fun h=>⟨ly h,h⟩⟩
theorem Ua {xs:List V}{z:Int}(h0:0<=z) (h1:z<=xs.length):jg xs (some z) none=xs.drop z.toNat:=by
  unfold jg HT.dO;simp;split
  · lia
  · rw[Nat.min_eq_left (by lia)];apply ou;rw[kD];lia
abbrev Ln:=Str->List (Str×ah)
def cG (ts:List aQ) (z:List (aQ×ah)):Ln:=fun k=>(z.filter fun p=>decide (p.1.k≠dw/\aC ts p.1.a=k)).map fun p=>(aC ts p.1.b,p.2)
theorem MU {ts:List aQ}{z:List (aQ×ah)}{i:Nat}{t:aQ}{r:ah}{k:Str}(h:z[i]? = some (t,r)):cG ts (z.take (i+1)) k=cG ts (z.take i) k++(if t.k≠dw/\aC ts t.a=k then [(aC ts t.b,r)] else []):=by
  unfold cG;rw[aS,h,iH,aT]
  by_cases c:t.k≠dw/\aC ts t.a=k
  · rw[aq c];simp[c.1,c.2]
  · rw[ao c]
    congr 1
    have:((some (t,r)).toList.filter fun p=>decide (p.1.k≠dw/\aC ts p.1.a=k)) = []:=by
      rw[qI];intro p hp;have:p=(t,r):=by simpa using hp
      subst this;intro e;exact c (aP e)
    rw[this];rfl
theorem lU {ts:List aQ}{z:List (aQ×ah)}{k l:Str}{r:ah}:(l,r)∈cG ts z k↔∃t,(t,r)∈z/\t.k≠dw/\aC ts t.a=k/\aC ts t.b=l:=by
  unfold cG;rw[br];constructor
  · rintro ⟨⟨t,r'⟩,h,e⟩;rw[cF,dg] at h;simp only [Prod.mk.injEq] at e;obtain⟨e1,e2⟩:=e;subst e2;exact⟨t,h.1,h.2.1,h.2.2,e1⟩
  · rintro ⟨t,h1,h2,h3,h4⟩;refine⟨(t,r),?_,by simp[h4]⟩;rw[cF,dg];exact⟨h1,h2,h3⟩
theorem Gg {ts:List aQ}{z:List (aQ×ah)}{k:Str}:(cG ts z k).length<=z.length:=by
  unfold cG;rw[ay];exact gE _ _
inductive Wk (ln:Ln) (s:Str):List ah->Str->Prop
  | nil:Wk ln s [] s
  | snoc {rs:List ah}{m l:Str}{r:ah}(w:Wk ln s rs m) (h:(l,r)∈ln m):Wk ln s (rs++[r]) l
def Rc (ln:Ln) (s:Str) (n:Nat) (v:Str):Prop:=∃rs,Wk ln s rs v/\rs.length=n
theorem Rc.zero {ln:Ln}{s v:Str}(h:Rc ln s 0 v):v=s:=by
  obtain⟨rs,w,e⟩:=h;cases w with
  | nil=>rfl
  | snoc w h=>simp at e
theorem Rc.succ {ln:Ln}{s v:Str}{n:Nat}(h:Rc ln s (n+1) v):∃u r,Rc ln s n u/\(v,r)∈ln u:=by
  obtain⟨rs,w,e⟩:=h;cases w with
  | nil=>simp at e
  | snoc w h=>exact⟨_,_,⟨_,w,by simpa using e⟩,h⟩
theorem Rc.step {ln:Ln}{s v u:Str}{n:Nat}{r:ah}(h:Rc ln s n u) (e:(v,r)∈ln u):Rc ln s (n+1) v:=by
  obtain⟨rs,w,q⟩:=h;exact⟨_,w.snoc e,by simp[q]⟩
structure Bf (ln:Ln) (s:Str) (d:Nat) (M ns:List Str):Prop where
  met:∀v∈M,∃j,1<=j/\j<=d/\Rc ln s j v
  no:∀j,1<=j->j<=d->¬Rc ln s j s
  all:∀v,Rc ln s d v->(∀j,1<=j->j<d->¬Rc ln s j v)->v∈ns
theorem Bf.zero {ln:Ln}{s:Str}:Bf ln s 0 [] [s]:=
  ⟨fun v h=>(cW h).elim,fun j h1 h2=>by lia,fun v h _=>by rw[h.zero];simp⟩
theorem Bf.succ {ln:Ln}{s:Str}{d:Nat}{M ns ms:List Str}(b:Bf ln s d M ns) (hm:∀v∈ms,Rc ln s (d+1) v) (hs:∀u∈ns,∀v r,(v,r)∈ln u->v≠s/\v∈M++ms):Bf ln s (d+1) (M++ms) ms:=by
  refine⟨fun v h=>?_,fun j h1 h2 q=>?_,fun v h hj=>?_⟩
  · rcases bM.mp h with h | h
    · obtain⟨j,a,c,e⟩:=b.met v h;exact⟨j,a,by lia,e⟩
    · exact⟨d+1,by lia,by lia,hm v h⟩
  · by_cases c:j<=d
    · exact b.no j h1 c q
    · have e:j=d+1:=by lia
      subst e;obtain⟨u,r,hu,he⟩:=q.succ
      by_cases c2:∃j,1<=j/\j<d/\Rc ln s j u
      · obtain⟨j,a1,a2,a3⟩:=c2;exact b.no (j+1) (by lia) (by lia) (a3.step he)
      · exact (hs u (b.all u hu fun j a1 a2 a3=>c2 ⟨j,a1,a2,a3⟩) s r he).1 rfl
  · obtain⟨u,r,hu,he⟩:=h.succ;have dz:u∈ns:=b.all u hu fun j a1 a2 a3=>hj (j+1) (by lia) (by lia) (a3.step he)
    rcases bM.mp (hs u dz v r he).2 with h | h
    · obtain⟨j,a1,a2,a3⟩:=b.met v h;exact absurd a3 (hj j a1 (by lia))
    · exact h
theorem Bf.done {ln:Ln}{s:Str}{d:Nat}{M:List Str}(b:Bf ln s d M []):∀j,1<=j->¬Rc ln s j s:=by
  have low:∀j v,1<=j->Rc ln s j v->∃j',1<=j'/\j'<=d/\Rc ln s j' v/\j'<max d 1:=by
    intro j
    induction j with
    | zero=>intro v h;lia
    | succ j ih=>
      intro v _ h;have DH:Rc ln s d v->∃j',1<=j'/\j'<=d/\Rc ln s j' v/\j'<max d 1:=fun q=>by
        by_cases c:∃j,1<=j/\j<d/\Rc ln s j v
        · obtain⟨i,a1,a2,a3⟩:=c;exact⟨i,a1,by lia,a3,by lia⟩
        · exact nomatch b.all v q fun i a1 a2 a3=>c ⟨i,a1,a2,a3⟩
      by_cases c1:j+1<d
      · exact⟨j+1,by lia,by lia,h,by lia⟩
      · by_cases c2:j+1=d
        · exact DH (c2▸h)
        · obtain⟨u,r,hu,he⟩:=h.succ
          by_cases c3:j=0
          · have:d=0:=by lia
            subst this;subst c3;exact (nomatch b.all s ⟨[],.nil,rfl⟩ fun i a1 a2 a3=>by lia)
          · obtain⟨j',a1,a2,a3,a4⟩:=ih u (by lia) hu
            by_cases c4:j'+1=d
            · exact DH (c4▸a3.step he)
            · exact⟨j'+1,by lia,by lia,a3.step he,by lia⟩
  intro j h q;obtain⟨j',a1,a2,a3,_⟩:=low j s h q;exact b.no j' a1 a2 a3
structure Bn (H:Hp) (pd:ah) (ob:Obj) (keys:List Str) (ln:Ln) (ad:Str->ah) (bs:Str->List ah):Prop where
  d:H pd=some (.ie ob (.dK (dV keys fun k=>.ref (ad k))))
  l:∀k∈keys,H (ad k)=some (.lst ((bs k).map V.ref))
  e:∀k∈keys,Paired (fun b (p:Str×ah)=>H b=some (.tup [.str p.1,.ref p.2])) (bs k) (ln k)
theorem Bn.same {H H':Hp}{pd:ah}{ob:Obj}{keys:List Str}{ln:Ln}{ad:Str->ah}{bs:Str->List ah}(b:Bn H pd ob keys ln ad bs) (s:ak H H'):Bn H' pd ob keys ln ad bs:=
  ⟨s _ _ b.d,fun k hk=>s _ _ (b.l k hk),fun k hk=>Paired.fV (b.e k hk) fun _ _ h=>s _ _ h⟩
theorem uq {α:Type}{F:ah->α->Prop}{as:List ah}{ps:List α}{i:Nat}{x:V}(t:Paired F as ps) (hx:(as.map V.ref)[i]? = some x):∃q p,x = .ref q/\ps[i]? = some p/\as[i]? = some q/\F q p:=by
  rw[aM] at hx;cases e:as[i]? with
  | none=>rw[e] at hx;cases hx
  | some q=>
    rw[e] at hx;cases hx;obtain⟨p,h1,h2⟩:=Paired.get' t e;exact⟨q,p,rfl,h1,rfl,h2⟩
def MV (H:Hp) (b:ah) (e:Str×List ah):Prop:=∃q,H b=some (.tup [.str e.1,.ref q])/\H q=some (.lst (e.2.map V.ref))
def IV (pl:ah) (H:Hp) (b:ah) (e:Str×List ah):Prop:=∃q,q≠pl/\H b=some (.tup [.str e.1,.ref q])/\H q=some (.lst (e.2.map V.ref))
def iu:Str->V:=fun _=>.bl true
theorem IW {M:List Str}{v:Str}(h:v ∉ M):putK (dV M iu) (Sum.inr v) (.bl true)=dV (M++[v]) iu:=by
  rw[wA h];refine sS fun z _=>?_
  unfold iu;split<;>rfl
structure u0 (Hw H':Hp) (pm pl:ah) (ln:Ln) (s:Str) (keys M:List Str) (d:Nat) (ml:List ah) (fs:List (Str×List ah)):Prop where
  kp:∀b o,b≠pm->Hw b=some o->H' b=some o
  m:H' pm=some (.dK (dV (M++fs.map Prod.fst) iu))
  l:H' pl=some (.lst (ml.map V.ref))
  w:Paired (IV pl H') ml fs
  ok:∀e∈fs,Wk ln s e.2 e.1/\e.2.length=d+1/\e.1∈keys
  nd:(M++fs.map Prod.fst).Nodup
section
variable {Hw H':Hp}{pm pl:ah}{ln:Ln}{s:Str}{keys M:List Str}{d:Nat}{ml:List ah}{fs:List (Str×List ah)}
theorem u0.add (g:u0 Hw H' pm pl ln s keys M d ml fs) (hw:Hw pl=none) (yy:pl≠pm) {v:Str}{rs:List ah}(hv:v ∉ M++fs.map Prod.fst) {H2:Hp}(s2:ak (upd H' pm (.dK (dV (M++fs.map Prod.fst++[v]) iu))) H2) {q b:ah}
    (hq:H2 q=some (.lst (rs.map V.ref))) (nq:q≠pl) (hb:H2 b=some (.tup [.str v,.ref q])) (ok:Wk ln s rs v/\rs.length=d+1/\v∈keys) :
    u0 Hw (upd H2 pl (.lst (ml.map V.ref++[.ref b]))) pm pl ln s keys M d (ml++[b]) (fs++[(v,rs)]):=by
  have l2:H2 pl=some (.lst (ml.map V.ref)):=s2 _ _ (by rw[zr yy];exact g.l);have wV:∀b vs,H2 b=some (.tup vs)->b≠pl:=fun b vs e z=>by rw[z,l2] at e;cases e
  refine⟨fun c o n e=>?_,?_,?_,?_,fun e he=>?_,?_⟩
  · rw[zr (zv e hw)];exact s2 _ _ (by rw[zr n];exact g.kp c o n e)
  · rw[zr (aD yy),aT,←mG];exact s2 _ _ zb
  · rw[zb,aT];rfl
  · refine Paired.snoc (Paired.fV g.w fun c e h=>?_) ?_
    · obtain⟨q',n',h1,h2⟩:=h;have yz:=s2 _ _ (show upd H' pm (.dK (dV (M++fs.map Prod.fst++[v]) iu)) c=_ by rw[zr (fun z=>by rw[z,g.m] at h1;cases h1)];exact h1);have Ub:=s2 _ _ (show upd H' pm (.dK (dV (M++fs.map Prod.fst++[v]) iu)) q'=_ by rw[zr (fun z=>by rw[z,g.m] at h2;cases h2)];exact h2);exact⟨q',n',by rw[zr (wV _ _ yz)];exact yz,by rw[zr n'];exact Ub⟩
    · exact⟨q,nq,by rw[zr (wV _ _ hb)];exact hb,by rw[zr nq];exact hq⟩
  · rcases bM.mp he with he | he
    · exact g.ok e he
    · have:e=(v,rs):=by simpa using he
      subst this;exact ok
  · rw[aT,←mG];rw[jV];refine⟨g.nd,by simp,fun a ha c hc e=>?_⟩;have hc:c=v:=by simpa using hc
    subst hc;subst e;exact hv ha
end
theorem Bn.get {H:Hp}{pd:ah}{ob:Obj}{keys:List Str}{ln:Ln}{ad:Str->ah}{bs:Str->List ah}(b:Bn H pd ob keys ln ad bs) {k:Str}(hk:k∈keys):cj H pd (.str k) (some (.ref (ad k))):=by
  have:cj H pd (kV (Sum.inr k)) (e8 (dV keys fun k=>.ref (ad k)) (Sum.inr k)):=.inl ⟨_,_,.inr ⟨ob,b.d⟩,rfl,rfl⟩
  rwa [o8 hk] at this
def MW (ln:Ln) (s:Str) (rs:List ah):Prop:=(rs = []/\∀j,1<=j->¬Rc ln s j s)\/(rs≠[]/\Wk ln s rs s/\∀j,1<=j->j<rs.length->¬Rc ln s j s)
def lV (ln:Ln) (keys:List Str) (rs:List ah):Prop:=(rs = []/\∀s∈keys,∀j,1<=j->¬Rc ln s j s)\/(rs≠[]/\(∃s∈keys,Wk ln s rs s)/\∀s∈keys,∀j,1<=j->j<rs.length->¬Rc ln s j s)
theorem lV.nil {ln:Ln}:lV ln [] []:=.inl ⟨rfl,fun s h=>(cW h).elim⟩
theorem lV.step {ln:Ln}{keys:List Str}{u:Str}{rs xs:List ah}(h:lV ln keys rs) (g:MW ln u xs):lV ln (keys++[u]) (if xs≠[]/\(rs = []\/xs.length<rs.length) then xs else rs):=by
  have mem:∀{s:Str},s∈keys++[u]->s∈keys\/s=u:=fun h=>by simpa using h
  have low:∀{n:Nat},n<=xs.length\/xs = []->∀j,1<=j->j<n->¬Rc ln u j u:=fun hn j h1 h2=>by
    rcases g with ⟨e,g⟩ | ⟨e,_,g⟩
    · exact g j h1
    · exact g j h1 (by rcases hn with hn | hn;lia;exact absurd hn e)
  by_cases c:xs≠[]/\(rs = []\/xs.length<rs.length)
  · rw[aq c];rcases g with ⟨e,_⟩ | ⟨_,g1,g2⟩
    · exact absurd e c.1
    · refine .inr ⟨c.1,⟨u,by simp,g1⟩,fun s hs j h1 h2=>?_⟩;rcases mem hs with hs | rfl
      · rcases h with ⟨_,h⟩ | ⟨hn,_,h⟩
        · exact h s hs j h1
        · rcases c.2 with z | z
          · exact absurd z hn
          · exact h s hs j h1 (by lia)
      · exact g2 j h1 h2
  · rw[ao c];rcases h with ⟨e,h⟩ | ⟨hn,⟨s,hs,hw⟩,h⟩
    · have ex:xs = []:=d9 fun z=>c ⟨z,.inl e⟩
      refine .inl ⟨e,fun s hs j h1=>?_⟩;rcases mem hs with hs | rfl
      · exact h s hs j h1
      · rcases g with ⟨_,g⟩ | ⟨z,_⟩
        · exact g j h1
        · exact absurd ex z
    · refine .inr ⟨hn,⟨s,ee _ hs,hw⟩,fun s hs j h1 h2=>?_⟩;rcases mem hs with hs | rfl
      · exact h s hs j h1 h2
      · refine low (n:=rs.length) ?_ j h1 h2
        by_cases z:xs = []
        · exact .inr z
        · exact .inl (mJ fun q=>c ⟨z,.inr q⟩)
theorem DI {us:List Str}{ts:List aQ}{av:List ah}(ht:∀t∈ts,t.a∈us/\t.b∈us):∀k∈zn ts (aL us),∀l r,(l,r)∈cG ts (ts.zip av) k->l∈zn ts (aL us):=by
  intro k _ l r h;obtain⟨t,h1,_,_,rfl⟩:=lU.mp h;exact yw ht (ht t (jH h1).1).2
theorem Ai {ks:List Str}{f:Str->V}{i:Nat}{k:Key}{v:V}(h:(dV ks f)[i]? = some (k,v)):∃u,ks[i]? = some u/\k=Sum.inr u/\v=f u:=by
  unfold dV at h;rw[aM] at h;cases e:ks[i]? with
  | none=>rw[e] at h;cases h
  | some u=>
    rw[e] at h;cases h;exact⟨u,rfl,rfl,rfl⟩
theorem Uc {us:List Str}(P:Nat->Str->Bool) (mono:∀k x,P k x=true->P (k+1) x=true) (prog:∀k,(∃x∈us,P k x=false)->∃z∈us,P k z=false/\P (k+1) z=true):∀x∈us,P us.length x=true:=by
  intro x hx;refine d9 fun hn=>?_
  have hn:P us.length x=false:=by simpa using hn
  have back:∀k,k<=us.length->P k x=false:=by
    intro k hk;cases e:P k x with
    | false=>rfl
    | true=>
      have:∀j,P (k+j) x=true:=by
        intro j
        induction j with
        | zero=>exact e
        | succ j ih=>exact mono _ _ ih
      have:=this (us.length-k);rw[show k+(us.length-k)=us.length by lia,hn] at this;cases this
  have cnt:∀k,k<=us.length->k<=us.countP (P k):=by
    intro k
    induction k with
    | zero=>intro _;exact dj _
    | succ k ih=>
      intro hk;have h1:=ih (by lia);obtain⟨z,hz,z1,z2⟩:=prog k ⟨x,hx,back k (by lia)⟩;have h2:us.countP (P k)<us.countP (P (k+1)):=by
        have gen:∀(l:List Str),us.Sublist us->(∀y∈l,P k y=true->P (k+1) y=true)->z∈l->l.countP (P k)<l.countP (P (k+1)):=by
          intro l _ hm hz
          induction l with
          | nil=>cases hz
          | cons y r Ud=>
            rw[List.countP_cons,List.countP_cons];have le:r.countP (P k)<=r.countP (P (k+1)):=List.countP_mono_left fun y hy e=>hm y (bD _ hy) e
            rcases aN.mp hz with e | hz
            · subst e;rw[z1,z2];simp;lia
            · have:=Ud (fun y hy=>hm y (bD _ hy)) hz;have h3:(if P k y=true then 1 else 0)<=(if P (k+1) y=true then 1 else 0):=by
                by_cases c:P k y=true
                · rw[aq c,aq (hm y (by simp) c)];exact aH _
                · rw[ao c];exact dj _
              lia
        exact gen us (List.Sublist.refl _) (fun y _=>mono k y) hz
      lia
  have h1:=cnt us.length (aH _);have h2:us.countP (P us.length)<us.length:=by
    have:=List.countP_le_length (p:=P us.length) (l:=us);rcases Nat.lt_or_ge (us.countP (P us.length)) us.length with h | h
    · exact h
    · have e:us.countP (P us.length)=us.length:=by lia
      rw[List.countP_eq_length] at e;have:=e x hx;rw[hn] at this;cases this
  lia
def kY (bE:Str->Str) (t:aQ):Str->Str:=if t.k=dw then fun x=>if x=t.a\/x=t.b then j7 (bE t.a) (bE t.b) else bE x else bE
def o9 (ts:List aQ) (bE:Str->Str):Str->Str:=ts.foldl kY bE
def fD (ts:List aQ):Nat->Str->Str
  | 0=>id
  | n+1=>o9 ts (fD ts n)
theorem MX {ts:List aQ}{bE:Str->Str}{i:Nat}{t:aQ}(h:ts[i]? = some t):o9 (ts.take (i+1)) bE=kY (o9 (ts.take i) bE) t:=by
  unfold o9;rw[aS,h,oM];rfl
def DJ (ts:List aQ) (bE:Str->Str):Prop:=∀x,Cn ts x (bE x)
theorem Ue {ts:List aQ}{bE:Str->Str}{t:aQ}(ht:t∈ts) (h:DJ ts bE):DJ ts (kY bE t):=by
  intro x;unfold kY;split
  · next hk=>
    have n:Nb ts t.a t.b:=⟨t,ht,hk,.inl ⟨rfl,rfl⟩⟩;dsimp only;split
    · next hx=>
      rcases hx with rfl | rfl
      · rcases ID (bE t.a) (bE t.b) with e | e
        · rw[e];exact h _
        · rw[e];exact (Cn.one n).trans (h _)
      · rcases ID (bE t.a) (bE t.b) with e | e
        · rw[e];exact (Cn.one n.symm).trans (h _)
        · rw[e];exact h _
    · exact h x
  · exact h x
theorem Gh {x y z:Str}(h1:¬co x<co y) (h2:¬co y<co z):¬co x<co z:=by
  rw[kT] at *;exact List.le_trans h2 h1
theorem Ug (bE:Str->Str) (t:aQ) (x:Str):¬co (bE x)<co (kY bE t x):=by
  unfold kY;split
  · dsimp only;split
    · next hx=>
      rcases hx with rfl | rfl
      · exact IE _ _
      · exact IF _ _
    · exact fk _
  · exact fk _
theorem MY {ts:List aQ}:∀(us:List aQ) (bE:Str->Str),(∀t∈us,t∈ts)->DJ ts bE->DJ ts (o9 us bE)
  | [],bE,_,h=>h
  | t::r,bE,hs,h=>MY r (kY bE t) (fun u hu=>hs u (bD _ hu)) (Ue (hs t (by simp)) h)
theorem DK:∀(us:List aQ) (bE:Str->Str) (x:Str),¬co (bE x)<co (o9 us bE x)
  | [],bE,x=>fk _
  | t::r,bE,x=>Gh (Ug bE t x) (DK r (kY bE t) x)
theorem Uh {ts:List aQ}(bE:Str->Str) {y z:Str}(n:Nb ts y z):¬co (bE y)<co (o9 ts bE z):=by
  obtain⟨t,ht,hk,h⟩:=n;obtain⟨A,B,e⟩:=List.append_of_mem ht;subst e;have e:o9 (A++t::B) bE=o9 B (kY (o9 A bE) t):=by unfold o9;rw[oM];rfl
  rw[e];refine Gh ?_ (DK B _ z);unfold kY;rw[aq hk]
  try dsimp only
  rcases h with ⟨rfl,rfl⟩ | ⟨rfl,rfl⟩
  · rw[aq (.inr rfl)];exact Gh (DK A bE _) (IE _ _)
  · rw[aq (.inl rfl)];exact Gh (DK A bE _) (IF _ _)
theorem MZ (ts:List aQ):∀n,DJ ts (fD ts n)
  | 0=>fun x=>.refl x
  | n+1=>MY ts _ (fun _ h=>h) (MZ ts n)
theorem M0 (ts:List aQ) (n:Nat) (x:Str):¬co (fD ts n x)<co (aC ts x):=(Af ts).le x _ (MZ ts n x)
theorem Ui {us:List Str}{ts:List aQ}(ht:∀t∈ts,t.a∈us/\t.b∈us):∀x∈us,fD ts us.length x=aC ts x:=by
  intro x hx;have mono:∀k x,fD ts k x=aC ts x->fD ts (k+1) x=aC ts x:=fun k x e=>by
    have h1:=DK ts (fD ts k) x;rw[e] at h1;exact DB (M0 ts (k+1) x) h1
  have:=Uc (us:=us) (fun k x=>decide (fD ts k x=aC ts x)) (fun k x e=>aO (mono k x (aP e))) ?_ x hx
  · exact aP this
  · rintro k ⟨x,hx,e⟩;have e:¬fD ts k x=aC ts x:=iI e;have top:fD ts k (aC ts x)=aC ts (aC ts x):=by
      clear e;rename_i e;clear e
      induction k with
      | zero=>rw[IQ];rfl
      | succ k ih=>exact mono k _ ih
    have c:Cn ts (aC ts x) x:=((Af ts).to x).symm;have walk:∀y,Cn ts (aC ts x) y->fD ts k y≠aC ts y->∃a b,Nb ts a b/\fD ts k a=aC ts a/\fD ts k b≠aC ts b:=by
      intro y c
      induction c with
      | refl=>intro h;exact absurd top h
      | @step y z c n ih=>
        intro h
        by_cases q:fD ts k y=aC ts y
        · exact⟨y,z,n,q,h⟩
        · exact ih q
    obtain⟨a,b,n,ha,hb⟩:=walk x c e;refine⟨b,n.mem ht,aV hb,aO ?_⟩;have h1:=Uh (ts:=ts) (fD ts k) n;rw[ha,(Af ts).eq a b (Cn.one n)] at h1;exact DB (M0 ts (k+1) b) h1
abbrev Lk:=List (Str×Str)
theorem Wk.seq {ln:Ln}{s t:Str}{rs:List ah}(w:Wk ln s rs t):∃vs:Nat->Str,vs 0=s/\vs rs.length=t/\∀i,i<rs.length->∃r,rs[i]? = some r/\(vs (i+1),r)∈ln (vs i):=by
  induction w with
  | nil=>exact⟨fun _=>s,rfl,rfl,fun i h=>by simp at h⟩
  | @snoc rs m l r w h ih=>
    obtain⟨vs,h0,h1,h2⟩:=ih;refine⟨fun i=>if i=rs.length+1 then l else vs i,?_,?_,fun i hi=>?_⟩
    · dsimp only;rw[ao (by lia)];exact h0
    · dsimp only;rw[aq (by simp)]
    · dsimp only;rw[bL] at hi;have hi:i<rs.length+1:=hi
      by_cases c:i=rs.length
      · subst c;rw[aq rfl,ao (by lia),h1];exact⟨r,by simp,h⟩
      · obtain⟨r',e,q⟩:=h2 i (by lia);rw[ao (by lia),ao (by lia)];exact⟨r',by rw[jl (by lia)];exact e,q⟩
def qY (ts:List aQ):Lk:=(ts.filter fun t=>decide (t.k≠dw)).map fun t=>(aC ts t.a,aC ts t.b)
theorem Uj {ts:List aQ}{x y:Str}:(x,y)∈qY ts↔∃t∈ts,t.k≠dw/\aC ts t.a=x/\aC ts t.b=y:=by
  unfold qY;rw[br];constructor
  · rintro ⟨t,h,e⟩;rw[cF,dg] at h;simp only [Prod.mk.injEq] at e;exact⟨t,h.1,h.2,e⟩
  · rintro ⟨t,h1,h2,h3,h4⟩;exact⟨t,by rw[cF,dg];exact⟨h1,h2⟩,by rw[h3,h4]⟩
theorem Uk {ts:List aQ}{av:List ah}(hl:av.length=ts.length) {x y:Str}:(x,y)∈qY ts↔∃r,(y,r)∈cG ts (ts.zip av) x:=by
  rw[Uj];constructor
  · rintro ⟨t,h1,h2,h3,h4⟩;obtain⟨i,hi,e⟩:=lg.mp h1;refine⟨av[i]'(by lia),lU.mpr ⟨t,?_,h2,h3,h4⟩⟩;rw[lg];exact⟨i,by rw[g9];lia,by rw[List.getElem_zip,e]⟩
  · rintro ⟨r,h⟩;obtain⟨t,h1,h2,h3,h4⟩:=lU.mp h;exact⟨t,(jH h1).1,h2,h3,h4⟩
theorem Ul {ln:Ln}{F:List Str}(hn:F≠[]) (h:∀x∈F,∃y∈F,∃r,(y,r)∈ln x):∃s∈F,∃j,1<=j/\Rc ln s j s:=by
  obtain⟨x0,h0⟩:=List.exists_mem_of_ne_nil F hn;have hf:∃f:Str->Str,∀x∈F,f x∈F/\∃r,(f x,r)∈ln x:=by
    refine⟨fun x=>if c:x∈F then (h x c).choose else x,fun x hx=>?_⟩;dsimp only;rw[dif_pos hx];exact (h x hx).choose_spec
  obtain⟨f,hf⟩:=hf
  let x:Nat->Str:=fun n=>Nat.rec x0 (fun _ y=>f y) n
  have hx:∀n,x n∈F:=by
    intro n
    induction n with
    | zero=>exact h0
    | succ n ih=>exact (hf _ ih).1
  have go:∀i d,Rc ln (x i) d (x (i+d)):=by
    intro i d
    induction d with
    | zero=>exact⟨[],.nil,rfl⟩
    | succ d ih=>
      obtain⟨r,e⟩:=(hf _ (hx (i+d))).2;exact ih.step e
  have rep:∃i j,i<j/\x i=x j:=by
    refine qD fun hn=>?_
    have nd:((List.range (F.length+1)).map x).Nodup:=IA fun i j _ _ e=>by
      rcases kC i j with c | c | c
      · exact absurd ⟨i,j,c,e⟩ hn
      · exact c
      · exact absurd ⟨j,i,c,e.symm⟩ hn
    have:=sj nd (us:=F) fun y hy=>by
      obtain⟨i,_,rfl⟩:=br.mp hy;exact hx i
    simp at this;lia
  obtain⟨i,j,qi,e⟩:=rep;refine⟨x i,hx i,j-i,by lia,?_⟩;have:=go i (j-i)
  rwa [show i+(j-i)=j by lia,←e] at this
structure mZ (K:aF) (H:Hp) (p pu pt:ah) (x y:V) (us:List Str) (av:List ah) (ts:List aQ):Prop where
  p:bu K H p [x,.ref pu,.ref pt,y]
  u:aJ K H pu (us.map V.str)
  t:aJ K H pt (av.map V.ref)
  tt:cy H av (ts.map cH)
  nd:us.Nodup
  ul:us.length<64
  tl:ts.length<=900
  ok:∀t∈ts,nB us t
section
variable {K:aF}{H H':Hp}{p pu pt:ah}{x y:V}{us:List Str}{av:List ah}{ts:List aQ}
theorem mZ.same (h:mZ K H p pu pt x y us av ts) (s:ak H H'):mZ K H' p pu pt x y us av ts:=⟨s.tup h.p,s.seq h.u,s.seq h.t,h.tt.same s,h.nd,h.ul,h.tl,h.ok⟩
theorem mZ.ends (h:mZ K H p pu pt x y us av ts):∀t∈ts,t.a∈us/\t.b∈us:=fun t ht=>⟨(h.ok t ht).a,(h.ok t ht).b⟩
theorem mZ.len (h:mZ K H p pu pt x y us av ts):av.length=ts.length:=by have:=h.tt.len;rw[ay] at this;exact this
theorem mZ.j9 (h:mZ K H p pu pt x y us av ts):(zn ts (aL us)).length<=63:=by
  have:=IU (us:=us) (ts:=ts) h.nd;have:=h.ul;unfold uo at *;rw[ay] at *;lia
end
def Gi:Str:="after"
def dR (t:aQ):Int:=t.g.getD 0
theorem nB.after {us:List Str}{t:aQ}(h:nB us t) (e:t.k=Gi):kr (cH t) 3=some (.int (dR t)):=by
  have h:=h.ok;obtain⟨k,a,b,g⟩:=t;cases g with
  | some n=>exact nJ (xs:=cH ⟨k,a,b,some n⟩) (j:=3) rfl
  | none=>
    exfalso;unfold cH at h;simp only at h e;subst e;cases h with
    | plain hk hx hy=>revert hk;decide
theorem nB.plain {us:List Str}{t:aQ}(h:nB us t) (e:t.k≠Gi):dR t=0:=by
  have h:=h.ok;obtain⟨k,a,b,g⟩:=t;cases g with
  | none=>rfl
  | some n=>
    exfalso;unfold cH at h;simp only at h e;generalize ew:([V.str k,V.str a,V.str b,V.int n]:List V)=ws at h;cases h with
    | plain hk hx hy=>simp at ew
    | after hx hy h0 h1=>
      simp only [List.cons.injEq,V.str.injEq] at ew;exact e ew.1
abbrev fX:=Str×Str×Int×ah
def Aj (ts:List aQ) (z:List (aQ×ah)):List fX:=(z.filter fun p=>decide (p.1.k≠dw)).map fun p=>(aC ts p.1.a,aC ts p.1.b,dR p.1,p.2)
section
variable {K:aF}{H:Hp}{n:Nat}
theorem cy.u9 {as:List ah}{ts:List aQ}:cy H as (ts.map cH)->∀{t:aQ}{r:ah},(t,r)∈ts.zip as->H r=some (.tup (cH t))/\r∈as/\t∈ts:=by
  intro h t r hz;obtain⟨i,hi,e⟩:=lg.mp hz;have e':(ts.zip as)[i]? = some (t,r):=by rw[bz hi,e]
  obtain⟨e1,e2⟩:=jm.mp e';obtain⟨ws,h1,h2⟩:=Paired.get' h e2;rw[aM,e1] at h1;cases h1;exact⟨h2,bN e2,bN e1⟩
end
theorem M1 {α:Type}{xs:List α}{i:Nat}{v:α}(hi:i<xs.length) (h:xs[if i=0 then xs.length-1 else i-1]? = some v):kr xs (0+(i:Int)-1)=some v:=by
  unfold kr zO
  by_cases c:i=0
  · subst c;rw[aq rfl] at h;rw[ao (by lia),aq (by lia)];rw[show (0+((0:Nat):Int)-1+(xs.length:Int)).toNat=xs.length-1 by lia];exact h
  · rw[ao c] at h;rw[aq (by lia),aq (by lia),show (0+(i:Int)-1).toNat=i-1 by lia];exact h
structure Ak (ts:List aQ) (av:List ah) (rs:List ah) (vs:Nat->Str):Prop where
  at':∀i r,rs[i]? = some r->∃t,(t,r)∈ts.zip av/\t.k≠dw/\aC ts t.a=vs i/\aC ts t.b=vs (i+1)
  cl:vs 0=vs rs.length
theorem Wk.xB {ts:List aQ}{av:List ah}{s:Str}{rs:List ah}(w:Wk (cG ts (ts.zip av)) s rs s):∃vs,Ak ts av rs vs:=by
  obtain⟨vs,h0,h1,h2⟩:=w.seq;refine⟨vs,fun i r e=>?_,by rw[h0,h1]⟩;obtain⟨r',e',q⟩:=h2 i (iA e);rw[e] at e';cases e';obtain⟨t,a,b,c,d⟩:=lU.mp q;exact⟨t,a,b,c,d⟩
theorem lV.xB {us:List Str}{ts:List aQ}{av:List ah}{rs:List ah}(h:lV (cG ts (ts.zip av)) (zn ts (aL us)) rs):∃vs,Ak ts av rs vs:=by
  rcases h with ⟨e,_⟩ | ⟨_,⟨s,_,w⟩,_⟩
  · subst e;exact⟨fun _=>"",fun i r e=>by simp at e,rfl⟩
  · exact w.xB
theorem lV.len {ln:Ln}{keys:List Str}{rs xs:List ah}(h:lV ln keys rs) (g:lV ln keys xs):rs.length=xs.length:=by
  have low:∀{as bs:List ah},lV ln keys as->lV ln keys bs->as.length<=bs.length:=by
    intro as bs h g;rcases g with ⟨e,g⟩ | ⟨e,⟨s,hs,w⟩,_⟩
    · rcases h with ⟨e',_⟩ | ⟨e',⟨s,hs,w⟩,_⟩
      · rw[e,e'];exact aH _
      · exact absurd ⟨_,w,rfl⟩ (g s hs _ (jC.mpr e'))
    · rcases h with ⟨e',h⟩ | ⟨_,_,h⟩
      · rw[e'];exact dj _
      · exact mJ fun c=>h s hs _ (jC.mpr e) c ⟨_,w,rfl⟩
  exact Nat.le_antisymm (low h g) (low g h)
theorem lV.gh {ln:Ln}{keys:List Str}{rs:List ah}(h:lV ln keys rs):rs≠[]↔∃s∈keys,∃j,1<=j/\Rc ln s j s:=by
  rcases h with ⟨e,h⟩ | ⟨e,⟨s,hs,w⟩,_⟩
  · exact⟨fun z=>absurd e z,fun ⟨s,hs,j,hj,r⟩=>absurd r (h s hs j hj)⟩
  · exact⟨fun _=>⟨s,hs,_,jC.mpr e,_,w,rfl⟩,fun _=>e⟩
def fC (ln:Ln) (keys:List Str):Prop:=∀s∈keys,∀j,1<=j->¬Rc ln s j s
def ur (M:List Str) (L:List (Str×ah)):Bool:=L.all fun p=>decide (p.1∈M)
def sU (ln:Ln) (keys M:List Str):List Str:=keys.filter fun x=>decide (x ∉ M)&&ur M (ln x)
theorem Um {M:List Str}{L:List (Str×ah)}:ur M L=true↔∀l r,(l,r)∈L->l∈M:=by
  unfold ur;rw[gF];constructor
  · intro h l r hm;exact aP (h (l,r) hm)
  · intro h p hp;exact aO (h p.1 p.2 hp)
theorem i8 {ln:Ln}{keys M:List Str}{x:Str}:x∈sU ln keys M↔x∈keys/\x ∉ M/\∀l r,(l,r)∈ln x->l∈M:=by
  unfold sU;rw[cF,fj,dg,Um]
theorem Uo {ln:Ln}{keys M:List Str}(cl:∀k∈keys,∀l r,(l,r)∈ln k->l∈keys) (nr:fC ln keys) (hx:∃x∈keys,x ∉ M):sU ln keys M≠[]:=by
  intro z;obtain⟨x,h1,h2⟩:=hx;obtain⟨s,hs,j,hj,r⟩:=Ul (ln:=ln) (F:=keys.filter fun x=>decide (x ∉ M)) (List.ne_nil_of_mem (cF.mpr ⟨h1,aO h2⟩)) fun y hy=>by
    rw[cF,dg] at hy;refine qD fun hn=>?_
    have:y∈sU ln keys M:=i8.mpr ⟨hy.1,hy.2,fun l r hl=>d9 fun q=>hn ⟨l,cF.mpr ⟨cl y hy.1 l r hl,aO q⟩,r,hl⟩⟩;rw[z] at this;cases this
  exact nr s (cF.mp hs).1 j hj r
structure Ord (ln:Ln) (keys os:List Str):Prop where
  nd:os.Nodup
  sub:∀x∈os,x∈keys
  low:∀(i:Nat) o,os[i]? = some o->∀l r,(l,r)∈ln o->l∈os.take i
  least:∀(i:Nat) o,os[i]? = some o->∀x∈keys,x ∉ os.take i->(∀l r,(l,r)∈ln x->l∈os.take i)->¬co x<co o
theorem Ord.nil {ln:Ln}{keys:List Str}:Ord ln keys []:=⟨by simp,by simp,by simp,by simp⟩
theorem Ord.snoc {ln:Ln}{keys os:List Str}{u:Str}{r:List Str}(h:Ord ln keys os) (kl:keys.Pairwise (fun a b=>co a<co b)) (hu:sU ln keys os=u::r):Ord ln keys (os++[u]):=by
  have hm:u∈sU ln keys os:=by rw[hu];simp
  obtain⟨m1,m2,m3⟩:=i8.mp hm;have at':∀(i:Nat) o,(os++[u])[i]? = some o->(i<os.length/\os[i]? = some o/\(os++[u]).take i=os.take i)\/(i=os.length/\o=u/\(os++[u]).take i=os):=by
    intro i o e
    by_cases c:i<os.length
    · rw[jl c] at e;exact .inl ⟨c,e,by rw[List.take_append_of_le_length (by lia)]⟩
    · have hi:=(bV.mp e).1;rw[bL] at hi;have hi:i<os.length+1:=hi;have:i=os.length:=by lia
      subst this;simp at e;exact .inr ⟨rfl,e.symm,by simp⟩
  refine⟨?_,fun x hx=>?_,fun i o e l r' hl=>?_,fun i o e x hx hn hl=>?_⟩
  · rw[jV];refine⟨h.nd,by simp,fun a ha b hb e=>?_⟩;have hb:b=u:=by simpa using hb
    subst hb;subst e;exact m2 ha
  · rcases bM.mp hx with hx | hx
    · exact h.sub x hx
    · have:x=u:=by simpa using hx
      rw[this];exact m1
  · rcases at' i o e with ⟨c,e',et⟩ | ⟨c,rfl,et⟩
    · rw[et];exact h.low i o e' l r' hl
    · rw[et];exact m3 l r' hl
  · rcases at' i o e with ⟨c,e',et⟩ | ⟨c,rfl,et⟩
    · rw[et] at hn hl;exact h.least i o e' x hx hn hl
    · rw[et] at hn hl;have Gj:x∈sU ln keys os:=i8.mpr ⟨hx,hn,hl⟩;have pw:(sU ln keys os).Pairwise (fun a b=>co a<co b):=kl.sublist (l8 ..);rw[hu] at Gj pw;rcases aN.mp Gj with rfl | Gj
      · exact fk _
      · exact fun z=>DC z ((iG.mp pw).1 x Gj)
theorem Ord.perm {ln:Ln}{keys os:List Str}(h:Ord ln keys os) (kn:keys.Nodup) (hl:os.length=keys.length):os.Perm keys:=by
  rw[List.perm_ext_iff_of_nodup h.nd kn];intro x;refine⟨h.sub x,fun hx=>?_⟩;refine d9 fun hn=>?_
  have:=sj (us:=keys) (rs:=x::os) (iL.mpr ⟨hn,h.nd⟩) fun y hy=>by
    rcases aN.mp hy with rfl | hy
    · exact hx
    · exact h.sub y hy
  rw[iK] at this;lia
end Dm
namespace L2
open PySem PySem.Spec PyProof.Rows
theorem Uq {prog:aU}{w:World}{A:Around}{P:Nat->ai->Prop}(val:Nat->Str) (DL:∀i v,P i v->∃t,v=Value.str (val i) t) :
    CmpOf prog w A .Lt P (fun i j=>decide ((val i).cps.toList<(val j).cps.toList)):=fun i j vi vj s Q E hi hj h=>by
  obtain⟨t,rfl⟩:=DL i vi hi;obtain⟨u,rfl⟩:=DL j vj hj;exact richCompare_gives (op:=.Lt) (typeIs_str s _ t) (typeIs_str s _ u) PySem.F.slot_str_lt PySem.F.entry_str_lt (PySem.F.args_str_lt_2 _ _) (gives_str_lt _ _ t u) (fun x=>nomatch x) h
theorem Ur {prog:aU}{w:World}{A:Around}{E:aA}{s:au}{a b:Str}{t u:Tok}{Q:aA}(hh:A.handled=none)
    (h:∀h' tk,(∀c o,s.heap.get? c=some o->h'.get? c=some o)->Q (if b.cps.toList<a.cps.toList then .str b u else .str a t) { s with heap:=h',toks:=tk }) :
    wpAny (model prog w) A (call (.builtin "min") [.str a t,.str b u]) Q E s:=by
  have hT:(s.heap.push { cls:=.type "tuple",data:=.seq #[.str a t,.str b u] }).IsTuple s.heap.objs.size #[.str a t,.str b u]:=⟨_,bO _ rfl,rfl,0,rfl⟩;refine call_min_two (wpAny_pyIter_tuple hT ?_);have hsz:(s.heap.push { cls:=.type "tuple",data:=.seq #[.str a t,.str b u] }).objs.size=s.heap.objs.size+1:=gS ..;refine⟨_,[_,s.heap.objs.size],[_],_,_,_,_,rfl,Walks.tuple (A:=A.in1) hh _ s.heap.objs.size (by rw[hsz];exact bq (mK _)) #[.str a t,.str b u],
    ⟨⟨_,bO _ rfl,rfl,rfl⟩,hT.push _⟩,fun c hc=>?_,(by show 0<2;decide),Uq (fun i=>if i=0 then a else b) (fun i v e=>?_),fun v h' tk hP hk=>?_⟩
  · show c<((s.heap.push _).push _).objs.size;rw[gS,hsz];rcases aN.mp hc with rfl | hc
    · rw[hsz];exact mK _
    · rcases aN.mp hc with rfl | hc
      · exact jD (mK _)
      · cases hc
  · match i,e with
    | 0,e=>cases e;exact⟨t,rfl⟩
    | 1,e=>cases e;exact⟨u,rfl⟩
    | i+2,e=>simp at e
  · have hold:∀c o,s.heap.get? c=some o->h'.get? c=some o:=fun c o e=>by
      refine hk c o (fun hm=>?_) (bC _ (bC _ e));rcases aN.mp hm with e1 | hm
      · have:=aI e;rw[e1,hsz] at this;exact eB _ (Nat.lt_of_succ_lt this)
      · cases hm
    have:=h h' tk hold;have hv:v=if b.cps.toList<a.cps.toList then Value.str b u else Value.str a t:=by
      have qp:(#[Value.str a t,Value.str b u])[argBest (fun i j=>decide ((if i=0 then a else b).cps.toList<(if j=0 then a else b).cps.toList)) 1]? = some v:=hP
      by_cases Gk:b.cps.toList<a.cps.toList
      · have e:argBest (fun i j=>decide ((if i=0 then a else b).cps.toList<(if j=0 then a else b).cps.toList)) 1=1:=by simp[argBest,Gk]
        rw[e] at qp;rw[aq Gk];exact (cX qp).symm
      · have e:argBest (fun i j=>decide ((if i=0 then a else b).cps.toList<(if j=0 then a else b).cps.toList)) 1=0:=by simp[argBest,Gk]
        rw[e] at qp;rw[ao Gk];exact (cX qp).symm
    rw[hv];exact this
theorem M3:∀(r:List Str) (x:Str),risingS x r=true->(x::r).Pairwise (fun a b=>¬b.cps.toList<a.cps.toList)
  | [],x,_=>List.pairwise_singleton ..
  | y::r,x,h=>by
    unfold risingS at h;rw[fj] at h;have ih:=M3 r y h.2;have h1:¬y.cps.toList<x.cps.toList:=by
      intro z;have:ltCps y.cps.toList x.cps.toList=true:=by rw[ltCps_eq];exact aO z
      rw[this] at h;simp at h
    refine iG.mpr ⟨fun b hb=>?_,ih⟩;rcases aN.mp hb with rfl | hb
    · exact h1
    · intro z;have h2:=(iG.mp ih).1 b hb;rw[kT] at h1 h2;exact absurd z (kT.mpr (List.le_trans h1 h2))
theorem Us {ss:List Str}(h:sortedS ss=true):ss.Pairwise (fun a b=>¬b.cps.toList<a.cps.toList):=by
  cases ss with
  | nil=>exact .nil
  | cons x r=>exact M3 r x h
section
variable {X:Cx}
theorem M4 (hc:X.calm=true):oW X (.builtin "min") (fun xs H Q=>∃i j,xs = [.str i,.str j]/\Q (.str (if j.cps.toList<i.cps.toList then j else i)) H):=by
  intro pins s σ H xs us Q I r h;obtain⟨i,j,rfl,q⟩:=h;obtain⟨u,w',rfl,⟨t,rfl⟩,⟨t',rfl⟩⟩:=Cp r;refine Ur (I.ok.hd hc) fun h' tk k=>⟨_,H,I.kept k,?_,q⟩
  by_cases hj:j.cps.toList<i.cps.toList
  · rw[aq hj,aq hj];exact⟨_,rfl⟩
  · rw[ao hj,ao hj];exact⟨_,rfl⟩
theorem IX {K:aF}(h:X.K=K):oW X (.builtin "sorted") (fun xs H Q=>∃(a:ah) (ns:List Str),xs = [V.ref a]/\aJ K H a (ns.map V.str)/\ns.length<64/\
    ∀(p:ah) (ms:List Str),H p=none->ms.Perm ns->ms.Pairwise (fun a b=>¬b.cps.toList<a.cps.toList)->Q (.ref p) (upd H p (.lst (ms.map V.str)))):=by
  subst h;intro pins s σ H xs us Q I r h;obtain⟨a,ns,rfl,ha,hn,q⟩:=h;obtain⟨u,rfl,ru⟩:=qj r;cases ru;obtain⟨its,rv,pl,hz⟩:=I.list ha;have hl:=rv.length;rw[ay] at hl;refine PyProof.Rows.sorted_strs pl.isList (LZ rv) (by lia) fun out ms a1 a2 a3=>?_
  obtain⟨e,he⟩:=PyProof.Rows.sortedAll_at s.heap its out;have AZ:H (s.heap.objs.size+1)=none:=I.bA.fresh (gq _);have hm:ms.length=ns.length:=a2.length_eq;have hs:sizeLine=16777216:=fP;have vs:∀{us:List ai}{ys:List Str},StrsAre us ys->Vals (ys.map V.str) us:=by
    intro us ys h
    induction h with
    | nil=>exact .nil
    | cons x t _ ih=>exact .cons ⟨t,rfl⟩ ih
  refine⟨.ref (s.heap.objs.size+1),_,I.laid (t':=s.toks) (a:=s.heap.objs.size+1) (o:=.lst (ms.map V.str)) (fun b o eb=>PyProof.Rows.sortedAll_old eb) (gq _) ⟨?_,out.toList,e,vs a1,?_⟩,rfl,q _ ms AZ a2 (Us a3)⟩
  · rw[ay];lia
  · rw[he]
end
end L2
namespace HT
open PySem PySem.Spec PyProof.Rows PySem.Calls
end HT
namespace L2
open PySem PySem.Spec PyProof.Rows
section
variable {X:Cx}{pins:aG}{σ:St}{H:Hp}{s:au}{a:ah}{u r:ai}{A:Around}{E:aA}
theorem Ut {kvs:List (Key×V)}{k:Key}{z:V}{Q:aA}(I:Inv X pins σ H s) (e:H a=some (.dK kvs)) (ry:RelV (kV k) u) (rz:RelV z r) (hl:kvs.length<sizeLine)
    (h1:∀v,e8 kvs k=some v->∀w' s',Inv X pins σ H s'->RelV v w'->Q w' s') (h2:e8 kvs k=none->∀s',Inv X pins σ (upd H a (.dK (putK kvs k z))) s'->Q r s') :
    wpAny (model X.prog X.w) A (call (.builtin "dict.setdefault") [.ref a,u,r]) Q E s:=by
  obtain⟨hz,hd,vs,rel,dd⟩:=HM I.bA e;refine call_meetsIn PySem.F.slot_dict_setdefault dd.typeIs PySem.F.entry_dict_setdefault (PySem.F.args_dict_setdefault_3 _ _ _) (kt_meets_setdefault (qe X.prog X.w) a (Ba ry) hd r)
    ⟨vs,dd,by rw[←rel.length];exact hz,fun v hv=>?_,fun hn h' wm hs=>?_⟩
  · cases l:e8 kvs k with
    | some v0=>
      obtain⟨w',hw,iY⟩:=jd.some_of (v:=v0) (o:=valueAt vs k) (by rw[←l];exact rel.val k);rw[hw] at hv;cases hv;exact h1 v0 l _ _ (I.tok _) iY
    | none=>
      have hn:valueAt vs k=none:=jd.none_of (by have:=rel.val k;rw[l] at this;exact this);rw[hn] at hv;cases hv
  · cases l:e8 kvs k with
    | some v0=>
      obtain⟨w',hw,iY⟩:=jd.some_of (v:=v0) (o:=valueAt vs k) (by rw[←l];exact rel.val k);rw[hw] at hn;cases hn
    | none=>
      have nA:(putK kvs k z).length<=sizeLine:=by have:=FE kvs k z;lia
      have he:∃q,h'.get? a=some q:=let ⟨q,_,_,hq,_⟩:=wm;⟨q,hq⟩
      exact h2 l _ (FF I (by rw[e];exact True.intro) hs he (HP nA hd (rel.put k rz) wm))
end
def Uu (td ty tx:TE):TE:=fun σ H Q=>td σ H fun x H1=>∃a,x = .ref a/\LI H1 a/\ty σ H1 fun y H2=>tx σ H2 fun z H3=>∃kvs k,H3 a=some (.dK kvs)/\y=kV k/\kvs.length<sizeLine/\
  (∀v,e8 kvs k=some v->Q v H3)/\(e8 kvs k=none->Q z (upd H3 a (.dK (putK kvs k z))))
theorem Uv {X:Cx}{o e f:Expr}{apos bY:Pos}{td ty tx:TE}(ho:PE X o td) (he:PE X e ty) (hf:PE X f tx) (m:M2 X o "setdefault" apos e f bY):PE X (.Call (.Attribute o "setdefault" apos) [e,f] [] bY) (Uu td ty tx):=by
  intro pins s σ H Q I h;refine wpAny_Call_method m.base m.Sj m.line PySem.F.plainAttrs_dict PySem.F.slot_dict_setdefault PySem.F.type_dict_setdefault (cA (ho pins s σ H _ I h) fun u s1 bg=>?_);obtain⟨x,H1,I1,rx,a,ex,d,q1⟩:=bg;subst ex;obtain rfl:u=Value.ref a:=rx;obtain⟨t1,t2,_⟩:=Sk I1 d;refine⟨t1,t2,?_⟩;rw[m.trees];refine oq rfl (oB (Calls.spliced_cons (cA (he pins s1 σ H1 _ I1 q1) fun iv s2 ⟨y,H2,I2,ry,q2⟩=>
    Calls.spliced_cons (cA (hf pins s2 σ H2 _ I2 q2) fun fv s3 ⟨z,H3,I3,rz,kvs,k,ea,ey,hl,q3,q4⟩=>Calls.spliced_nil ?_))))
  subst ey;exact Ut I3 ea ry rz hl (fun v l w' s4 I4 iY=>⟨v,H3,I4,iY,q3 v l⟩) fun l s4 I4=>⟨z,_,I4,rz,q4 l⟩
def dd (val:Nat->Str):Nat->List Str
  | 0=>[]
  | i+1=>if val i∈dd val i then dd val i else dd val i++[val i]
section
variable {prog:aU}{w:World}{A:Around}{s:au}{R:Result->au->Prop}{I:ah}{fp wr:List ah}{n:Nat}{P:Nat->ai->Prop}{St:Nat->Heap->Prop}
theorem Uw (W:Walks prog w A.in1 I fp wr n P St) (hn:n<=sizeLine) (S:ah) (c:Nat) (sJ:St 0 s.heap) (hS:S ∉ fp) (hl:s.heap.get? S=some { cls:=.type "list",data:=.seq #[] c }) (r:ai)
    (hR:∀s1 acc c1,Moved (S::wr) (fun a b=>b=a) s s1->s1.heap.get? S=some { cls:=.type "list",dict:=none,data:=.seq acc c1,slots:=#[] }->ItemsOf P acc n->R (.ok (.ret r)) s1) :
    wpAny (model prog w) A.in1 (rule "list.extend.makes-room" >>= fun _=>Builtin.List.listTouch (.ref S) >>= fun _=>again (.builtin "list.extend.loop" ⟨[.ref S,.ref I,r],[]⟩))
      (fun fin s1=>match fin with | .done f=>R (.ok f) s1 | .again c1=>c1.quiet=true/\codeAny (model prog w) A c1 R s1) (fun e s1=>R (.error e) s1) s:=by
  refine aj (gv (aj ?_));show wpAny (model prog w) A.in1 (updateSeq S (·.push .none) >>= fun _=>updateSeq S (·.pop)) _ _ _;refine aj (gc hl rfl ?_);have l2:=dB (Obj.mapSeq (·.push Value.none)) hl rfl;refine gc (hz:=by seq_fits) l2 rfl ?_;have l3:=dB (Obj.mapSeq (·.pop)) l2 rfl;have nN:∀b o,b≠S->s.heap.get? b=some o->((s.heap.update S (Obj.mapSeq (·.push Value.none))).update S (Obj.mapSeq (·.pop))).get? b=some o:=fun b o hb e=>(cE _ _ (aD hb)).trans ((cE _ _ (aD hb)).trans e)
  refine az ⟨fM PySem.F.plain_extend_loop _,codeAny_extend_loopS W.toS hn _ hS _ n 0 _ _ _ rfl (dj _) (W.toS.frame 0 s _ s.toks sJ (aH _) fun b hb o e=>nN b o (fun h=>hS (h▸hb)) e) l3 (ItemsOf.nil P) fun s1 acc c1 hm h1 h2=>?_⟩;have m0:Moved (S::wr) (fun (a b:Array GenState)=>b=a) s { s with heap:=(s.heap.update S (Obj.mapSeq (·.push Value.none))).update S (Obj.mapSeq (·.pop)) }:=⟨fun b o hb e=>nN b o (fun h=>hb (by simp[h])) e,rfl,rfl,rfl,aH _⟩;exact hR s1 acc c1 (Moved.trans (fun _ _ _ h1 h2=>h2.trans h1) m0 hm) h1 h2
end
section
variable {prog:aU}{w:World}{A:Around}{E:aA}{s:au}
theorem Ux {P:Nat->ai->Prop}{acc:Array ai}{n:Nat}(h:ItemsOf P acc n) (l:List ai) (hl:l.length=n) (hp:∀i v,P i v->l[i]? = some v):acc.toList=l:=by
  apply List.ext_getElem?;intro i
  by_cases hi:i<n
  · have hs:i<acc.size:=by rw[h.1];exact hi
    have e:acc[i]? = some acc[i]:=gZ hs;rw[hp i _ (h.2 i _ e),oz,e]
  · have h1:acc.toList.length<=i:=by rw[jq,h.1];lia
    have h2:l.length<=i:=by lia
    rw[qK h1,qK h2]
end
theorem M5 {c:TT}{t u:TS}{D:Ends}{σ:St}{H:Hp}(P:St->Prop) (b:Bool) (ht:∀Q':Bool->Hp->Prop,Q' b H->c σ H Q') (h1:b=true->∃we,P we/\(D.nx we H->t D σ H)) (h2:b=false->∃nG,P nG/\(D.nx nG H->u D σ H))
    (hn:∀aK,P aK->D.nx aK H):uI c t u D σ H:=by
  refine mX b ht ?_;cases b with
  | true=>
    obtain⟨we,p,h⟩:=h1 rfl;exact gx (h (hn _ p))
  | false=>
    obtain⟨nG,p,h⟩:=h2 rfl;exact fR (h (hn _ p))
def Bq (a:ah) (ob:Obj) (kvs:List (Key×V)):It:=
  ⟨fun i H=>H a=some (.ie ob (.dK kvs))/\i<kvs.length,fun i H x H'=>H'=H/\∃kv,kvs[i]? = some kv/\x=kV kv.1,fun i H=>H a=some (.ie ob (.dK kvs))/\kvs.length<=i⟩
theorem Uy {P:aU}{w:World}{K:aF}{tg:Expr}(a it:ah) {ob:Obj}{kvs:List (Key×V)}{es:Array DictEntry}{ep:Nat}(hd:ob.data = .dict es ep) (hl:es.size=kvs.length):Turn P w K tg (Bq a ob kvs) [it] it (fun i h=>h.IsKeyIter it a i es.size ep) where
  mem:=by simp
  obj:=fun i h st b hb=>by
    have e:b=it:=by simpa using hb
    subst e;obtain⟨o,e,c,d⟩:=st;exact⟨o,e,fun v z=>by rw[d] at z;cases z⟩
  keep:=fun i h h' st k=>st.at fun o e=>k it (by simp) o e
  item:=by
    intro X hP hw hK hc i pins s σ H E I hf st hg;subst hP hw hK;obtain⟨hq,hx⟩:=hg;obtain⟨e0,z,hs,vs,rel,o,yj,wY,e,ex,dt,kk,pr,nd⟩:=I.bA a _ hq;rw[e0] at e;cases e;rw[hd] at dt;cases dt;have hi:i<es.size:=by lia
    have FY:es[i]? = some es[i]:=gZ hi;obtain⟨f0,f1,f2,f3,f4,f5⟩:=hf it (by simp);refine Mg st ⟨ob,e0,ex,hd⟩ FY fun h' pO sb=>?_
    have I1:Inv X pins σ H { s with heap:=h' }:=I.turned (t':=s.toks) (fun b o hb e=>(sb.2 b hb).trans e) f0 f1 f3 f4 f5;obtain⟨oi,ei,ci,di⟩:=id pO;have ek:kvs[i]? = some kvs[i]:=bz hx;obtain⟨w',hw,iY⟩:=Paired.get' rel ek;have:=(pr.get? (e:=es[i]) (k:=w'.1) (v:=w'.2) (i:=i) (by rw[oz];exact FY) (by rw[hw])).1;have e1:kvs[i].1=w'.1:=iY.1;exact⟨_,rfl,Fe (s:={ s with heap:=h' }) ei ci di (by decide) ⟨kV kvs[i].1,H,I1,by rw[e1];exact Mp this,⟨rfl,_,ek,rfl⟩,pO,fun b hb=>(hf b hb).1⟩⟩
  done:=by
    intro X hP hw hK hc i pins s σ H E I hf st hg;subst hP hw hK;obtain⟨hq,hx⟩:=hg;obtain⟨e0,z,hs,vs,rel,o,yj,wY,e,ex,dt,kk,pr,nd⟩:=I.bA a _ hq;rw[e0] at e;cases e;obtain⟨f0,f1,f2,f3,f4,f5⟩:=hf it (by simp);exact Mh (I.ok.hd hc) st ⟨ob,e0,ex,hd⟩ (by lia) fun h' eb=>⟨rfl,I.turned (t':=s.toks) (fun b o hb e=>eb b o hb e) f0 f1 f3 f4 f5⟩
  self:=fun _ _ _ _ _ st h=>wpAny_pyIter_keyiter st h
section
variable {X:Cx}{tg:Expr}
def Uz (tl:TE):TI:=fun σ H R=>tl σ H fun x H1=>∃a ob kvs,x = .ref a/\H1 a=some (.ie ob (.dK kvs))/\R (Bq a ob kvs) H1
theorem sV {l:Expr}{tl:TE}(hl:PE X l tl):PI X tg l (Uz tl):=by
  intro pins s σ H R I h;refine cA (hl pins s σ H _ I h) fun v s1 bg=>?_
  obtain⟨x,H1,I1,r1,q1⟩:=bg;obtain⟨a,ob,kvs,e,hq,q⟩:=q1;subst e;cases r1;obtain⟨e0,z,hs,vs,rel,o,es,ep,e,ex,dt,kk,pr,nd⟩:=I1.bA a _ hq;have e0':=e0;rw[e0] at e;cases e;have l1:kvs.length=vs.length:=Paired.length rel;have l2:es.size=vs.length:=by rw[←pr.length];simp
  refine Iu hs ⟨ob,e0,ex,dt⟩ ?_;refine⟨s1.heap.objs.size,[s1.heap.objs.size],_,_,H1,rfl,I1.kept (t':=s1.toks) fun b o e=>bC _ e,Uy a _ dt (l2.trans l1.symm),⟨_,bO _ rfl,rfl,rfl⟩,fun b hb=>?_,q⟩;have e:b=s1.heap.objs.size:=by simpa using hb
  subst e;exact I1.oV (aH _) (I1.bA.fresh (aH _))
theorem Al {a:ah}{ob:Obj}{kvs:List (Key×V)}{g:TG}{tb:TS}{D:Ends}{σ:St}{H:Hp}(Pv:Nat->St->Hp->Prop) (h0:Pv 0 σ H) (hl:∀i σ H,i<=kvs.length->Pv i σ H->H a=some (.ie ob (.dK kvs)))
    (hs:∀i k v σ H,kvs[i]? = some (k,v)->Pv i σ H->g (kV k) σ H fun nG H2=>tb { D with nx:=Pv (i+1),ct:=Pv (i+1),bk:=D.nx } nG H2) (hd:∀σ H,Pv kvs.length σ H->D.nx σ H) :
    ∃W:Nat->Nat->St->Hp->Prop,(∃m,W 0 m σ H)/\∀i m σ H,W i m σ H->
      ((Bq a ob kvs).stop i H/\D.nx σ H)\/((Bq a ob kvs).go i H/\∃N:St->Hp->Prop,(∀aK H',N aK H'->∃m',m'<m/\W (i+1) m' aK H')/\∀x H',(Bq a ob kvs).ue i H x H'->g x σ H' fun nG H2=>tb { D with nx:=N,ct:=N,bk:=D.nx } nG H2):=by
  refine⟨fun i m σ H=>m=kvs.length-i/\i<=kvs.length/\Pv i σ H,⟨kvs.length,by simp,dj _,h0⟩,?_⟩;rintro i m σ H ⟨rfl,hi,p⟩;have q:=hl i σ H hi p
  by_cases cQ:i<kvs.length
  · refine .inr ⟨⟨q,cQ⟩,Pv (i+1),fun aK H' p'=>⟨kvs.length-(i+1),by lia,rfl,cQ,p'⟩,fun x H' y=>?_⟩;obtain⟨e,kv,y,rfl⟩:=y;subst e;exact hs i kv.1 kv.2 σ _ y p
  · have e:i=kvs.length:=by lia
    subst e;exact .inl ⟨⟨q,aH _⟩,hd σ H p⟩
theorem Inv.frozen {pins:aG}{σ:St}{H:Hp}{s:au}{a:ah}{kvs:List (Key×V)}(I:Inv X pins σ H s) (h:H a=some (.dK kvs)):∃ob,Inv X pins σ (upd H a (.ie ob (.dK kvs))) s:=by
  obtain⟨o,e⟩:∃o,s.heap.get? a=some o:=by
    obtain⟨_,_,_,_,o,_,_,e,_⟩:=I.bA a _ h;exact⟨o,e⟩
  have ok:=I.bA a _ h;refine⟨o,I.write (e:=a) (h':=s.heap) (t':=s.toks) (by rw[h];trivial) (.inl rfl) (fun b u _ q=>q) ⟨o,e⟩ ⟨e,?_⟩⟩;obtain⟨z,hd,vs,r⟩:=ok;exact⟨z,hd,vs,r⟩
def IY (ts:TS):TS:=fun D σ H=>ts D σ H\/∃a kvs,H a=some (.dK kvs)/\∀ob,ts D σ (upd H a (.ie ob (.dK kvs)))
theorem yC {st:Stmt}{ts:TS}(h:PS X st ts):PS X st (IY ts):=by
  intro pins s σ H D I q;rcases q with q | ⟨a,kvs,ha,q⟩
  · exact h pins s σ H D I q
  · obtain⟨ob,I'⟩:=I.frozen ha;exact h pins s σ _ D I' (q ob)
end
section
variable {X:Cx}{tg:Expr}
theorem Gm {a:ah}{ob:Obj}{kvs:List (Key×V)}:Fix (Bq a ob kvs) (kvs.map fun kv=>kV kv.1) (fun H=>H a=some (.ie ob (.dK kvs))):=
  ⟨fun i H h hi=>⟨h,by simpa using hi⟩,fun i H x H' h y=>⟨y.1,fun _=>by obtain⟨kv,h1,h2⟩:=y.2;rw[aM,h1,h2];rfl⟩,fun i H h hi=>⟨h,by simpa using hi⟩⟩
theorem M6:oW X (.builtin "len") (fun xs H Q=>∃a kvs,xs = [V.ref a]/\Rd H a (.dK kvs)/\Q (.int kvs.length) H):=by
  intro pins s σ H xs us Q I r h;obtain⟨a,kvs,rfl,ha,q⟩:=h;obtain⟨u,rfl,ru⟩:=qj r;cases ru;exact LF I ha fun t s' I'=>⟨.int kvs.length,H,I',⟨t,rfl⟩,q⟩
end
section
variable {prog:aU}{w:World}{A:Around}{E:aA}{s:au}
theorem UA {S d:ah}{es:Array DictEntry}{ep:Nat}{c:Nat}{r:ai}{R:Result->au->Prop}(hh:A.handled=none) (hd:(d == sysModules)=false) (hm:j6 s.heap d es ep) (hz:es.size<=sizeLine)
    (hS:s.heap.get? S=some { cls:=.type "list",data:=.seq #[] c }) (mY:S≠d)
    (hR:∀h1 acc c1 tk,(∀b o,b≠S->s.heap.get? b=some o->h1.get? b=some o)->h1.get? S=some { cls:=.type "list",dict:=none,data:=.seq acc c1,slots:=#[] }->acc.toList=es.toList.map (·.key)->R (.ok (.ret r)) { s with heap:=h1,toks:=tk }) :
    wpAny (model prog w) A.in1 (Builtin.List.listExtendWith (.ref S) (.ref d) r) (fun fin s1=>match fin with | .done f=>R (.ok f) s1 | .again c1=>c1.quiet=true/\codeAny (model prog w) A c1 R s1) (fun e s1=>R (.error e) s1) s:=by
  have dl:d<s.heap.objs.size:=by obtain⟨o,ho,_⟩:=hm;exact aI ho
  have sl:S<s.heap.objs.size:=aI hS;have T:s.TypeIs (.ref d) "dict":=hm.typeIs;unfold Builtin.List.listExtendWith;refine aj (kL T ?_);have sr:Builtin.List.listSameRef (.ref S) (.ref d)=false:=by simp[Builtin.List.listSameRef,mY]
  have t1:(Value.type "dict" == Value.type "list")=false:=by decide
  have t2:(Value.type "dict" == Value.type "tuple")=false:=by decide
  simp only [sr,t1,t2,Bool.or_false,jU,dZ];refine aj (Iu hd hm ?_);have old:∀b o,s.heap.get? b=some o->(s.heap.push { cls:=.type "dict_keyiterator",data:=.fields #[.ref d,.int 0 0,.int es.size 0,.int ep 0] }).get? b=some o:=fun b o e=>bC _ e
  have wz:=hm.at (h':=s.heap.push { cls:=.type "dict_keyiterator",data:=.fields #[.ref d,.int 0 0,.int es.size 0,.int ep 0] }) fun o e=>old d o e
  refine aj (cT (Mj (s:={ s with heap:=s.heap.push { cls:=.type "dict_keyiterator",data:=.fields #[.ref d,.int 0 0,.int es.size 0,.int ep 0] } }) wz.typeIs ?_));have SI:S ∉ [s.heap.objs.size,d]:=by
    simp only [aN,cW,eZ];exact fun z=>z.elim (bq sl) mY
  refine Uw (A:=A) (s:={ s with heap:=s.heap.push { cls:=.type "dict_keyiterator",data:=.fields #[.ref d,.int 0 0,.int es.size 0,.int ep 0] } }) (Mi (A:=A.in1) hh s.heap.objs.size d (bq dl) es ep) hz S c ⟨⟨_,bO _ rfl,rfl,rfl⟩,wz⟩ SI (old _ _ hS) r fun s1 acc c1 Dr h1 h2=>?_
  obtain⟨kZ,ge,dr,tk,os⟩:=s1;obtain⟨m1,m2,m3,m4,m5⟩:=Dr;obtain rfl:ge=s.gens:=m2;obtain rfl:dr=s.drawn:=m3;obtain rfl:os=s.os:=m4;refine hR kZ acc c1 tk (fun b o hb e=>m1 b o ?_ (old b o e)) h1 (Ux h2 (es.toList.map (·.key)) (by rw[ay,jq]) fun i v ⟨e,h3,h4⟩=>by rw[aM,oz,h3,h4];rfl);intro z;simp only [aN,cW,eZ] at z;exact z.elim hb fun z=>absurd (aI e) (by rw[z];exact eB _)
theorem UB {d:ah}{es:Array DictEntry}{ep:Nat}{Q:List ai->au->Prop}(hh:A.handled=none) (hd:(d == sysModules)=false) (hm:j6 s.heap d es ep) (hz:es.size<=sizeLine)
    (hQ:∀h1 tk,(∀b o,s.heap.get? b=some o->h1.get? b=some o)->s.heap.objs.size<h1.objs.size->Q (es.toList.map (·.key)) { s with heap:=h1,toks:=tk }):wpAny (model prog w) A (collect (.ref d)) Q E s:=by
  have dl:d<s.heap.objs.size:=by obtain⟨o,ho,_⟩:=hm;exact aI ho
  unfold collect;refine aj (wpAny_runValue (ia PySem.F.entry_proto_collect ?_));rw[iD PySem.F.plain_proto_collect _];show wpAny _ A.in1 (newList [] >>= fun l=>again (.builtin "list.__iadd__" ⟨[l,.ref d],[]⟩)) _ _ s;refine aj (fh ?_);refine az ⟨fM PySem.F.plain_list_iadd _,ia PySem.F.entry_list_iadd ?_⟩;rw[iD PySem.F.plain_list_iadd _];show wpAny _ A.in1 (Builtin.List.listExtendWith (.ref s.heap.objs.size) (.ref d) (.ref s.heap.objs.size)) _ _ _;have hS:(s.heap.push { cls:=.type "list",data:=.seq ([]:List ai).toArray }).get? s.heap.objs.size=some { cls:=.type "list",data:=.seq #[] }:=bO _ rfl;have old:∀b o,s.heap.get? b=some o->(s.heap.push { cls:=.type "list",data:=.seq ([]:List ai).toArray }).get? b=some o:=fun b o e=>bC _ e
  have wu:=hm.at (h':=s.heap.push { cls:=.type "list",data:=.seq ([]:List ai).toArray }) (fun o e=>old d o e);refine UA (prog:=prog) (A:=A) (r:=.ref s.heap.objs.size) (R:=fun r s'=>match r with
    | .ok (.ret v)=>wpAny (model prog w) A (match v with
      | .ref a=>do
        let o ←load a
        match o.data with
        | .seq xs _=>pure xs.toList
        | _=>unsupported "internal:collect"
      | _=>unsupported "internal:collect") Q E s'
    | .ok _=>False
    | .error e=>E e s') (s:={ s with heap:=s.heap.push { cls:=.type "list",data:=.seq ([]:List ai).toArray } }) hh hd wu hz hS (aD (bq dl)) fun h1 acc c1 tk k e p=>?_
  show wpAny _ A (load s.heap.objs.size >>= _) _ _ _;refine aj (wpAny_load e ?_);rw[←p] at hQ;exact az (hQ h1 tk (fun b o eb=>k b o (fun z=>eB _ (z▸aI eb)) (old b o eb)) (aI e))
end
theorem M7 {prog:aU}{w:World}{A:Around}{s:au}{a b:Int}{t u:Tok}{Q:aA}{E:aA}(q:Q (.bool (decide (a > b))) s):wpAny (model prog w) A (richCompare .Gt (.int a t) (.int b u)) Q E s:=
  CmpOf.ints_gt (P:=fun i v=>(i=0/\v = .int a t)\/(i=1/\v = .int b u)) (fun i=>if i=0 then a else b) (fun i v h=>by
    rcases h with ⟨rfl,rfl⟩ | ⟨rfl,rfl⟩
    · exact⟨t,rfl⟩
    · exact⟨u,rfl⟩) 0 1 _ _ s Q E (.inl ⟨rfl,rfl⟩) (.inr ⟨rfl,rfl⟩) q
section
variable {prog:aU}{w:World}{A:Around}{R:Result->au->Prop}
structure kg (h:Heap) (l it S:ah) (its:Array ai) (vb:ai) (j:Nat) (c:Nat):Prop where
  i:h.IsListIter it l j
  l:h.IsList l its
  s:h.get? S=some { cls:=.type "list",dict:=none,data:=.seq #[vb,vb] c,slots:=#[] }
theorem UC {l it S:ah}{its:Array ai}{val:Nat->Int}{dv:ai}(hh:A.handled=none) (hv:∀i v,its[i]? = some v->∃t,v=Value.int (val i) t) (n1:S≠it) (n2:S≠l) (n3:l≠it) :
    ∀(k j b:Nat) (s:au) (vb:ai) (c:Nat),its.size-j=k->kg s.heap l it S its vb j c->its[b]? = some vb->(∀i,i<j->val i<=val b)->j<=its.size->
      (∀(v:ai) (b':Nat) (h':Heap) (tk:Nat),its[b']? = some v->(∀i,i<its.size->val i<=val b')->(∀d o,d≠it->d≠S->s.heap.get? d=some o->h'.get? d=some o)->R (.ok (.ret v)) { s with heap:=h',toks:=tk })->
      codeAny (model prog w) A (.builtin "max.loop" ⟨[.ref it,.none,.ref S],[("default",dv)]⟩) R s:=by
  have nm:(toString "max" ++ toString ".loop" : String) = "max.loop":=by decide
  intro k
  induction k with
  | zero=>
    intro j b s vb c hk M eb best hj q;refine ia kG ?_;rw[iD f9 _];show wpAny _ A.in1 (seqItems? (.ref S) >>= _) _ _ s;refine aj (ic M.s rfl (aj (gG (mz (A:=A.in1) hh M.i M.l (mw (show its.size<=j by lia)) fun h' wD=>?_))));have s':=wD S _ n1 M.s;refine aj (m:=updateSeq S (fun _=>#[])) ?_;refine gc s' rfl (aj (eF (az ?_)));exact q vb b _ s.toks eb (fun i hi=>best i (by lia)) fun d o d1 d2 e=>by
      rw[cE _ _ (aD d2)];exact wD d o d1 e
  | succ k ih=>
    intro j b s vb c hk M eb best hj q;have cQ:j<its.size:=by lia
    have ej:its[j]? = some its[j]:=gZ cQ;obtain⟨t1,e1⟩:=hv j _ ej;obtain⟨t2,e2⟩:=hv b _ eb;refine ia kG ?_;rw[iD f9 _];show wpAny _ A.in1 (seqItems? (.ref S) >>= _) _ _ s;refine aj (ic M.s rfl (aj (gG (lZ M.i M.l ej fun h' qq sb=>?_))));have s':h'.get? S=_:=(sb.2 S n1).trans M.s;have l':h'.IsList l its:=by
      obtain⟨o,ho,r⟩:=M.l;exact⟨o,(sb.2 l n3).trans ho,r⟩
    rw[e1,e2];rw[e1] at ej;rw[e2] at s' eb;refine aj (az ?_);refine aj (gG (cT (aj (M7 (s:={ s with heap:=h' }) (t:=t1) (u:=t2) ?_))));refine aj (cT (iJ (aj (eF (az ?_)))))
    by_cases c1:val j > val b
    · rw[aO c1,aq rfl];refine aj (m:=updateSeq S (fun _=>#[Value.int (val j) t1,Value.int (val j) t1])) ?_;refine gc s' rfl (aj (eF ?_));rw[nm];have keep:∀d o,d≠S->h'.get? d=some o->(h'.update S (Obj.mapSeq fun _=>#[Value.int (val j) t1,Value.int (val j) t1])).get? d=some o:=fun d o d1 e=>(cE _ _ (aD d1)).trans e
      obtain⟨c',M'⟩:∃c',kg (h'.update S (Obj.mapSeq fun _=>#[Value.int (val j) t1,Value.int (val j) t1])) l it S its (Value.int (val j) t1) (j+1) c':=by
        refine⟨_,qq.at fun o e=>keep it o (aD n1) e,?_,dB _ s' rfl⟩;obtain⟨o,ho,r⟩:=l';exact⟨o,keep l o (aD n2) ho,r⟩
      refine az ⟨fM f9 _,ih (j+1) j _ _ _ (by lia) M' ej (fun i hi=>?_) cQ fun v b' h2 tk ev hb kp=>?_⟩
      · by_cases c2:i=j
        · subst c2;exact dY _
        · have:=best i (by lia);lia
      · exact q v b' h2 tk ev hb fun d o d1 d2 e=>kp d o d1 d2 (keep d o d2 ((sb.2 d d1).trans e))
    · rw[aV c1,ao bJ];refine aj (eF ?_);rw[nm];refine az ⟨fM f9 _,ih (j+1) b { s with heap:=h' } _ c (by lia) ⟨qq,l',s'⟩ eb (fun i hi=>?_) cQ fun v b' h2 tk ev hb kp=>?_⟩
      · by_cases c2:i=j
        · subst c2;lia
        · exact best i (by lia)
      · exact q v b' h2 tk ev hb fun d o d1 d2 e=>kp d o d1 d2 ((sb.2 d d1).trans e)
theorem UD {l it S:ah}{its:Array ai}{val:Nat->Int}{dv:ai}{s:au}{c:Nat}(hh:A.handled=none) (hv:∀i v,its[i]? = some v->∃t,v=Value.int (val i) t) (n1:S≠it) (n2:S≠l) (n3:l≠it)
    (hi:s.heap.IsListIter it l 0) (hl:s.heap.IsList l its) (hS:s.heap.get? S=some { cls:=.type "list",dict:=none,data:=.seq #[] c,slots:=#[] })
    (q:∀(v:ai) (h':Heap) (tk:Nat),(its.size=0/\v=dv)\/(∃b,its[b]? = some v/\∀i,i<its.size->val i<=val b)->(∀d o,d≠it->d≠S->s.heap.get? d=some o->h'.get? d=some o)->R (.ok (.ret v)) { s with heap:=h',toks:=tk }) :
    codeAny (model prog w) A (.builtin "max.loop" ⟨[.ref it,.none,.ref S],[("default",dv)]⟩) R s:=by
  have nm:(toString "max" ++ toString ".loop" : String) = "max.loop":=by decide
  refine ia kG ?_;rw[iD f9 _];show wpAny _ A.in1 (seqItems? (.ref S) >>= _) _ _ s
  by_cases h0:its.size=0
  · refine aj (ic hS rfl (aj (gG (mz (A:=A.in1) hh hi hl (mw (by lia)) fun h' wD=>?_))));refine aj (gv (az ?_));exact q dv h' s.toks (.inl ⟨h0,rfl⟩) fun d o d1 _ e=>wD d o d1 e
  · have ej:its[0]? = some its[0]:=gZ (by lia);refine aj (ic hS rfl (aj (gG (lZ hi hl ej fun h' qq sb=>?_))));have s':h'.get? S=_:=(sb.2 S n1).trans hS;have l':h'.IsList l its:=by
      obtain⟨o,ho,r⟩:=hl;exact⟨o,(sb.2 l n3).trans ho,r⟩
    refine aj (az ?_);refine aj (m:=updateSeq S (fun _=>#[its[0],its[0]])) ?_;refine gc s' rfl ?_;rw[nm];have keep:∀d o,d≠S->h'.get? d=some o->(h'.update S (Obj.mapSeq fun _=>#[its[0],its[0]])).get? d=some o:=fun d o d1 e=>(cE _ _ (aD d1)).trans e
    obtain⟨c',M'⟩:∃c',kg (h'.update S (Obj.mapSeq fun _=>#[its[0],its[0]])) l it S its its[0] 1 c':=by
      refine⟨_,qq.at fun o e=>keep it o (aD n1) e,?_,dB _ s' rfl⟩;obtain⟨o,ho,r⟩:=l';exact⟨o,keep l o (aD n2) ho,r⟩
    refine az ⟨fM f9 _,UC hh hv n1 n2 n3 _ 1 0 _ _ _ rfl M' ej (fun i hi=>?_) (by lia) fun v b' h2 tk ev hb kp=>?_⟩
    · have:i=0:=by lia
      subst this;exact dY _
    · exact q v h2 tk (.inr ⟨b',ev,hb⟩) fun d o d1 d2 e=>kp d o d1 d2 (keep d o d2 ((sb.2 d d1).trans e))
end
section
variable {prog:aU}{w:World}{A:Around}{E:aA}{s:au}
theorem UE (a d:ai):argsOk "max" ⟨[a],[("default",d)]⟩:=by unfold argsOk;kernel_rfl
theorem UG {l:ah}{its:Array ai}{val:Nat->Int}{dv:ai}{Q:aA}(hh:A.handled=none) (hl:s.heap.IsList l its) (hv:∀i v,its[i]? = some v->∃t,v=Value.int (val i) t)
    (q:∀(v:ai) (h':Heap) (tk:Nat),(its.size=0/\v=dv)\/(∃b,its[b]? = some v/\∀i,i<its.size->val i<=val b)->(∀d o,s.heap.get? d=some o->h'.get? d=some o)->Q v { s with heap:=h',toks:=tk }) :
    wpAny (model prog w) A (call (.builtin "max") [.ref l] [("default",dv)]) Q E s:=by
  have nm:(toString "max" ++ toString ".loop" : String) = "max.loop":=by decide
  have cQ:l<s.heap.objs.size:=by obtain⟨_,e,_⟩:=hl;exact aI e
  have body:wpAny (model prog w) A.in1 (Builtin.«max» ⟨[.ref l],[("default",dv)]⟩) (fun fin s'=>match fin with
      | .done f=>(match (Except.ok f:Result) with | .ok (.ret v)=>Q v s' | .ok _=>False | .error e=>E e s')
      | .again c'=>c'.quiet=true/\codeAny (model prog w) A c' (fun r s'=>match r with | .ok (.ret v)=>Q v s' | .ok _=>False | .error e=>E e s') s') E s:=by
    show wpAny _ A.in1 (Builtin.Builtins.bindParams "max" ["key","default"] 0 ⟨[],[("default",dv)]⟩ >>= _) _ _ s;refine aj (kP (show Builtin.Builtins.bindParams "max" ["key","default"] 0 ⟨[],[("default",dv)]⟩=pure [none,some dv] from rfl) ?_);refine aj (az (aj (kB hl ?_)));refine aj (fh ?_);rw[nm];have zu:(s.heap.push { cls:=.type "list_iterator",data:=.fields #[.ref l,.int 0 0] }).objs.size=s.heap.objs.size+1:=gS ..;have k6:∀d o,s.heap.get? d=some o->(s.heap.push { cls:=.type "list_iterator",data:=.fields #[.ref l,.int 0 0] }).get? d=some o:=fun d o e=>bC _ e
    have hit:(s.heap.push { cls:=.type "list_iterator",data:=.fields #[.ref l,.int 0 0] }).IsListIter s.heap.objs.size l 0:=⟨_,bO _ rfl,rfl,rfl⟩;have pq:(s.heap.push { cls:=.type "list_iterator",data:=.fields #[.ref l,.int 0 0] }).IsList l its:=by
      obtain⟨o,ho,r⟩:=hl;exact⟨o,k6 l o ho,r⟩
    generalize s.heap.push { cls:=.type "list_iterator",data:=.fields #[.ref l,.int 0 0] } = g at zu k6 hit pq;have nA:(g.push { cls:=.type "list",data:=.seq ([]:List ai).toArray }).IsList l its:=by
      obtain⟨o,ho,r⟩:=pq;exact⟨o,bC _ ho,r⟩
    refine az ⟨fM f9 _,UD (it:=s.heap.objs.size) (S:=g.objs.size) hh hv ?_ ?_ ?_ (hit.at fun o e=>bC _ e) nA (bO _ rfl) fun v h' tk hb kp=>?_⟩
    · rw[zu];exact Nat.succ_ne_self _
    · rw[zu];exact aD (bq (jD cQ))
    · exact bq cQ
    · refine q v h' tk hb fun d o e=>kp d o (fun z=>?_) (fun z=>?_) (bC _ (k6 d o e))
      · exact absurd (aI e) (by rw[z];exact eB _)
      · exact absurd (aI e) (by rw[z,zu];exact mL (gq _))
  refine eG (jT F.plain_max F.entry_max ?_);have ha:=UE (.ref l) dv;simp only [checkBuiltinCall,F.kind_max];cases sg:Manifest.signature? "max" with
  | none=>exact az body
  | some g=>
    simp only [argsOk,sg] at ha;have ha:Bind.checkArgs "max" g ⟨[.ref l],[("default",dv)]⟩=pure ():=ha;show wpAny _ A.in1 (Bind.checkArgs "max" g ⟨[.ref l],[("default",dv)]⟩) _ _ s;rw[ha];exact az body
end
def DM (ns:List Int) (d m:Int):Prop:=(ns = []/\m=d)\/(m∈ns/\∀y∈ns,y<=m)
def UH (K:aF) (d:Int) (te:TE):TE:=fun σ H Q=>te σ H fun x H1=>∃(p:ah) (ns:List Int),x = .ref p/\aJ K H1 p (ns.map V.int)/\∀m,DM ns d m->Q (.int m) H1
section
variable {X:Cx}
theorem M8 (K:aF) (hK:X.K=K) (d:Int) {e:Expr}{te:TE}{p pos kpos bY:Pos}{j:Nat}(hc:X.calm=true) (hg:Gl X "max") (hm:X.mg "max" = none) (he:PE X e te)
    (hs:starEach [e] X.env = [(false,eval e X.env)]:=by rfl):PE X (.Call (.Name "max" p) [e] [⟨some "default",.Constant (.int d) j bY,kpos⟩] pos) (UH K d te):=by
  subst hK;intro pins s σ H Q I h;refine mD (B0 I hg hm boot_max ?_);refine PySem.W.callWith_of (P:=fun _=>True) (first:=[]) (by rw[hs];rfl) (fun h _=>⟨.machine,.inr (.inl rfl),fun _ _ _ _ _ q=>az q⟩) (PyProof.Rows.evalArgs_kw2 rfl ?_ hs);refine cA (za he zf hs pos pins s σ H (fun vs H1=>match vs with | [x]=>∃(p:ah) (ns:List Int),x = .ref p/\aJ X.K H1 p (ns.map V.int)/\∀m,DM ns d m->Q (.int m) H1 | _=>False) I h) fun us s1 bg=>?_
  obtain⟨vs,H1,I1,r,q⟩:=bg
  match vs,q with
  | [x],q=>
    obtain⟨l,ns,rfl,hl,q⟩:=q;obtain⟨u,rfl,ru⟩:=qj r;cases ru;refine cA (Ry (nm:=some "default") (kpos:=kpos) (zh (i:=d) (j:=j) (pos:=bY)) Rx pos pins s1 σ H1 (fun zs H2=>zs = [.int d]/\H2=H1) I1 ⟨rfl,rfl⟩) fun ws s2 ⟨zs,H2,I2,rz,q2⟩=>⟨trivial,?_⟩
    obtain⟨rfl,rfl⟩:=q2;obtain⟨v,rfl,t,rfl⟩:=qj rz;obtain⟨its,rv,pl,hz⟩:=I2.list hl;have len:=rv.length;rw[ay] at len;have hv:∀i v,its.toArray[i]? = some v->∃t,v=Value.int (ns.getD i 0) t:=by
      intro i v e;have e':its[i]? = some v:=by simpa using e
      have hi:i<ns.length:=by have:=(bV.mp e').1;lia
      obtain⟨w,e2,iY⟩:=rv.get (i:=i) (x:=.int ns[i]) (by simp[hi]);rw[e'] at e2;cases e2;have:ns.getD i 0=ns[i]:=by rw[cR,bz hi];rfl
      rw[this];exact iY
    refine UG (I2.ok.hd hc) pl.isList hv fun v h' tk hb kp=>?_
    have sz:its.toArray.size=ns.length:=by rw[bS];exact len.symm
    rcases hb with ⟨h0,rfl⟩ | ⟨b,eb,hb⟩
    · refine⟨.int d,_,I2.kept kp,⟨t,rfl⟩,q d (.inl ⟨?_,rfl⟩)⟩;exact mq.mp (by lia)
    · obtain⟨t',rfl⟩:=hv b _ eb;have UI:b<ns.length:=by
        have:=(gD.mp eb).1;lia
      have eg:∀i (hi:i<ns.length),ns.getD i 0=ns[i]:=fun i hi=>by rw[cR,bz hi];rfl
      refine⟨.int (ns.getD b 0),_,I2.kept kp,⟨t',rfl⟩,q _ (.inr ⟨?_,fun y hy=>?_⟩)⟩
      · rw[eg b UI];exact jW _
      · obtain⟨i,hi,rfl⟩:=lg.mp hy;have:=hb i (by lia)
        rwa [eg i hi] at this
end
end L2
namespace Dm
open PySem PySem.NumText L2
def jj (lv:Str->Nat) (j:Nat) (x:Str):Bool:=decide (lv x=j)
def sW (lv:Str->Nat) (L:List (Str×ah)):List Int:=L.map fun p=>(lv p.1:Int)+1
def pA (lv:Str->Nat) (u:Str) (m:Nat):Str->Nat:=fun x=>if x=u then m else lv x
structure Lv (ln:Ln) (M:List Str) (lv:Str->Nat) (n:Nat):Prop where
  cl:∀x∈M,∀l r,(l,r)∈ln x->l∈M
  mx:∀x∈M,DM (sW lv (ln x)) 0 (lv x)
  lt:∀x∈M,lv x<n
  all:∀j,j<n->∃x∈M,lv x=j
theorem Lv.nil {ln:Ln}{lv:Str->Nat}:Lv ln [] lv 0:=⟨by simp,by simp,by simp,by simp⟩
theorem Lv.mem {ln:Ln}{M M':List Str}{lv:Str->Nat}{n:Nat}(h:Lv ln M lv n) (e:∀x,x∈M↔x∈M'):Lv ln M' lv n:=
  ⟨fun x hx l r hl=>(e l).mp (h.cl x ((e x).mpr hx) l r hl),fun x hx=>h.mx x ((e x).mpr hx),fun x hx=>h.lt x ((e x).mpr hx),fun j hj=>by
    obtain⟨x,hx,z⟩:=h.all j hj;exact⟨x,(e x).mp hx,z⟩⟩
theorem Lv.next {ln:Ln}{M:List Str}{lv:Str->Nat}{n:Nat}{u:Str}(h:Lv ln M lv n) (hc:∀l r,(l,r)∈ln u->l∈M) {m:Int}(hm:DM (sW lv (ln u)) 0 m):∃k:Nat,m=k/\k<=n:=by
  rcases hm with ⟨_,rfl⟩ | ⟨hm,_⟩
  · exact⟨0,rfl,by lia⟩
  · unfold sW at hm;rw[br] at hm;obtain⟨⟨l,r⟩,hl,rfl⟩:=hm;have:=h.lt l (hc l r hl);exact⟨lv l+1,by simp,by lia⟩
theorem UJ {lv M9:Str->Nat}{L:List (Str×ah)}(h:∀l r,(l,r)∈L->lv l=M9 l):sW lv L=sW M9 L:=by
  unfold sW;refine jr fun p hp=>?_
  rw[h p.1 p.2 hp]
theorem DN {lv:Str->Nat}{u x:Str}{k:Nat}(h:x≠u):pA lv u k x=lv x:=by unfold pA;rw[ao h]
theorem Gn {lv:Str->Nat}{u:Str}{k:Nat}:pA lv u k u=k:=by unfold pA;rw[aq rfl]
theorem Lv.step {ln:Ln}{M:List Str}{lv:Str->Nat}{n:Nat}{u:Str}(h:Lv ln M lv n) (hu:u ∉ M) (hc:∀l r,(l,r)∈ln u->l∈M) {k:Nat}(hm:DM (sW lv (ln u)) 0 k) (hk:k<=n) :
    Lv ln (M++[u]) (pA lv u k) (if k=n then n+1 else n):=by
  have ne:∀x∈M,x≠u:=fun x hx z=>hu (z▸hx)
  have cg:∀x,(∀l r,(l,r)∈ln x->l∈M)->sW (pA lv u k) (ln x)=sW lv (ln x):=fun x hx=>UJ fun l r hl=>DN (ne l (hx l r hl))
  have sp:∀x,x∈M++[u]->x∈M\/x=u:=fun x hx=>by
    rcases bM.mp hx with h | h
    · exact .inl h
    · exact .inr (by simpa using h)
  refine⟨fun x hx l r hl=>?_,fun x hx=>?_,fun x hx=>?_,fun j hj=>?_⟩
  · rcases sp x hx with hx | rfl
    · exact ee _ (h.cl x hx l r hl)
    · exact ee _ (hc l r hl)
  · rcases sp x hx with hx | rfl
    · rw[cg x (h.cl x hx),DN (ne x hx)];exact h.mx x hx
    · rw[cg x hc,Gn];exact hm
  · rcases sp x hx with hx | rfl
    · rw[DN (ne x hx)];have:=h.lt x hx;split<;>lia
    · rw[Gn];split<;>lia
  · by_cases c:j<n
    · obtain⟨x,hx,e⟩:=h.all j c;exact⟨x,ee _ hx,by rw[DN (ne x hx)];exact e⟩
    · refine⟨u,by simp,?_⟩;rw[Gn];split at hj<;>lia
theorem UK {M:List Str}{lv:Str->Nat}{u:Str}{k j:Nat}(hu:u ∉ M):(M++[u]).filter (jj (pA lv u k) j)=M.filter (jj lv j)++(if k=j then [u] else []):=by
  rw[iH]
  congr 1
  · refine List.filter_congr fun x hx=>?_
    unfold jj;have ne:x≠u:=fun z=>hu (by rw[←z];exact hx)
    rw[DN ne]
  · have e:jj (pA lv u k) j u=decide (k=j):=by unfold jj;rw[Gn]
    by_cases c:k=j
    · rw[aq c,qF (by rw[e];exact aO c)];rfl
    · rw[ao c,qG (by rw[e,aV c];exact bJ)];rfl
theorem UL {os keys:List Str}{p:Str->Bool}(pm:os.Perm keys) (kl:keys.Pairwise (fun a b=>co a<co b)):aL (os.filter p)=keys.filter p:=by
  refine (IK (pm.filter p).symm ?_).symm;unfold Ag;exact (kl.imp (fun h=>DC h)).sublist (l8 ..)
theorem UM {l:List ah}(h:l.Nodup) {i j:Nat}{a:ah}(hi:l[i]? = some a) (hj:l[j]? = some a):i=j:=by
  obtain⟨h1,e1⟩:=bV.mp hi;obtain⟨h2,e2⟩:=bV.mp hj;have pw:=lY.mp h;rcases kC i j with c | c | c
  · exact absurd (e1.trans e2.symm) (pw i j h1 h2 c)
  · exact c
  · exact absurd (e2.trans e1.symm) (pw j i h2 h1 c)
end Dm
namespace L2
open PySem PySem.Spec PyProof.Rows
theorem UN {c:TT}{t u:TS}{D:Ends}{σ:St}{H:Hp}(P:St->Hp->Prop) (b:Bool) (ht:∀Q':Bool->Hp->Prop,Q' b H->c σ H Q') (h1:b=true->(∀aK H',P aK H'->D.nx aK H')->t D σ H) (h2:b=false->(∀aK H',P aK H'->D.nx aK H')->u D σ H)
    (hn:∀aK H',P aK H'->D.nx aK H'):uI c t u D σ H:=by
  refine mX b ht ?_;cases b with
  | true=>exact gx (h1 rfl hn)
  | false=>exact fR (h2 rfl hn)
end L2
namespace Dm
open PySem PySem.NumText L2
theorem Lv.xC {ln:Ln}{M:List Str}{lv:Str->Nat}{n:Nat}(h:Lv ln M lv n) {j:Nat}(hj:n<=j):M.filter (jj lv j) = []:=by
  rw[qI];intro x hx;have:=h.lt x hx;unfold jj;rw[dg];lia
end Dm
namespace L2
open PySem PySem.Spec PyProof.Rows
abbrev IS:=Int×Str
def gR (p q:IS):Bool:=if p.1=q.1 then decide (q.2.cps.toList<p.2.cps.toList) else decide (q.1<p.1)
theorem yD (p:IS):gR p p=false:=by
  unfold gR;rw[aq rfl];exact aV (fk _)
theorem IZ {i b j:IS}(h1:gR i b=false) (h2:gR j b=true):gR i j=false:=by
  unfold gR at *
  by_cases c1:i.1=b.1
  · rw[aq c1] at h1;have h1:=iI h1
    by_cases c2:j.1=b.1
    · rw[aq c2] at h2;have h2:=aP h2;rw[aq (c1.trans c2.symm)];exact aV fun z=>h1 (mR h2 z)
    · rw[ao c2] at h2;have h2:=aP h2;rw[ao (fun z=>c2 (z.symm.trans c1))];exact aV (by lia)
  · rw[ao c1] at h1;have h1:=iI h1
    by_cases c2:j.1=b.1
    · rw[ao (fun z=>c1 (z.trans c2))];exact aV (by lia)
    · rw[ao c2] at h2;have h2:=aP h2;rw[ao (by lia)];exact aV (by lia)
theorem Gp {p b:IS}(h:gR p b=false):p.1<=b.1:=by
  unfold gR at h
  by_cases c:p.1=b.1
  · lia
  · rw[ao c] at h;have:=iI h;lia
def eW (h:Heap) (v:ai) (p:IS):Prop:=∃a t u,v = .ref a/\IsTup h a #[.int p.1 t,.str p.2 u]
theorem eW.kept {h h':Heap}{v:ai}{p:IS}(t:eW h v p) (k:∀d o,(h.get? d=some o/\o.cls = .type "tuple")->h'.get? d=some o):eW h' v p:=by
  obtain⟨a,x,y,rfl,o,ho,hc,n,hd⟩:=t;exact⟨a,x,y,rfl,o,k a o ⟨ho,hc⟩,hc,n,hd⟩
section
variable {prog:aU}{w:World}{A:Around}{E:aA}{s:au}
theorem UO {a b:Int}{t u:Tok}{Q:aA}(q:Q (.bool (decide (a<b))) s):wpAny (model prog w) A (richCompare .Lt (.int a t) (.int b u)) Q E s:=
  CmpOf.ints_lt (P:=fun i v=>(i=0/\v = .int a t)\/(i=1/\v = .int b u)) (fun i=>if i=0 then a else b) (fun i v h=>by
    rcases h with ⟨rfl,rfl⟩ | ⟨rfl,rfl⟩
    · exact⟨t,rfl⟩
    · exact⟨u,rfl⟩) 0 1 _ _ s Q E (.inl ⟨rfl,rfl⟩) (.inr ⟨rfl,rfl⟩) q
theorem UP {v1 v2:ai}{p q:IS}{Q:aA}(hu:A.units<cLine) (h1:eW s.heap v1 p) (h2:eW s.heap v2 q) (h:Q (.bool (gR p q)) s) :
    wpAny (model prog w) A (richCompare .Gt v1 v2) Q E s:=by
  obtain⟨a,t1,u1,rfl,oa,Am,xD,na,DO⟩:=h1;obtain⟨b,t2,u2,rfl,ob,An,xE,nb,j0⟩:=h2;have ta:s.TypeIs (.ref a) "tuple":=⟨oa,Am,xD⟩;have tb:s.TypeIs (.ref b) "tuple":=⟨ob,An,xE⟩;refine wpAny_richCompare_same_room (op:=.Gt) ta tb F.slot_tuple_gt (jv F.slot_tuple_gt ta F.entry_tuple_gt ?_ (F.args_tuple_gt_2 _ _)) hu;show wpAny _ _ (isInstance (.ref b) (.type "tuple") >>= _) _ _ s;refine aj (kF tb isSubtype_tuple_tuple ?_);rw[ao (by decide)];refine aj (oJ Am DO (aj (oJ An j0 (aj ?_))));show wpAny _ _ (forIn [((Value.int p.1 t1,Value.int q.1 t2):ai×ai),(Value.str p.2 u1,Value.str q.2 u2)] _ _) _ _ s;rw[kI];refine aj (aj (wpAny_eqBool_int ?_))
  by_cases c:p.1=q.1
  · rw[show (p.1 == q.1)=true from jL.mpr c,ao (by decide)];refine az ?_;show wpAny _ _ (forIn [((Value.str p.2 u1,Value.str q.2 u2):ai×ai)] _ _) _ _ s;rw[kI];refine aj (aj (mH ?_))
    by_cases c2:p.2=q.2
    · rw[aO c2,ao (by decide)];refine az ?_;show wpAny _ _ (forIn ([]:List (ai×ai)) _ _) _ _ s;rw[List.forIn_nil];refine az (az ⟨_,rfl,(fun e=>nomatch e),?_⟩);have e:gR p q=false:=by
        unfold gR;rw[aq c,c2];exact aV (fk _)
      rw[e] at h;exact h
    · rw[aV c2,aq (by decide)];refine aj (gv (aj (PySem.P.gt_str ?_)));refine az (az (az ⟨_,rfl,(fun e=>nomatch e),?_⟩));unfold gR at h;rw[aq c] at h;exact h
  · rw[show (p.1 == q.1)=false from jo.mpr c,aq (by decide)];refine aj (gv (aj (M7 ?_)));refine az (az (az ⟨_,rfl,(fun e=>nomatch e),?_⟩));unfold gR at h;rw[ao c] at h;exact h
theorem UQ {v1 v2:ai}{p q:IS}{Q:aA}(hu:A.units<cLine) (h1:eW s.heap v1 p) (h2:eW s.heap v2 q) (h:Q (.bool (gR q p)) s) :
    wpAny (model prog w) A (richCompare .Lt v1 v2) Q E s:=by
  obtain⟨a,t1,u1,rfl,oa,Am,xD,na,DO⟩:=h1;obtain⟨b,t2,u2,rfl,ob,An,xE,nb,j0⟩:=h2;have ta:s.TypeIs (.ref a) "tuple":=⟨oa,Am,xD⟩;have tb:s.TypeIs (.ref b) "tuple":=⟨ob,An,xE⟩;refine wpAny_richCompare_same_room (op:=.Lt) ta tb F.slot_tuple_lt (jv F.slot_tuple_lt ta F.entry_tuple_lt ?_ (F.args_tuple_lt_2 _ _)) hu;show wpAny _ _ (isInstance (.ref b) (.type "tuple") >>= _) _ _ s;refine aj (kF tb isSubtype_tuple_tuple ?_);rw[ao (by decide)];refine aj (oJ Am DO (aj (oJ An j0 (aj ?_))));show wpAny _ _ (forIn [((Value.int p.1 t1,Value.int q.1 t2):ai×ai),(Value.str p.2 u1,Value.str q.2 u2)] _ _) _ _ s;rw[kI];refine aj (aj (wpAny_eqBool_int ?_))
  by_cases c:p.1=q.1
  · rw[show (p.1 == q.1)=true from jL.mpr c,ao (by decide)];refine az ?_;show wpAny _ _ (forIn [((Value.str p.2 u1,Value.str q.2 u2):ai×ai)] _ _) _ _ s;rw[kI];refine aj (aj (mH ?_))
    by_cases c2:p.2=q.2
    · rw[aO c2,ao (by decide)];refine az ?_;show wpAny _ _ (forIn ([]:List (ai×ai)) _ _) _ _ s;rw[List.forIn_nil];refine az (az ⟨_,rfl,(fun e=>nomatch e),?_⟩);have e:gR q p=false:=by
        unfold gR;rw[aq c.symm,c2];exact aV (fk _)
      rw[e] at h;exact h
    · rw[aV c2,aq (by decide)];refine aj (gv (aj (lt_str ?_)));refine az (az (az ⟨_,rfl,(fun e=>nomatch e),?_⟩));unfold gR at h;rw[aq c.symm] at h;exact h
  · rw[show (p.1 == q.1)=false from jo.mpr c,aq (by decide)];refine aj (gv (aj (UO ?_)));refine az (az (az ⟨_,rfl,(fun e=>nomatch e),?_⟩));unfold gR at h;rw[ao (aD c)] at h;exact h
end
theorem I0 {i b j:IS}(h1:gR b i=false) (h2:gR b j=true):gR j i=false:=by
  unfold gR at *
  by_cases c1:b.1=i.1
  · rw[aq c1] at h1;have h1:=iI h1
    by_cases c2:b.1=j.1
    · rw[aq c2] at h2;have h2:=aP h2;rw[aq (c2.symm.trans c1)];exact aV fun z=>h1 (mR z h2)
    · rw[ao c2] at h2;have h2:=aP h2;rw[ao (fun z=>c2 (c1.trans z.symm))];exact aV (by lia)
  · rw[ao c1] at h1;have h1:=iI h1
    by_cases c2:b.1=j.1
    · rw[ao (fun z=>c1 (c2.trans z))];exact aV (by lia)
    · rw[ao c2] at h2;have h2:=aP h2;rw[ao (by lia)];exact aV (by lia)
theorem wF {α β:Type}{F:α->β->Prop}{as:List α}{bs:List β}(h:Paired F as bs):∀{i:Nat}{a:α}{b:β},as[i]? = some a->bs[i]? = some b->F a b:=by
  induction h with
  | nil=>intro i a b e _;simp at e
  | cons h _ ih=>
    intro i a b e1 e2;cases i with
    | zero=>simp at e1 e2;rw[←e1,←e2];exact h
    | succ i=>exact ih (by simpa using e1) (by simpa using e2)
section
variable {prog:aU}{w:World}{A:Around}{R:Result->au->Prop}
theorem UR {l it S:ah}{its:Array ai}{val:Nat->IS}(hh:A.handled=none) (hu:A.units+1<cLine) (n1:S≠it) (n2:S≠l) (n3:l≠it) :
    ∀(k j b:Nat) (s:au) (vb:ai) (c:Nat),its.size-j=k->kg s.heap l it S its vb j c->(∀i v,its[i]? = some v->eW s.heap v (val i))->its[b]? = some vb->(∀i,i<j->gR (val i) (val b)=false)->j<=its.size->
      (∀(v:ai) (b':Nat) (h':Heap) (tk:Nat),its[b']? = some v->(∀i,i<its.size->gR (val i) (val b')=false)->(∀d o,d≠it->d≠S->s.heap.get? d=some o->h'.get? d=some o)->R (.ok (.ret v)) { s with heap:=h',toks:=tk })->
      codeAny (model prog w) A (.builtin "max.loop" ⟨[.ref it,.none,.ref S],[]⟩) R s:=by
  have nm:(toString "max" ++ toString ".loop" : String) = "max.loop":=by decide
  intro k
  induction k with
  | zero=>
    intro j b s vb c hk M ht eb best hj q;refine ia kG ?_;rw[iD f9 _];show wpAny _ A.in1 (seqItems? (.ref S) >>= _) _ _ s;refine aj (ic M.s rfl (aj (gG (mz (A:=A.in1) hh M.i M.l (mw (show its.size<=j by lia)) fun h' wD=>?_))));have s':=wD S _ n1 M.s;refine aj (m:=updateSeq S (fun _=>#[])) ?_;refine gc s' rfl (aj (eF (az ?_)));exact q vb b _ s.toks eb (fun i hi=>best i (by lia)) fun d o d1 d2 e=>by
      rw[cE _ _ (aD d2)];exact wD d o d1 e
  | succ k ih=>
    intro j b s vb c hk M ht eb best hj q;have cQ:j<its.size:=by lia
    have ej:its[j]? = some its[j]:=gZ cQ;refine ia kG ?_;rw[iD f9 _];show wpAny _ A.in1 (seqItems? (.ref S) >>= _) _ _ s;have ci:∀d o,s.heap.get? d=some o->o.cls = .type "tuple"->d≠it:=fun d o e z y=>by
      obtain⟨o',e',c',_⟩:=M.i;rw[y,e'] at e;cases e;rw[c'] at z;exact absurd z (by decide)
    have cS:∀d o,s.heap.get? d=some o->o.cls = .type "tuple"->d≠S:=fun d o e z y=>by
      have e':=M.s;rw[y,e'] at e;cases e;have z:Value.type "list" = Value.type "tuple":=z;exact absurd z (by decide)
    refine aj (ic M.s rfl (aj (gG (lZ M.i M.l ej fun h' qq sb=>?_))));have s':h'.get? S=_:=(sb.2 S n1).trans M.s;have l':h'.IsList l its:=by
      obtain⟨o,ho,r⟩:=M.l;exact⟨o,(sb.2 l n3).trans ho,r⟩
    have lI:∀i v,its[i]? = some v->eW h' v (val i):=fun i v e=>(ht i v e).kept fun d o z=>(sb.2 d (ci d o z.1 z.2)).trans z.1
    have tj:=lI j _ ej;have tb:=lI b _ eb;generalize its[j]=vj at ej tj;refine aj (az ?_);refine aj (gG (cT (aj (UP (s:={ s with heap:=h' }) hu tj tb ?_))));refine aj (cT (iJ (aj (eF (az ?_)))))
    by_cases c1:gR (val j) (val b)=true
    · rw[c1,aq rfl];refine aj (m:=updateSeq S (fun _=>#[vj,vj])) ?_;refine gc s' rfl (aj (eF ?_));rw[nm];have keep:∀d o,d≠S->h'.get? d=some o->(h'.update S (Obj.mapSeq fun _=>#[vj,vj])).get? d=some o:=fun d o d1 e=>(cE _ _ (aD d1)).trans e
      obtain⟨c',M'⟩:∃c',kg (h'.update S (Obj.mapSeq fun _=>#[vj,vj])) l it S its vj (j+1) c':=by
        refine⟨_,qq.at fun o e=>keep it o (aD n1) e,?_,dB _ s' rfl⟩;obtain⟨o,ho,r⟩:=l';exact⟨o,keep l o (aD n2) ho,r⟩
      refine az ⟨fM f9 _,ih (j+1) j _ _ _ (by lia) M' (fun i v e=>?_) ej (fun i hi=>?_) cQ fun v b' h2 tk ev hb kp=>?_⟩
      · refine (ht i v e).kept fun d o z=>keep d o (cS d o z.1 z.2) ((sb.2 d (ci d o z.1 z.2)).trans z.1)
      · by_cases c2:i=j
        · subst c2;exact yD _
        · exact IZ (best i (by lia)) c1
      · exact q v b' h2 tk ev hb fun d o d1 d2 e=>kp d o d1 d2 (keep d o d2 ((sb.2 d d1).trans e))
    · have c1:gR (val j) (val b)=false:=by simpa using c1
      rw[c1,ao bJ];refine aj (eF ?_);rw[nm];refine az ⟨fM f9 _,ih (j+1) b { s with heap:=h' } _ c (by lia) ⟨qq,l',s'⟩ lI eb (fun i hi=>?_) cQ fun v b' h2 tk ev hb kp=>?_⟩
      · by_cases c2:i=j
        · subst c2;exact c1
        · exact best i (by lia)
      · exact q v b' h2 tk ev hb fun d o d1 d2 e=>kp d o d1 d2 ((sb.2 d d1).trans e)
theorem US {l it S:ah}{its:Array ai}{val:Nat->IS}{s:au}{c:Nat}(hh:A.handled=none) (hu:A.units+1<cLine) (n1:S≠it) (n2:S≠l) (n3:l≠it) (m7:0<its.size)
    (hi:s.heap.IsListIter it l 0) (hl:s.heap.IsList l its) (hS:s.heap.get? S=some { cls:=.type "list",dict:=none,data:=.seq #[] c,slots:=#[] }) (ht:∀i v,its[i]? = some v->eW s.heap v (val i))
    (q:∀(v:ai) (b':Nat) (h':Heap) (tk:Nat),its[b']? = some v->(∀i,i<its.size->gR (val i) (val b')=false)->(∀d o,d≠it->d≠S->s.heap.get? d=some o->h'.get? d=some o)->R (.ok (.ret v)) { s with heap:=h',toks:=tk }) :
    codeAny (model prog w) A (.builtin "max.loop" ⟨[.ref it,.none,.ref S],[]⟩) R s:=by
  have nm:(toString "max" ++ toString ".loop" : String) = "max.loop":=by decide
  refine ia kG ?_;rw[iD f9 _];show wpAny _ A.in1 (seqItems? (.ref S) >>= _) _ _ s;have ci:∀d o,s.heap.get? d=some o->o.cls = .type "tuple"->d≠it:=fun d o e z y=>by
    obtain⟨o',e',c',_⟩:=hi;rw[y,e'] at e;cases e;rw[c'] at z;exact absurd z (by decide)
  have cS:∀d o,s.heap.get? d=some o->o.cls = .type "tuple"->d≠S:=fun d o e z y=>by
    rw[y,hS] at e;cases e;have z:Value.type "list" = Value.type "tuple":=z;exact absurd z (by decide)
  have ej:its[0]? = some its[0]:=gZ m7;refine aj (ic hS rfl (aj (gG (lZ hi hl ej fun h' qq sb=>?_))));have s':h'.get? S=_:=(sb.2 S n1).trans hS;have l':h'.IsList l its:=by
    obtain⟨o,ho,r⟩:=hl;exact⟨o,(sb.2 l n3).trans ho,r⟩
  refine aj (az ?_);refine aj (m:=updateSeq S (fun _=>#[its[0],its[0]])) ?_;refine gc s' rfl ?_;rw[nm];have keep:∀d o,d≠S->h'.get? d=some o->(h'.update S (Obj.mapSeq fun _=>#[its[0],its[0]])).get? d=some o:=fun d o d1 e=>(cE _ _ (aD d1)).trans e
  obtain⟨c',M'⟩:∃c',kg (h'.update S (Obj.mapSeq fun _=>#[its[0],its[0]])) l it S its its[0] 1 c':=by
    refine⟨_,qq.at fun o e=>keep it o (aD n1) e,?_,dB _ s' rfl⟩;obtain⟨o,ho,r⟩:=l';exact⟨o,keep l o (aD n2) ho,r⟩
  refine az ⟨fM f9 _,UR (val:=val) hh hu n1 n2 n3 _ 1 0 _ _ _ rfl M' (fun i v e=>?_) ej (fun i hi=>?_) (by lia) fun v b' h2 tk ev hb kp=>?_⟩
  · exact (ht i v e).kept fun d o z=>keep d o (cS d o z.1 z.2) ((sb.2 d (ci d o z.1 z.2)).trans z.1)
  · have:i=0:=by lia
    subst this;exact yD _
  · exact q v b' h2 tk ev hb fun d o d1 d2 e=>kp d o d1 d2 (keep d o d2 ((sb.2 d d1).trans e))
end
section
variable {prog:aU}{w:World}{A:Around}{E:aA}{s:au}
theorem UT {l:ah}{its:Array ai}{val:Nat->IS}{Q:aA}(hh:A.handled=none) (hu:A.units+1<cLine) (hl:s.heap.IsList l its) (m7:0<its.size) (ht:∀i v,its[i]? = some v->eW s.heap v (val i))
    (q:∀(v:ai) (b':Nat) (h':Heap) (tk:Nat),its[b']? = some v->(∀i,i<its.size->gR (val i) (val b')=false)->(∀d o,s.heap.get? d=some o->h'.get? d=some o)->Q v { s with heap:=h',toks:=tk }) :
    wpAny (model prog w) A (call (.builtin "max") [.ref l]) Q E s:=by
  have nm:(toString "max" ++ toString ".loop" : String) = "max.loop":=by decide
  have cQ:l<s.heap.objs.size:=by obtain⟨_,e,_⟩:=hl;exact aI e
  have body:wpAny (model prog w) A.in1 (Builtin.«max» ⟨[.ref l],[]⟩) (fun fin s'=>match fin with
      | .done f=>(match (Except.ok f:Result) with | .ok (.ret v)=>Q v s' | .ok _=>False | .error e=>E e s')
      | .again c'=>c'.quiet=true/\codeAny (model prog w) A c' (fun r s'=>match r with | .ok (.ret v)=>Q v s' | .ok _=>False | .error e=>E e s') s') E s:=by
    show wpAny _ A.in1 (Builtin.Builtins.bindParams "max" ["key","default"] 0 ⟨[],[]⟩ >>= _) _ _ s;refine aj (kP (show Builtin.Builtins.bindParams "max" ["key","default"] 0 ⟨[],[]⟩=pure [none,none] from rfl) ?_);refine aj (az (aj (kB hl ?_)));refine aj (fh ?_);rw[nm];have zu:(s.heap.push { cls:=.type "list_iterator",data:=.fields #[.ref l,.int 0 0] }).objs.size=s.heap.objs.size+1:=gS ..;have k6:∀d o,s.heap.get? d=some o->(s.heap.push { cls:=.type "list_iterator",data:=.fields #[.ref l,.int 0 0] }).get? d=some o:=fun d o e=>bC _ e
    have hit:(s.heap.push { cls:=.type "list_iterator",data:=.fields #[.ref l,.int 0 0] }).IsListIter s.heap.objs.size l 0:=⟨_,bO _ rfl,rfl,rfl⟩;have pq:(s.heap.push { cls:=.type "list_iterator",data:=.fields #[.ref l,.int 0 0] }).IsList l its:=by
      obtain⟨o,ho,r⟩:=hl;exact⟨o,k6 l o ho,r⟩
    generalize s.heap.push { cls:=.type "list_iterator",data:=.fields #[.ref l,.int 0 0] } = g at zu k6 hit pq;have nA:(g.push { cls:=.type "list",data:=.seq ([]:List ai).toArray }).IsList l its:=by
      obtain⟨o,ho,r⟩:=pq;exact⟨o,bC _ ho,r⟩
    refine az ⟨fM f9 _,US (val:=val) (it:=s.heap.objs.size) (S:=g.objs.size) hh hu ?_ ?_ ?_ m7 (hit.at fun o e=>bC _ e) nA (bO _ rfl) (fun i v e=>(ht i v e).kept fun d o z=>bC _ (k6 d o z.1)) fun v b' h' tk eb hb kp=>?_⟩
    · rw[zu];exact Nat.succ_ne_self _
    · rw[zu];exact aD (bq (jD cQ))
    · exact bq cQ
    · refine q v b' h' tk eb hb fun d o e=>kp d o (fun z=>?_) (fun z=>?_) (bC _ (k6 d o e))
      · exact absurd (aI e) (by rw[z];exact eB _)
      · exact absurd (aI e) (by rw[z,zu];exact mL (gq _))
  refine eG (jT F.plain_max F.entry_max ?_);have ha:=F.args_max1 (.ref l);simp only [checkBuiltinCall,F.kind_max];cases sg:Manifest.signature? "max" with
  | none=>exact az body
  | some g=>
    simp only [argsOk,sg] at ha;have ha:Bind.checkArgs "max" g ⟨[.ref l],[]⟩=pure ():=ha;show wpAny _ A.in1 (Bind.checkArgs "max" g ⟨[.ref l],[]⟩) _ _ s;rw[ha];exact az body
end
section
variable {X:Cx}
theorem UU {K:aF}(h:X.K=K) (hc:X.calm=true) (hu:X.A.units+1<cLine):oW X (.builtin "max") (fun xs H Q=>∃(l:ah) (as:List ah) (ps:List IS),xs = [V.ref l]/\aJ K H l (as.map V.ref)/\Paired (fun a (p:IS)=>bu K H a [.int p.1,.str p.2]) as ps/\ps≠[]/\
    ∀(j:Nat) a p,as[j]? = some a->ps[j]? = some p->(∀q∈ps,gR q p=false)->Q (.ref a) H):=by
  subst h;intro pins s σ H xs us Q I r h;obtain⟨l,as,ps,rfl,hl,pr,mY,q⟩:=h;obtain⟨u,rfl,ru⟩:=qj r;cases ru;obtain⟨its,rv,pl,hz⟩:=I.list hl;have len:=rv.length;rw[ay] at len;have lp:as.length=ps.length:=Paired.length pr;have m7:0<ps.length:=jC.mpr mY;have DP:∀(i:Nat) (v:ai),its.toArray[i]? = some v->∃(a:ah) (p:IS),as[i]? = some a/\ps[i]? = some p/\v=Value.ref a/\bu X.K H a [.int p.1,.str p.2]:=by
    intro i v e;have e':its[i]? = some v:=by simpa using e
    have hi:i<as.length:=by have:=(bV.mp e').1;lia
    have DQ:i<ps.length:=by lia
    obtain⟨u,e2,ru⟩:=rv.get (i:=i) (x:=V.ref as[i]) (by simp[hi]);rw[e'] at e2;cases e2;cases ru;exact⟨as[i],ps[i],bz hi,bz DQ,rfl,wF pr (bz hi) (bz DQ)⟩
  have ht:∀i v,its.toArray[i]? = some v->eW s.heap v (ps.getD i (0,"")):=by
    intro i v e;obtain⟨a,p,ea,ep,rfl,t⟩:=DP i v e;obtain⟨ts,rt,it,_⟩:=I.tuple t;have e0:ps.getD i (0,"")=p:=by rw[cR,ep];rfl
    obtain⟨u1,u2,rfl,⟨t1,rfl⟩,⟨t2,rfl⟩⟩:=Cp rt;rw[e0];exact⟨a,t1,t2,rfl,it⟩
  refine UT (I.ok.hd hc) hu pl.isList (by rw[bS];lia) ht fun v b h' tk eb hb kp=>?_
  obtain⟨a,p,ea,ep,rfl,t⟩:=DP b v eb;refine⟨.ref a,H,I.kept kp,rfl,q b a p ea ep fun z hz=>?_⟩;obtain⟨i,hi⟩:=g7.mp hz;have cQ:=(bV.mp hi).1;have:=hb i (by rw[bS];lia);rw[cR,cR,hi,ep] at this;exact this
end
section
variable {prog:aU}{w:World}{A:Around}{R:Result->au->Prop}
theorem UW {l it S:ah}{its:Array ai}{val:Nat->IS}(hh:A.handled=none) (hu:A.units+1<cLine) (n1:S≠it) (n2:S≠l) (n3:l≠it) :
    ∀(k j b:Nat) (s:au) (vb:ai) (c:Nat),its.size-j=k->kg s.heap l it S its vb j c->(∀i v,its[i]? = some v->eW s.heap v (val i))->its[b]? = some vb->(∀i,i<j->gR (val b) (val i)=false)->j<=its.size->
      (∀(v:ai) (b':Nat) (h':Heap) (tk:Nat),its[b']? = some v->(∀i,i<its.size->gR (val b') (val i)=false)->(∀d o,d≠it->d≠S->s.heap.get? d=some o->h'.get? d=some o)->R (.ok (.ret v)) { s with heap:=h',toks:=tk })->
      codeAny (model prog w) A (.builtin "min.loop" ⟨[.ref it,.none,.ref S],[]⟩) R s:=by
  have nm:(toString "min" ++ toString ".loop" : String) = "min.loop":=by decide
  intro k
  induction k with
  | zero=>
    intro j b s vb c hk M ht eb best hj q;refine ia F.entry_min_loop ?_;rw[iD jE _];show wpAny _ A.in1 (seqItems? (.ref S) >>= _) _ _ s;refine aj (ic M.s rfl (aj (gG (mz (A:=A.in1) hh M.i M.l (mw (show its.size<=j by lia)) fun h' wD=>?_))));have s':=wD S _ n1 M.s;refine aj (m:=updateSeq S (fun _=>#[])) ?_;refine gc s' rfl (aj (eF (az ?_)));exact q vb b _ s.toks eb (fun i hi=>best i (by lia)) fun d o d1 d2 e=>by
      rw[cE _ _ (aD d2)];exact wD d o d1 e
  | succ k ih=>
    intro j b s vb c hk M ht eb best hj q;have cQ:j<its.size:=by lia
    have ej:its[j]? = some its[j]:=gZ cQ;refine ia F.entry_min_loop ?_;rw[iD jE _];show wpAny _ A.in1 (seqItems? (.ref S) >>= _) _ _ s;have ci:∀d o,s.heap.get? d=some o->o.cls = .type "tuple"->d≠it:=fun d o e z y=>by
      obtain⟨o',e',c',_⟩:=M.i;rw[y,e'] at e;cases e;rw[c'] at z;exact absurd z (by decide)
    have cS:∀d o,s.heap.get? d=some o->o.cls = .type "tuple"->d≠S:=fun d o e z y=>by
      have e':=M.s;rw[y,e'] at e;cases e;have z:Value.type "list" = Value.type "tuple":=z;exact absurd z (by decide)
    refine aj (ic M.s rfl (aj (gG (lZ M.i M.l ej fun h' qq sb=>?_))));have s':h'.get? S=_:=(sb.2 S n1).trans M.s;have l':h'.IsList l its:=by
      obtain⟨o,ho,r⟩:=M.l;exact⟨o,(sb.2 l n3).trans ho,r⟩
    have lI:∀i v,its[i]? = some v->eW h' v (val i):=fun i v e=>(ht i v e).kept fun d o z=>(sb.2 d (ci d o z.1 z.2)).trans z.1
    have tj:=lI j _ ej;have tb:=lI b _ eb;generalize its[j]=vj at ej tj;refine aj (az ?_);refine aj (gG (cT (aj (UQ (s:={ s with heap:=h' }) hu tj tb ?_))));refine aj (cT (iJ (aj (eF (az ?_)))))
    by_cases c1:gR (val b) (val j)=true
    · rw[c1,aq rfl];refine aj (m:=updateSeq S (fun _=>#[vj,vj])) ?_;refine gc s' rfl (aj (eF ?_));rw[nm];have keep:∀d o,d≠S->h'.get? d=some o->(h'.update S (Obj.mapSeq fun _=>#[vj,vj])).get? d=some o:=fun d o d1 e=>(cE _ _ (aD d1)).trans e
      obtain⟨c',M'⟩:∃c',kg (h'.update S (Obj.mapSeq fun _=>#[vj,vj])) l it S its vj (j+1) c':=by
        refine⟨_,qq.at fun o e=>keep it o (aD n1) e,?_,dB _ s' rfl⟩;obtain⟨o,ho,r⟩:=l';exact⟨o,keep l o (aD n2) ho,r⟩
      refine az ⟨fM jE _,ih (j+1) j _ _ _ (by lia) M' (fun i v e=>?_) ej (fun i hi=>?_) cQ fun v b' h2 tk ev hb kp=>?_⟩
      · refine (ht i v e).kept fun d o z=>keep d o (cS d o z.1 z.2) ((sb.2 d (ci d o z.1 z.2)).trans z.1)
      · by_cases c2:i=j
        · subst c2;exact yD _
        · exact I0 (best i (by lia)) c1
      · exact q v b' h2 tk ev hb fun d o d1 d2 e=>kp d o d1 d2 (keep d o d2 ((sb.2 d d1).trans e))
    · have c1:gR (val b) (val j)=false:=by simpa using c1
      rw[c1,ao bJ];refine aj (eF ?_);rw[nm];refine az ⟨fM jE _,ih (j+1) b { s with heap:=h' } _ c (by lia) ⟨qq,l',s'⟩ lI eb (fun i hi=>?_) cQ fun v b' h2 tk ev hb kp=>?_⟩
      · by_cases c2:i=j
        · subst c2;exact c1
        · exact best i (by lia)
      · exact q v b' h2 tk ev hb fun d o d1 d2 e=>kp d o d1 d2 ((sb.2 d d1).trans e)
theorem UX {l it S:ah}{its:Array ai}{val:Nat->IS}{s:au}{c:Nat}(hh:A.handled=none) (hu:A.units+1<cLine) (n1:S≠it) (n2:S≠l) (n3:l≠it) (m7:0<its.size)
    (hi:s.heap.IsListIter it l 0) (hl:s.heap.IsList l its) (hS:s.heap.get? S=some { cls:=.type "list",dict:=none,data:=.seq #[] c,slots:=#[] }) (ht:∀i v,its[i]? = some v->eW s.heap v (val i))
    (q:∀(v:ai) (b':Nat) (h':Heap) (tk:Nat),its[b']? = some v->(∀i,i<its.size->gR (val b') (val i)=false)->(∀d o,d≠it->d≠S->s.heap.get? d=some o->h'.get? d=some o)->R (.ok (.ret v)) { s with heap:=h',toks:=tk }) :
    codeAny (model prog w) A (.builtin "min.loop" ⟨[.ref it,.none,.ref S],[]⟩) R s:=by
  have nm:(toString "min" ++ toString ".loop" : String) = "min.loop":=by decide
  refine ia F.entry_min_loop ?_;rw[iD jE _];show wpAny _ A.in1 (seqItems? (.ref S) >>= _) _ _ s;have ci:∀d o,s.heap.get? d=some o->o.cls = .type "tuple"->d≠it:=fun d o e z y=>by
    obtain⟨o',e',c',_⟩:=hi;rw[y,e'] at e;cases e;rw[c'] at z;exact absurd z (by decide)
  have cS:∀d o,s.heap.get? d=some o->o.cls = .type "tuple"->d≠S:=fun d o e z y=>by
    rw[y,hS] at e;cases e;have z:Value.type "list" = Value.type "tuple":=z;exact absurd z (by decide)
  have ej:its[0]? = some its[0]:=gZ m7;refine aj (ic hS rfl (aj (gG (lZ hi hl ej fun h' qq sb=>?_))));have s':h'.get? S=_:=(sb.2 S n1).trans hS;have l':h'.IsList l its:=by
    obtain⟨o,ho,r⟩:=hl;exact⟨o,(sb.2 l n3).trans ho,r⟩
  refine aj (az ?_);refine aj (m:=updateSeq S (fun _=>#[its[0],its[0]])) ?_;refine gc s' rfl ?_;rw[nm];have keep:∀d o,d≠S->h'.get? d=some o->(h'.update S (Obj.mapSeq fun _=>#[its[0],its[0]])).get? d=some o:=fun d o d1 e=>(cE _ _ (aD d1)).trans e
  obtain⟨c',M'⟩:∃c',kg (h'.update S (Obj.mapSeq fun _=>#[its[0],its[0]])) l it S its its[0] 1 c':=by
    refine⟨_,qq.at fun o e=>keep it o (aD n1) e,?_,dB _ s' rfl⟩;obtain⟨o,ho,r⟩:=l';exact⟨o,keep l o (aD n2) ho,r⟩
  refine az ⟨fM jE _,UW (val:=val) hh hu n1 n2 n3 _ 1 0 _ _ _ rfl M' (fun i v e=>?_) ej (fun i hi=>?_) (by lia) fun v b' h2 tk ev hb kp=>?_⟩
  · exact (ht i v e).kept fun d o z=>keep d o (cS d o z.1 z.2) ((sb.2 d (ci d o z.1 z.2)).trans z.1)
  · have:i=0:=by lia
    subst this;exact yD _
  · exact q v b' h2 tk ev hb fun d o d1 d2 e=>kp d o d1 d2 (keep d o d2 ((sb.2 d d1).trans e))
end
section
variable {prog:aU}{w:World}{A:Around}{E:aA}{s:au}
theorem UY {l:ah}{its:Array ai}{val:Nat->IS}{Q:aA}(hh:A.handled=none) (hu:A.units+1<cLine) (hl:s.heap.IsList l its) (m7:0<its.size) (ht:∀i v,its[i]? = some v->eW s.heap v (val i))
    (q:∀(v:ai) (b':Nat) (h':Heap) (tk:Nat),its[b']? = some v->(∀i,i<its.size->gR (val b') (val i)=false)->(∀d o,s.heap.get? d=some o->h'.get? d=some o)->Q v { s with heap:=h',toks:=tk }) :
    wpAny (model prog w) A (call (.builtin "min") [.ref l]) Q E s:=by
  have nm:(toString "min" ++ toString ".loop" : String) = "min.loop":=by decide
  have cQ:l<s.heap.objs.size:=by obtain⟨_,e,_⟩:=hl;exact aI e
  have body:wpAny (model prog w) A.in1 (Builtin.«min» ⟨[.ref l],[]⟩) (fun fin s'=>match fin with
      | .done f=>(match (Except.ok f:Result) with | .ok (.ret v)=>Q v s' | .ok _=>False | .error e=>E e s')
      | .again c'=>c'.quiet=true/\codeAny (model prog w) A c' (fun r s'=>match r with | .ok (.ret v)=>Q v s' | .ok _=>False | .error e=>E e s') s') E s:=by
    show wpAny _ A.in1 (Builtin.Builtins.bindParams "min" ["key","default"] 0 ⟨[],[]⟩ >>= _) _ _ s;refine aj (kP (show Builtin.Builtins.bindParams "min" ["key","default"] 0 ⟨[],[]⟩=pure [none,none] from rfl) ?_);refine aj (az (aj (kB hl ?_)));refine aj (fh ?_);rw[nm];have zu:(s.heap.push { cls:=.type "list_iterator",data:=.fields #[.ref l,.int 0 0] }).objs.size=s.heap.objs.size+1:=gS ..;have k6:∀d o,s.heap.get? d=some o->(s.heap.push { cls:=.type "list_iterator",data:=.fields #[.ref l,.int 0 0] }).get? d=some o:=fun d o e=>bC _ e
    have hit:(s.heap.push { cls:=.type "list_iterator",data:=.fields #[.ref l,.int 0 0] }).IsListIter s.heap.objs.size l 0:=⟨_,bO _ rfl,rfl,rfl⟩;have pq:(s.heap.push { cls:=.type "list_iterator",data:=.fields #[.ref l,.int 0 0] }).IsList l its:=by
      obtain⟨o,ho,r⟩:=hl;exact⟨o,k6 l o ho,r⟩
    generalize s.heap.push { cls:=.type "list_iterator",data:=.fields #[.ref l,.int 0 0] } = g at zu k6 hit pq;have nA:(g.push { cls:=.type "list",data:=.seq ([]:List ai).toArray }).IsList l its:=by
      obtain⟨o,ho,r⟩:=pq;exact⟨o,bC _ ho,r⟩
    refine az ⟨fM jE _,UX (val:=val) (it:=s.heap.objs.size) (S:=g.objs.size) hh hu ?_ ?_ ?_ m7 (hit.at fun o e=>bC _ e) nA (bO _ rfl) (fun i v e=>(ht i v e).kept fun d o z=>bC _ (k6 d o z.1)) fun v b' h' tk eb hb kp=>?_⟩
    · rw[zu];exact Nat.succ_ne_self _
    · rw[zu];exact aD (bq (jD cQ))
    · exact bq cQ
    · refine q v b' h' tk eb hb fun d o e=>kp d o (fun z=>?_) (fun z=>?_) (bC _ (k6 d o e))
      · exact absurd (aI e) (by rw[z];exact eB _)
      · exact absurd (aI e) (by rw[z,zu];exact mL (gq _))
  refine eG (jT F.plain_min F.entry_min ?_);have ha:=F.args_min1 (.ref l);simp only [checkBuiltinCall,F.kind_min];cases sg:Manifest.signature? "min" with
  | none=>exact az body
  | some g=>
    simp only [argsOk,sg] at ha;have ha:Bind.checkArgs "min" g ⟨[.ref l],[]⟩=pure ():=ha;show wpAny _ A.in1 (Bind.checkArgs "min" g ⟨[.ref l],[]⟩) _ _ s;rw[ha];exact az body
end
section
variable {X:Cx}
theorem UZ {K:aF}(h:X.K=K) (hc:X.calm=true) (hu:X.A.units+1<cLine):oW X (.builtin "min") (fun xs H Q=>∃(l:ah) (as:List ah) (ps:List IS),xs = [V.ref l]/\aJ K H l (as.map V.ref)/\Paired (fun a (p:IS)=>bu K H a [.int p.1,.str p.2]) as ps/\ps≠[]/\
    ∀(j:Nat) a p,as[j]? = some a->ps[j]? = some p->(∀q∈ps,gR p q=false)->Q (.ref a) H):=by
  subst h;intro pins s σ H xs us Q I r h;obtain⟨l,as,ps,rfl,hl,pr,mY,q⟩:=h;obtain⟨u,rfl,ru⟩:=qj r;cases ru;obtain⟨its,rv,pl,hz⟩:=I.list hl;have len:=rv.length;rw[ay] at len;have lp:as.length=ps.length:=Paired.length pr;have m7:0<ps.length:=jC.mpr mY;have DP:∀(i:Nat) (v:ai),its.toArray[i]? = some v->∃(a:ah) (p:IS),as[i]? = some a/\ps[i]? = some p/\v=Value.ref a/\bu X.K H a [.int p.1,.str p.2]:=by
    intro i v e;have e':its[i]? = some v:=by simpa using e
    have hi:i<as.length:=by have:=(bV.mp e').1;lia
    have DQ:i<ps.length:=by lia
    obtain⟨u,e2,ru⟩:=rv.get (i:=i) (x:=V.ref as[i]) (by simp[hi]);rw[e'] at e2;cases e2;cases ru;exact⟨as[i],ps[i],bz hi,bz DQ,rfl,wF pr (bz hi) (bz DQ)⟩
  have ht:∀i v,its.toArray[i]? = some v->eW s.heap v (ps.getD i (0,"")):=by
    intro i v e;obtain⟨a,p,ea,ep,rfl,t⟩:=DP i v e;obtain⟨ts,rt,it,_⟩:=I.tuple t;have e0:ps.getD i (0,"")=p:=by rw[cR,ep];rfl
    obtain⟨u1,u2,rfl,⟨t1,rfl⟩,⟨t2,rfl⟩⟩:=Cp rt;rw[e0];exact⟨a,t1,t2,rfl,it⟩
  refine UY (I.ok.hd hc) hu pl.isList (by rw[bS];lia) ht fun v b h' tk eb hb kp=>?_
  obtain⟨a,p,ea,ep,rfl,t⟩:=DP b v eb;refine⟨.ref a,H,I.kept kp,rfl,q b a p ea ep fun z hz=>?_⟩;obtain⟨i,hi⟩:=g7.mp hz;have cQ:=(bV.mp hi).1;have:=hb i (by rw[bS];lia);rw[cR,cR,hi,ep] at this;exact this
end
end L2
namespace Dm
open PySem PySem.NumText L2
structure fT (K:aF) (H:Hp) (p pm pu pt pf:ah) (lo hi:Int) (us:List Str) (av:List ah) (ts:List aQ) (af:List ah) (fs:List c8):Prop where
  eU:mZ K H p pu pt (.ref pm) (.ref pf) us av ts
  m:bu K H pm [.int lo,.int hi]
  f:aJ K H pf (af.map V.ref)
  ft:cy H af (fs.map gK)
  fu:∀f∈fs,f.u∈us
  fl:fs.length<=60
section
variable {K:aF}{H H':Hp}{p pm pu pt pf:ah}{lo hi:Int}{us:List Str}{av:List ah}{ts:List aQ}{af:List ah}{fs:List c8}
theorem fT.same (h:fT K H p pm pu pt pf lo hi us av ts af fs) (s:ak H H'):fT K H' p pm pu pt pf lo hi us av ts af fs:=⟨h.eU.same s,s.tup h.m,s.seq h.f,h.ft.same s,h.fu,h.fl⟩
theorem fT.sX (h:fT K H p pm pu pt pf lo hi us av ts af fs):af.length=fs.length:=by have:=h.ft.len;rw[ay] at this;exact this
end
theorem Ja (f:c8):kr (gK f) 0=some (.str f.n):=rfl
theorem Na (f:c8):kr (gK f) 1=some (.str f.u):=rfl
theorem Jb (f:c8):kr (gK f) 2=some (.int f.lo):=rfl
theorem Nc (f:c8):kr (gK f) 3=some (.int f.hi):=rfl
abbrev Fz:=List (c8×ah)
def gA (ts:List aQ) (z:Fz):Str->Fz:=fun k=>z.filter fun p=>decide (aC ts p.1.u=k)
theorem U1 {ts:List aQ}{z:Fz}{i:Nat}{f:c8}{r:ah}{k:Str}(h:z[i]? = some (f,r)):gA ts (z.take (i+1)) k=gA ts (z.take i) k++(if aC ts f.u=k then [(f,r)] else []):=by
  unfold gA;rw[aS,h,iH]
  congr 1
  by_cases c:aC ts f.u=k
  · rw[aq c];simp[c]
  · rw[ao c];simp[c]
theorem Jc {ts:List aQ}{z:Fz}{k:Str}:(gA ts z k).length<=z.length:=gE _ _
structure Fw (H:Hp) (pd:ah) (ob:Obj) (keys:List Str) (fw:Str->Fz) (ad:Str->ah):Prop where
  d:H pd=some (.ie ob (.dK (dV keys fun k=>.ref (ad k))))
  l:∀k∈keys,H (ad k)=some (.lst ((fw k).map fun p=>V.ref p.2))
theorem Fw.same {H H':Hp}{pd:ah}{ob:Obj}{keys:List Str}{fw:Str->Fz}{ad:Str->ah}(b:Fw H pd ob keys fw ad) (s:ak H H'):Fw H' pd ob keys fw ad:=
  ⟨s _ _ b.d,fun k hk=>s _ _ (b.l k hk)⟩
theorem nO {H:Hp}{pd:ah}{ob:Obj}{keys:List Str}{f:Str->V}(h:H pd=some (.ie ob (.dK (dV keys f)))) {k:Str}(hk:k∈keys):cj H pd (.str k) (some (f k)):=by
  have:=o8 (f:=f) hk;exact .inl ⟨_,Sum.inr k,.inr ⟨ob,h⟩,rfl,this.symm⟩
def yE (lo:Int) (L:Fz):List IS:=(lo,"")::L.map fun p=>(p.1.lo,p.1.n)
def yF (hi:Int) (L:Fz):List IS:=(hi,"")::L.map fun p=>(p.1.hi,p.1.n)
def vd (l:List IS) (m:IS):Prop:=m∈l/\∀q∈l,gR q m=false
def vf (l:List IS) (m:IS):Prop:=m∈l/\∀q∈l,gR m q=false
structure Bd (H:Hp) (pd:ah) (ob:Obj) (keys:List Str) (v:Str->IS) (ad:Str->ah):Prop where
  d:H pd=some (.ie ob (.dK (dV keys fun k=>.ref (ad k))))
  e:∀k∈keys,H (ad k)=some (.tup [.int (v k).1,.str (v k).2])
theorem Bd.same {H H':Hp}{pd:ah}{ob:Obj}{keys:List Str}{v:Str->IS}{ad:Str->ah}(b:Bd H pd ob keys v ad) (s:ak H H'):Bd H' pd ob keys v ad:=
  ⟨s _ _ b.d,fun k hk=>s _ _ (b.e k hk)⟩
theorem U3 {lo:Int}{L:Fz}{m:IS}(h:vd (yE lo L) m) (y:Int):m.1<=y↔lo<=y/\∀p∈L,p.1.lo<=y:=by
  obtain⟨h1,h2⟩:=h;unfold yE at h1 h2;constructor
  · intro h;refine⟨?_,fun p hp=>?_⟩
    · have:=Gp (h2 (lo,"") (by simp));have:lo<=m.1:=this;lia
    · have:=Gp (h2 (p.1.lo,p.1.n) (bD _ (br.mpr ⟨p,hp,rfl⟩)));have:p.1.lo<=m.1:=this;lia
  · rintro ⟨a,b⟩;rcases aN.mp h1 with rfl | h1
    · exact a
    · obtain⟨p,hp,rfl⟩:=br.mp h1;exact b p hp
theorem U4 {hi:Int}{L:Fz}{m:IS}(h:vf (yF hi L) m) (y:Int):y<=m.1↔y<=hi/\∀p∈L,y<=p.1.hi:=by
  obtain⟨h1,h2⟩:=h;unfold yF at h1 h2;constructor
  · intro h;refine⟨?_,fun p hp=>?_⟩
    · have:=Gp (h2 (hi,"") (by simp));have:m.1<=hi:=this;lia
    · have:=Gp (h2 (p.1.hi,p.1.n) (bD _ (br.mpr ⟨p,hp,rfl⟩)));have:m.1<=p.1.hi:=this;lia
  · rintro ⟨a,b⟩;rcases aN.mp h1 with rfl | h1
    · exact a
    · obtain⟨p,hp,rfl⟩:=br.mp h1;exact b p hp
def sY (i j:Int):Int:=if j > i then j else i
def Br (i j:Int):Int:=if j<i then j else i
def kh (ts:List aQ) (fs:List c8) (lo:Int) (k:Str):Int:=fs.foldl (fun m f=>if aC ts f.u=k then sY m f.lo else m) lo
def Bs (ts:List aQ) (fs:List c8) (hi:Int) (k:Str):Int:=fs.foldl (fun m f=>if aC ts f.u=k then Br m f.hi else m) hi
theorem Jd {us:List Str}{ts:List aQ}(gM:∀t∈ts,t.a∈us/\t.b∈us) {x:Str}(hx:x∈us):aC ts x∈zn ts (aL us):=yw gM hx
def vg (f:Str->Int) (q:fX):Str->Int:=fun z=>if z=q.1 then sY (f q.1) (f q.2.1+q.2.2.1) else f z
def vh (f:Str->Int) (q:fX):Str->Int:=fun z=>if z=q.2.1 then Br (f q.2.1) (f q.1-q.2.2.1) else f z
def Ao (ls:List fX) (f:Str->Int):Str->Int:=ls.foldl vg f
def Aq (ls:List fX) (f:Str->Int):Str->Int:=ls.foldl vh f
def sZ (ls:List fX) (f:Str->Int):Nat->Str->Int
  | 0=>f
  | n+1=>Ao ls (sZ ls f n)
def uu (ls:List fX) (f:Str->Int):Nat->Str->Int
  | 0=>f
  | n+1=>Aq ls (uu ls f n)
theorem Nd {α β:Type}:∀{as:List α}{bs:List β},bs.length=as.length->∀a∈as,∃b,(a,b)∈as.zip bs
  | [],_,_,a,h=>by cases h
  | x::as,[],h,_,_=>by simp at h
  | x::as,y::bs,h,a,ha=>by
    rcases aN.mp ha with rfl | ha
    · exact⟨y,by simp⟩
    · obtain⟨b,hb⟩:=Nd (as:=as) (bs:=bs) (by simpa using h) a ha;exact⟨b,by simp[hb]⟩
end Dm
namespace L2
open PySem
end L2
namespace L2
open PySem PySem.W PyProof.Rows
def qZ (N:Nat) (lt:Nat->Nat->Bool):Nat->Nat->(Bool->au->Prop)->au->Prop:=fun i j C s=>i<N/\j<N/\i≠j/\C (lt i j) s
structure vm (N:Nat) (lt:Nat->Nat->Bool):Prop where
  irr:∀a,a<N->lt a a=false
  tr:∀a b c,a<N->b<N->c<N->lt a b=true->lt b c=true->lt a c=true
  Je:∀a b,a<N->b<N->a≠b->lt a b=false->lt b a=true
structure Good (N:Nat) (p:Array Nat):Prop where
  sz:p.size=N
  lt:∀i,i<N->p.getD i 0<N
  inj:∀i j,i<N->j<N->p.getD i 0=p.getD j 0->i=j
def su (lt:Nat->Nat->Bool) (p:Array Nat) (k:Nat):Prop:=∀i j,i<j->j<k->lt (p.getD i 0) (p.getD j 0)=true
def yG (lt:Nat->Nat->Bool) (p:Array Nat) (k:Nat):Prop:=∀i j,i<j->j<k->lt (p.getD j 0) (p.getD i 0)=true
section
variable {N:Nat}{lt:Nat->Nat->Bool}{s:au}
theorem su.snoc (T:vm N lt) {p:Array Nat}(G:Good N p) {n:Nat}(h:su lt p n) (hn:n<N) (h1:1<=n) (q:lt (p.getD (n-1) 0) (p.getD n 0)=true):su lt p (n+1):=by
  intro i j qi hj
  by_cases c:j<n
  · exact h i j qi c
  · have:j=n:=by lia
    subst this
    by_cases c2:i=j-1
    · rw[c2];exact q
    · exact T.tr _ _ _ (G.lt i (by lia)) (G.lt (j-1) (by lia)) (G.lt j hn) (h i (j-1) (by lia) (by lia)) q
theorem yG.snoc (T:vm N lt) {p:Array Nat}(G:Good N p) {n:Nat}(h:yG lt p n) (hn:n<N) (h1:1<=n) (q:lt (p.getD n 0) (p.getD (n-1) 0)=true):yG lt p (n+1):=by
  intro i j qi hj
  by_cases c:j<n
  · exact h i j qi c
  · have:j=n:=by lia
    subst this
    by_cases c2:i=j-1
    · rw[c2];exact q
    · exact T.tr _ _ _ (G.lt j hn) (G.lt (j-1) (by lia)) (G.lt i (by lia)) q (h i (j-1) (by lia) (by lia))
theorem Jf (T:vm N lt) {p:Array Nat}(G:Good N p) {Q:Nat->au->Prop}:∀(f n:Nat),1<=n->n+f<=N->su lt p n->(∀m,n<=m->m<=n+f->su lt p m->(m<n+f->lt (p.getD m 0) (p.getD (m-1) 0)=true)->Q m s)->(kas_asc p f n).kasWp (qZ N lt) Q s
  | 0,n,_,_,a,k=>k n (aH _) (aH _) a (fun z=>absurd z (eB _))
  | f+1,n,h1,hn,a,k=>by
    refine⟨G.lt n (by lia),G.lt (n-1) (by lia),fun z=>by have:=G.inj n (n-1) (by lia) (by lia) z;lia,?_⟩;cases c:lt (p.getD n 0) (p.getD (n-1) 0) with
    | true=>
      dsimp only;rw[aq rfl];exact k n (aH _) (by lia) a fun _=>c
    | false=>
      dsimp only;rw[ao (by simp)];have ne:p.getD n 0≠p.getD (n-1) 0:=fun z=>by have:=G.inj n (n-1) (by lia) (by lia) z;lia
      have q:=T.Je _ _ (G.lt n (by lia)) (G.lt (n-1) (by lia)) ne c;refine Jf T G f (n+1) (by lia) (by lia) (a.snoc T G (by lia) h1 q) fun m m1 m2 am hm=>k m (by lia) (by lia) am fun z=>hm (by lia)
theorem Nf (T:vm N lt) {p:Array Nat}(G:Good N p) {Q:Array Nat×Nat×Nat->au->Prop}:∀(f n:Nat),1<=n->n+f<=N->yG lt p n->(∀m,n<=m->m<=n+f->yG lt p m->Q (p,m,0) s)->(kas_desc f p n 0).kasWp (qZ N lt) Q s
  | 0,n,_,_,a,k=>k n (aH _) (aH _) a
  | f+1,n,h1,hn,a,k=>by
    refine⟨G.lt n (by lia),G.lt (n-1) (by lia),fun z=>by have:=G.inj n (n-1) (by lia) (by lia) z;lia,?_⟩;cases c:lt (p.getD n 0) (p.getD (n-1) 0) with
    | true=>
      dsimp only;rw[aq rfl,ao (by lia)];exact Nf T G f (n+1) (by lia) (by lia) (a.snoc T G (by lia) h1 c) fun m m1 m2 am=>k m (by lia) (by lia) am
    | false=>
      dsimp only;rw[ao (by simp)];have ne:p.getD n 0≠p.getD (n-1) 0:=fun z=>by have:=G.inj n (n-1) (by lia) (by lia) z;lia
      have q:=T.Je _ _ (G.lt n (by lia)) (G.lt (n-1) (by lia)) ne c;refine⟨G.lt (n-1) (by lia),G.lt n (by lia),aD ne,?_⟩;rw[q];dsimp only;rw[aq rfl];exact k n (aH _) (by lia) a
theorem DR {p:Array Nat}{i:Nat}{q:Array Nat}{j:Nat}(h:p[i]? = q[j]?):p.getD i 0=q.getD j 0:=by
  rw[n9,n9,h]
theorem DS {p:Array Nat}{j:Nat}(hj:j<=p.size) (k:Nat):(kas_rev p 0 j).getD k 0=if k<j then p.getD (j-1-k) 0 else p.getD k 0:=by
  have e:=getElem?_mirror_all (xs:=p) (i:=0) hj k;unfold kas_rev
  by_cases c:k<j
  · rw[aq c];rw[aq ⟨dj _,c⟩] at e;rw[Nat.zero_add] at e;exact DR e
  · rw[ao c];rw[ao (fun z=>c z.2)] at e;exact DR e
theorem Good.rev {p:Array Nat}(G:Good N p) {j:Nat}(hj:j<=N):Good N (kas_rev p 0 j):=by
  have hz:j<=p.size:=by rw[G.sz];exact hj
  refine⟨by rw[kas_rev_size];exact G.sz,fun i hi=>?_,fun a b ha hb e=>?_⟩
  · rw[DS hz];split
    · exact G.lt _ (by lia)
    · exact G.lt _ hi
  · rw[DS hz,DS hz] at e
    by_cases c1:a<j<;>by_cases c2:b<j
    · rw[aq c1,aq c2] at e;have:=G.inj _ _ (by lia) (by lia) e;lia
    · rw[aq c1,ao c2] at e;have:=G.inj _ _ (by lia) (by lia) e;lia
    · rw[ao c1,aq c2] at e;have:=G.inj _ _ (by lia) (by lia) e;lia
    · rw[ao c1,ao c2] at e;exact G.inj _ _ (by lia) (by lia) e
theorem yG.rev {p:Array Nat}(G:Good N p) {j:Nat}(hj:j<=N) (h:yG lt p j):su lt (kas_rev p 0 j) j:=by
  have hz:j<=p.size:=by rw[G.sz];exact hj
  intro a b i6 hb;rw[DS hz,DS hz,aq (by lia),aq hb];exact h _ _ (by lia) (by lia)
theorem U7 (T:vm N lt) {p:Array Nat}(G:Good N p) (h2:2<=N) {Q:Nat×Array Nat->au->Prop}(k:∀m p',1<=m->m<=N->Good N p'->su lt p' m->Q (m,p') s):(kas_count N p).kasWp (qZ N lt) Q s:=by
  unfold kas_count;rw[mQ];refine Jf T G (N-1) 1 (aH _) (by lia) (fun i j a b=>by lia) fun n n1 n2 an hn=>?_
  by_cases c:n=N
  · rw[aq (by rw[c];simp)];exact k n p n1 (by lia) G an
  · rw[ao (by simpa using c)]
    by_cases c2:n > 1
    · rw[aq c2];refine⟨G.lt 0 (by lia),G.lt (n-1) (by lia),fun z=>by have:=G.inj 0 (n-1) (by lia) (by lia) z;lia,?_⟩;rw[an 0 (n-1) (by lia) (by lia)];dsimp only;rw[aq rfl];exact k n p n1 (by lia) G an
    · rw[ao c2];have e1:n=1:=by lia
      subst e1;have U8:=hn (by lia);unfold kas_descPart;rw[mQ];have d2:yG lt p (1+1):=fun i j qi hj=>by
        have:i=0:=by lia
        have:j=1:=by lia
        subst i j;exact U8
      refine Nf T G (N-(1+1)) (1+1) (by lia) (by lia) d2 fun m m1 m2 dm=>?_
      show KasT.kasWp _ (if (0:Nat) > 0 then _ else kas_tail3 m N p) _ _;rw[ao (by lia)];unfold kas_tail3;rw[mQ];refine Jf T (G.rev (j:=m) (by lia)) (N-m) m (by lia) (by lia) (dm.rev G (by lia)) fun r r1 r2 ar _=>?_
      exact k r _ (by lia) (by lia) (G.rev (by lia)) ar
theorem Jg (T:vm N lt) {p:Array Nat}(G:Good N p) {k:Nat}(hk:k<N) {Q:Nat->au->Prop}:∀(f l r:Nat),l<=r->r<=k->r-l<=f->(∀i,i<l->lt (p.getD i 0) (p.getD k 0)=true)->(∀i,r<=i->i<k->lt (p.getD k 0) (p.getD i 0)=true)->su lt p k->
      (∀m,m<=k->(∀i,i<m->lt (p.getD i 0) (p.getD k 0)=true)->(∀i,m<=i->i<k->lt (p.getD k 0) (p.getD i 0)=true)->Q m s)->(kas_place p k f l r).kasWp (qZ N lt) Q s
  | 0,l,r,h1,h2,h3,a,b,_,q=>q l (by lia) a fun i hi gj=>b i (by lia) gj
  | f+1,l,r,h1,h2,h3,a,b,as,q=>by
    unfold kas_place
    by_cases c:l≥r
    · rw[aq c];exact q l (by lia) a fun i hi gj=>b i (by lia) gj
    · rw[ao c];have hm:(l+r) / 2<r:=by lia
      have hl:l<=(l+r) / 2:=by lia
      generalize (l+r) / 2=m at hm hl;refine⟨G.lt k hk,G.lt m (by lia),fun z=>by have:=G.inj k m hk (by lia) z;lia,?_⟩;cases e:lt (p.getD k 0) (p.getD m 0) with
      | true=>
        dsimp only;rw[aq rfl];refine Jg T G hk f l m hl (by lia) (by lia) a (fun i hi Ng=>?_) as q
        by_cases c3:i=m
        · rw[c3];exact e
        · exact T.tr _ _ _ (G.lt k hk) (G.lt m (by lia)) (G.lt i (by lia)) e (as m i (by lia) Ng)
      | false=>
        dsimp only;rw[ao (by simp)];have ne:p.getD k 0≠p.getD m 0:=fun z=>by have:=G.inj k m hk (by lia) z;lia
        have e2:=T.Je _ _ (G.lt k hk) (G.lt m (by lia)) ne e;refine Jg T G hk f (m+1) r (by lia) h2 (by lia) (fun i hi=>?_) b as q
        by_cases c3:i=m
        · rw[c3];exact e2
        · exact T.tr _ _ _ (G.lt i (by lia)) (G.lt m (by lia)) (G.lt k hk) (as i m (by lia) (by lia)) e2
theorem Jh {p:Array Nat}{k d:Nat}(hk:k<p.size) (hd:d<=k) (j:Nat):(bubble p k d).getD j 0=if j=k-d then p.getD k 0 else if k-d<j/\j<=k then p.getD (j-1) 0 else p.getD j 0:=by
  have e:=getElem?_bubble hk d hd j
  by_cases c1:j=k-d
  · rw[aq c1] at e ⊢;exact DR e
  · rw[ao c1] at e ⊢
    by_cases c2:k-d<j/\j<=k
    · rw[aq c2] at e ⊢;exact DR e
    · rw[ao c2] at e ⊢;exact DR e
def rj (k d j:Nat):Nat:=if j=k-d then k else if k-d<j/\j<=k then j-1 else j
theorem Ji {p:Array Nat}{k d:Nat}(hk:k<p.size) (hd:d<=k) (j:Nat):(bubble p k d).getD j 0=p.getD (rj k d j) 0:=by
  rw[Jh hk hd];unfold rj
  by_cases c1:j=k-d
  · rw[aq c1,aq c1]
  · rw[ao c1,ao c1]
    by_cases c2:k-d<j/\j<=k
    · rw[aq c2,aq c2]
    · rw[ao c2,ao c2]
theorem Jj {N k d j:Nat}(hk:k<N) (hj:j<N):rj k d j<N:=by
  unfold rj;split
  · exact hk
  · split<;>lia
theorem U9 {k d a b:Nat}(hd:d<=k) (e:rj k d a=rj k d b):a=b:=by
  unfold rj at e;split at e<;>split at e<;>(try split at e)<;>(try split at e)<;>lia
theorem Good.Va {p:Array Nat}(G:Good N p) {k d:Nat}(hk:k<N) (hd:d<=k):Good N (bubble p k d):=by
  have hz:k<p.size:=by rw[G.sz];exact hk
  refine⟨by rw[bubble_size];exact G.sz,fun i hi=>?_,fun a b ha hb e=>?_⟩
  · rw[Ji hz hd];exact G.lt _ (Jj hk hi)
  · rw[Ji hz hd,Ji hz hd] at e;exact U9 hd (G.inj _ _ (Jj hk ha) (Jj hk hb) e)
theorem Nh (T:vm N lt) {Q:Array Nat->au->Prop}:∀(f:Nat) (p:Array Nat) (k:Nat),Good N p->1<=k->k+f=N->su lt p k->(∀p',Good N p'->su lt p' N->Q p' s)->(kas_bin f p k).kasWp (qZ N lt) Q s
  | 0,p,k,G,h1,hk,a,q=>q p G (by rw[←hk];exact a)
  | f+1,p,k,G,h1,hk,a,q=>by
    unfold kas_bin;rw[mQ];have Jk:k<N:=by lia
    refine Jg T G Jk k 0 k (dj _) (aH _) (by lia) (fun i hi=>by lia) (fun i hi Ng=>by lia) a fun m hm lo hi=>?_
    have hz:k<p.size:=by rw[G.sz];exact Jk
    have hd:k-m<=k:=by lia
    refine Nh T f _ (k+1) (G.Va Jk hd) (by lia) (by lia) (fun i j qi hj=>?_) q;rw[Jh hz hd,Jh hz hd];have em:k-(k-m)=m:=by lia
    rw[em]
    by_cases c1:i=m
    · rw[aq c1,ao (by lia),aq ⟨by lia,by lia⟩];exact hi (j-1) (by lia) (by lia)
    · rw[ao c1]
      by_cases c2:j=m
      · rw[aq c2,ao (by lia)];exact lo i (by lia)
      · rw[ao c2]
        by_cases c3:m<i/\i<=k
        · rw[aq c3,aq ⟨by lia,by lia⟩];exact a _ _ (by lia) (by lia)
        · rw[ao c3]
          by_cases c4:m<j/\j<=k
          · rw[aq c4];exact a _ _ (by lia) (by lia)
          · rw[ao c4];exact a _ _ (by lia) (by lia)
theorem Ni:Good N (List.toArray (List.range N)):=by
  have e:∀i,i<N->(List.toArray (List.range N)).getD i 0=i:=fun i hi=>by
    rw[n9];simp[hi]
  refine⟨by simp,fun i hi=>by rw[e i hi];exact hi,fun i j hi hj z=>by rw[e i hi,e j hj] at z;exact z⟩
theorem Vb (T:vm N lt) (h2:2<=N) {Q:Array Nat->au->Prop}(q:∀p,Good N p->su lt p N->Q p s):(kas_sort N).kasWp (qZ N lt) Q s:=by
  unfold kas_sort;rw[mQ];refine U7 T Ni h2 fun m p m1 m2 G a=>?_
  dsimp only
  by_cases c:m<N
  · rw[aq c];have e:max m 1=m:=by lia
    rw[e];exact Nh T (N-m) p m G m1 (by lia) a q
  · rw[ao c];have e:m=N:=by lia
    subst e;exact q p G a
end
theorem Nj {α:Type}{cmp DT:Nat->Nat->(Bool->au->Prop)->au->Prop}{s:au}{Q:α->au->Prop}(h:∀i j (C:Bool->au->Prop),cmp i j (fun b s'=>s'=s/\C b s) s->DT i j C s) (m:∀i j (C C':Bool->au->Prop),(∀b,C b s->C' b s)->cmp i j C s->cmp i j (fun b s'=>s'=s/\C' b s) s):∀(t:KasT α),t.kasWp cmp Q s->t.kasWp DT Q s
  | .ret a,q=>q
  | .ask i j k,q=>h i j _ (m i j (fun b s'=>(k b).kasWp cmp Q s') _ (fun b z=>Nj h m (k b) z) q)
section
variable {prog:aU}{w:World}{A:Around}{E:aA}{s:au}
def pU (h:Heap) (d:ah) (us:List ai):Heap:=((h.update d (Obj.mapSeq fun _=>#[])).push (seqObj "tuple" us.toArray 0)).push (seqObj "list" #[] 0)
theorem Vc {h:Heap}{d b:ah}{us:List ai}{o:Obj}(n:b≠d) (e:h.get? b=some o):(pU h d us).get? b=some o:=by
  unfold pU;refine bC _ (bC _ ?_);rw[cE _ _ (aD n)];exact e
def Gq (us:List ai) (lt:Nat->Nat->Bool) (out:List ai):Prop:=∃p:Array Nat,Good us.length p/\su lt p us.length/\out=p.toList.map fun i=>us.getD i Value.none
theorem Vd {d:ah}{us:List ai}{n:Nat}{κ:SortKind}{lt:Nat->Nat->Bool}{P:PySem.Fin->au->Prop}(T:vm us.length lt) (hd:s.heap.get? d=some (seqObj "list" us.toArray n)) (small:us.length<64)
    (kind:2<=us.length->∀(Q:SortKind->au->Prop) (E':aA),Q κ { s with heap:=pU s.heap d us }->wpAny (model prog w) A (keyKind' us.toArray) Q E' { s with heap:=pU s.heap d us })
    (less:∀i j,i<us.length->j<us.length->i≠j->∀(Q:Bool->au->Prop),Q (lt i j) { s with heap:=pU s.heap d us }->wpAny (model prog w) A (keyLt' κ (us.getD i Value.none) (us.getD j Value.none)) Q (fun _ _=>False) { s with heap:=pU s.heap d us })
    (fin:∀out:List ai,out.length=us.length->Gq us lt out->P (.done (.ret .none)) { s with heap:=sortedHeap s.heap d us out.toArray }) :
    wpAny (model prog w) A (Builtin.«list.sort» ⟨[.ref d],[]⟩) P E s:=by
  rw[list_sort_plain];have dl:d<s.heap.objs.size:=aI hd;refine aj (listItems_at hd rfl (aj (listUpdate_at hd rfl ?_)));obtain⟨n1,m9⟩:∃n1,(s.heap.update d (Obj.mapSeq fun _=>#[])).get? d=some (seqObj "list" #[] n1):=⟨_,get?_update_seq hd (fun _=>#[])⟩;refine aj (seqEpoch_at m9 rfl (aj (wpAny_newTuple (aj (wpAny_newList (cT ?_))))));have jy:(pU s.heap d us).get? d=some (seqObj "list" #[] n1):=bC _ (bC _ m9);show wpAny (model prog w) A _ P E { s with heap:=pU s.heap d us };dsimp only;have zl:us.toArray.size=us.length:=by simp
  by_cases c:us.toArray.size<2
  · rw[aq c,aq c];refine aj (az ?_);rw[StateT.run_pure];refine aj (az ?_);dsimp only;have ez:(us.toArray.zip us.toArray).map (·.2)=us.toArray:=by
      apply Array.ext';simp[List.map_snd_zip]
    refine aj (seqEpoch_at jy rfl (aj (listUpdate_at jy rfl ?_ (hsz2:=by rw[Array.size_map];show (us.toArray.zip us.toArray).size<=_;rw[fP];simp;lia))));simp only [bne_self_eq_false,jU,dZ];have go:=fin us rfl ⟨_,Ni,fun i j a b=>by lia,by
      apply List.ext_getElem?;intro i
      by_cases hi:i<us.length
      · simp[hi]
      · simp[mJ hi]⟩
    refine az ?_;have e2:(arrOf (SortSt.mk' general' (us.toArray.zip us.toArray) #[] 7 none)).map (·.2)=us.toArray:=ez;rw[e2];exact go
  · rw[ao c,ao c];have two:2<=us.length:=by lia
    refine aj (kind two _ _ ?_);refine aj (b8 (kat_run (E:=E) (ks:=us) (vs:=us) (G:=fun p s'=>s' = { s with heap:=pU s.heap d us }/\Good us.length p/\su lt p us.length) (Q:=fun pO s'=>s' = { s with heap:=pU s.heap d us }/\failedOf pO=none/\∃p,Good us.length p/\su lt p us.length/\arrOf pO=p.map (kas_item (us.toArray.zip us.toArray))) rfl two small (fun p pO s' _ e1 e2 g=>⟨g.1,e2,p,g.2.1,g.2.2,e1⟩) ?_) (fun r s' q=>?_) fun _ _ z=>z)
    · refine Nj (cmp:=qZ us.length lt) (fun i j C h=>?_) (fun i j C C' h q=>⟨q.1,q.2.1,q.2.2.1,rfl,h _ q.2.2.2⟩) _ (Vb T two fun p g a=>⟨rfl,g,a⟩);obtain⟨h1,h2,Ve,_,h3⟩:=h;exact less i j h1 h2 Ve _ h3
    · obtain⟨⟨⟩,pO⟩:=r;obtain⟨rfl,nf,p,g,a,ea⟩:=q;dsimp only at ea nf ⊢;have eo:(arrOf pO).map (·.2)=(p.toList.map fun i=>us.getD i Value.none).toArray:=by
        rw[ea];apply Array.ext';simp only [Array.toList_map,fO];refine jr fun i _=>?_
        show (kas_item (us.toArray.zip us.toArray) i).2=_;rw[kat_item rfl]
      have el:(p.toList.map fun i=>us.getD i Value.none).length=us.length:=by rw[ay,jq,g.sz]
      refine aj (seqEpoch_at jy rfl (aj (listUpdate_at jy rfl ?_ (hsz2:=by rw[eo];show (p.toList.map fun i=>us.getD i Value.none).toArray.size<=_;rw[bS,el,fP];lia))));rw[nf];simp only [bne_self_eq_false,jU,dZ];have go:=fin _ el ⟨p,g,a,rfl⟩;unfold sortedHeap at go;rw[←eo] at go;exact az go
theorem Vf {l:ah}{us:List ai}{κ:SortKind}{lt:Nat->Nat->Bool}{Q:aA}(T:vm us.length lt) (small:us.length<64)
    (col:∀(E':aA) (Q':List ai->au->Prop),(∀h1 tk,(∀b o,s.heap.get? b=some o->h1.get? b=some o)->s.heap.objs.size<h1.objs.size->Q' us { s with heap:=h1,toks:=tk })->wpAny (model prog w) A.in1 (collect (.ref l)) Q' E' s)
    (kind:2<=us.length->∀(s':au),(∀b o,s.heap.get? b=some o->s'.heap.get? b=some o)->∀{A':Around}{E':aA}{Q':SortKind->au->Prop},Q' κ s'->wpAny (model prog w) A' (keyKind' us.toArray) Q' E' s')
    (less:∀i j,i<us.length->j<us.length->i≠j->∀(s':au),(∀b o,s.heap.get? b=some o->s'.heap.get? b=some o)->∀{Q':Bool->au->Prop},Q' (lt i j) s'->wpAny (model prog w) A.in1.in1 (keyLt' κ (us.getD i Value.none) (us.getD j Value.none)) Q' (fun _ _=>False) s')
    (fin:∀(D:ah) (out:List ai) (h':Heap) (tk c:Nat),out.length=us.length->Gq us lt out->(∀b o,s.heap.get? b=some o->h'.get? b=some o)->s.heap.objs.size<=D->h'.get? D=some (seqObj "list" out.toArray c)->Q (.ref D) { s with heap:=h',toks:=tk }) :
    wpAny (model prog w) A (call (.builtin "sorted") [.ref l]) Q E s:=by
  refine Calls.call_function_entry kind_sorted plain_sorted entry_sorted (args_sorted1 _) ?_;show wpAny _ _ (Builtin.«sorted» ⟨[.ref l],[]⟩) _ _ _;unfold Builtin.«sorted»;refine aj (m:=checkCount "sorted" 1 1 _) (az (aj (col _ _ fun h1 tk k1 z1=>aj (wpAny_newList ?_ (by rw[fP];lia)))));have hd:(h1.push (seqObj "list" us.toArray 0)).get? h1.objs.size=some (seqObj "list" us.toArray 0):=bO _ rfl;show wpAny _ _ _ _ _ { s with heap:=h1.push (seqObj "list" us.toArray 0),toks:=tk };have k2:∀b o,s.heap.get? b=some o->(h1.push (seqObj "list" us.toArray 0)).get? b=some o:=fun b o e=>bC _ (k1 b o e)
  have nb:∀b o,s.heap.get? b=some o->b≠h1.objs.size:=fun b o e=>bq (aI (k1 b o e))
  generalize h1.push (seqObj "list" us.toArray 0)=g at hd k2;have kp:∀b o,s.heap.get? b=some o->(pU g h1.objs.size us).get? b=some o:=fun b o e=>Vc (nb b o e) (k2 b o e)
  have kd:2<=us.length->∀(Q':SortKind->au->Prop) (E':aA),Q' κ { s with heap:=pU g h1.objs.size us,toks:=tk }->wpAny (model prog w) A.in1.in1 (keyKind' us.toArray) Q' E' { s with heap:=pU g h1.objs.size us,toks:=tk }:=fun two Q' E' q=>kind two { s with heap:=pU g h1.objs.size us,toks:=tk } kp q
  have ls:∀i j,i<us.length->j<us.length->i≠j->∀(Q':Bool->au->Prop),Q' (lt i j) { s with heap:=pU g h1.objs.size us,toks:=tk }->wpAny (model prog w) A.in1.in1 (keyLt' κ (us.getD i Value.none) (us.getD j Value.none)) Q' (fun _ _=>False) { s with heap:=pU g h1.objs.size us,toks:=tk }:=fun i j a b n Q' q=>less i j a b n { s with heap:=pU g h1.objs.size us,toks:=tk } kp q
  refine aj (cT (jv slot_list_sort ⟨_,hd,rfl⟩ entry_list_sort (Vd (s:={ s with heap:=g,toks:=tk }) T hd small kd ls fun out lo po=>⟨_,rfl,?_⟩) (args_list_sort _)));obtain⟨c,hc⟩:=sortedHeap_at (out:=out.toArray) hd;refine az ⟨_,rfl,fin h1.objs.size out _ tk c lo po (fun b o e=>?_) (kK z1) hc⟩;have e2:=k2 b o e;rw[sortedHeap_old (nb b o e) (aI e2)];exact e2
end
theorem Nk:∀{rs us:List Nat},rs.Nodup->(∀x∈rs,x∈us)->rs.length<=us.length
  | [],us,_,_=>dj _
  | a::r,us,hn,hs=>by
    rw[iL] at hn;have ha:=hs a (by simp);have:=Nk (rs:=r) (us:=us.erase a) hn.2 fun x hx=>by
      have:x≠a:=fun z=>hn.1 (z▸hx)
      exact (List.mem_erase_of_ne this).mpr (hs x (bD _ hx))
    rw[oh ha] at this;have:=qH ha;rw[iK];lia
abbrev SS:=Str×Str
def ki (p q:SS):Bool:=if p.1=q.1 then decide (p.2.cps.toList<q.2.cps.toList) else decide (p.1.cps.toList<q.1.cps.toList)
theorem Vg {a b:Str}(h:a.cps.toList=b.cps.toList):a=b:=by
  obtain⟨x⟩:=a;obtain⟨y⟩:=b;have:x=y:=Array.toList_inj.mp h;rw[this]
theorem Nl {a b:Str}(h:a≠b) (n:¬a.cps.toList<b.cps.toList):b.cps.toList<a.cps.toList:=by
  rcases List.le_iff_lt_or_eq.mp (kT.mp n) with z | z
  · exact z
  · exact absurd (Vg z.symm) h
theorem Vh (p:SS):ki p p=false:=by
  unfold ki;rw[aq rfl];exact aV (fk _)
theorem Vi {a b c:SS}(h1:ki a b=true) (h2:ki b c=true):ki a c=true:=by
  unfold ki at *
  by_cases c1:a.1=b.1
  · rw[aq c1] at h1
    by_cases c2:b.1=c.1
    · rw[aq c2] at h2;rw[aq (c1.trans c2)];exact aO (mR (aP h1) (aP h2))
    · rw[ao c2] at h2;rw[ao (fun z=>c2 (c1.symm.trans z)),c1];exact h2
  · rw[ao c1] at h1
    by_cases c2:b.1=c.1
    · rw[ao (fun z=>c1 (z.trans c2.symm)),←c2];exact h1
    · rw[ao c2] at h2;have h3:=mR (aP h1) (aP h2);rw[ao (fun z=>by rw[z] at h3;exact fk _ h3)];exact aO h3
theorem Vj {a b:SS}(ne:a≠b) (h:ki a b=false):ki b a=true:=by
  unfold ki at *
  by_cases c1:a.1=b.1
  · rw[aq c1] at h;rw[aq c1.symm];exact aO (Nl (fun z=>ne (Prod.ext c1 z)) (iI h))
  · rw[ao c1] at h;rw[ao (aD c1)];exact aO (Nl c1 (iI h))
theorem Vk {ps:List SS}(nd:ps.Nodup):vm ps.length fun i j=>ki (ps.getD i ("","")) (ps.getD j ("","")):=by
  have e:∀i (h:i<ps.length),ps.getD i ("","")=ps[i]:=fun i h=>by rw[cR,bz h];rfl
  refine⟨fun a _=>Vh _,fun a b c _ _ _ h1 h2=>Vi h1 h2,fun a b ha hb n h=>Vj (fun z=>n ?_) h⟩;rw[e a ha,e b hb] at z;have pw:=lY.mp nd;rcases kC a b with c | c | c
  · exact absurd z (pw a b ha hb c)
  · exact c
  · exact absurd z.symm (pw b a hb ha c)
theorem Vl {us out:List ai}{lt:Nat->Nat->Bool}{α:Type}(xs:List α) (d:α) (h:Gq us lt out) (hl:us.length=xs.length):∃ys:List α,ys.Perm xs/\ys.length=out.length/\(∀i:Nat,i<ys.length->∃j,j<xs.length/\out[i]? = us[j]?/\ys[i]? = xs[j]?)/\
    ∀i j (hi:i<ys.length) (hj:j<ys.length),i<j->∃a b,a<xs.length/\b<xs.length/\ys[i]? = xs[a]?/\ys[j]? = xs[b]?/\lt a b=true:=by
  obtain⟨p,G,A,rfl⟩:=h;rw[hl] at G A;have pl:p.toList.length=xs.length:=by rw[jq,G.sz]
  have pg:∀i (h:i<xs.length),p.toList[i]? = some (p.getD i 0):=fun i h=>by
    have hi:i<p.size:=by rw[G.sz];exact h
    rw[oz,gZ hi,n9,gZ hi];rfl
  have pr:p.toList.Perm (List.range xs.length):=by
    rw[List.perm_ext_iff_of_nodup ?_ List.nodup_range]
    · intro a;rw[eV];constructor
      · intro h;obtain⟨i,hi⟩:=g7.mp h;have o5:=(bV.mp hi).1;rw[pg i (by lia)] at hi;cases hi;exact G.lt i (by lia)
      · intro h;have inj:p.toList.Nodup:=by
          rw[qC,lY];intro i j hi hj qi z;have e1:=pg i (by lia);have e2:=pg j (by lia);rw[bz hi] at e1;rw[bz hj] at e2;have:=G.inj i j (by lia) (by lia) ((cX e1).symm.trans (z.trans (cX e2)));lia
        have sub:∀x∈p.toList,x∈List.range xs.length:=fun x hx=>by
          obtain⟨i,hi⟩:=g7.mp hx;have o5:=(bV.mp hi).1;rw[pg i (by lia)] at hi;cases hi;exact eV.mpr (G.lt i (by lia))
        refine d9 fun n=>?_
        have:(p.toList).length<=((List.range xs.length).erase a).length:=by
          refine Nk inj fun x hx=>?_
          rw[List.Nodup.mem_erase_iff List.nodup_range];exact⟨fun z=>n (z▸hx),sub x hx⟩
        rw[oh (eV.mpr h),ju,pl] at this;lia
    · rw[qC,lY];intro i j hi hj qi z;have e1:=pg i (by lia);have e2:=pg j (by lia);rw[bz hi] at e1;rw[bz hj] at e2;have:=G.inj i j (by lia) (by lia) ((cX e1).symm.trans (z.trans (cX e2)));lia
  have ex:xs=(List.range xs.length).map fun i=>xs.getD i d:=by
    apply List.ext_getElem?;intro i
    by_cases hi:i<xs.length
    · simp[hi]
    · simp[mJ hi]
  refine⟨p.toList.map fun i=>xs.getD i d,?_,by rw[ay,ay],fun i hi=>?_,fun i j hi hj qi=>?_⟩
  · have:=pr.map fun i=>xs.getD i d
    rw[←ex] at this;exact this
  · rw[ay] at hi;have cQ:=G.lt i (by lia);refine⟨p.getD i 0,cQ,?_,?_⟩
    · rw[aM,pg i (by lia)];show some (us.getD _ _)=_;rw[cR,bz (show p.getD i 0<us.length by lia)];rfl
    · rw[aM,pg i (by lia)];show some (xs.getD _ _)=_;rw[cR,bz cQ];rfl
  · rw[ay] at hi hj;have h1:=G.lt i (by lia);have h2:=G.lt j (by lia);refine⟨p.getD i 0,p.getD j 0,h1,h2,?_,?_,A i j qi (by lia)⟩
    · rw[aM,pg i (by lia)];show some (xs.getD _ _)=_;rw[cR,bz h1];rfl
    · rw[aM,pg j (by lia)];show some (xs.getD _ _)=_;rw[cR,bz h2];rfl
section
variable {prog:aU}{w:World}{A:Around}{E:aA}{s:au}
def lB (h:Heap) (v:ai) (p:SS):Prop:=∃a t u,v = .ref a/\IsTup h a #[.str p.1 t,.str p.2 u]
theorem lB.kept {h h':Heap}{v:ai}{p:SS}(t:lB h v p) (k:∀b o,h.get? b=some o->h'.get? b=some o):lB h' v p:=by
  obtain⟨a,x,y,rfl,o,ho,hc,n,hd⟩:=t;exact⟨a,x,y,rfl,o,k a o ho,hc,n,hd⟩
theorem Vm {v1 v2:ai}{p q:SS}{Q:Bool->au->Prop}(h1:lB s.heap v1 p) (h2:lB s.heap v2 q) (h:Q (ki p q) s):wpAny (model prog w) A (keyLt' (tuples' true) v1 v2) Q (fun _ _=>False) s:=by
  obtain⟨a,t1,u1,rfl,oa,Am,_,na,DO⟩:=h1;obtain⟨b,t2,u2,rfl,ob,An,_,nb,j0⟩:=h2;refine kat_lt Am DO An j0 ?_;show KatLex prog w A true false Q [(Value.str p.1 t1,Value.str q.1 t2),(Value.str p.2 u1,Value.str q.2 u2)] 0 s;refine kat_cons (mH ?_);unfold ki at h
  by_cases c:p.1=q.1
  · rw[aO c];rw[aq c] at h;refine kat_yes (kat_cons (mH ?_))
    by_cases c2:p.2=q.2
    · rw[aO c2];refine kat_yes (kat_nil ?_);rw[c2,aV (fk _)] at h;exact h
    · rw[aV c2];refine kat_no ?_;show wpAny _ _ (oneLt' false (Value.str p.2 u1) (Value.str q.2 u2)) _ _ _;exact kat_one _ _ (lt_str h)
  · rw[aV c];rw[ao c] at h;refine kat_no ?_;show wpAny _ _ (oneLt' true (Value.str p.1 t1) (Value.str q.1 t2)) _ _ _;exact oneLt_str h
theorem Vn {vs:List ai}{ps:List SS}{Q:SortKind->au->Prop}(h:Paired (lB s.heap) vs ps) (mY:0<ps.length) (q:Q (tuples' true) s):wpAny (model prog w) A (keyKind' vs.toArray) Q E s:=by
  obtain⟨fs,kt,hl,hf⟩:∃fs,KatTups s.heap vs fs/\fs.length=ps.length/\∀v∈fs,∃x t,v=Value.str x t:=by
    clear mY
    induction h with
    | nil=>exact⟨[],.nil,rfl,by simp⟩
    | cons h _ ih=>
      obtain⟨fs,k,l,f⟩:=ih;obtain⟨a,t,u,rfl,o,ho,hc,n,hd⟩:=h;refine⟨_::fs,.cons ho hc hd rfl k,by simp[l],fun v hv=>?_⟩;rcases aN.mp hv with rfl | hv
      · exact⟨_,_,rfl⟩
      · exact f v hv
  refine kat_kind (T:=.type "str") kt (by lia) (fun v hv=>?_) rfl q;obtain⟨x,t,rfl⟩:=hf v hv;exact Looks.now
end
theorem DU {α β:Type}{F:α->β->Prop}:∀{as:List α}{bs:List β},as.length=bs.length->(∀(i:Nat) a b,as[i]? = some a->bs[i]? = some b->F a b)->Paired F as bs
  | [],[],_,_=>.nil
  | [],_::_,h,_=>by simp at h
  | _::_,[],h,_=>by simp at h
  | a::as,b::bs,h,k=>.cons (k 0 a b rfl rfl) (DU (by simpa using h) fun i a b e1 e2=>k (i+1) a b (by simpa using e1) (by simpa using e2))
theorem Vo {us out:List ai}{lt:Nat->Nat->Bool}{α:Type}(as:List ah) (xs:List α) (d:α) (hv:Vals (as.map V.ref) us) (h:Gq us lt out) (la:as.length=xs.length) :
    ∃(bs:List ah) (ys:List α),Vals (bs.map V.ref) out/\bs.length=ys.length/\ys.Perm xs/\(∀(i:Nat) b y,bs[i]? = some b->ys[i]? = some y->∃j:Nat,as[j]? = some b/\xs[j]? = some y)/\ys.Pairwise (fun y z=>∃(a b:Nat),xs[a]? = some y/\xs[b]? = some z/\lt a b=true):=by
  have lu:us.length=(as.zip xs).length:=by
    have:=hv.length;rw[ay] at this;rw[g9];lia
  obtain⟨zs,pm,lz,at',up⟩:=Vl (as.zip xs) (0,d) h lu;have sn:(as.zip xs).map Prod.snd=xs:=List.map_snd_zip (by lia);refine⟨zs.map Prod.fst,zs.map Prod.snd,?_,by rw[ay,ay],by have:=pm.map Prod.snd;rwa [sn] at this,fun i b y e1 e2=>?_,?_⟩
  · refine DU (by rw[ay,ay,lz]) fun i x v e1 e2=>?_
    rw[aM,aM] at e1;cases ez:zs[i]? with
    | none=>rw[ez] at e1;cases e1
    | some z=>
      rw[ez] at e1;cases e1;obtain⟨j,hj,o1,o2⟩:=at' i (bV.mp ez).1;rw[ez] at o2;rw[e2] at o1;obtain⟨h1,h2⟩:=jm.mp o2.symm;obtain⟨v',e3,r⟩:=hv.get (i:=j) (x:=V.ref z.1) (by rw[aM,h1];rfl);rw[←o1] at e3;cases e3;exact r
  · rw[aM] at e1 e2;cases ez:zs[i]? with
    | none=>rw[ez] at e1;cases e1
    | some z=>
      rw[ez] at e1 e2;cases e1;cases e2;obtain⟨j,hj,_,o2⟩:=at' i (bV.mp ez).1;rw[ez] at o2;exact⟨j,jm.mp o2.symm⟩
  · rw[lY];intro i j hi hj qi;rw[ay] at hi hj;obtain⟨a,b,ha,hb,e1,e2,l⟩:=up i j hi hj qi;refine⟨a,b,?_,?_,l⟩
    · rw[bz hi] at e1;have:=(jm.mp e1.symm).2;rw[List.getElem_map];exact this
    · rw[bz hj] at e2;have:=(jm.mp e2.symm).2;rw[List.getElem_map];exact this
section
variable {X:Cx}
theorem Inv.DV {pins:aG}{σ:St}{H:Hp}{s:au}{K:aF}(hK:X.K=K) (I:Inv X pins σ H s) {a:ah}{p:SS}(t:bu K H a [.str p.1,.str p.2]):lB s.heap (.ref a) p:=by
  subst hK;obtain⟨ts,rt,it,_⟩:=I.tuple t;obtain⟨u1,u2,rfl,⟨t1,rfl⟩,⟨t2,rfl⟩⟩:=Cp rt;exact⟨a,t1,t2,rfl,it⟩
end
end L2
namespace L2
open PySem PySem.Spec PyProof.Rows
section
variable {X:Cx}
theorem Nm:LB X "dict.update" (fun x vs H Q=>∃(d o:ah) (kvs more:List (Key×V)),x = .ref d/\vs = [.ref o]/\d≠o/\H d=some (.dK kvs)/\Rd H o (.dK more)/\kvs.length+more.length<=1000/\Q .dG (upd H d (.dK (Bc kvs more)))):=by
  intro pins s σ H x vs v us Q I rx rv h;obtain⟨d,o,kvs,more,rfl,rfl,ne,hd,ho,hz,q⟩:=h;cases rx;obtain⟨u,rfl,ru⟩:=qj rv;cases ru;obtain⟨z1,y1,Vp,r1,d1⟩:=HM I.bA hd;obtain⟨z2,y2,Vq,r2,d2⟩:=wj I.bA ho;have hs:sizeLine=16777216:=fP;refine call_meetsIn PySem.F.slot_dict_update d1.typeIs PySem.F.entry_dict_update (PySem.F.args_dict_update_2 _ _) (meets_dict_update (qe X.prog X.w) d o ne y2) ⟨Vp,Vq,d1,d2,by rw[←r1.length,←r2.length];lia,fun h' wm _ sb=>?_⟩;have he:∃q,h'.get? d=some q:=let ⟨q,_,_,hq,_⟩:=wm;⟨q,hq⟩
  have ml:=LH more kvs;exact⟨.dG,_,FF (t':=s.toks) I (by rw[hd];exact True.intro) sb he (HP (by lia) y1 (KV.merge r2 r1) wm),rfl,q⟩
theorem Vr (K:aF) (hK:X.K=K) (hc:X.calm=true):oW X (.builtin "any") (fun xs H Q=>∃(a:ah) (bs:List Bool),xs = [V.ref a]/\aJ K H a (bs.map V.bl)/\Q (.bl (bs.any id)) H):=by
  subst hK;intro pins s σ H xs us Q I r h;obtain⟨a,bs,rfl,ha,q⟩:=h;obtain⟨u,rfl,ru⟩:=qj r;cases ru;obtain⟨its,rv,pl,hz⟩:=I.list ha;have e:its=bs.map Value.bool:=Il rv;subst e;have hl:=pl.isList;have cQ:a<s.heap.objs.size:=by obtain⟨_,e,_⟩:=hl;exact aI e
  refine call_any_walk (kB hl ?_);refine⟨s.heap.objs.size,[s.heap.objs.size,a],[s.heap.objs.size],(bs.map Value.bool).toArray.size,_,_,fun i=>(bs[i]?).getD false,rfl,Walks.list (A:=X.A.in1) (I.ok.hd hc) _ a (bq cQ) (bs.map Value.bool).toArray,
    ⟨⟨_,bO _ rfl,rfl,rfl⟩,hl.push _⟩,fun i v s' Q' E' hP hQ=>?_,fun h' tk hk=>?_⟩
  · have qp:(bs.map Value.bool)[i]? = some v:=by simpa using hP
    rw[aM] at qp;cases e:bs[i]? with
    | none=>rw[e] at qp;cases qp
    | some b=>
      rw[e] at qp;cases qp;simp only [e,oN] at hQ;exact iJ hQ
  · have e:((List.range (bs.map Value.bool).toArray.size).any fun i=>(bs[i]?).getD false)=bs.any id:=by
      rw[jG,iM,iM];have z:(bs.map Value.bool).toArray.size=bs.length:=by simp
      rw[z];constructor
      · rintro ⟨i,hi,h⟩;have hi:=eV.mp hi;rw[bz hi] at h;exact⟨bs[i],jW hi,h⟩
      · rintro ⟨b,hb,h⟩;obtain⟨i,hi,rfl⟩:=lg.mp hb;refine⟨i,eV.mpr hi,?_⟩;rw[bz hi];exact h
    rw[e];refine⟨.bl (bs.any id),H,I.kept fun b o q'=>?_,rfl,q⟩;have hb:=aI q';exact hk b o (fun z=>absurd (iF.mp z) (bq hb)) (bC _ q')
inductive rm (ts:TS) (D:Ends) (σ:St):Hp->Prop
  | go {H:Hp}(h:ts D σ H):rm ts D σ H
  | ie {H:Hp}(a:ah) (kvs:List (Key×V)) (ha:H a=some (.dK kvs)) (k:∀ob,rm ts D σ (upd H a (.ie ob (.dK kvs)))):rm ts D σ H
def Vs (ts:TS):TS:=fun D σ H=>rm ts D σ H
theorem Nn {st:Stmt}{ts:TS}(h:PS X st ts):PS X st (Vs ts):=by
  intro pins s σ H D I q;have go:∀{H:Hp},rm ts D σ H->Inv X pins σ H s->wpAny (model X.prog X.w) X.A (exec st X.env) (SP X pins D) X.xe s:=fun q=>by
    induction q with
    | go q=>intro I;exact h pins s σ _ D I q
    | ie a kvs ha k ih=>
      intro I;obtain⟨ob,I'⟩:=I.frozen ha;exact ih ob I'
  exact go q I
theorem Np {K:aF}(hK:X.K=K) (hc:X.calm=true):oW X (.builtin "sorted") (fun xs H Q=>∃(p:ah) (kvs:List (List Key×V)) (ps:List SS),xs = [V.ref p]/\Rd H p (.dT kvs)/\(kvs.map fun kv=>kv.1)=ps.map (fun q=>[Sum.inr q.1,Sum.inr q.2])/\ps.Nodup/\ps.length<64/\
    ∀(D:ah) (bs:List ah) (qs:List SS),H D=none->Paired (fun a (p:SS)=>H a=some (.tup [.str p.1,.str p.2])) bs qs->qs.Perm ps->qs.Pairwise (fun a b=>ki a b=true)->Q (.ref D) (upd H D (.lst (bs.map V.ref)))):=by
  subst hK;intro pins s σ H xs us Q I r h;obtain⟨p,kvs,ps,rfl,hp,hk,nd,h64,q⟩:=h;obtain⟨u,rfl,ru⟩:=qj r;cases ru;obtain⟨z,hd,xs,rel,o,es,ep,h1,h2,h3,h4,h5⟩:=(show bU X.prog X.w H s.heap p (.dT kvs) from HL I.bA hp);have lkx:kvs.length=xs.length:=Paired.length rel;have lkp:kvs.length=ps.length:=by have:=bT List.length hk;simpa using this
  have les:es.size=xs.length:=by
    have:=bT List.length h4;rw[jq,ay] at this;exact this
  have DW:es.toList.map (·.key)=xs.map fun x=>Value.ref x.2.1:=by
    rw[h4,fO];rfl
  have Nq:∀i,i<ps.length->∃x,xs[i]? = some x/\∃q,ps[i]? = some q/\H x.2.1=some (.tup [.str q.1,.str q.2]):=fun i hi=>by
    have hx:i<xs.length:=by lia
    have Gd:i<kvs.length:=by lia
    refine⟨xs[i],bz hx,ps[i],bz hi,?_⟩;have f:=wF rel (bz Gd) (bz hx);have e:(kvs.map fun kv=>kv.1)[i]? = some [Sum.inr ps[i].1,Sum.inr ps[i].2]:=by rw[hk,aM,bz hi];rfl
    rw[aM,bz Gd] at e;have e:kvs[i].1 = [Sum.inr ps[i].1,Sum.inr ps[i].2]:=cX e;have:=f.2.1;rw[e] at this;exact this
  have rv:Vals ((xs.map fun x=>x.2.1).map V.ref) (xs.map fun x=>Value.ref x.2.1):=DU (by simp) fun i a b e1 e2=>by
    rw[aM,aM] at e1;rw[aM] at e2;cases ex:xs[i]? with
    | none=>rw[ex] at e1;cases e1
    | some x=>
      rw[ex] at e1 e2;cases e1;cases e2;rfl
  have hT:Paired (lB s.heap) (xs.map fun x=>Value.ref x.2.1) ps:=DU (by rw[ay];lia) fun i v p e1 e2=>by
    obtain⟨x,ex,q',eq,hx⟩:=Nq i (by have:=(bV.mp e2).1;exact this);rw[aM,ex] at e1;cases e1;rw[e2] at eq;cases eq;exact I.DV rfl (bu.of hx)
  have li:(xs.map fun x=>Value.ref x.2.1).length=ps.length:=by rw[ay];lia
  have T:=Vk nd;rw[←li] at T;have gd:∀i (h:i<ps.length),ps[i]? = some (ps.getD i ("","")):=fun i h=>by rw[cR,bz h];rfl
  have gi:∀i (h:i<(xs.map fun x=>Value.ref x.2.1).length),(xs.map fun x=>Value.ref x.2.1)[i]? = some ((xs.map fun x=>Value.ref x.2.1).getD i Value.none):=fun i h=>by rw[cR,bz h];rfl
  have col:∀(E':aA) (Q':List ai->au->Prop),(∀h1 tk,(∀b o,s.heap.get? b=some o->h1.get? b=some o)->s.heap.objs.size<h1.objs.size->Q' (xs.map fun x=>Value.ref x.2.1) { s with heap:=h1,toks:=tk })->wpAny (model X.prog X.w) X.A.in1 (collect (.ref p)) Q' E' s:=fun E' Q' q'=>by
    refine UB (A:=X.A.in1) (I.ok.hd hc) hd ⟨o,h1,h2,h3⟩ (by rw[fP];lia) fun h1 tk k sz=>?_
    rw[DW];exact q' h1 tk k sz
  refine Vf (κ:=tuples' true) T (by lia) col (fun two s' kp _ _ Q' q'=>Vn (Paired.fV hT fun v p t=>t.kept kp) (by lia) q') (fun i j hi hj n s' kp Q' q'=>Vm ((wF hT (gi i hi) (gd i (by lia))).kept kp) ((wF hT (gi j hj) (gd j (by lia))).kept kp) q') fun D out h' tk c lo po kp hD hg=>?_
  obtain⟨bs,ys,vb,lb,pm,ab,up⟩:=Vo (xs.map fun x=>x.2.1) ps ("","") rv po (by rw[ay];lia);have hn:H D=none:=I.bA.fresh hD;refine⟨.ref D,_,I.laid (t':=tk) (h':=h') (a:=D) (o:=.lst (bs.map V.ref)) kp hD ⟨?_,out,c,vb,by rw[hg]⟩,rfl,q D bs ys hn ?_ pm (up.imp fun ⟨a,b,e1,e2,l⟩=>?_)⟩
  · rw[ay,lb,pm.length_eq,fP];lia
  · refine DU lb fun i b y e1 e2=>?_
    obtain⟨j,g1,g2⟩:=ab i b y e1 e2;obtain⟨x,ex,q',eq,hx⟩:=Nq j (by exact (bV.mp g2).1);rw[aM,ex] at g1;cases g1;rw[g2] at eq;cases eq;exact hx
  · rw[cR,cR,e1,e2] at l;exact l
end
end L2
namespace Dm
open PySem PySem.NumText L2
theorem Rc.refl {ln:Ln}{s:Str}:Rc ln s 0 s:=⟨[],.nil,rfl⟩
theorem Nr {ln:Ln}{s:Str}:∀{n:Nat}{v:Str},Rc ln s (n+1) v->∃l r,(l,r)∈ln s/\Rc ln l n v
  | 0,v,h=>by
    obtain⟨u,r,h1,h2⟩:=h.succ;have:=h1.zero;subst this;exact⟨v,r,h2,Rc.refl⟩
  | n+1,v,h=>by
    obtain⟨u,r,h1,h2⟩:=h.succ;obtain⟨l,r',h3,h4⟩:=Nr h1;exact⟨l,r',h3,h4.step h2⟩
theorem Nt {ln:Ln}{s l:Str}{r:ah}(h:(l,r)∈ln s):∀{n:Nat}{v:Str},Rc ln l n v->Rc ln s (n+1) v
  | 0,v,q=>by
    have:=q.zero;subst this;exact Rc.refl.step h
  | n+1,v,q=>by
    obtain⟨u,r',h1,h2⟩:=q.succ;exact (Nt h h1).step h2
theorem Nu {ln:Ln}{a b c:Str}{i:Nat}(h:Rc ln a i b):∀{j:Nat},Rc ln b j c->Rc ln a (i+j) c
  | 0,q=>by have:=q.zero;subst this;exact h
  | j+1,q=>by
    obtain⟨u,r,h1,h2⟩:=q.succ;exact (Nu h h1).step h2
def iC (ln:Ln) (x y:Str):Prop:=∃j,1<=j/\Rc ln x j y
theorem pB {ln:Ln}{x y:Str}:iC ln x y↔∃l r,(l,r)∈ln x/\(l=y\/iC ln l y):=by
  constructor
  · rintro ⟨j,h1,h⟩;obtain⟨n,rfl⟩:∃n,j=n+1:=⟨j-1,by lia⟩;obtain⟨l,r,h2,h3⟩:=Nr h;refine⟨l,r,h2,?_⟩;cases n with
    | zero=>exact .inl h3.zero.symm
    | succ n=>exact .inr ⟨n+1,by lia,h3⟩
  · rintro ⟨l,r,h,rfl | ⟨j,h1,h2⟩⟩
    · exact⟨1,by lia,Rc.refl.step h⟩
    · exact⟨j+1,by lia,Nt h h2⟩
theorem Rc.inKeys {ln:Ln}{keys:List Str}(cl:∀k∈keys,∀l r,(l,r)∈ln k->l∈keys) {x:Str}(hx:x∈keys):∀{j:Nat}{y:Str},Rc ln x j y->y∈keys
  | 0,y,h=>by have:=h.zero;subst this;exact hx
  | j+1,y,h=>by
    obtain⟨u,r,h1,h2⟩:=h.succ;exact cl u (Rc.inKeys cl hx h1) y r h2
theorem Gr {ln:Ln}{keys:List Str}(cl:∀k∈keys,∀l r,(l,r)∈ln k->l∈keys) (nr:fC ln keys) {x y:Str}(hx:x∈keys) {j:Nat}(h:Rc ln x j y):j<keys.length:=by
  obtain⟨rs,w,rfl⟩:=h;obtain⟨vs,v0,vl,st⟩:=w.seq;have Nv:∀a d,a+d<=rs.length->Rc ln (vs a) d (vs (a+d)):=by
    intro a d
    induction d with
    | zero=>intro _;exact Rc.refl
    | succ d ih=>
      intro hd;obtain⟨r,_,h2⟩:=st (a+d) (by lia);exact (ih (by lia)).step h2
  have mem:∀a,a<=rs.length->vs a∈keys:=fun a ha=>by
    have:=Nv 0 a (by lia);rw[Nat.zero_add,v0] at this;exact this.inKeys cl hx
  have nd:((List.range (rs.length+1)).map vs).Nodup:=by
    rw[qC,List.pairwise_map];refine List.Pairwise.imp_of_mem ?_ (List.pairwise_lt_range (n:=rs.length+1));intro a b ha hb i6 e;have hb:=eV.mp hb;have:=Nv a (b-a) (by lia);rw[show a+(b-a)=b by lia,←e] at this;exact nr _ (mem a (by lia)) (b-a) (by lia) this
  have:=sj (us:=keys) nd fun z hz=>by
    obtain⟨a,ha,rfl⟩:=br.mp hz;exact mem a (by have:=eV.mp ha;lia)
  rw[ay,ju] at this;lia
def fY {α:Type} [DecidableEq α] (M:List α) (x:α):List α:=if x∈M then M else M++[x]
theorem Jl {α:Type} [DecidableEq α] {M:List α}{x y:α}:y∈fY M x↔y∈M\/y=x:=by
  unfold fY;split
  · next h=>
    constructor
    · exact .inl
    · rintro (z | rfl)
      · exact z
      · exact h
  · rw[bM,iF]
theorem Jm {α:Type} [DecidableEq α] {M:List α}{x:α}(h:M.Nodup):(fY M x).Nodup:=by
  unfold fY;split
  · exact h
  · next n=>
    rw[jV];refine⟨h,by simp,fun a ha b hb e=>?_⟩;have:b=x:=by simpa using hb
    subst this;subst e;exact n ha
def Bt (M M2:List Str):List Str:=M2.foldl fY M
theorem Nx {y:Str}:∀{M2 M:List Str},y∈Bt M M2↔y∈M\/y∈M2
  | [],M=>by simp[Bt]
  | x::r,M=>by
    show y∈Bt (fY M x) r↔_;rw[Nx,Jl,aN,or_assoc]
theorem Ny:∀{M2 M:List Str},M.Nodup->(Bt M M2).Nodup
  | [],_,h=>h
  | x::r,M,h=>Ny (M2:=r) (M:=fY M x) (Jm h)
theorem Nz {M:List Str}{x:Str}:putK (dV M iu) (Sum.inr x) (.bl true)=dV (fY M x) iu:=by
  unfold fY;split
  · next h=>
    rw[Ge h];refine sS fun z _=>?_
    split<;>rfl
  · next h=>exact IW h
theorem NB:∀{M2 M:List Str},Bc (dV M iu) (dV M2 iu)=dV (Bt M M2) iu
  | [],M=>rfl
  | x::r,M=>by
    show Bc (putK (dV M iu) (Sum.inr x) (.bl true)) (dV r iu)=_;rw[Nz,NB];rfl
theorem NC {α:Type} [DecidableEq α]:∀{rs us:List α},rs.Nodup->(∀x∈rs,x∈us)->rs.length<=us.length
  | [],us,_,_=>dj _
  | a::r,us,hn,hs=>by
    rw[iL] at hn;have ha:=hs a (by simp);have:=NC (rs:=r) (us:=us.erase a) hn.2 fun x hx=>by
      have:x≠a:=fun z=>hn.1 (z▸hx)
      exact (List.mem_erase_of_ne this).mpr (hs x (bD _ hx))
    rw[oh ha] at this;have:=qH ha;rw[iK];lia
structure Dp (H:Hp) (pd:ah) (ob:Obj) (os:List Str) (cU:Str->List Str) (ad:Str->ah) (obs:Str->Obj):Prop where
  d:H pd=some (.ie ob (.dK (dV os fun k=>.ref (ad k))))
  e:∀k∈os,H (ad k)=some (.ie (obs k) (.dK (dV (cU k) iu)))
theorem Dp.same {H H':Hp}{pd:ah}{ob:Obj}{os:List Str}{cU:Str->List Str}{ad:Str->ah}{obs:Str->Obj}(h:Dp H pd ob os cU ad obs) (s:ak H H'):Dp H' pd ob os cU ad obs:=⟨s _ _ h.d,fun k hk=>s _ _ (h.e k hk)⟩
theorem Jo {H:Hp}{a:ah}{ob:Obj}{M:List Str}(h:H a=some (.ie ob (.dK (dV M iu)))) (y:Str):cj H a (.str y) (if y∈M then some (.bl true) else none):=by
  refine .inl ⟨_,Sum.inr y,.inr ⟨ob,h⟩,rfl,?_⟩
  by_cases c:y∈M
  · rw[aq c,o8 c];rfl
  · rw[ao c,Ah c]
theorem ND {ts:TS}{D:Ends}{σ:St}{ad:Str->ah}{f:Str->List (Key×V)}:∀(L:List Str) (H:Hp),(∀k∈L,H (ad k)=some (.dK (f k)))->(∀k∈L,∀k'∈L,ad k=ad k'->k=k')->L.Nodup->
    (∀(H':Hp) (obs:Str->Obj),(∀k∈L,H' (ad k)=some (.ie (obs k) (.dK (f k))))->(∀b,(∀k∈L,b≠ad k)->H' b=H b)->rm ts D σ H')->rm ts D σ H
  | [],H,_,_,_,k=>k H (fun _=>default) (by simp) fun b _=>rfl
  | x::r,H,h,inj,nd,k=>by
    rw[iL] at nd;have ne:∀z∈r,ad z≠ad x:=fun z hz e=>nd.1 ((inj z (bD _ hz) x (by simp) e)▸hz)
    refine .ie (ad x) (f x) (h x (by simp)) fun ob=>?_
    refine ND r _ (fun z hz=>by rw[zr (ne z hz)];exact h z (bD _ hz)) (fun a ha b hb=>inj a (bD _ ha) b (bD _ hb)) nd.2 fun H' obs h1 h2=>?_
    refine k H' (fun z=>if z=x then ob else obs z) (fun z hz=>?_) fun b hb=>?_
    · by_cases c:z=x
      · subst c;rw[aq rfl,h2 (ad z) fun w hw=>aD (ne w hw),zb]
      · rw[ao c];exact h1 z ((aN.mp hz).resolve_left c)
    · rw[h2 b fun w hw=>hb w (bD _ hw),zr (hb x (by simp))]
def DX (ln:Ln) (keys:List Str) (p:SS):Prop:=p.1∈keys/\(∃r,(p.2,r)∈ln p.1)/\¬∃t,iC ln p.1 t/\iC ln t p.2
def dP (ps:List SS):List (List Key×V):=ps.map fun p=>([Sum.inr p.1,Sum.inr p.2],V.bl true)
theorem Vt (ps:List SS):((dP ps).map fun kv=>kv.1)=ps.map fun q=>[Sum.inr q.1,Sum.inr q.2]:=by unfold dP;rw[fO];rfl
theorem Vu {ps:List SS}{p:SS}:putK (dP ps) [Sum.inr p.1,Sum.inr p.2] (.bl true)=dP (fY ps p):=by
  have inj:∀a b:SS,([Sum.inr a.1,Sum.inr a.2]:List Key) = [Sum.inr b.1,Sum.inr b.2]↔a=b:=fun a b=>by
    constructor
    · intro h;simp only [List.cons.injEq,Sum.inr.injEq,and_true] at h;exact Prod.ext h.1 h.2
    · rintro rfl;rfl
  have any:((dP ps).any fun kv=>decide (kv.1 = [Sum.inr p.1,Sum.inr p.2]))=decide (p∈ps):=by
    rw[jG,iM,dg];unfold dP;constructor
    · rintro ⟨x,hx,e⟩;obtain⟨q,hq,rfl⟩:=br.mp hx;exact ((inj q p).mp (aP e))▸hq
    · intro h;exact⟨_,br.mpr ⟨p,h,rfl⟩,aO rfl⟩
  unfold putK fY;rw[any]
  by_cases c:p∈ps
  · rw[aq (aO c),aq c];unfold dP;rw[fO];refine jr fun q _=>?_
    show (if ([Sum.inr q.1,Sum.inr q.2]:List Key) = [Sum.inr p.1,Sum.inr p.2] then _ else _)=_;split<;>rfl
  · rw[ao (by rw[aV c];exact bJ),ao c];unfold dP;rw[aT];rfl
abbrev Tr:=aQ×ah
abbrev Rw:=Str->List (Str×Tr)
def cL (ts:List aQ) (z:List Tr):Rw:=fun k=>(z.filter fun p=>decide (p.1.k≠dw/\aC ts p.1.a=k)).map fun p=>(aC ts p.1.b,p)
theorem Vv {ts:List aQ}{z:List Tr}{k:Str}:cG ts z k=(cL ts z k).map fun q=>(q.1,q.2.2):=by unfold cG cL;rw[fO];rfl
theorem ng {ts:List aQ}{z:List Tr}{k l:Str}{b:Tr}:(l,b)∈cL ts z k↔b∈z/\b.1.k≠dw/\aC ts b.1.a=k/\aC ts b.1.b=l:=by
  unfold cL;rw[br];constructor
  · rintro ⟨p,hp,e⟩;rw[cF,dg] at hp;cases e;exact⟨hp.1,hp.2.1,hp.2.2,rfl⟩
  · rintro ⟨h1,h2,h3,h4⟩;exact⟨b,by rw[cF,dg];exact⟨h1,h2,h3⟩,by rw[h4]⟩
abbrev eE:=Int×Str×List Tr
inductive Up (R:Rw) (F:Str->IS->Prop):Str->eE->Prop
  | bare {k:Str}{m:IS}(h:F k m):Up R F k (m.1,m.2,[])
  | up {k l:Str}{c:eE}{b:Tr}(u:Up R F l c) (h:(l,b)∈R k):Up R F k (c.1+dR b.1,c.2.1,c.2.2++[b])
inductive Dn (R:Rw) (F:Str->IS->Prop):Str->eE->Prop
  | bare {k:Str}{m:IS}(h:F k m):Dn R F k (m.1,m.2,[])
  | dn {k l:Str}{c:eE}{b:Tr}(u:Dn R F k c) (h:(l,b)∈R k):Dn R F l (c.1-dR b.1,c.2.1,b::c.2.2)
def jN (R:Rw) (F:Str->IS->Prop) (k:Str) (m:Int):Prop:=(∃c,Up R F k c/\c.1=m)/\∀c,Up R F k c->c.1<=m
def k7 (R:Rw) (F:Str->IS->Prop) (k:Str) (m:Int):Prop:=(∃c,Dn R F k c/\c.1=m)/\∀c,Dn R F k c->m<=c.1
variable {R:Rw}{F G:Str->IS->Prop}{k:Str}{keys:List Str}
theorem jN.uniq {m n:Int}(h:jN R F k m) (h':jN R F k n):m=n:=by
  obtain⟨⟨c,u,e⟩,a⟩:=h;obtain⟨⟨c',u',e'⟩,a'⟩:=h';have h1:=a _ u';have h2:=a' _ u;lia
theorem k7.uniq {m n:Int}(h:k7 R F k m) (h':k7 R F k n):m=n:=by
  obtain⟨⟨c,u,e⟩,a⟩:=h;obtain⟨⟨c',u',e'⟩,a'⟩:=h';have h1:=a _ u';have h2:=a' _ u;lia
theorem Jp {f:Str->Int}(h0:∀k m,F k m->k∈keys->m.1<=f k) (cl:∀k l b,(l,b)∈R k->k∈keys/\l∈keys) (h1:∀k l b,(l,b)∈R k->f l+dR b.1<=f k) {c:eE}(hk:k∈keys) (u:Up R F k c):c.1<=f k:=by
  induction u with
  | bare h=>exact h0 _ _ h hk
  | up u h ih=>
    have:=ih (cl _ _ _ h).2;have:=h1 _ _ _ h;show _+_<=_;lia
theorem Vw {f:Str->Int}(h0:∀k m,F k m->k∈keys->f k<=m.1) (cl:∀k l b,(l,b)∈R k->k∈keys/\l∈keys) (h1:∀k l b,(l,b)∈R k->f l<=f k-dR b.1) {c:eE}(hk:k∈keys) (u:Dn R F k c):f k<=c.1:=by
  induction u with
  | bare h=>exact h0 _ _ h hk
  | dn u h ih=>
    have:=ih (cl _ _ _ h).1;have:=h1 _ _ _ h;show _<=_-_;lia
theorem Vx {d:eE}(hd:Dn R G k d):∀{c:eE},Up R F k c->d.1<c.1->∃k' c' m,(k'=k\/∃l b,(l,b)∈R k')/\Up R F k' c'/\G k' m/\m.1<c'.1:=by
  induction hd with
  | bare h=>exact fun u hl=>⟨_,_,_,.inl rfl,u,h,hl⟩
  | @dn k l c b u h ih=>
    intro c' u' hl;have hl:c.1-dR b.1<c'.1:=hl;obtain⟨k',Vy,m,h1,h2⟩:=ih (u'.up h) (show c.1<c'.1+dR b.1 by lia);refine⟨k',Vy,m,?_,h2⟩;rcases h1 with rfl | h1
    · exact .inr ⟨_,_,h⟩
    · exact .inr h1
theorem Vz {f g:Str->Int}(cl:∀k l b,(l,b)∈R k->k∈keys/\l∈keys) (hf:∀k∈keys,jN R F k (f k)) (hg:∀k∈keys,k7 R G k (g k)):(∃k∈keys,g k<f k)↔∃k∈keys,∃c m,Up R F k c/\G k m/\m.1<c.1:=by
  constructor
  · rintro ⟨k,hk,hl⟩;obtain⟨⟨c,u,e⟩,_⟩:=hf k hk;obtain⟨⟨d,v,e'⟩,_⟩:=hg k hk;obtain⟨k',c',m,h1,h2,h3,h4⟩:=Vx v u (by lia);refine⟨k',?_,c',m,h2,h3,h4⟩;rcases h1 with rfl | ⟨l,b,h⟩
    · exact hk
    · exact (cl _ _ _ h).1
  · rintro ⟨k,hk,c,m,u,h,hl⟩;have h1:=(hf k hk).2 _ u;have h2:=(hg k hk).2 _ (Dn.bare h);exact⟨k,hk,by have h2:g k<=m.1:=h2;lia⟩
theorem Rc.cons {ln:Ln}{k l:Str}{r:ah}(e:(l,r)∈ln k):∀{n:Nat}{s:Str},Rc ln l n s->Rc ln k (n+1) s
  | 0,s,h=>by rw[h.zero];exact Rc.step Rc.refl e
  | n+1,s,h=>by
    obtain⟨u,r',h1,h2⟩:=h.succ;exact (Rc.cons e h1).step h2
theorem Rc.short {ln:Ln}{keys:List Str}(cl:∀k∈keys,∀l r,(l,r)∈ln k->l∈keys) (nr:fC ln keys) {k s:Str}{n:Nat}(hk:k∈keys) (h:Rc ln k n s):n<keys.length:=by
  obtain⟨rs,w,e⟩:=h;obtain⟨vs,v0,v1,st⟩:=w.seq;rw[e] at v1 st;have hk:∀i,i<=n->vs i∈keys:=by
    intro i
    induction i with
    | zero=>intro _;rw[v0];exact hk
    | succ i ih=>
      intro hi;obtain⟨r,_,q⟩:=st i (by lia);exact cl _ (ih (by lia)) _ _ q
  have go:∀i d,i+d<=n->Rc ln (vs i) d (vs (i+d)):=by
    intro i d
    induction d with
    | zero=>intro _;exact Rc.refl
    | succ d ih=>
      intro hi;obtain⟨r,_,q⟩:=st (i+d) (by lia);exact (ih (by lia)).step q
  have main:∀i j,i<j->j<=n->vs i≠vs j:=fun i j qi hj e=>by
    have:=go i (j-i) (by lia);rw[show i+(j-i)=j by lia,←e] at this;exact nr _ (hk i (by lia)) _ (by lia) this
  have nd:((List.range (n+1)).map vs).Nodup:=IA fun i j hi hj e=>by
    rcases kC i j with c | c | c
    · exact absurd e (main i j c (by lia))
    · exact c
    · exact absurd e.symm (main j i c (by lia))
  have:=sj (us:=keys) nd fun x hx=>by
    obtain⟨i,hi,rfl⟩:=br.mp hx;exact hk i (by have:=eV.mp hi;lia)
  rw[ay,ju] at this;lia
def pV (R:Rw):Ln:=fun k=>(R k).map fun q=>(q.1,q.2.2)
theorem yH {l:Str}{b:Tr}(h:(l,b)∈R k):(l,b.2)∈pV R k:=br.mpr ⟨(l,b),h,rfl⟩
theorem VA {l:Str}{r:ah}(h:(l,r)∈pV R k):∃t,(l,(t,r))∈R k:=by
  obtain⟨⟨l',t,r'⟩,h',e⟩:=br.mp h;cases e;exact⟨t,h'⟩
theorem Up.rc {c:eE}(u:Up R F k c):∃s,Rc (pV R) k c.2.2.length s:=by
  induction u with
  | bare h=>exact⟨_,Rc.refl⟩
  | up u h ih=>
    obtain⟨s,q⟩:=ih;refine⟨s,?_⟩;show Rc _ _ (_++[_]).length _;rw[bL];exact Rc.cons (yH h) q
theorem Dn.rc {c:eE}(cl:∀k l b,(l,b)∈R k->k∈keys/\l∈keys) (u:Dn R F k c) (hk:k∈keys):∃s∈keys,Rc (pV R) s c.2.2.length k:=by
  induction u with
  | bare h=>exact⟨_,hk,Rc.refl⟩
  | dn u h ih=>
    obtain⟨s,hs,q⟩:=ih (cl _ _ _ h).1;exact⟨s,hs,q.step (yH h)⟩
theorem NF (cl:∀k l b,(l,b)∈R k->k∈keys/\l∈keys):∀k∈keys,∀l r,(l,r)∈pV R k->l∈keys:=fun k _ l r h=>by
  obtain⟨t,h⟩:=VA h;exact (cl _ _ _ h).2
theorem Up.short {c:eE}(cl:∀k l b,(l,b)∈R k->k∈keys/\l∈keys) (nr:fC (pV R) keys) (hk:k∈keys) (u:Up R F k c):c.2.2.length<keys.length:=by
  obtain⟨s,q⟩:=u.rc;exact q.short (NF cl) nr hk
theorem Dn.short {c:eE}(cl:∀k l b,(l,b)∈R k->k∈keys/\l∈keys) (nr:fC (pV R) keys) (hk:k∈keys) (u:Dn R F k c):c.2.2.length<keys.length:=by
  obtain⟨s,hs,q⟩:=u.rc cl hk;exact q.short (NF cl) nr hs
structure nP (R:Rw) (F:Str->IS->Prop) (keys:List Str) (n:Nat) (M:List Str) (v:Str->eE):Prop where
  nd:M.Nodup
  sub:∀k∈M,k∈keys
  is:∀k∈M,Up R F k (v k)/\(v k).2.2.length=n
  all:∀k∈keys,∀c,Up R F k c->c.2.2.length=n->k∈M/\c.1<=(v k).1
theorem nP.zero {v:Str->eE}(nd:keys.Nodup) (h:∀k∈keys,(v k).2.2 = []/\F k ((v k).1,(v k).2.1)) (hu:∀k m m',F k m->F k m'->m.1=m'.1):nP R F keys 0 keys v:=by
  refine⟨nd,fun _ h=>h,fun k hk=>⟨?_,by rw[(h k hk).1];rfl⟩,fun k hk c u e=>⟨hk,?_⟩⟩
  · have:=Up.bare (R:=R) (h k hk).2;rw[←(h k hk).1] at this;exact this
  · cases u with
    | bare h'=>exact Int.le_of_eq (hu _ _ _ h' (h k hk).2)
    | up u h'=>
      have e:(_++[_]).length=0:=e;simp at e
structure nQ (R:Rw) (M:List Str) (v:Str->eE) (k:Str) (z:List (Str×Tr)) (has:Prop) (c:eE):Prop where
  no:¬has->∀l b,(l,b)∈z->l ∉ M
  yes:has->∃l b,(l,b)∈z/\l∈M/\c=((v l).1+dR b.1,(v l).2.1,(v l).2.2++[b])
  max:has->∀l b,(l,b)∈z->l∈M->(v l).1+dR b.1<=c.1
theorem nP.next {n:Nat}{M M':List Str}{v v':Str->eE}(cl:∀k l b,(l,b)∈R k->k∈keys/\l∈keys) (r:nP R F keys n M v) (nd:M'.Nodup) (sub:∀k∈M',k∈keys) (h:∀k∈keys,nQ R M v k (R k) (k∈M') (v' k)):nP R F keys (n+1) M' v':=by
  refine⟨nd,sub,fun k hk=>?_,fun k hk c u e=>?_⟩
  · obtain⟨l,b,h1,h2,h3⟩:=(h k (sub k hk)).yes hk;obtain⟨u,e⟩:=r.is l h2;rw[h3];refine⟨u.up h1,?_⟩;show (_++[_]).length=_;rw[bL,e];rfl
  · cases u with
    | bare h'=>exact absurd e (by show ¬([]:List Tr).length=n+1;simp)
    | @up _ l c b u h'=>
      have e:(c.2.2++[b]).length=n+1:=e;rw[bL] at e;have e:c.2.2.length+1=n+1:=e;obtain⟨h1,h2⟩:=r.all l (cl _ _ _ h').2 c u (by lia);have hM:k∈M':=d9 fun z=>(h k hk).no z l b h' h1
      refine⟨hM,?_⟩;have:=(h k hk).max hM l b h' h1;show c.1+_<=_;lia
theorem nP.stop {n:Nat}{v:Str->eE}(cl:∀k l b,(l,b)∈R k->k∈keys/\l∈keys) (r:nP R F keys n [] v):∀k∈keys,∀c,Up R F k c->c.2.2.length<n:=by
  have no:∀k∈keys,∀c,Up R F k c->c.2.2.length≠n:=fun k hk c u e=>cW (r.all k hk c u e).1
  intro k hk c u
  induction u with
  | bare h=>
    have:=no _ hk _ (Up.bare h);show 0<n;have:(0:Nat)≠n:=this;lia
  | @up k l c b u h ih=>
    have h1:=ih (cl _ _ _ h).2;have h2:=no _ hk _ (u.up h);have h2:(c.2.2++[b]).length≠n:=h2;show (c.2.2++[b]).length<n;rw[bL] at h2 ⊢;have h2:c.2.2.length+1≠n:=h2;show c.2.2.length+1<n;lia
theorem NG {f:Str->Int}{q:fX}(z:Str):f z<=vg f q z:=by
  unfold vg sY;split
  · rename_i h;rw[h];split<;>lia
  · lia
theorem VB {f:Str->Int}{q:fX}:f q.2.1+q.2.2.1<=vg f q q.1:=by
  unfold vg sY;rw[aq rfl];split<;>lia
theorem NH (ls:List fX):∀{f:Str->Int}(z:Str),f z<=Ao ls f z:=by
  induction ls with
  | nil=>intro f z;exact dY _
  | cons q ls ih=>intro f z;exact iP (NG z) (ih (f:=vg f q) z)
theorem VC {ls:List fX}:∀{f f':Str->Int}{q:fX},q∈ls->(∀z,f z<=f' z)->f q.2.1+q.2.2.1<=Ao ls f' q.1:=by
  induction ls with
  | nil=>intro f f' q h;cases h
  | cons p ls ih=>
    intro f f' q h hf;rcases aN.mp h with rfl | h
    · have h1:=hf q.2.1;have h2:=VB (f:=f') (q:=q);have h3:=NH ls (f:=vg f' q) q.1;have:Ao (q::ls) f' q.1=Ao ls (vg f' q) q.1:=rfl;lia
    · exact ih (f':=vg f' p) h fun z=>iP (hf z) (NG z)
theorem NI {f:Str->Int}{q:fX}(z:Str):vh f q z<=f z:=by
  unfold vh Br;split
  · rename_i h;rw[h];split<;>lia
  · lia
theorem VD {f:Str->Int}{q:fX}:vh f q q.2.1<=f q.1-q.2.2.1:=by
  unfold vh Br;rw[aq rfl];split<;>lia
theorem NJ (ls:List fX):∀{f:Str->Int}(z:Str),Aq ls f z<=f z:=by
  induction ls with
  | nil=>intro f z;exact dY _
  | cons q ls ih=>intro f z;exact iP (ih (f:=vh f q) z) (NI z)
theorem VE {ls:List fX}:∀{f f':Str->Int}{q:fX},q∈ls->(∀z,f' z<=f z)->Aq ls f' q.2.1<=f q.1-q.2.2.1:=by
  induction ls with
  | nil=>intro f f' q h;cases h
  | cons p ls ih=>
    intro f f' q h hf;rcases aN.mp h with rfl | h
    · have h1:=hf q.1;have h2:=VD (f:=f') (q:=q);have h3:=NJ ls (f:=vh f' q) q.2.1;have:Aq (q::ls) f' q.2.1=Aq ls (vh f' q) q.2.1:=rfl;lia
    · exact ih (f':=vh f' p) h fun z=>iP (NI z) (hf z)
structure Jq (R:Rw) (ls:List fX):Prop where
  to:∀k l b,(l,b)∈R k->∃q∈ls,q.1=k/\q.2.1=l/\q.2.2.1=dR b.1
  of:∀q∈ls,∃b,(q.2.1,b)∈R q.1/\dR b.1=q.2.2.1
theorem NK {ts:List aQ}{z:List Tr}:Jq (cL ts z) (Aj ts z):=by
  refine⟨fun k l b h=>?_,fun q h=>?_⟩
  · obtain⟨h1,h2,h3,h4⟩:=ng.mp h;exact⟨(aC ts b.1.a,aC ts b.1.b,dR b.1,b.2),br.mpr ⟨b,by rw[cF,dg];exact⟨h1,h2⟩,rfl⟩,h3,h4,rfl⟩
  · obtain⟨p,hp,rfl⟩:=br.mp h;rw[cF,dg] at hp;exact⟨p,ng.mpr ⟨hp.1,hp.2,rfl,rfl⟩,rfl⟩
theorem VF {ls:List fX}{f:Str->Int}(L:Jq R ls) (cl:∀k l b,(l,b)∈R k->k∈keys/\l∈keys) (nr:fC (pV R) keys) (h0:∀k∈keys,∃m,F k m/\m.1=f k) (hu:∀k m m',F k m->F k m'->m.1=m'.1) (hk:k∈keys):jN R F k (sZ ls f keys.length k):=by
  have ex:∀(rs:List fX) (g:Str->Int),(∀q∈rs,q∈ls)->(∀k∈keys,∃c,Up R F k c/\c.1=g k)->∀k∈keys,∃c,Up R F k c/\c.1=Ao rs g k:=by
    intro rs
    induction rs with
    | nil=>intro g _ h;exact h
    | cons q rs ih=>
      intro g hs h;refine ih (vg g q) (fun q' h'=>hs q' (bD _ h')) fun k hk=>?_
      unfold vg sY
      by_cases e:k=q.1
      · rw[aq e]
        by_cases e2:g q.2.1+q.2.2.1 > g q.1
        · rw[aq e2];obtain⟨b,h1,h2⟩:=L.of q (hs q (by simp));obtain⟨c,u,e3⟩:=h q.2.1 (cl _ _ _ h1).2;refine⟨_,u.up (e▸h1),?_⟩;show c.1+dR b.1=_;rw[e3,h2]
        · rw[ao e2,←e];exact h k hk
      · rw[ao e];exact h k hk
  have Jr:∀n,∀k∈keys,∃c,Up R F k c/\c.1=sZ ls f n k:=by
    intro n
    induction n with
    | zero=>
      intro k hk;obtain⟨m,h1,h2⟩:=h0 k hk;exact⟨_,Up.bare h1,h2⟩
    | succ n ih=>exact ex ls (sZ ls f n) (fun _ h=>h) ih
  have mono:∀n z,sZ ls f n z<=sZ ls f (n+1) z:=fun n z=>NH ls z
  have vn:∀n m,n<=m->∀z,sZ ls f n z<=sZ ls f m z:=by
    intro n m h
    induction h with
    | refl=>intro z;exact dY _
    | step _ ih=>intro z;exact iP (ih z) (mono _ z)
  have le:∀{k:Str}{c:eE},Up R F k c->k∈keys->c.1<=sZ ls f c.2.2.length k:=by
    intro k c u
    induction u with
    | @bare k m h=>
      intro hk;obtain⟨m',h1,h2⟩:=h0 k hk;show m.1<=f k;rw[←h2,hu _ _ _ h h1];exact dY _
    | @up k l c b u h ih=>
      intro hk;have:=ih (cl _ _ _ h).2;obtain⟨q,hq,e1,e2,e3⟩:=L.to _ _ _ h;show c.1+dR b.1<=sZ ls f (c.2.2++[b]).length k;rw[bL];show _<=Ao ls (sZ ls f c.2.2.length) k;have:=VC (f:=sZ ls f c.2.2.length) hq (fun z=>dY _);rw[e1,e2,e3] at this;lia
  refine⟨Jr _ k hk,fun c u=>?_⟩;have h1:=le u hk;have h2:=u.short cl nr hk;exact iP h1 (vn _ _ (by lia) k)
theorem VG {ls:List fX}{f:Str->Int}(L:Jq R ls) (cl:∀k l b,(l,b)∈R k->k∈keys/\l∈keys) (nr:fC (pV R) keys) (h0:∀k∈keys,∃m,F k m/\m.1=f k) (hu:∀k m m',F k m->F k m'->m.1=m'.1) (hk:k∈keys):k7 R F k (uu ls f keys.length k):=by
  have ex:∀(rs:List fX) (g:Str->Int),(∀q∈rs,q∈ls)->(∀k∈keys,∃c,Dn R F k c/\c.1=g k)->∀k∈keys,∃c,Dn R F k c/\c.1=Aq rs g k:=by
    intro rs
    induction rs with
    | nil=>intro g _ h;exact h
    | cons q rs ih=>
      intro g hs h;refine ih (vh g q) (fun q' h'=>hs q' (bD _ h')) fun k hk=>?_
      unfold vh Br
      by_cases e:k=q.2.1
      · rw[aq e]
        by_cases e2:g q.1-q.2.2.1<g q.2.1
        · rw[aq e2];obtain⟨b,h1,h2⟩:=L.of q (hs q (by simp));obtain⟨c,u,e3⟩:=h q.1 (cl _ _ _ h1).1;refine⟨_,u.dn (e▸h1),?_⟩;show c.1-dR b.1=_;rw[e3,h2]
        · rw[ao e2,←e];exact h k hk
      · rw[ao e];exact h k hk
  have Jr:∀n,∀k∈keys,∃c,Dn R F k c/\c.1=uu ls f n k:=by
    intro n
    induction n with
    | zero=>
      intro k hk;obtain⟨m,h1,h2⟩:=h0 k hk;exact⟨_,Dn.bare h1,h2⟩
    | succ n ih=>exact ex ls (uu ls f n) (fun _ h=>h) ih
  have mono:∀n z,uu ls f (n+1) z<=uu ls f n z:=fun n z=>NJ ls z
  have vn:∀n m,n<=m->∀z,uu ls f m z<=uu ls f n z:=by
    intro n m h
    induction h with
    | refl=>intro z;exact dY _
    | step _ ih=>intro z;exact iP (mono _ z) (ih z)
  have le:∀{k:Str}{c:eE},Dn R F k c->k∈keys->uu ls f c.2.2.length k<=c.1:=by
    intro k c u
    induction u with
    | @bare k m h=>
      intro hk;obtain⟨m',h1,h2⟩:=h0 k hk;show f k<=m.1;rw[←h2,hu _ _ _ h h1];exact dY _
    | @dn k l c b u h ih=>
      intro hk;have:=ih (cl _ _ _ h).1;obtain⟨q,hq,e1,e2,e3⟩:=L.to _ _ _ h;show Aq ls (uu ls f c.2.2.length) l<=c.1-dR b.1;have:=VE (f:=uu ls f c.2.2.length) hq (fun z=>dY _);rw[e1,e2,e3] at this;lia
  refine⟨Jr _ k hk,fun c u=>?_⟩;have h1:=le u hk;have h2:=u.short cl nr hk;exact iP (vn _ _ (by lia) k) h1
def cI (H0 H:Hp) (a:ah) (c:eE):Prop:=∃l,H a=some (.tup [.int c.1,.str c.2.1,.ref l])/\H l=some (.lst (c.2.2.map fun p=>V.ref p.2))/\H0 l=none
def VH (fz:Bool) (o:Obj) (keys:List Str) (ad:Str->ah):HO:=if fz then .ie o (.dK (dV keys fun k=>.ref (ad k))) else .dK (dV keys fun k=>.ref (ad k))
section
variable {H0 H H':Hp}{a pd:ah}{c:eE}
theorem cI.same (h:cI H0 H a c) (s:ak H H'):cI H0 H' a c:=by
  obtain⟨l,h1,h2,h3⟩:=h;exact⟨l,s _ _ h1,s _ _ h2,h3⟩
theorem cI.put {kv:List (Key×V)}{o:HO}(h:cI H0 H a c) (hd:H pd=some (.dK kv)):cI H0 (upd H pd o) a c:=by
  obtain⟨l,h1,h2,h3⟩:=h;exact⟨l,by rw[zr (qf h1 hd (by intro z;cases z))];exact h1,by rw[zr (qf h2 hd (by intro z;cases z))];exact h2,h3⟩
theorem cI.any (h:cI H0 H a c):cI (fun _=>none) H a c:=by
  obtain⟨l,h1,h2,_⟩:=h;exact⟨l,h1,h2,rfl⟩
theorem cI.old {H1:Hp}(h:cI H1 H a c) (s:ak H0 H1):cI H0 H a c:=by
  obtain⟨l,h1,h2,h3⟩:=h;exact⟨l,h1,h2,s.free h3⟩
end
theorem VI {H:Hp}{pd:ah}{ob:Obj}{keys:List Str}{f:Str->V}(h:H pd=some (.ie ob (.dK (dV keys f)))) {k:Str}(hk:k ∉ keys):cj H pd (.str k) none:=.inl ⟨_,Sum.inr k,.inr ⟨ob,h⟩,rfl,(Ah hk).symm⟩
theorem uv {ts:List aQ}{z:List Tr}:cG ts z=pV (cL ts z):=funext fun k=>Vv
theorem VJ {ts:List aQ}{z:List Tr}{k:Str}:(cL ts z k).length<=z.length:=by
  unfold cL;rw[ay];exact gE _ _
theorem Js {K:aF}{H:Hp}{p pu pt:ah}{x y:V}{us:List Str}{av:List ah}{ts:List aQ}(h:mZ K H p pu pt x y us av ts) {k l:Str}{b:Tr}(hb:(l,b)∈cL ts (ts.zip av) k):H b.2=some (.tup (cH b.1))/\nB us b.1:=by
  have hz:=(ng.mp hb).1;obtain⟨i,hi⟩:=g7.mp hz;obtain⟨h1,h2⟩:=jm.mp hi;exact⟨wF h.tt h2 (by rw[aM,h1];rfl),h.ok _ (bN h1)⟩
theorem yI {us:List Str}{ts:List aQ}{av:List ah}(ht:∀t∈ts,t.a∈us/\t.b∈us):∀k l b,(l,b)∈cL ts (ts.zip av) k->k∈zn ts (aL us)/\l∈zn ts (aL us):=fun k l b h=>by
  obtain⟨h1,h2,h3,h4⟩:=ng.mp h;have hm:=(jH (a:=b.1) (b:=b.2) h1).1;rw[←h3,←h4];exact⟨yw ht (ht _ hm).1,yw ht (ht _ hm).2⟩
theorem Jt {R:Rw}{k l:Str}{r:ah}{j:Nat}(h:(pV R k)[j]? = some (l,r)):∃t,(R k)[j]? = some (l,(t,r)):=by
  unfold pV at h;rw[aM] at h;cases e:(R k)[j]? with
  | none=>rw[e] at h;cases h
  | some q=>
    rw[e] at h;obtain⟨l',t,r'⟩:=q;cases h;exact⟨t,rfl⟩
theorem Ju {R:Rw}{k:Str}:(pV R k).length=(R k).length:=by unfold pV;rw[ay]
section
variable {R:Rw}{M:List Str}{v:Str->eE}{k:Str}{z:List (Str×Tr)}{has xF:Prop}{c c':eE}{l:Str}{b:Tr}
theorem nQ.nil (h:¬has):nQ R M v k [] has c:=⟨fun _ l b h=>(cW h).elim,fun h'=>absurd h' h,fun h'=>absurd h' h⟩
theorem qx {α:Type}{xs:List α}{x y:α}(h:y∈xs++[x]):y∈xs\/y=x:=by
  rcases bM.mp h with h | h
  · exact .inl h
  · exact .inr (by simpa using h)
theorem nQ.skip (h:nQ R M v k z has c) (hl:l ∉ M):nQ R M v k (z++[(l,b)]) has c:=by
  refine⟨fun hn l' b' h'=>?_,fun hy=>?_,fun hy l' b' h' hm=>?_⟩
  · rcases qx h' with h' | h'
    · exact h.no hn l' b' h'
    · cases h';exact hl
  · obtain⟨l',b',h1,h2⟩:=h.yes hy;exact⟨l',b',ee _ h1,h2⟩
  · rcases qx h' with h' | h'
    · exact h.max hy l' b' h' hm
    · cases h';exact absurd hm hl
theorem nQ.iy (h:nQ R M v k z has c) (hh:has) (le:(v l).1+dR b.1<=c.1):nQ R M v k (z++[(l,b)]) has c:=by
  refine⟨fun hn=>absurd hh hn,fun hy=>?_,fun hy l' b' h' hm=>?_⟩
  · obtain⟨l',b',h1,h2⟩:=h.yes hy;exact⟨l',b',ee _ h1,h2⟩
  · rcases qx h' with h' | h'
    · exact h.max hy l' b' h' hm
    · cases h';exact le
theorem nQ.take (h:nQ R M v k z has c) (hl:l∈M) (hh:xF) (ge:has->c.1<(v l).1+dR b.1) (e:c'=((v l).1+dR b.1,(v l).2.1,(v l).2.2++[b])):nQ R M v k (z++[(l,b)]) xF c':=by
  subst e;refine⟨fun hn=>absurd hh hn,fun hy=>⟨l,b,by simp,hl,rfl⟩,fun hy l' b' h' hm=>?_⟩;show _<=(v l).1+dR b.1;rcases qx h' with h' | h'
  · by_cases hc:has
    · have:=h.max hc l' b' h' hm;have:=ge hc;lia
    · exact absurd hm (h.no hc l' b' h')
  · cases h';exact dY _
theorem nQ.congr (h:nQ R M v k z has c) (e:has↔xF) (e':c=c'):nQ R M v k z xF c':=by
  subst e';exact⟨fun hn=>h.no fun z=>hn (e.mp z),fun hy=>h.yes (e.mpr hy),fun hy=>h.max (e.mpr hy)⟩
end
structure nh (R:Rw) (F:Str->IS->Prop) (keys done:List Str) (v:Str->eE):Prop where
  is:∀k∈keys,Up R F k (v k)
  ge:∀k∈keys,∀m,F k m->m.1<=(v k).1
  le:∀k∈done,∀l b,(l,b)∈R k->(v l).1+dR b.1<=(v k).1
structure ni (R:Rw) (F:Str->IS->Prop) (keys done:List Str) (v:Str->eE):Prop where
  is:∀k∈keys,Dn R F k (v k)
  ge:∀k∈keys,∀m,F k m->(v k).1<=m.1
  le:∀k∈done,∀l b,(l,b)∈R k->(v l).1<=(v k).1-dR b.1
section
variable {R:Rw}{F:Str->IS->Prop}{keys done:List Str}{v:Str->eE}
theorem nh.lo (h:nh R F keys done v) (cl:∀k l b,(l,b)∈R k->k∈keys/\l∈keys) (all:∀k∈keys,k∈done) {k:Str}(hk:k∈keys):jN R F k (v k).1:=
  ⟨⟨_,h.is k hk,rfl⟩,fun c u=>Jp (f:=fun z=>(v z).1) (keys:=keys) (fun k m hf hk=>h.ge k hk m hf) cl (fun k l b hb=>h.le k (all k (cl _ _ _ hb).1) l b hb) hk u⟩
theorem ni.hi (h:ni R F keys done v) (cl:∀k l b,(l,b)∈R k->k∈keys/\l∈keys) (all:∀k∈keys,k∈done) {k:Str}(hk:k∈keys):k7 R F k (v k).1:=
  ⟨⟨_,h.is k hk,rfl⟩,fun c u=>Vw (f:=fun z=>(v z).1) (keys:=keys) (fun k m hf hk=>h.ge k hk m hf) cl (fun k l b hb=>h.le k (all k (cl _ _ _ hb).1) l b hb) hk u⟩
end
theorem sy {ts:List aQ}{fs:List c8}{lo y:Int}{k:Str}:kh ts fs lo k<=y↔lo<=y/\∀f∈fs,aC ts f.u=k->f.lo<=y:=by
  unfold kh
  induction fs generalizing lo with
  | nil=>simp
  | cons f fs ih=>
    rw[List.foldl_cons,ih]
    by_cases e:aC ts f.u=k
    · rw[aq e];unfold sY;constructor
      · rintro ⟨h1,h2⟩;refine⟨by split at h1<;>lia,fun g hg e'=>?_⟩;rcases aN.mp hg with rfl | hg
        · split at h1<;>lia
        · exact h2 g hg e'
      · rintro ⟨h1,h2⟩;have:=h2 f (by simp) e;exact⟨by split<;>lia,fun g hg e'=>h2 g (bD _ hg) e'⟩
    · rw[ao e];constructor
      · rintro ⟨h1,h2⟩;refine⟨h1,fun g hg e'=>?_⟩;rcases aN.mp hg with rfl | hg
        · exact absurd e' e
        · exact h2 g hg e'
      · rintro ⟨h1,h2⟩;exact⟨h1,fun g hg e'=>h2 g (bD _ hg) e'⟩
theorem vo {ts:List aQ}{fs:List c8}{hi y:Int}{k:Str}:y<=Bs ts fs hi k↔y<=hi/\∀f∈fs,aC ts f.u=k->y<=f.hi:=by
  unfold Bs
  induction fs generalizing hi with
  | nil=>simp
  | cons f fs ih=>
    rw[List.foldl_cons,ih]
    by_cases e:aC ts f.u=k
    · rw[aq e];unfold Br;constructor
      · rintro ⟨h1,h2⟩;refine⟨by split at h1<;>lia,fun g hg e'=>?_⟩;rcases aN.mp hg with rfl | hg
        · split at h1<;>lia
        · exact h2 g hg e'
      · rintro ⟨h1,h2⟩;have:=h2 f (by simp) e;exact⟨by split<;>lia,fun g hg e'=>h2 g (bD _ hg) e'⟩
    · rw[ao e];constructor
      · rintro ⟨h1,h2⟩;refine⟨h1,fun g hg e'=>?_⟩;rcases aN.mp hg with rfl | hg
        · exact absurd e' e
        · exact h2 g hg e'
      · rintro ⟨h1,h2⟩;exact⟨h1,fun g hg e'=>h2 g (bD _ hg) e'⟩
def nj (ts:List aQ) (lo:Int) (z:Fz) (k:Str) (m:IS):Prop:=vd (yE lo (gA ts z k)) m
def nC (ts:List aQ) (hi:Int) (z:Fz) (k:Str) (m:IS):Prop:=vf (yF hi (gA ts z k)) m
theorem NL {ts:List aQ}{fs:List c8}{af:List ah}{k:Str}(hl:af.length=fs.length) (P:c8->Prop):(∀p∈gA ts (fs.zip af) k,P p.1)↔∀f∈fs,aC ts f.u=k->P f:=by
  unfold gA;constructor
  · intro h f hf e;obtain⟨b,hb⟩:=Nd (bs:=af) hl f hf;exact h (f,b) (cF.mpr ⟨hb,aO e⟩)
  · intro h p hp;rw[cF,dg] at hp;exact h p.1 (jH (a:=p.1) (b:=p.2) hp.1).1 hp.2
theorem nj.low {ts:List aQ}{fs:List c8}{af:List ah}{lo:Int}{k:Str}{m:IS}(hl:af.length=fs.length) (h:nj ts lo (fs.zip af) k m):m.1=kh ts fs lo k:=by
  have h1:=fun y=>U3 h y
  have h2:=fun y=>(h1 y).trans ((and_congr_right fun _=>NL hl (fun f=>f.lo<=y)).trans sy.symm)
  have a:=(h2 m.1).mp (dY _);have b:=(h2 (kh ts fs lo k)).mpr (dY _);lia
theorem nC.high {ts:List aQ}{fs:List c8}{af:List ah}{hi:Int}{k:Str}{m:IS}(hl:af.length=fs.length) (h:nC ts hi (fs.zip af) k m):m.1=Bs ts fs hi k:=by
  have h1:=fun y=>U4 h y
  have h2:=fun y=>(h1 y).trans ((and_congr_right fun _=>NL hl (fun f=>y<=f.hi)).trans vo.symm)
  have a:=(h2 m.1).mp (dY _);have b:=(h2 (Bs ts fs hi k)).mpr (dY _);lia
section
variable {R:Rw}{F:Str->IS->Prop}{keys done:List Str}{v:Str->eE}{u:Str}{c:eE}
theorem nh.set (h:nh R F keys done v) (hu:u ∉ done) (low:∀k∈done,∀l b,(l,b)∈R k->l≠u) (up:Up R F u c) (gt:(v u).1<=c.1):nh R F keys done (fun z=>if z=u then c else v z):=by
  refine⟨fun k hk=>?_,fun k hk m hm=>?_,fun k hk l b hb=>?_⟩
  · by_cases e:k=u
    · rw[aq e,e];exact up
    · rw[ao e];exact h.is k hk
  · by_cases e:k=u
    · rw[aq e];have:=h.ge k hk m hm;rw[e] at this;lia
    · rw[ao e];exact h.ge k hk m hm
  · rw[ao (low k hk l b hb),ao (fun z=>hu (z▸hk):¬k=u)];exact h.le k hk l b hb
theorem nh.snoc (h:nh R F keys done v) (hz:∀l b,(l,b)∈R u->(v l).1+dR b.1<=(v u).1):nh R F keys (done++[u]) v:=
  ⟨h.is,h.ge,fun k hk l b hb=>by
    rcases qx hk with z | z
    · exact h.le k z l b hb
    · rw[z] at hb ⊢;exact hz l b hb⟩
theorem ni.set (h:ni R F keys done v) (hu:u ∉ done) (dn:Dn R F u c) (lt:c.1<=(v u).1):ni R F keys done (fun z=>if z=u then c else v z):=by
  refine⟨fun k hk=>?_,fun k hk m hm=>?_,fun k hk l b hb=>?_⟩
  · by_cases e:k=u
    · rw[aq e,e];exact dn
    · rw[ao e];exact h.is k hk
  · by_cases e:k=u
    · rw[aq e];have:=h.ge k hk m hm;rw[e] at this;lia
    · rw[ao e];exact h.ge k hk m hm
  · have h1:=h.le k hk l b hb;rw[ao (fun z=>hu (z▸hk):¬k=u)]
    by_cases e:l=u
    · rw[aq e];rw[e] at h1;lia
    · rw[ao e];exact h1
theorem ni.snoc (h:ni R F keys done v) (hz:∀l b,(l,b)∈R u->(v l).1<=(v u).1-dR b.1):ni R F keys (done++[u]) v:=
  ⟨h.is,h.ge,fun k hk l b hb=>by
    rcases qx hk with z | z
    · exact h.le k z l b hb
    · rw[z] at hb ⊢;exact hz l b hb⟩
end
theorem Bn.keep {H H':Hp}{pc pd:ah}{ob:Obj}{kv:List (Key×V)}{keys:List Str}{ln:Ln}{ad:Str->ah}{bs:Str->List ah}(b:Bn H pd ob keys ln ad bs) (xG:H pc=some (.dK kv)) (kp:∀b o,b≠pc->H b=some o->H' b=some o):Bn H' pd ob keys ln ad bs:=
  ⟨kp _ _ (qf b.d xG (by intro z;cases z)) b.d,fun k hk=>kp _ _ (qf (b.l k hk) xG (by intro z;cases z)) (b.l k hk),fun k hk=>Paired.fV (b.e k hk) fun _ _ h=>kp _ _ (qf h xG (by intro z;cases z)) h⟩
theorem NN {ln:Ln}{keys os:List Str}(O:Ord ln keys os) {i:Nat}{u:Str}(hu:os[i]? = some u):u ∉ os.take i/\(∀l r,(l,r)∈ln u->l≠u)/\∀k∈os.take i,∀l r,(l,r)∈ln k->l≠u:=by
  have hi:=iA hu;have fr:u ∉ os.take i:=by
    have:=um O.nd i hi;rw[show os[i]=u from (bV.mp hu).2] at this;exact this
  refine⟨fr,fun l r h z=>fr (z▸O.low i u hu l r h),fun k hk l r h z=>?_⟩;obtain⟨j,hj⟩:=g7.mp hk;rw[List.getElem?_take] at hj;split at hj
  · have:=O.low j k hj l r h;rw[z] at this;exact fr ((List.take_prefix_take_left (kK (by assumption))).subset this)
  · cases hj
theorem VL {ln:Ln}{keys os:List Str}(O:Ord ln keys os) {i:Nat}{u:Str}(hu:os.reverse[i]? = some u):u ∉ os.reverse.take i/\∀l r,(l,r)∈ln u->l ∉ os.reverse.take i/\l≠u:=by
  have hi:=iA hu;rw[List.length_reverse] at hi;rw[List.getElem?_reverse hi] at hu;have lo:=NN O hu;have Jv:∀x∈os.take (os.length-1-i+1),x ∉ os.reverse.take i:=fun x hx hr=>by
    rw[List.take_reverse,List.mem_reverse] at hr;have e:os.length-1-i+1=os.length-i:=by lia
    rw[e] at hx;have nd:=O.nd;rw[←qJ (os.length-i) os,jV] at nd;exact nd.2.2 x hx x hr rfl
  have tk:os.take (os.length-1-i+1)=os.take (os.length-1-i)++[u]:=by rw[aS,hu];rfl
  rw[tk] at Jv;exact⟨Jv u (by simp),fun l r h=>⟨Jv l (ee _ (O.low _ u hu l r h)),lo.2.1 l r h⟩⟩
def VM (R:Rw) (F G:Str->IS->Prop) (keys:List Str):Prop:=∀k∈keys,∀c m,Up R F k c->G k m->c.1<=m.1
def VN (R:Rw) (F G:Str->IS->Prop) (keys:List Str) (c:eE) (w:Str):Prop:=∃k m,k∈keys/\Up R F k c/\G k m/\m.2=w/\m.1<c.1/\∀k'∈keys,∀c' m',Up R F k' c'->G k' m'->c'.2.2.length<c.2.2.length->c'.1<=m'.1
def DY (H:Hp) (q:ah) (c:eE) (w:Str):Prop:=∃l,H q=some (.tup [.str c.2.1,.ref l,.str w])/\H l=some (.lst (c.2.2.map fun p=>V.ref p.2))
def pW (lo hi:Int) (us:List Str) (av:List ah) (ts:List aQ) (af:List ah) (fs:List c8):Prop:=VM (cL ts (ts.zip av)) (nj ts lo (fs.zip af)) (nC ts hi (fs.zip af)) (zn ts (aL us))
def uw (lo hi:Int) (us:List Str) (av:List ah) (ts:List aQ) (af:List ah) (fs:List c8) (c:eE) (w:Str):Prop:=VN (cL ts (ts.zip av)) (nj ts lo (fs.zip af)) (nC ts hi (fs.zip af)) (zn ts (aL us)) c w
theorem NO (x:IS):∀l:List IS,∃m,vd (x::l) m
  | []=>⟨x,by simp,fun q hq=>by rw[show q=x by simpa using hq];exact yD x⟩
  | y::l=>by
    obtain⟨m,h1,h2⟩:=NO x l
    by_cases c:gR y m=true
    · refine⟨y,by simp,fun q hq=>?_⟩;rcases aN.mp hq with e | hq
      · rw[e];exact IZ (h2 x (by simp)) c
      · rcases aN.mp hq with e | hq
        · rw[e];exact yD y
        · exact IZ (h2 q (bD _ hq)) c
    · refine⟨m,?_,fun q hq=>?_⟩
      · rcases aN.mp h1 with e | h1
        · rw[e];simp
        · exact bD _ (bD _ h1)
      · rcases aN.mp hq with e | hq
        · rw[e];exact h2 x (by simp)
        · rcases aN.mp hq with e | hq
          · rw[e];simpa using c
          · exact h2 q (bD _ hq)
theorem NP (x:IS):∀l:List IS,∃m,vf (x::l) m
  | []=>⟨x,by simp,fun q hq=>by rw[show q=x by simpa using hq];exact yD x⟩
  | y::l=>by
    obtain⟨m,h1,h2⟩:=NP x l
    by_cases c:gR m y=true
    · refine⟨y,by simp,fun q hq=>?_⟩;rcases aN.mp hq with e | hq
      · rw[e];exact I0 (h2 x (by simp)) c
      · rcases aN.mp hq with e | hq
        · rw[e];exact yD y
        · exact I0 (h2 q (bD _ hq)) c
    · refine⟨m,?_,fun q hq=>?_⟩
      · rcases aN.mp h1 with e | h1
        · rw[e];simp
        · exact bD _ (bD _ h1)
      · rcases aN.mp hq with e | hq
        · rw[e];exact h2 x (by simp)
        · rcases aN.mp hq with e | hq
          · rw[e];simpa using c
          · exact h2 q (bD _ hq)
section
variable {lo hi:Int}{us:List Str}{av:List ah}{ts:List aQ}{af:List ah}{fs:List c8}{f g:Str->Int}
theorem Gs (hl:af.length=fs.length) (k:Str):∃m,nj ts lo (fs.zip af) k m/\m.1=kh ts fs lo k:=by
  obtain⟨m,h⟩:=NO (lo,"") ((gA ts (fs.zip af) k).map fun p=>(p.1.lo,p.1.n));have h:nj ts lo (fs.zip af) k m:=h;exact⟨m,h,h.low hl⟩
theorem VO (hl:af.length=fs.length) (k:Str):∃m,nC ts hi (fs.zip af) k m/\m.1=Bs ts fs hi k:=by
  obtain⟨m,h⟩:=NP (hi,"") ((gA ts (fs.zip af) k).map fun p=>(p.1.hi,p.1.n));have h:nC ts hi (fs.zip af) k m:=h;exact⟨m,h,h.high hl⟩
theorem VP (gM:∀t∈ts,t.a∈us/\t.b∈us) (hl:af.length=fs.length) (nr:fC (cG ts (ts.zip av)) (zn ts (aL us))) {k:Str}(hk:k∈zn ts (aL us)):jN (cL ts (ts.zip av)) (nj ts lo (fs.zip af)) k (sZ (Aj ts (ts.zip av)) (kh ts fs lo) (zn ts (aL us)).length k):=
  VF NK (yI gM) (by rw[←uv];exact nr) (fun k _=>Gs hl k) (fun k m m' h h'=>by rw[h.low hl,h'.low hl]) hk
theorem VQ (gM:∀t∈ts,t.a∈us/\t.b∈us) (hl:af.length=fs.length) (nr:fC (cG ts (ts.zip av)) (zn ts (aL us))) {k:Str}(hk:k∈zn ts (aL us)):k7 (cL ts (ts.zip av)) (nC ts hi (fs.zip af)) k (uu (Aj ts (ts.zip av)) (Bs ts fs hi) (zn ts (aL us)).length k):=
  VG NK (yI gM) (by rw[←uv];exact nr) (fun k _=>VO hl k) (fun k m m' h h'=>by rw[h.high hl,h'.high hl]) hk
theorem VR (gM:∀t∈ts,t.a∈us/\t.b∈us) (hf:∀k∈zn ts (aL us),jN (cL ts (ts.zip av)) (nj ts lo (fs.zip af)) k (f k)) (hg:∀k∈zn ts (aL us),k7 (cL ts (ts.zip av)) (nC ts hi (fs.zip af)) k (g k)) (no:pW lo hi us av ts af fs):∀k∈zn ts (aL us),f k<=g k:=fun k hk=>by
  refine Int.not_lt.mp fun z=>?_
  obtain⟨k',gj,c,m,u,h,hl⟩:=(Vz (yI gM) hf hg).mp ⟨k,hk,z⟩;have:=no k' gj c m u h;lia
end
def yJ (j:Int) (f:c8):c8:=⟨f.n,f.u,f.lo,if j=0 then f.hi else if j=1 then f.lo else f.lo+1⟩
theorem kX.Jw {K:aF}{H:Hp}{p pm pu pt pf:ah}{lo hi:Int}{us:List Str}{ts:List aQ}{fs:List c8}{av af:List ah}(h:kX K H p pm pu pt pf lo hi us ts fs av af) (nd:us.Nodup) (ul:us.length<64) (tl:ts.length<=900) (ok:∀t∈ts,nB us t) (fu:∀f∈fs,f.u∈us) (fl:fs.length<=60):fT K H p pm pu pt pf lo hi us av ts af fs:=
  ⟨⟨h.p,h.at'.u,h.at'.t,h.at'.tt,nd,ul,tl,ok⟩,h.at'.m,h.at'.f,h.at'.ft,fu,fl⟩
theorem NQ {ln:Ln}{keys:List Str}(cl:∀k∈keys,∀l r,(l,r)∈ln k->l∈keys) (nr:fC ln keys) {x e:Str}(hx:x∈keys):∀(n m:Nat) (z:Str),keys.length-m<=n->iC ln x z->Rc ln z m e->∃w,DX ln keys (x,w)/\(w=e\/iC ln w e)
  | n,m,z,hn,hb,hr=>by
    have zk:z∈keys:=by obtain⟨j,_,h⟩:=hb;exact h.inKeys cl hx
    have sm:=Gr cl nr zk hr
    by_cases c:∃t,iC ln x t/\iC ln t z
    · obtain⟨t,h1,j,j1,h2⟩:=c;have tk:t∈keys:=by obtain⟨i,_,h⟩:=h1;exact h.inKeys cl hx
      have Bu:=Nu h2 hr;have sm2:=Gr cl nr tk Bu
      match n,hn with
      | 0,hn=>lia
      | n+1,hn=>exact NQ cl nr hx n (j+m) t (by lia) h1 Bu
    · refine⟨z,⟨hx,?_,c⟩,?_⟩
      · obtain⟨l,r,hl,q⟩:=pB.mp hb;rcases q with rfl | q
        · exact⟨r,hl⟩
        · exact (c ⟨l,pB.mpr ⟨l,r,hl,.inl rfl⟩,q⟩).elim
      · cases m with
        | zero=>exact .inl hr.zero.symm
        | succ m=>exact .inr ⟨m+1,by lia,hr⟩
theorem VS {ln:Ln}{keys:List Str}(cl:∀k∈keys,∀l r,(l,r)∈ln k->l∈keys) (nr:fC ln keys) {x e:Str}(hx:x∈keys) (h:iC ln x e):∃w,DX ln keys (x,w)/\(w=e\/iC ln w e):=
  NQ cl nr hx keys.length 0 e (by lia) h Rc.refl
theorem NR {ws:List Str}{c:Str}(h:ws[ws.length-1]? = some c):kr (ws.map V.str) (-1)=some (.str c):=by
  have hp:0<ws.length:=by have:=(bV.mp h).1;lia
  have e:(ws.map V.str)[if (0:Nat)=0 then (ws.map V.str).length-1 else 0-1]? = some (V.str c):=by rw[aq rfl,ay,aM,h];rfl
  exact M1 (i:=0) (by rw[ay];exact hp) e
end Dm
namespace L2
open PySem PySem.Spec PyProof.Rows
end L2
namespace Dm
open PySem PySem.NumText L2
theorem VT {ts:List aQ}{fs:List c8}{lo:Int}{k:Str}{f:c8}:kh ts (fs++[f]) lo k=if aC ts f.u=k then sY (kh ts fs lo k) f.lo else kh ts fs lo k:=by
  unfold kh;rw[oM];rfl
structure Dt (R:Rw) (keys:List Str) (f g h:Str->Int) (one:Str) (y:Int):Prop where
  bd:∀k∈keys,f k<=h k/\h k<=g k
  at_:h one=y
  ln:∀k l b,(l,b)∈R k->h l+dR b.1<=h k
theorem uM {R:Rw}{F F' G:Str->IS->Prop}{keys:List Str}{f g h:Str->Int}{one:Str}{y:Int}{lw:Str->Int}(cl:∀k l b,(l,b)∈R k->k∈keys/\l∈keys) (nr:fC (pV R) keys) (ho:one∈keys) (hf:∀k∈keys,jN R F k (f k)) (hg:∀k∈keys,k7 R G k (g k)) (hh:∀k∈keys,jN R F' k (h k)) (le:∀k∈keys,f k<=g k) (hy:f one<=y/\y<=g one)
    (hF:∀k,∃m,F k m/\m.1=lw k) (VU:∀k m,F k m->m.1=lw k) (VV:∀k,∃m,F' k m/\m.1=if one=k then sY (lw k) y else lw k) (DZ:∀k m,F' k m->m.1=if one=k then sY (lw k) y else lw k):Dt R keys f g h one y:=by
  have NS:∀k∈keys,lw k<=f k:=fun k hk=>by
    obtain⟨m,h1,h2⟩:=hF k;have:m.1<=f k:=(hf k hk).2 _ (Up.bare h1);lia
  have NT:∀k∈keys,lw k<=h k/\(one=k->y<=h k):=fun k hk=>by
    obtain⟨m,h1,h2⟩:=VV k;have h3:m.1<=h k:=(hh k hk).2 _ (Up.bare h1);unfold sY at h2;refine⟨?_,fun e=>?_⟩
    · split at h2
      · split at h2<;>lia
      · lia
    · rw[aq e] at h2;split at h2<;>lia
  have NU:∀k l b,(l,b)∈R k->h l+dR b.1<=h k:=fun k l b hb=>by
    obtain⟨⟨c,u,e⟩,_⟩:=hh l (cl _ _ _ hb).2;have:c.1+dR b.1<=h k:=(hh k (cl _ _ _ hb).1).2 _ (u.up hb);lia
  have VW:∀k l b,(l,b)∈R k->f l+dR b.1<=f k:=fun k l b hb=>by
    obtain⟨⟨c,u,e⟩,_⟩:=hf l (cl _ _ _ hb).2;have:c.1+dR b.1<=f k:=(hf k (cl _ _ _ hb).1).2 _ (u.up hb);lia
  have VX:∀k l b,(l,b)∈R k->g l+dR b.1<=g k:=fun k l b hb=>by
    obtain⟨⟨c,u,e⟩,_⟩:=hg k (cl _ _ _ hb).1;have:g l<=c.1-dR b.1:=(hg l (cl _ _ _ hb).2).2 _ (u.dn hb);lia
  refine⟨fun k hk=>⟨?_,?_⟩,?_,NU⟩
  · obtain⟨⟨c,u,e⟩,_⟩:=hf k hk;rw[←e];exact Jp (f:=h) (keys:=keys) (fun k m hm hk=>by rw[VU k m hm];exact (NT k hk).1) cl NU hk u
  · obtain⟨⟨c,u,e⟩,_⟩:=hh k hk;rw[←e];refine Jp (f:=g) (keys:=keys) (fun k m hm hk=>?_) cl VX hk u;have h1:=DZ k m hm;have h2:=NS k hk;have h3:=le k hk
    by_cases e:one=k
    · rw[aq e] at h1;unfold sY at h1;subst e;split at h1<;>lia
    · rw[ao e] at h1;lia
  · have ge:=(NT one ho).2 rfl;obtain⟨⟨c,u,e⟩,_⟩:=hh one ho;have main:∀{k:Str}{c:eE},Up R F' k c->k∈keys->c.1<=f k\/(k=one/\c.1<=y)\/∃n,1<=n/\Rc (pV R) k n one:=by
      intro k c u
      induction u with
      | @bare k m hm=>
        intro hk;have h1:=DZ k m hm;have h2:=NS k hk
        by_cases e:one=k
        · rw[aq e] at h1;unfold sY at h1;refine .inr (.inl ⟨e.symm,?_⟩);subst e;show m.1<=y;split at h1<;>lia
        · rw[ao e] at h1;exact .inl (by show m.1<=f k;lia)
      | @up k l c b u hb ih=>
        intro hk;rcases ih (cl _ _ _ hb).2 with q | ⟨q,_⟩ | ⟨n,hn,q⟩
        · have:=VW k l b hb;exact .inl (by show c.1+dR b.1<=f k;lia)
        · subst q;exact .inr (.inr ⟨1,aH _,Rc.cons (yH hb) Rc.refl⟩)
        · exact .inr (.inr ⟨n+1,by lia,Rc.cons (yH hb) q⟩)
    rcases main u ho with q | ⟨_,q⟩ | ⟨n,hn,q⟩
    · lia
    · lia
    · exact absurd q (nr one ho n hn)
theorem NV (x:Str) (ks:List Str):A9 (.str x) (ks.map V.str)=decide (x∈ks):=by
  unfold A9
  induction ks with
  | nil=>rfl
  | cons k r ih=>
    rw[fL,gT,ih];show ((k == x)||decide (x∈r))=_
    by_cases h:k=x
    · subst h;simp
    · rw[jo.mpr h,Bool.false_or];exact jw.mpr ⟨fun z=>bD _ z,fun z=>(aN.mp z).resolve_left fun e=>h e.symm⟩
end Dm
namespace L2
open PySem PySem.Spec PyProof.Rows
structure eO (bm:List ai):Prop where
  v:bm.contains (.type "ValueError")=true
  b:bm.contains (.type "BaseException")=true
  a:bm.contains (.type "AttributeError")=false
  n:bm.contains (.type "NameError")=false
def lJ (h:Heap) (C:ah) (bm:List ai):Prop:=∃nm q N bs Ar sn sub ab col dd k0 k1 k2 k3 k5,h.get? C=some (excClassObj nm q C N bs bm Ar sn sub ab col dd k0 k1 k2 k3 k5 "ValueError.__new__")
theorem D0 {C:ah}{bm:List ai}{T:String}{b:Bool}(h:bm.contains (.type T)=b):(Value.ref C::bm).contains (.type T)=b:=by
  rw[List.contains_cons,h];rfl
section
variable {prog:aU}{w:World}{A:Around}{h:Heap}{g:Array GenState}{d:Drawn}{t:Nat}{os:OsState}{C:ah}{bm:List ai}
theorem VY {R:Result->au->Prop}(U:eO bm) (x:lJ h C bm) {us:List ai}(hz:us.length<=sizeLine)
    (k:R (.ok (.ret (.ref (h.objs.size+1)))) { heap:=(h.push { cls:=.type "tuple",data:=.seq us.toArray }).push { cls:=.ref C,data:=.fields #[.ref h.objs.size,.none,.none,.none,.bool false,.none] },gens:=g,drawn:=d,toks:=t,os:=os }) :
    codeAny (model prog w) A (.builtin "ValueError.__new__" ⟨.ref C::us,[]⟩) R { heap:=h,gens:=g,drawn:=d,toks:=t,os:=os }:=by
  obtain⟨a1,a2,a3,a4,a5,a6,a7,a8,a9,b1,b2,b3,b4,b5,b6,e⟩:=x;have F:=PySem.F.excBase_ValueError;have f1:=F.ends;have c1:=D0 (C:=C) U.v;have c2:=D0 (C:=C) U.a;have c3:=D0 (C:=C) U.n;refine codeAny_builtinAt F.entry ?_;unfold Builtin.«BaseException.__new__»;refine PySem.wpAt_bind (show PySem.wpAt (model prog w) _ _ (stack >>= _) _ _ _ from PySem.wpAt_bind (PySem.wpAt_stack fun p below=>PySem.wpAt_of_wpAny ?_))
  wp_walk
  refine PySem.wpAt_of_wpAny ?_;rw[F.owner]
  repeat (first
    | with_reducible refine wpAny_madeHere_exc F.canon e ?_
    | with_reducible refine lA e ?_
    | (with_reducible refine oF e ?_
       first | rw[c1] | rw[c2] | rw[c3])
    | wp_step)
  show R _ _;rw[gS];exact k
theorem VZ {M:Model}{E:aA}(U:eO bm) (x:lJ h C bm) {us:List ai}{Q:Unit->au->Prop}(k:Q () { heap:=h,gens:=g,drawn:=d,toks:=t,os:=os }) :
    wpAny M A (checkBuiltinCall "ValueError.__new__" ⟨.ref C::us,[]⟩) Q E { heap:=h,gens:=g,drawn:=d,toks:=t,os:=os }:=by
  obtain⟨a1,a2,a3,a4,a5,a6,a7,a8,a9,b1,b2,b3,b4,b5,b6,e⟩:=x;exact wpAny_check_new_subU PySem.F.excBase_ValueError U.v .base e k
theorem V0 {E:aA}{vI:ai}{us:List ai}{Q:Fin->au->Prop}(U:eO bm) (x:lJ h C bm) (hz:us.length<=sizeLine)
    (lk:PySem.W.Looks (model prog w) h (typeLookup (.ref C) "__init__") (some (vI))) (bd:∀self,PySem.W.Looks (model prog w) h (bindSpecial (vI) self) (vI,[self]))
    (k:∀h' e,h.objs.size<=e->Heap.MadeExcOf h h' e (.ref C) us->wpAny (model prog w) A (call (vI) (.ref e::us)) (fun r s'=>r = .none/\Q (.done (.ret (.ref e))) s') E { heap:=h',gens:=g,drawn:=d,toks:=t,os:=os }) :
    wpAny (model prog w) A (Builtin.«type.__call__» ⟨.ref C::us,[]⟩) Q E { heap:=h,gens:=g,drawn:=d,toks:=t,os:=os }:=by
  have x':=x;obtain⟨a1,a2,a3,a4,a5,a6,a7,a8,a9,b1,b2,b3,b4,b5,b6,e⟩:=x';have F:=PySem.F.excBase_ValueError
  repeat (first | with_reducible refine lA e ?_ | with_reducible refine wpAny_madeBy_exc e ?_ | wp_step)
  refine codeAny_call_builtin_code (Code.quiet_builtin _ F.quiet) (VZ U x ?_);refine VY U x hz ?_;show wpAny (model prog w) _ _ _ _ _;have kp:∀b o,h.get? b=some o->((h.push { cls:=.type "tuple",data:=.seq us.toArray }).push { cls:=.ref C,data:=.fields #[.ref h.objs.size,.none,.none,.none,.bool false,.none] }).get? b=some o:=
    fun b o q=>bC _ (bC _ q)
  have As:((h.push { cls:=.type "tuple",data:=.seq us.toArray }).push { cls:=.ref C,data:=.fields #[.ref h.objs.size,.none,.none,.none,.bool false,.none] }).get? (h.objs.size+1) =
      some { cls:=.ref C,data:=.fields #[.ref h.objs.size,.none,.none,.none,.bool false,.none] }:=by heap_get
  have ht:((h.push { cls:=.type "tuple",data:=.seq us.toArray }).push { cls:=.ref C,data:=.fields #[.ref h.objs.size,.none,.none,.none,.bool false,.none] }).get? h.objs.size =
      some { cls:=.type "tuple",data:=.seq us.toArray }:=bC _ (Heap.get?_push_at rfl rfl)
  have made:Heap.MadeExcOf h ((h.push { cls:=.type "tuple",data:=.seq us.toArray }).push { cls:=.ref C,data:=.fields #[.ref h.objs.size,.none,.none,.none,.bool false,.none] }) (h.objs.size+1) (.ref C) us:=
    ⟨kp,k9 (gq _),h.objs.size,As,k9 (aH _),ht⟩
  have go:=k _ _ (gq _) made;have e1:=kp _ _ e;have NW:=lk.keeps kp;have NX:=fun self=>(bd self).keeps kp
  generalize (h.push { cls:=.type "tuple",data:=.seq us.toArray }).push { cls:=.ref C,data:=.fields #[.ref h.objs.size,.none,.none,.none,.bool false,.none] } = h1 at As go e1 NW NX;have cC:(Value.ref C::bm).contains (.ref C)=true:=by simp
  unfold isInstance
  repeat (first | with_reducible refine lA As ?_ | (with_reducible refine oF e1 ?_;rw[cC]) | wp_step)
  show wpAny (model prog w) _ (typeLookup (.ref C) _) _ _ _;refine NW.at (cT (aj ((NX _).at ?_)));refine aj (b8 go (fun r s' hr=>?_) fun _ _ z=>z);obtain⟨rfl,q⟩:=hr
  wp_walk
  exact q
theorem NY {E:aA}{vI:ai}{us:List ai}{Q:aA}(U:eO bm) (x:lJ h C bm) (hz:us.length<=sizeLine)
    (lk:PySem.W.Looks (model prog w) h (typeLookup (.ref C) "__init__") (some (vI))) (bd:∀self,PySem.W.Looks (model prog w) h (bindSpecial (vI) self) (vI,[self]))
    (k:∀h' e,h.objs.size<=e->Heap.MadeExcOf h h' e (.ref C) us->wpAny (model prog w) (A.under (.builtin "type.__call__" ⟨.ref C::us,[]⟩)) (call (vI) (.ref e::us)) (fun r s'=>r = .none/\Q (.ref e) s') E { heap:=h',gens:=g,drawn:=d,toks:=t,os:=os }) :
    wpAny (model prog w) A (call (.ref C) us) Q E { heap:=h,gens:=g,drawn:=d,toks:=t,os:=os }:=by
  have x':=x;obtain⟨a1,a2,a3,a4,a5,a6,a7,a8,a9,b1,b2,b3,b4,b5,b6,e⟩:=x';have f1:=tc_lookup;have f2:=tc_bind (.ref C);have hT:({ heap:=h,gens:=g,drawn:=d,toks:=t,os:=os }:au).TypeIs (.ref C) "type":=⟨_,e,rfl⟩;refine eG (codeAny_of_tree (show wpAny (model prog w) _ (callAny (.ref C) _) _ _ _ from ?_))
  repeat (any_goals (first | assumption | with_reducible refine lA e ?_ | wp_step))
  refine⟨rfl,codeAny_call_builtin_at (Code.quiet_builtin _ (by decide +kernel)) entry_typeCall (wpAny_check_type_call_sub e (V0 U x hz lk bd fun h' e' hs hm=>?_))⟩;exact k h' e' hs hm
end
section
variable {prog:aU}{w:World}{A:Around}{E:aA}{s:au}{env:Env}{bm:List ai}
theorem NZ {y:Sem ai}{Q:Flow->au->Prop}(U:eO bm) (hh:A.handled=none)
    (k:wpAny (model prog w) A y (fun v s1=>∃e C oe vs,v = .ref e/\lJ s1.heap C bm/\s1.heap.get? e=some oe/\oe.cls = .ref C/\oe.data = .fields vs/\vs[1]? = some .none/\E (.ref e) s1) E s) :
    wpAny (model prog w) A (raiseStmt env (some y) none) Q E s:=by
  unfold raiseStmt;refine aj (b8 k (fun v s1 k1=>?_) fun _ _ z=>z);obtain⟨e,C,oe,vs,rfl,⟨a1,a2,a3,a4,a5,a6,a7,a8,a9,b1,b2,b3,b4,b5,b6,o⟩,he,hc,hd,h1,hE⟩:=k1;have cB:=D0 (C:=C) U.b;obtain⟨hp,g,d,tk,os⟩:=s1
  repeat (first
    | (with_reducible refine lA he ?_;rw[hc])
    | with_reducible refine lA o ?_
    | (with_reducible refine oF o ?_;rw[cB])
    | wp_step)
  rw[hd];refine az ?_;rw[h1];refine az ?_;rw[ao (by decide)];exact az (wpAny_raiseNew_none hh hE)
theorem V1 {x:Str}{C:ah}{vI:ai}{np bY pos:Pos}{a:PySem.Expr}{as:List PySem.Expr}{Q:Flow->au->Prop}(U:eO bm) (hh:A.handled=none)
    (sJ:starEach (a::as) env=(false,eval a env)::starEach as env) (kq:(backTo bY (starEach as env)).any (·.1)=false)
    (k:wpAny (model prog w) A (eval (.Name x np) env) (fun f s1=>f = .ref C/\wpAny (model prog w) A (spliced (backTo bY (starEach (a::as) env)))
      (fun us s2=>us.length<=sizeLine/\lJ s2.heap C bm/\PySem.W.Looks (model prog w) s2.heap (typeLookup (.ref C) "__init__") (some (vI))/\(∀self,PySem.W.Looks (model prog w) s2.heap (bindSpecial (vI) self) (vI,[self]))/\
        ∀h' e,s2.heap.objs.size<=e->Heap.MadeExcOf s2.heap h' e (.ref C) us->wpAny (model prog w) (A.under (.builtin "type.__call__" ⟨.ref C::us,[]⟩)) (call (vI) (.ref e::us))
          (fun r s3=>r = .none/\∃oe vs,lJ s3.heap C bm/\s3.heap.get? e=some oe/\oe.cls = .ref C/\oe.data = .fields vs/\vs[1]? = some .none/\E (.ref e) s3) E { s2 with heap:=h' }) E s1) E s) :
    wpAny (model prog w) A (exec (.Raise (some (.Call (.Name x np) (a::as) [] bY)) none pos) env) Q E s:=by
  rw[arm_exec_Raise];simp only [evalOpt,Option.map];refine aj (gp (NZ U hh (aj (b8 (wpAny_Call_ofName (b8 k (fun f s1 k1=>?_) fun _ _ z=>z)) (fun v s3 k3=>aj (gp (az k3))) fun _ _ z=>z))));obtain⟨rfl,k1⟩:=k1;unfold callWith;have any:(backTo bY (starEach (a::as) env)).any (·.1)=false:=by
    rw[sJ];show (false||(backTo bY (starEach as env)).any (·.1))=false;rw[kq];rfl
  rw[sJ] at k1 ⊢;refine aj (cT (oB (b8 k1 (fun us s2 k2=>aj (gp ?_)) fun _ _ z=>z)));obtain⟨hz,xo,lk,bd,go⟩:=k2;obtain⟨hp,g,d,tk,os⟩:=s2;rw[sJ] at any;simp only [any];have Jx:=xo;obtain⟨a1,a2,a3,a4,a5,a6,a7,a8,a9,b1,b2,b3,b4,b5,b6,o⟩:=Jx;refine aj (wpAny_keeperOf_exc o ?_);refine aj (NY U xo hz lk bd fun h' e hs hm=>b8 (go h' e hs hm) (fun r s3 q=>?_) fun _ _ z=>z);obtain⟨r0,oe,vs,q⟩:=q;exact⟨r0,aj (cT (wpAny_point (az ⟨e,C,oe,vs,rfl,q⟩)))⟩
end
theorem N1 {o:Obj}{vs:Array ai}(h:o.data = .fields vs) (f:Array ai->Array ai):Obj.mapFields f o = { o with data:=.fields (f vs) }:=by
  obtain⟨c,d,dt,sl⟩:=o;cases h;rfl
structure vp (fs:List ah) (e T:ah) (xs:List ah) (oe:Obj) (vs:Array ai) (h h':Heap):Prop where
  keep:∀b o,b≠e->b ∉ fs->b ∉ xs->h.get? b=some o->h'.get? b=some o
  slot:∀b o,b∈fs->h.get? b=some o->∃sl,h'.get? b=some { o with slots:=sl }
  new:h.get? T=none
  exc:h'.get? e=some { oe with data:=.fields (vs.setIfInBounds 1 (.ref T)) }
  ent:∃oT ts,h'.get? T=some oT/\oT.data = .fields ts/\ts[3]? = some .none
section
variable {M:Model}{A:Around}{E:aA}{s:au}
theorem gO {base:Heap}{env:Env}{outer:List Env}{L e:ah}{oe:Obj}{vs:Array ai}{head:ai}{nx:Bool}{Q:Unit->au->Prop}
    (iT:A.frames=some (env::outer)) (hl:s.heap.FunFrames base (env::outer)) (hf:env.frame=some L) (he:s.heap.get? e=some oe) (hd:oe.data = .fields vs) (hz:1<vs.size)
    (k:∀h',vp (je (env::outer)) e s.heap.objs.size [] oe vs s.heap h'->Q () { s with heap:=h' }) :
    wpAny M A (do let a ←frameOf env;let pl ←entryPlaceOf L nx;let b ←EntryCells.newEntry head a .none (rawInt L) .none pl;setField (.ref e) 1 b) (fun _ s'=>wpAny M A (setFlight (.ref e) none) Q E s') E s:=by
  have nf:∀b∈je (env::outer),∃o,s.heap.get? b=some o/\∀us,o.data≠.fields us:=fun b hb=>(hl.mem hb).2
  have ne:e ∉ je (env::outer):=fun hm=>by
    obtain⟨o,ho,hn⟩:=nf e hm;rw[he] at ho;cases ho;exact hn vs hd
  refine aj (wpAny_frameOf_fun iT hl hf fun h1 s1=>?_);obtain⟨z1,k1,u1⟩:=s1;refine aj (wpAny_entryPlaceOf fun pl kq=>?_);unfold EntryCells.newEntry newFields;refine aj (fh ?_ (kq.sizeOk5 _ _ _ _ _));have e1:h1.get? e=some oe:=(k1 e ne).trans he;generalize hN:({ cls:=.type "traceback",dict:=none,data:=.fields ([head,.ref L,.none,rawInt L,.none]++(if pl.isEmpty then List.replicate 6 Value.none else pl)).toArray }:Obj)=N;have dN:N.data = .fields ([head,.ref L,.none,rawInt L,.none]++(if pl.isEmpty then List.replicate 6 Value.none else pl)).toArray:=by rw[←hN]
  generalize gM:([head,.ref L,.none,rawInt L,.none]++(if pl.isEmpty then List.replicate 6 Value.none else pl)).toArray=ts at dN;have zt:3<ts.size:=by rw[←gM];simp
  have fN:N.isFreed=false:=jS dN;have e2:=bC (h:=h1) N e1;refine iN e2 hd hz ?_;have Te:h1.objs.size≠e:=jJ (aI e1);have e3:=dB (Obj.mapFields (·.setIfInBounds 1 (Value.ref h1.objs.size))) e2 (jS (jt hd _));rw[N1 hd] at e3;have t3:=(cE (h1.push N) (Obj.mapFields (·.setIfInBounds 1 (Value.ref h1.objs.size))) (aD Te)).trans (bO h1 fN);unfold setFlight;refine aj (eY e3 rfl (x:=.ref h1.objs.size) (by simp[hz]) ?_);rw[aq (show (Value.ref h1.objs.size != Value.none)=true from by simp)];refine iN t3 dN zt (k _ ?_);have t4:=dB (Obj.mapFields (·.setIfInBounds 3 ((none:Option ah).elim Value.none fun f=>rawInt f))) t3 (jS (jt dN _));have nN:∀b o,b≠e->h1.get? b=some o->(((h1.push N).update e (Obj.mapFields (·.setIfInBounds 1 (Value.ref h1.objs.size)))).update h1.objs.size (Obj.mapFields (·.setIfInBounds 3 ((none:Option ah).elim Value.none fun f=>rawInt f)))).get? b=some o:=fun b o hb q=>by
    rw[cE _ _ (jJ (aI q)),cE _ _ (aD hb)];exact bC _ q
  refine⟨fun b o hb hn _ q=>nN b o hb ((k1 b hn).trans q),fun b o hb q=>?_,k9 (aH _),?_,?_⟩
  · obtain⟨sl,q1⟩:=u1 b o q;exact⟨sl,nN b _ (fun z=>ne (z▸hb)) q1⟩
  · rw[cE _ _ Te,e3,z1]
  · rw[←z1];exact⟨_,_,t4,jt dN _,by simp[zt]⟩
theorem V2 {base:Heap}{env:Env}{outer:List Env}{L e:ah}{oe:Obj}{vs:Array ai}{Q:Unit->au->Prop}
    (iT:A.frames=some (env::outer)) (hl:s.heap.FunFrames base (env::outer)) (hf:env.frame=some L) (he:s.heap.get? e=some oe) (hd:oe.data = .fields vs) (h1:vs[1]? = some .none)
    (k:∀h',vp (je (env::outer)) e s.heap.objs.size [] oe vs s.heap h'->Q () { s with heap:=h' }):wpAny M A (leaving env (.ref e)) Q E s:=by
  unfold leaving noteFrame;simp only [hf];refine aj (aj (eY he hd h1 ?_));rw[ao (by decide)];exact gO iT hl hf he hd (gD.mp h1).1 k
theorem V3 {base:Heap}{env:Env}{outer:List Env}{L e T:ah}{oe oT:Obj}{vs ts:Array ai}{Q:Unit->au->Prop}
    (iT:A.frames=some (env::outer)) (hl:s.heap.FunFrames base (env::outer)) (hf:env.frame=some L) (he:s.heap.get? e=some oe) (hd:oe.data = .fields vs) (h1:vs[1]? = some (.ref T))
    (hT:s.heap.get? T=some oT) (dT:oT.data = .fields ts) (h3:ts[3]? = some .none) (ne:T≠e)
    (k:∀h',vp (je (env::outer)) e s.heap.objs.size [T] oe vs s.heap h'->Q () { s with heap:=h' }):wpAny M A (leaving env (.ref e)) Q E s:=by
  unfold leaving noteFrame;simp only [hf];refine aj (aj (eY he hd h1 ?_));rw[aq (show (Value.ref T != Value.none)=true from by simp)];refine aj (eY hT dT h3 ?_);rw[ao (show ¬((Value.none == rawInt L)=true) from by simp[rawInt])];have z3:=(gD.mp h3).1;refine aj (iN hT dT z3 ?_);have nN:∀b,b≠T->(s.heap.update T (Obj.mapFields (·.setIfInBounds 3 Value.none))).get? b=s.heap.get? b:=fun b hb=>cE _ _ (aD hb)
  have self:=dB (Obj.mapFields (·.setIfInBounds 3 Value.none)) hT (jS (jt dT _));have nf:T ∉ je (env::outer):=fun hm=>by
    obtain⟨_,o,ho,hn⟩:=hl.mem hm;rw[hT] at ho;cases ho;exact hn ts dT
  have sz:(s.heap.update T (Obj.mapFields (·.setIfInBounds 3 Value.none))).objs.size=s.heap.objs.size:=Heap.size_after_update ..;refine gO (s:={ s with heap:=s.heap.update T (Obj.mapFields (·.setIfInBounds 3 Value.none)) }) iT (hl.of_keeps fun b o hb hn=>⟨o,(nN b fun z=>?_).trans hb,rfl⟩) hf ((nN e ne.symm).trans he) hd (gD.mp h1).1 fun h' G=>?_
  · subst z;rw[hT] at hb;cases hb;exact hn ts dT
  · have e1:(s.heap.update T (Obj.mapFields (·.setIfInBounds 3 Value.none))).objs.size=s.heap.objs.size:=sz;have G:=G;dsimp only at G;rw[e1] at G;refine k h' ⟨fun b o hb hn hx q=>G.keep b o hb hn (by simp) ((nN b fun z=>hx (by simp[z])).trans q),fun b o hb q=>G.slot b o hb ((nN b fun z=>nf (z▸hb)).trans q),k9 (aH _),G.exc,G.ent⟩
end
def N2 (H:Hp) (h0 h:Heap) (e:ah) (cls:ai) (dc:Option ah):Prop:=
  ∃(oe:Obj) (vs:Array ai) (T:ah) (oT:Obj) (ts:Array ai),h.get? e=some oe/\oe.cls=cls/\oe.dict=dc/\oe.data = .fields vs/\vs[1]? = some (.ref T)/\T≠e/\h.get? T=some oT/\oT.data = .fields ts/\ts[3]? = some .none/\
    H e=none/\H T=none/\h0.objs.size<=e/\h0.objs.size<=T
def V4 (H:Hp) (h0 h:Heap) (e:ah) (cls:ai) (dc:Option ah):Prop:=
  ∃(oe:Obj) (vs:Array ai),h.get? e=some oe/\oe.cls=cls/\oe.dict=dc/\oe.data = .fields vs/\vs[1]? = some .none/\H e=none/\h0.objs.size<=e
def xH (P:aU) (w:World):qP:=fun outer H s E u s'=>∃(e:ah) (cls:ai) (dc:Option ah) (H':Hp),u = .ref e/\s'.os=s.os/\AllBare s'.gens/\Un (je outer) [] H H' s.heap s'.heap/\jM P w H' s'.heap/\
  N2 H' s.heap s'.heap e cls dc/\E cls dc H'
def nu (X:Cx) (E:XK):Prop:=X.xe=(fun u s'=>wpAny (model X.prog X.w) X.A (leaving X.env u) (fun _ wg=>xH X.prog X.w X.outer X.pM X.cY E u wg) (fun u' wg=>xH X.prog X.w X.outer X.pM X.cY E u' wg) s')/\
  X.stack=X.env::X.outer/\X.env.frame=some X.env.locals/\X.ex = []
theorem aX {P:aU}{w:World}{K:aF}{mg:Str->Option ai}{base:Heap}{N:List Str}{qual:Str}{scope:Scope}{f:ah}{cd:ai}{A:Around}{outer:List Env}{s:au}{H:Hp}{E:XK} :
    nu (nH (xH P w) P w K mg base N qual scope f cd A outer s H E) E:=⟨rfl,rfl,rfl,rfl⟩
section
variable {X:Cx}{pins:aG}{σ:St}{H:Hp}{s:au}{E:XK}{e:ah}{cls:ai}{dc:Option ah}
theorem N3 {h':Heap}{T:ah}{xs:List ah}{oe:Obj}{vs:Array ai}(I:Inv X pins σ H s) (x:nu X E) (G:vp (je (X.env::X.outer)) e T xs oe vs s.heap h') (hc:oe.cls=cls) (ux:oe.dict=dc) (hz:1<vs.size)
    (He:H e=none) (nz:X.cY.heap.objs.size<=e) (N4:∀b∈xs,H b=none/\X.cY.heap.objs.size<=b) (wG:T≠e) (hsz:s.heap.objs.size<=T) (hE:E cls dc H) :
    xH X.prog X.w X.outer X.pM X.cY E (.ref e) { s with heap:=h' }:=by
  obtain⟨x1,x2,x3,x4⟩:=x;have ne:X.cY.heap.get? e=none:=k9 nz;have hx:∀b∈xs,H b=none/\X.cY.heap.get? b=none:=fun b hb=>⟨(N4 b hb).1,k9 (N4 b hb).2⟩
  have nL:∀b o,X.cY.heap.get? b=some o->b≠X.env.locals:=fun b o q z=>absurd (aI q) (Nat.not_lt.mpr (z▸I.ok.above))
  have fr:∀b,b∈je (X.env::X.outer)->b=X.env.locals\/b∈je X.outer:=fun b hb=>by
    unfold je at hb;rw[ku,x3] at hb;exact aN.mp hb
  have V5:∀b,b∈je X.outer->b∈je (X.env::X.outer):=fun b hb=>by
    unfold je;rw[ku,x3];exact bD _ hb
  have xJ:∀b o,X.cY.heap.get? b=some o->b≠e/\b ∉ xs:=fun b o q=>⟨fun z=>(by rw[z,ne] at q;cases q),fun z=>(by rw[(hx b z).2] at q;cases q)⟩
  have HT:H T=none:=I.bA.fresh hsz;have sf:∀b∈je (X.env::X.outer),H b=none:=by
    have:=I.lP;rw[x2] at this;exact this
  refine⟨e,cls,dc,H,rfl,I.os,I.bare,?_,?_,?_,hE⟩
  · refine⟨fun b o q n nf _=>?_,fun b o q n nf _=>?_,fun b o q n _=>I.base.free b o q n (by rw[x4];simp),fun b o q _=>?_,I.base.lD,I.base.kU,I.base.lE⟩
    · exact G.keep b o (xJ b o q).1 (fun z=>(fr b z).elim (nL b o q) nf) (xJ b o q).2 (I.base.keep b o q n nf (by rw[x4];simp))
    · obtain⟨sl,z⟩:=I.base.slot b o q n nf (by rw[x4];simp);obtain⟨yX,z'⟩:=G.slot b _ (V5 b nf) z;exact⟨yX,z'⟩
    · obtain⟨o',z⟩:=I.base.there b o q (by rw[x4];simp)
      by_cases hb:b∈je (X.env::X.outer)
      · obtain⟨sl,z'⟩:=G.slot b _ hb z;exact⟨_,z'⟩
      · exact⟨_,G.keep b _ (xJ b o q).1 hb (xJ b o q).2 z⟩
  · intro a o q;refine (I.bA a o q).iy (fun b u hb z=>?_) (fun _ z=>z) fun _ _ z=>z
    have Hb:H b≠none:=by
      rcases hb with z | z
      · rw[z,q];simp
      · rw[z];simp
    exact G.keep b u (fun z=>Hb (z▸He)) (fun z=>Hb (sf b z)) (fun z=>Hb (hx b z).1) z
  · obtain⟨oT,ts,t1,t2,t3⟩:=G.ent;refine⟨_,_,T,oT,ts,G.exc,hc,ux,rfl,by simp[hz],wG,t1,t2,t3,He,HT,nz,b7 I.sz hsz⟩
theorem N5 (I:Inv X pins σ H s) (x:nu X E) (r:V4 H X.cY.heap s.heap e cls dc) (hE:E cls dc H):X.xe (.ref e) s:=by
  obtain⟨oe,vs,he,hc,ux,hd,h1,He,ne⟩:=r;have x':=x;obtain⟨x1,x2,x3,x4⟩:=x';rw[x1];have fr:=I.ok.frames;have st:=I.stack;rw[x2] at fr st;exact V2 fr st x3 he hd h1 fun h' G=>N3 I x G hc ux (gD.mp h1).1 He ne (fun b hb=>absurd hb (by simp)) (jJ (aI he)) (aH _) hE
theorem V6 (I:Inv X pins σ H s) (x:nu X E) (r:N2 H X.cY.heap s.heap e cls dc) (hE:E cls dc H):X.xe (.ref e) s:=by
  obtain⟨oe,vs,T,oT,ts,he,hc,ux,hd,h1,wG,hT,dT,h3,He,HT,ne,nT⟩:=r;have x':=x;obtain⟨x1,x2,x3,x4⟩:=x';rw[x1];have fr:=I.ok.frames;have st:=I.stack;rw[x2] at fr st;refine V3 fr st x3 he hd h1 hT dT h3 wG fun h' G=>N3 I x G hc ux (gD.mp h1).1 He ne (fun b hb=>?_) (jJ (aI he)) (aH _) hE
  rw[iF] at hb;subst hb;exact⟨HT,nT⟩
theorem V7 (x:nu X E):Cs (xH X.prog X.w) X E:=by
  intro pins σ H s u s' I h;obtain⟨e,cls,dc,H',rfl,os,bare,un,bA,fl,hE⟩:=h;have I':=I.rV os un bA bare (ch:=[]) (fun b z=>absurd z (by simp));obtain⟨oe,vs,T,oT,ts,he,hc,ux,hd,h1,wG,hT,dT,h3,He,HT,ne,nT⟩:=fl;exact V6 I' x ⟨oe,vs,T,oT,ts,he,hc,ux,hd,h1,wG,hT,dT,h3,He,HT,b7 I.sz ne,b7 I.sz nT⟩ hE
theorem nu.own (x:nu X E):PassesOwn (model X.prog X.w) X.A X.env X.xe:=by
  rw[x.1];exact PassesOwn.leaving
end
def d7 (P:aU) (w:World) (K:aF) (mg:Str->Option ai) (base:Heap) (x:Str) (ps:List Str) (k:Nat) (sp:Sp):Prop:=
  ∃(f:ah) (fd:FuncData),mg x=some (.ref f)/\PySem.W.keepIn K (.ref f)=true/\(∃oc od nI,K.lookup f=some ⟨oc,od,.func fd,nI⟩)/\(∀us:List ai,us.length=ps.length->bindArgs fd ⟨us,[]⟩=pure (ps.zip us))/\mT P w K mg base (xH P w) k f fd ps sp
section
variable {P:aU}{w:World}{K:aF}{mg:Str->Option ai}{base:Heap}
theorem Df.lK {x:Str}{st:Stmt}{N ps:List Str}{k:Nat}{sp:Sp}(D:Df K mg x st ps) (S:aE N ps (zq st)) (len:∀vs H Q E,sp vs H Q E->vs.length=ps.length)
    (body:∀(f:ah) (bX:ai) (A:Around) (outer:List Env) (s:au) (H:Hp) (vs:List V) (Q:VK) (E:XK),cV k (A.deeper (envOfC x (zq st) s.heap.objs.size f bX))->sp vs H Q E->
      ∃t,pF (nH (xH P w) P w K mg base N x (zq st) f bX A outer s H E) (uO st) t/\t { nx:=fun _ H'=>Q .dG H',rt:=Q } (start N vs) H):d7 P w K mg base x ps (k+1) sp:=by
  obtain⟨f,fd,F,a,b⟩:=D;obtain⟨oc,od,kV,doc,pm,an,bX,ct,nI,e,lk,qg⟩:=id F.ex;subst e;exact⟨f,_,a,F.kp,⟨oc,od,nI,lk⟩,b,Lm lk qg S len (body f bX)⟩
theorem d7.good {x:Str}{ps:List Str}{k:Nat}{sp N6:Sp}(F:d7 P w K mg base x ps k sp) (h:∀vs H Q E,N6 vs H Q E->sp vs H Q (fun _ _ _=>False)):eX P w K mg base x ps k N6:=by
  obtain⟨f,fd,a,kp,lk,b,G⟩:=F;refine⟨f,fd,a,kp,lk,b,fun vs H Q E q=>G.len _ _ _ _ (h _ _ _ _ q),fun A outer s H args us vs Q E hr he hb hv hs=>?_⟩;refine gU (G.run A outer s H args us vs Q _ hr he hb hv (h _ _ _ _ hs)) fun r s' hq=>?_
  cases r with
  | ok fl=>
    cases fl with
    | ret u=>exact hq
    | next=>exact False.elim hq
    | brk=>exact False.elim hq
    | cont=>exact False.elim hq
  | error e=>
    obtain⟨_,_,_,_,_,_,_,_,_,_,z⟩:=hq;exact z.elim
end
section
variable {X:Cx}{k:Nat}{ps:List Str}{sp:Sp}{E:XK}{C:ah}{m x:Str}{p pos apos:Pos}{o e:Expr}{es:List Expr}{t:TA}{ta:TE}
theorem pK (F:d7 X.prog X.w X.K X.mg X.base x ps k sp) (xe:nu X E) (hr:cV k X.A) (hg:Gl X x) (ha:PA X (e::es) t) (j0:(x == ("__debug__" : Str))=false:=by decide)
    (he:starEach (e::es) X.env=(false,eval e X.env)::starEach es X.env:=by rfl) (kq:(backTo pos (starEach es X.env)).any (·.1)=false:=by rfl):PE X (.Call (.Name x p) (e::es) [] pos) (Fv sp [] E t):=by
  obtain⟨f,fd,a,kp,_,b,G⟩:=F;exact Le G hr hg a kp (.all b) .nil (V7 xe) ha j0 he kq
end
section
variable {prog:aU}{w:World}{A:Around}{E:aA}{h:Heap}{g:Array GenState}{d:Drawn}{t:Nat}{os:OsState}{C:ah}{bm:List ai}
theorem V8 {M:Model}{Q:Unit->au->Prop}{e:ah}{oe:Obj}{us:List ai}(U:eO bm) (x:lJ h C bm) (he:h.get? e=some oe) (hc:oe.cls = .ref C) (k:Q () { heap:=h,gens:=g,drawn:=d,toks:=t,os:=os }) :
    wpAny M A (checkBuiltinCall "ValueError.__init__" ⟨.ref e::us,[]⟩) Q E { heap:=h,gens:=g,drawn:=d,toks:=t,os:=os }:=by
  obtain⟨a1,a2,a3,a4,a5,a6,a7,a8,a9,b1,b2,b3,b4,b5,b6,o⟩:=x;have F:=PySem.F.excBase_ValueError;have c1:=D0 (C:=C) U.v;have hs:=F.noStar;simp only [checkBuiltinCall,F.initKind,F.initSplit,F.initRow]
  repeat (first
    | (with_reducible refine lA he ?_;rw[hc])
    | with_reducible refine lA o ?_
    | (with_reducible refine oF o ?_;rw[c1])
    | wp_step)
  refine wpAny_onRaise ?_;have st:∀(a b:String) (n:Nat),Bind.check ⟨.positional,"*","ValueError",.self,[⟨"args",.varPos,false⟩]⟩ a b n (List.map (fun x=>x.fst) ({ pos:=Value.ref e::us }:Args).kw)=pure ():=fun a b n=>check_star_args _ _ _ _ _ _
  rw[st];exact az k
theorem N7 {Q:aA}{e t0:ah}{oe:Obj}{vs:Array ai}{us:List ai}(U:eO bm) (x:lJ h C bm) (hz:us.length<=sizeLine) (he:h.get? e=some oe) (hc:oe.cls = .ref C) (hd:oe.data = .fields vs) (h0:vs[0]? = some (.ref t0))
    (k:∀h',(∀b o,b≠e->h.get? b=some o->h'.get? b=some o)->h'.get? e=some { oe with data:=.fields (vs.setIfInBounds 0 (.ref h.objs.size)) }->Q .none { heap:=h',gens:=g,drawn:=d,toks:=t,os:=os }) :
    wpAny (model prog w) A (call (.builtin "ValueError.__init__") (.ref e::us)) Q E { heap:=h,gens:=g,drawn:=d,toks:=t,os:=os }:=by
  have F:=PySem.F.excBase_ValueError;refine eG (jT F.init.plain F.initEntry (V8 U x he hc ?_));unfold Builtin.«BaseException.__init__»
  wp_walk
  rw[hd];refine az ?_;rw[h0];refine az (aj ?_);have Bv:=bC (h:=h) { cls:=.type "tuple",data:=.seq us.toArray } he;have z0:=(gD.mp h0).1;refine iN Bv hd z0 ?_;have e3:=dB (Obj.mapFields (·.setIfInBounds 0 (Value.ref h.objs.size))) Bv (jS (jt hd _));rw[N1 hd] at e3;have go:=k _ (fun b o hb q=>(cE _ _ (aD hb)).trans (bC _ q)) e3
  wp_walk
  exact go
end
def wH:List ai->Bool
  | [.type a,.type b,.type c,.type d]=>a == "ValueError" && (b == "Exception" && (c == "BaseException" && d == "object"))
  | .ref _::r=>wH r
  | _=>false
theorem N8:∀{l:List ai},wH l=true->l = [.type "ValueError",.type "Exception",.type "BaseException",.type "object"]\/∃c r,l = .ref c::r/\wH r=true
  | [.type a,.type b,.type c,.type d],e=>by
    simp only [wH,fj,jL] at e;obtain⟨rfl,rfl,rfl,rfl⟩:=e;exact .inl rfl
  | .ref c::r,e=>.inr ⟨c,r,rfl,by unfold wH at e;exact e⟩
theorem N9 (self:ai):∀{l:List ai},wH l=true->refuseLoop self "__setattr__" l=pure ()
  | [],e=>by cases e
  | v::r,e=>by
    rcases N8 e with h | ⟨c,r',h,e'⟩
    · rw[h];exact PySem.F.store_ValueError.passes self
    · cases h;rw[refuseLoop_ref];exact N9 self e'
theorem Oa:∀{l:List ai},wH l=true->l.contains (.type "object")=true
  | [],e=>by cases e
  | v::r,e=>by
    rcases N8 e with h | ⟨c,r',h,e'⟩
    · rw[h];decide +kernel
    · cases h;rw[List.contains_cons,Oa e',Bool.or_true]
def Jy (K:aF) (C:ah):Bool:=(PySem.W.clsIn K C).any fun cd=>wH cd.mro
structure tD (K:aF) (C:ah):Prop where
  hd:PySem.W.hasDictIn K C=true
  po:Jy K C=true
  sa:PySem.W.findIn K (.ref C) "__setattr__" = some (some (.builtin "object.__setattr__"))
section
variable {prog:aU}{w:World}{A:Around}{E:aA}{R:Result->au->Prop}{s:au}{K:aF}{x C:ah}{name:Str}{v:ai}
theorem V9 {ox:Obj}{od:Option Obj}{tk:Tok}{r:Option ai}(X:K.In s.heap) (I:PySem.W.InstAt s.heap x ox C od) (hp:(PySem.W.clsIn K C).any (fun cd=>wH cd.mro)=true) (ht:PySem.W.takerIn K C name=some r)
    (h:∀b,wpAny (model prog w) A.in1 (match r with | some a=>Builtin.ObjectAttr.setByDescriptor a (.ref x) v | none=>Builtin.ObjectAttr.storeInOwnDict (.ref x) (.ref C) (.str name tk) name v b)
      (fun fin s'=>match fin with | .done f=>R (.ok f) s' | .again c'=>c'.quiet=true/\codeAny (model prog w) A c' R s') (fun e s'=>R (.error e) s') s) :
    codeAny (model prog w) A (.call (.builtin "object.__setattr__") ⟨[.ref x,.str name tk,v],[]⟩) R s:=by
  have SF:=PySem.F.store_object;obtain⟨cd,hc,ho⟩:=PySem.W.any_some hp;have ne:cd.mro.isEmpty=false:=by cases q:cd.mro with | nil=>rw[q] at ho;cases ho | cons _ _=>rfl
  have sub:PySem.W.Looks (model prog w) s.heap (isInstance (.ref x) (.type "object")) true:=I.type.andThen (PySem.W.looks_mroIn X (by unfold PySem.W.mroIn;rw[hc,Option.bind_some,ao (by rw[ne];decide),Oa ho]));refine jT SF.slot.plain SF.entry (@PySem.W.check_slot (model prog w) _ _ s "object.__setattr__" "object" "__setattr__" (.ref x) [.str name tk,v] [] _ SF.kind SF.split sub (SF.args (.ref x) (.str name tk) v) ?_);obtain⟨attr,ha,hr⟩:=Option.bind_eq_some_iff.mp ht;have hm:PySem.W.Looks (model prog w) s.heap (mroOf (.ref C)) cd.mro:=(PySem.W.looks_clsIn X hc).andThen .now;have L3:PySem.W.Looks (model prog w) s.heap (Builtin.ObjectAttr.storeTaker? attr) r:=by
    cases attr with
    | none=>cases hr;exact .now
    | some a=>
      obtain⟨b,hb,rfl⟩:=Option.map_eq_some_iff.mp hr;refine (PySem.W.looks_takesIn X hb).andThen ?_;cases b<;>exact .now
  rw[PySem.W.osa_eq,refuse_eq];refine aj (aj (I.type.here (aj (hm.here ?_))));rw[N9 _ ho];refine az (aj (I.type.here (aj ((PySem.W.looks_findIn X ha).here (aj (L3.here ?_))))));exact h _
theorem Jz {oe:Obj}{vs:Array ai}{Q:Unit->au->Prop}(X:K.In s.heap) (he:s.heap.get? x=some oe) (yt:oe.cls = .ref C) (uy:oe.dict=none) (JA:oe.data = .fields vs) (c:tD K C) (ht:PySem.W.takerIn K C name=some none)
    (h:∀h' tk,(∀b o,b≠x->s.heap.get? b=some o->h'.get? b=some o)->h'.get? x=some { oe with dict:=some s.heap.objs.size }->h'.Ns1 s.heap.objs.size (fun y=>if y=name then some v else none)->Q () { s with heap:=h',toks:=tk }) :
    wpAny (model prog w) A (setAttr (.ref x) name v) Q E s:=by
  have J:PySem.W.InstAt s.heap x oe C none:=⟨he,yt,by unfold PySem.W.notCls;rw[JA],by rw[uy];trivial⟩;refine PySem.W.set_plain X J c.sa (V9 (s:={ s with toks:=s.toks+1 }) (r:=none) X J c.po ht fun b=>?_);obtain⟨cd,hc,yi⟩:=PySem.W.any_some c.hd;obtain⟨oc,od,odt,nI⟩:=oe;dsimp only at yt uy JA;subst yt uy JA;refine aj (az (aj (aj (wpAny_loadPart he (aj (PySem.W.Looks.here (s:={ s with toks:=s.toks+1 }) (PySem.W.looks_clsIn X hc) ?_))))));rw[yi];have yK:(s.heap.push { cls:=.type "dict",data:=.dict #[] }).get? x=some { cls:=Value.ref C,data:=Data.fields vs,slots:=nI }:=bC _ he;have Ob:x≠s.heap.objs.size:=bq (aI he);rw[ao (by decide)];show wpAny (model prog w) _ (if (!true || !typeHasDict (Value.ref C))=true then pure none else _) _ _ _;rw[ao (by simp[typeHasDict])];refine aj (wpAny_alloc' ?_);refine aj (wpAny_update' yK ?_);refine az ?_;have Wa:((s.heap.push { cls:=.type "dict",data:=.dict #[] }).update x fun o=>{ cls:=o.cls,dict:=some s.heap.objs.size,data:=o.data,slots:=o.slots }).get? s.heap.objs.size
      = some { cls:=.type "dict",data:=.dict #[] }:=
    (Heap.get?_update_ne _ _ _ _ Ob.symm).trans (Heap.get?_push_at rfl rfl)
  have Wb:((s.heap.push { cls:=.type "dict",data:=.dict #[] }).update x fun o=>{ cls:=o.cls,dict:=some s.heap.objs.size,data:=o.data,slots:=o.slots }).Ns s.heap.objs.size (fun _=>none):=
    ⟨_,#[],_,Wa,rfl,fun e he=>absurd he (by simp),fun _=>rfl⟩
  show wpAny _ _ (Builtin.ObjectAttr.storeInDict s.heap.objs.size (.str name s.toks) name v) _ _ _;unfold Builtin.ObjectAttr.storeInDict Builtin.ObjectAttr.newKeyGuard;refine aj (az (aj (wpAny_nsSet1 (Heap.Ns1.of_empty Wb) fun h' AZ hs=>?_)));obtain⟨oD,esD,epD,Wc,We,pX⟩:=AZ.count (Within.cons name v Within.nil);refine aj (wpAny_lookBehind Wc (by rw[We];exact pastItsLine_dict (b7 pX (by rw[iK,List.length_nil,fP];lia))) ?_);refine az (h h' _ (fun b o hb q=>?_) ?_ AZ)
  · exact (hs.2 b (bq (aI q))).trans ((Heap.get?_update_ne _ _ _ _ hb).trans (bC _ q))
  · exact (hs.2 x Ob).trans (dB _ yK rfl)
end
def gB (e C:ah) (dc:Option ah):HO:=.ext fun h=>∃oe vs t0,h.get? e=some oe/\oe.cls = .ref C/\oe.dict=dc/\oe.data = .fields vs/\vs[0]? = some (.ref t0)/\vs[1]? = some .none
section
variable {X:Cx}{pins:aG}{σ:St}{H:Hp}{s:au}{a C:ah}{dc:Option ah}{f:Str}{A:Around}{E:aA}
theorem JB {P:aU}{w:World}{h:Heap}{oe:Obj}{vs:Array ai}{t0:ah}(h1:h.get? a=some oe) (h2:oe.cls = .ref C) (h3:oe.dict=dc) (h4:oe.data = .fields vs) (h5:vs[0]? = some (.ref t0)) (h6:vs[1]? = some .none):bU P w H h a (gB a C dc):=
  ⟨⟨oe,vs,t0,h1,h2,h3,h4,h5,h6⟩,⟨oe,h1⟩,fun g1 g2 ⟨JC,Bw,Wf,q1,q2⟩ k=>⟨JC,Bw,Wf,k _ q1,q2⟩⟩
theorem Wg {y:V}{u:ai}{Q:Unit->au->Prop}(I:Inv X pins σ H s) (e:H a=some (gB a C none)) (c:tD X.K C) (n:gw X.K C f) (ry:RelV y u)
    (h:∀d s',H d=none->Inv X pins σ (upd (upd H d (.xd [(f,y)])) a (gB a C (some d))) s'->Q () s'):wpAny (model X.prog X.w) A (setAttr (.ref a) f u) Q E s:=by
  obtain⟨⟨oe,vs,t0,h1,h2,h3,h4,h5,h6⟩,_,_⟩:=(show bU X.prog X.w H s.heap a (gB a C none) from I.bA a _ e);refine Jz I.lF h1 h2 h3 h4 c n.Cq fun h' tk k hx FH=>?_
  have hd:=I.bA.fresh (aH s.heap.objs.size);have mY:s.heap.objs.size≠a:=jJ (aI h1);have fr:oe.isFreed=false:=jS h4;have u1:(h'.update a fun _=>oe).get? a=some oe:=dB _ hx fr;have u2:∀b,b≠a->(h'.update a fun _=>oe).get? b=h'.get? b:=fun b hb=>cE _ _ (aD hb)
  have I1:=I.laid (a:=s.heap.objs.size) (o:=.xd [(f,y)]) (h':=h'.update a fun _=>oe) (t':=tk) (fun b o q=>by
    by_cases hb:b=a
    · subst hb;rw[h1] at q;cases q;exact u1
    · rw[u2 b hb];exact k b o hb q) (aH _) ⟨_,FH.at fun o q=>by rw[u2 _ mY];exact q,fun g=>by
        by_cases hg:g=f
        · rw[aq hg];subst hg;rw[List.lookup_cons,oO];exact ry
        · rw[ao hg,List.lookup_cons,jo.mpr hg];exact True.intro⟩
  have I2:=I1.write (x:=a) (e:=a) (o:=gB a C (some s.heap.objs.size)) (h':=h') (t':=tk) (by rw[zr mY.symm,e];exact True.intro) (.inl rfl) (fun b o hb q=>by rw[u2 b hb] at q;exact q) ⟨_,hx⟩ (JB hx h2 rfl h4 h5 h6);exact h _ _ hd I2
end
structure yL (K:aF) (D:ah):Prop where
  rd:PySem.W.readsIn K D (.type "type")=true
  ga:PySem.W.specialIn K (.ref D) "__getattribute__" = some (some (.builtin "type.__getattribute__"))
  fc:PySem.W.findCls K (.ref D) (.type "type") "__init__" = some (.val (.builtin "ValueError.__init__"))
def nU (K:aF) (C:ah) (bm:List ai):Prop:=∃nm q N bs Ar sn sub ab col dd k0 k1 k2 k3 k5,K.lookup C=some (excClassObj nm q C N bs bm Ar sn sub ab col dd k0 k1 k2 k3 k5 "ValueError.__new__")
theorem nU.in {K:aF}{C:ah}{bm:List ai}{h:Heap}(x:nU K C bm) (X:K.In h):lJ h C bm:=by
  obtain⟨a1,a2,a3,a4,a5,a6,a7,a8,a9,b1,b2,b3,b4,b5,b6,e⟩:=x;exact⟨a1,a2,a3,a4,a5,a6,a7,a8,a9,b1,b2,b3,b4,b5,b6,X _ _ e⟩
def Wh (K:aF) (t:TA):TE:=fun σ H Q=>t σ H fun xs H1=>∃a C dc bm rest,xs = .ref a::rest/\H1 a=some (gB a C dc)/\nU K C bm/\eO bm/\rest.length<=sizeLine/\Q .dG H1
def Wi (K:aF) (ta tv:TE) (f:Str):TS:=fun D σ H=>tv σ H fun y H1=>ta σ H1 fun x H2=>∃a C,x = .ref a/\H2 a=some (gB a C none)/\tD K C/\gw K C f/\
  ∀d,H2 d=none->D.nx σ (upd (upd H2 d (.xd [(f,y)])) a (gB a C (some d)))
theorem Wj {H:Hp}{a:ah}{o:HO}(h:H a=some o):upd H a o=H:=by
  funext b;unfold upd
  by_cases e:b=a
  · rw[aq e,e,h]
  · rw[ao e]
section
variable {X:Cx}{o e value:Expr}{es:List Expr}{x f:Str}{p pos pos' apos:Pos}{ta tv:TE}{t:TA}{D:ah}
theorem Oc (ha:PE X o ta) (hv:PE X value tv) (hs:swapsWith value (some (.Attribute o f pos')) pos.line X.env=pure false):PS X (.Assign [.Attribute o f pos'] value pos) (Wi X.K ta tv f):=by
  intro pins s σ H D I h;refine plainObj_wpAny_Assign_Attribute (cA (hv pins s σ H _ I h) fun u s1 ⟨y,H1,I1,ry,q⟩=>cA (ha pins s1 σ H1 _ I1 q) fun ov s2 bg=>?_) hs;obtain⟨x,H2,I2,rx,a,C,ex,ea,c,n,q2⟩:=bg;subst ex;obtain rfl:ov=Value.ref a:=rx;exact Wg I2 ea c n ry fun d s3 hd I3=>⟨σ,_,I3,q2 d hd⟩
theorem Wl {pins:aG}{s:au}{σ:St}{H:Hp}{a C:ah}{dc:Option ah}{bm:List ai}{us:List ai}{Q:VK}(I:Inv X pins σ H s) (e:H a=some (gB a C dc)) (xo:nU X.K C bm) (U:eO bm) (hz:us.length<=sizeLine) (q:Q .dG H) :
    wpAny (model X.prog X.w) X.A (call (.builtin "ValueError.__init__") (.ref a::us)) (EP X pins σ Q) X.xe s:=by
  obtain⟨⟨oe,vs,t0,h1,h2,h3,h4,h5,h6⟩,_,_⟩:=(show bU X.prog X.w H s.heap a (gB a C dc) from I.bA a _ e);obtain⟨hp,g,d,tk,os⟩:=s;refine N7 U (xo.in I.lF) hz h1 h2 h4 h5 fun h' k hx=>?_
  have z0:=(gD.mp h5).1;have I2:=I.write (x:=a) (e:=a) (o:=gB a C dc) (h':=h') (t':=tk) (by rw[e];exact True.intro) (.inl rfl) (fun b o hb z=>k b o hb z) ⟨_,hx⟩ (JB (t0:=hp.objs.size) hx h2 h3 rfl (by simp[z0]) (by rw[Array.getElem?_setIfInBounds_ne (by decide)];exact h6));rw[Wj e] at I2;exact⟨.dG,H,I2,rfl,q⟩
theorem Od {pl:Sem Bool}(hg:Gl X x) (hm:X.mg x=some (.ref D)) (b:yL X.K D) (ha:PA X (e::es) t) (j0:(x == ("__debug__" : Str))=false:=by decide)
    (sJ:starEach (e::es) X.env=(false,eval e X.env)::starEach es X.env:=by rfl) (kq:(backTo pos (starEach es X.env)).any (·.1)=false:=by rfl)
    (ht:eval (.Call (.Attribute (.Name x p) "__init__" apos) (e::es) [] pos) X.env=(do
      let ov ←eval (.Name x p) X.env
      standAt apos.atName
      let (f,first) ←holding [ov] (getMethod ov "__init__" pl)
      callWith pos f first (backTo pos (starEach (e::es) X.env)) (backToKw pos (keywordEach [] X.env))):=by rfl) :
    PE X (.Call (.Attribute (.Name x p) "__init__" apos) (e::es) [] pos) (Wh X.K t):=by
  intro pins s σ H Q I h;refine PySem.W.methodCall_KW (pl:=pl) (yZ I hg hm ?_ j0) ht;refine PySem.W.method_cls I.lF b.ga (PySem.W.cls_value I.lF b.rd b.fc (by decide +kernel) ?_);have hA:=ha pos pins _ σ H _ (I.tok (s.toks+1)) h;rw[sJ] at hA ⊢;refine oq (by show (false||(backTo pos (starEach es X.env)).any (·.1))=false;rw[kq]<;>rfl) (oB ?_);refine cA hA fun us s2 bg=>?_
  obtain⟨vs,H2,I2,r2,a,C,dc,bm,rest,ev,ea,xo,U,hz,q⟩:=bg;subst ev;cases r2 with
  | cons r1 r2=>
    cases r1;exact Wl I2 ea xo U (by rw[←r2.length];exact hz) q
end
def del (H:Hp) (e:ah):Hp:=fun b=>if b=e then none else H b
theorem JD {H:Hp}{e:ah}:del H e e=none:=by unfold del;rw[aq rfl]
theorem Au {H:Hp}{e b:ah}(h:b≠e):del H e b=H b:=by unfold del;rw[ao h]
structure Wm (K:aF) (C f:ah) (bm:List ai):Prop where
  obj:nU K C bm
  un:eO bm
  init:PySem.W.findIn K (.ref C) "__init__" = some (some (.ref f))
  fn:PySem.W.isFn K (.ref f)=true
section
variable {X:Cx}{pins:aG}{σ:St}{H:Hp}{s:au}
theorem Inv.drop {e:ah}{φ:Heap->Prop}(I:Inv X pins σ H s) (he:H e=some (.ext φ)):Inv X pins σ (del H e) s:=by
  refine I.un (h':=s.heap) (t':=s.toks) ⟨fun _ _ q _ _ _=>q,fun b o q _ _ _=>⟨o.slots,q⟩,fun b o _ n _=>?_,fun b o q _=>⟨o,q⟩,fun b xs q=>?_,fun b o u q=>?_,fun b ps q=>⟨#[],?_⟩⟩ fun a o q=>?_
  · by_cases z:b=e
    · rw[z];exact JD
    · rw[Au z];exact n
  · rw[Au (fun z=>by rw[z,he] at q;cases q)];exact q
  · rw[Au (fun z=>by rw[z,he] at q;cases q)];exact q
  · rw[Au (fun z=>by rw[z,he] at q;cases q),Array.append_empty];exact q
  · have na:a≠e:=fun z=>by rw[z,JD] at q;cases q
    rw[Au na] at q;refine (I.bA a o q).iy (fun _ _ _ z=>z) (fun b z=>?_) fun b xs z=>?_
    · rw[Au (fun w=>by rw[w,he] at z;cases z)];exact z
    · rw[Au (fun w=>by rw[w,he] at z;cases z)];exact z
end
def Oe (C:ah) (sp:Sp) (qk:List V) (E E1:XK) (t:TA):TS:=fun _ σ H=>t σ H fun vs H1=>∀e,H1 e=none->sp (.ref e::(vs++qk)) (upd H1 e (gB e C none)) (fun v H2=>v = .dG/\∃dc,H2 e=some (gB e C dc)/\E (.ref C) dc (del H2 e)) E1
section
variable {X:Cx}{CX:qP}{k:Nat}{f C:ah}{fd:FuncData}{ps:List Str}{sp:Sp}{qk:List V}{ds:List ai}{E E1:XK}{x:Str}{p pos bY:Pos}{e:Expr}{es:List Expr}{t:TA}{bm:List ai}
theorem Wn (M:Wm X.K C f bm) (F:mT X.prog X.w X.K X.mg X.base CX k f fd ps sp) (hr:cV (k+1) X.A) (xe:nu X E) (hx:Cs CX X E1) (hg:Gl X x) (hm:X.mg x=some (.ref C)) (hb:Binds X.K fd ps ds) (hd:Vals qk ds) (D5:ps.length<=1000) (ha:PA X (e::es) t)
    (j0:(x == ("__debug__" : Str))=false:=by decide) (he:starEach (e::es) X.env=(false,eval e X.env)::starEach es X.env:=by rfl) (kq:(backTo bY (starEach es X.env)).any (·.1)=false:=by rfl) :
    PS X (.Raise (some (.Call (.Name x p) (e::es) [] bY)) none pos) (Oe C sp qk E E1 t):=by
  intro pins s σ H D I h;refine V1 (vI:=.ref f) M.un hr.hd he kq (yZ I hg hm ⟨rfl,cA (ha bY pins s σ H _ I h) fun us s2 bg=>?_⟩ j0);obtain⟨vs,H1,I1,r,q⟩:=bg;have fr:∀a,s2.heap.objs.size<=a->H1 a=none:=fun a h=>I1.bA.fresh h
  have q0:=q _ (fr _ (aH _));have l0:=F.len _ _ _ _ q0;rw[iK,bL] at l0;have rl:=r.length;refine⟨by rw[fP];lia,M.obj.in I1.lF,PySem.W.looks_findIn I1.lF M.init,fun self=>PySem.W.bind_fn I1.lF self (jL.mp M.fn),fun h' ex hs D6=>?_⟩;have hq:=q ex (fr ex hs);obtain⟨t0,h1,_,_⟩:=D6.there;have I2:=I1.laid (a:=ex) (o:=gB ex C none) (h':=h') (t':=s2.toks) D6.keeps hs (JB h1 rfl rfl rfl rfl rfl);have r2:Vals (V.ref ex::(vs++qk)) (Value.ref ex::(us++ds)):=.cons rfl (r.append hd);have hl:(Value.ref ex::us++ds).length=ps.length:=by
    have e:=r2.length;rw[F.len _ _ _ _ hq] at e;exact e.symm
  refine eG (gU (F.run _ X.stack _ _ ⟨Value.ref ex::us,[]⟩ (Value.ref ex::(us++ds)) _ _ E1 (hr.make C us []) (I2.zJ.make C us []) (hb _ (Value.ref ex::us) I2.lF hl) r2 hq) fun r s' D7=>?_);cases r with
  | error e=>exact hx pins σ _ _ e s' I2 D7
  | ok fl=>
    cases fl with
    | ret u=>
      obtain⟨v,H',I3,rv,ev,dc,Of,hE⟩:=I2.after D7;subst ev;obtain⟨⟨oe,ws,t1,g1,g2,g3,g4,g5,g6⟩,_,_⟩:=(show bU X.prog X.w H' s'.heap ex (gB ex C dc) from I3.bA ex _ Of);have I4:=I3.drop Of;exact⟨rv,oe,ws,M.obj.in I3.lF,g1,g2,g4,g6,N5 I4 xe ⟨oe,ws,g1,g2,g3,g4,g6,JD,b7 I1.sz hs⟩ hE⟩
    | next=>exact False.elim D7
    | brk=>exact False.elim D7
    | cont=>exact False.elim D7
end
section
variable {M:Model}{A:Around}{E:aA}{s:au}
theorem Wo {base:Heap}{env:Env}{outer:List Env}{L e T:ah}{oe oT:Obj}{vs ts:Array ai}{Q:Unit->au->Prop}
    (iT:A.frames=some (env::outer)) (hl:s.heap.FunFrames base (env::outer)) (hf:env.frame=some L) (he:s.heap.get? e=some oe) (hd:oe.data = .fields vs) (h1:vs[1]? = some (.ref T))
    (hT:s.heap.get? T=some oT) (dT:oT.data = .fields ts) (h3:ts[3]? = some .none) (ne:T≠e)
    (k:∀h',vp (je (env::outer)) e s.heap.objs.size [T] oe vs s.heap h'->Q () { s with heap:=h' }) :
    wpAny M A (noteFrame (.ref e) env) (fun _ s'=>wpAny M A (setFlight (.ref e) none) Q E s') E s:=by
  unfold noteFrame;simp only [hf];refine aj (eY he hd h1 ?_);rw[aq (show (Value.ref T != Value.none)=true from by simp)];refine aj (eY hT dT h3 ?_);rw[ao (show ¬((Value.none == rawInt L)=true) from by simp[rawInt])];have z3:=(gD.mp h3).1;refine aj (iN hT dT z3 ?_);have nN:∀b,b≠T->(s.heap.update T (Obj.mapFields (·.setIfInBounds 3 Value.none))).get? b=s.heap.get? b:=fun b hb=>cE _ _ (aD hb)
  have self:=dB (Obj.mapFields (·.setIfInBounds 3 Value.none)) hT (jS (jt dT _));have nf:T ∉ je (env::outer):=fun hm=>by
    obtain⟨_,o,ho,hn⟩:=hl.mem hm;rw[hT] at ho;cases ho;exact hn ts dT
  have sz:(s.heap.update T (Obj.mapFields (·.setIfInBounds 3 Value.none))).objs.size=s.heap.objs.size:=Heap.size_after_update ..;refine gO (s:={ s with heap:=s.heap.update T (Obj.mapFields (·.setIfInBounds 3 Value.none)) }) iT (hl.of_keeps fun b o hb hn=>⟨o,(nN b fun z=>?_).trans hb,rfl⟩) hf ((nN e ne.symm).trans he) hd (gD.mp h1).1 fun h' G=>?_
  · subst z;rw[hT] at hb;cases hb;exact hn ts dT
  · have e1:(s.heap.update T (Obj.mapFields (·.setIfInBounds 3 Value.none))).objs.size=s.heap.objs.size:=sz;have G:=G;dsimp only at G;rw[e1] at G;refine k h' ⟨fun b o hb hn hx q=>G.keep b o hb hn (by simp) ((nN b fun z=>hx (by simp[z])).trans q),fun b o hb q=>G.slot b o hb ((nN b fun z=>nf (z▸hb)).trans q),k9 (aH _),G.exc,G.ent⟩
end
def Met (X:Cx) (pins:aG) (H:Hp) (h:Heap) (e:ah) (cls:ai) (dc:Option ah):Prop:=
  ∃(oe:Obj) (vs:Array ai) (T:ah) (oT:Obj) (ts:Array ai),h.get? e=some oe/\oe.cls=cls/\oe.dict=dc/\oe.data = .fields vs/\vs[1]? = some (.ref T)/\T≠e/\h.get? T=some oT/\oT.data = .fields ts/\ts[3]? = some .none/\gW X pins H e/\gW X pins H T
section
variable {X:Cx}{pins:aG}{σ:St}{H:Hp}{s:au}{E:XK}
theorem Wq {Q:Unit->au->Prop}{E':aA}{u:ai}{s':au}(I:Inv X pins σ H s) (x2:X.stack=X.env::X.outer) (x3:X.env.frame=some X.env.locals) (h:xH X.prog X.w X.stack H s E u s')
    (k:∀e cls dc H' h',u = .ref e->Inv X pins σ H' { s' with heap:=h' }->Met X pins H' h' e cls dc->E cls dc H'->Q () { s' with heap:=h' }) :
    wpAny (model X.prog X.w) X.A (noteFrame u X.env) (fun _ s1=>wpAny (model X.prog X.w) X.A (setFlight u none) Q E' s1) E' s':=by
  obtain⟨e,cls,dc,H',rfl,os,bare,un,bA,fl,hE⟩:=h;have I':=I.rV os un bA bare (ch:=[]) (fun b z=>absurd z (by simp));obtain⟨oe,vs,T,oT,ts,he,hc,ux,hd,h1,wG,hT,dT,h3,He,HT,ne,nT⟩:=fl;have fr:=I'.ok.frames;have st:=I'.stack;rw[x2] at fr st;refine Wo fr st x3 he hd h1 hT dT h3 wG fun h' G=>?_
  have F1:gW X pins H' e:=I.oV ne He;have F2:gW X pins H' T:=I.oV nT HT;have sf:∀b∈je (X.env::X.outer),H' b=none:=by
    have:=I'.lP;rw[x2] at this;exact this
  have U:Un (je X.stack) [e,T] H' H' s'.heap h':=by
    rw[x2];refine⟨fun b o q n nf nx=>G.keep b o (fun z=>nx (by simp[z])) nf (fun z=>nx (by rw[iF.mp z];simp)) q,fun b o q n hb nx=>G.slot b o hb q,fun b o q n _=>n,fun b o q nx=>?_,fun _ _ z=>z,fun _ _ _ z=>z,fun _ ps z=>⟨#[],by rw[Array.append_empty];exact z⟩⟩
    by_cases hb:b∈je (X.env::X.outer)
    · obtain⟨sl,z⟩:=G.slot b o hb q;exact⟨_,z⟩
    · exact⟨o,G.keep b o (fun z=>nx (by simp[z])) hb (fun z=>nx (by rw[iF.mp z];simp)) q⟩
  have zY:jM X.prog X.w H' h':=fun a o q=>by
    refine (bA a o q).iy (fun b u hb z=>?_) (fun _ z=>z) fun _ _ z=>z
    have Hb:H' b≠none:=by
      rcases hb with z | z
      · rw[z,q];simp
      · rw[z];simp
    exact G.keep b u (fun z=>Hb (z▸He)) (fun z=>Hb (sf b z)) (fun z=>Hb (by rw[iF.mp z];exact HT)) z
  have I2:Inv X pins σ H' { s' with heap:=h' }:=I'.rV (s':={ s' with heap:=h' }) (ch:=[e,T]) rfl U zY I'.bare fun b hb=>by
    have F:gW X pins H' b:=by
      rcases aN.mp hb with z | z
      · rw[z];exact F1
      · rw[iF.mp z];exact F2
    exact⟨F.2.2.2.1,F.2.1,F.2.2.2.2.1,F.2.2.2.2.2⟩
  obtain⟨Wr,Ae,t1,t2,t3⟩:=G.ent;have Ws:s'.heap.objs.size≠e:=jJ (aI he);exact k e cls dc H' h' rfl I2 ⟨_,_,s'.heap.objs.size,Wr,Ae,G.exc,hc,ux,rfl,by simp[(gD.mp h1).1],Ws,t1,t2,t3,F1,I'.oV (aH _) (bA.fresh (aH _))⟩ hE
end
structure rq (K:aF) (D:ah):Prop where
  nt:PySem.W.instIn K (.ref D) (.type "tuple")=some false
  ty:PySem.W.isClsIn K D=true
  ex:PySem.W.mroIn K D (.type "BaseException")=some true
section
variable {M:Model}{A:Around}{E:aA}{s:au}{K:aF}{e C D:ah}{oe:Obj}{b:Bool}
theorem Wt {Q:Bool->au->Prop}(X:K.In s.heap) (he:s.heap.get? e=some oe) (hc:oe.cls = .ref C) (cd:rq K D) (hs:PySem.W.mroIn K C (.ref D)=some b) (h:Q b s):wpAny M A (excMatches (.ref e) (.ref D)) Q E s:=by
  have L1:=PySem.W.looks_instIn (M:=M) X cd.nt;have L3:=PySem.W.looks_mroIn (M:=M) X cd.ex;have L4:=PySem.W.looks_mroIn (M:=M) X hs;have L5:PySem.W.Looks M s.heap (typeOf (.ref e)) (.ref C):=hc▸(PySem.W.Looks.ld he).andThen .now;unfold excMatches;refine aj (L1.here ?_);dsimp only;rw[ao (by decide)];refine aj (az ?_);simp only [kI,List.forIn_nil];have L6:PySem.W.Looks M s.heap (isExcClass (.ref D)) true:=by
    unfold isExcClass;refine PySem.W.Looks.andThen (a:=true) ?_ ?_
    · obtain⟨c,hc⟩:=qE.mp cd.ty;unfold PySem.W.clsIn at hc;split at hc
      · rename_i hk;exact (PySem.W.Looks.ld (part:=_) (X _ _ hk)).andThen .now
      · cases hc
    · exact L3
  refine aj (aj (aj (L6.here ?_)));rw[ao (by decide)];refine az (az (aj (L5.here (aj (aj (aj (L4.here ?_)))))));cases b with
  | true=>rw[aq rfl];exact az (az (az h))
  | false=>rw[ao (by decide)];exact az (az (az h))
end
section
variable {X:Cx}{pins:aG}{σ:St}{H:Hp}{s:au}
theorem Inv.D8 {a:ah}{o:HO}(I:Inv X pins σ H s) (f:gW X pins H a) (xe:X.ex = []) (ok:bU X.prog X.w (upd H a o) s.heap a o):Inv X pins σ (upd H a o) s:=by
  obtain⟨f1,f2,f3,f4,f5,f6⟩:=f;have f4:X.cY.heap.objs.size<=a:=f4.resolve_left (by rw[xe];simp);refine⟨I.ok,I.os,I.bare,⟨I.base.keep,I.base.slot,fun b ob q n hx=>?_,I.base.there,fun b xs q=>?_,fun b ob u q=>?_,fun b ps q=>?_⟩,I.loc,I.cell,?_,fun x c z=>?_,fun p hp=>?_,fun b ob q=>?_,I.len⟩
  · rw[zr (fun z=>absurd (aI q) (Nat.not_lt.mpr (by rw[z];exact f4)))];exact I.base.free b ob q n hx
  · have:=I.base.lD b xs q;rw[zr (fun z=>by rw[z,f1] at this;cases this)];exact this
  · have:=I.base.kU b ob u q;rw[zr (fun z=>by rw[z,f1] at this;cases this)];exact this
  · obtain⟨m,this⟩:=I.base.lE b ps q;refine⟨m,?_⟩;rw[zr (fun z=>by rw[z,f1] at this;cases this)];exact this
  · rw[zr f2.symm];exact I.free
  · rw[zr (f5 x c z)];exact I.fm x c z
  · obtain⟨q1,q2,q3,q4,q5⟩:=I.pin p hp;exact⟨q1,by rw[zr (f6 p hp)];exact q2,q3,q4,q5⟩
  · by_cases z:b=a
    · subst z;rw[zb] at q;cases q;exact ok
    · rw[zr z] at q;refine (I.bA b ob q).iy (fun _ _ _ z=>z) (fun c w=>?_) fun c xs w=>?_
      · rw[zr (fun z=>by rw[z,f1] at w;cases w)];exact w
      · rw[zr (fun z=>by rw[z,f1] at w;cases w)];exact w
theorem Gu {M:Model}{A:Around}{E:aA}{i:Nat}{n:Str}{pos:Pos}{Q:Unit->au->Prop}(I:Inv X pins σ H s) (hN:X.N.Nodup) (hi:X.N[i]? = some n) (hl:X.env.scope.names.lookup n=some .local)
    (h:∀s',Inv X pins (σ.set i none) H s'->Q () s'):wpAny M A (do bindName X.env n .none;unbindBehindTheSuite X.env n pos) Q E s:=by
  have yY:(X.env.scope.kind == .class||(X.env.scope.kind == .module&&X.env.locals != X.env.globals))=false:=by rw[I.ok.kind];rfl
  refine aj (wpAny_bindName (A0 I hN hi (.inl hl) (v:=.dG) rfl (fun s1 I1=>?_) (.inr hl)));unfold unbindBehindTheSuite;refine wpAny_onRaise ?_;unfold unbindName;refine aj (wpAny_point (aj ?_));unfold deleteName;obtain⟨m,hn,o5⟩:=id I1.loc;have iV:X.env.kindOf n=some .local:=hl;simp only [iV,yY];rw[ao (by decide)];have Og:i<(σ.set i (some V.dG)).length:=by rw[I1.len];exact (bV.mp hi).1
  obtain⟨u,ru,lu⟩:=o5 i n .dG hi (by rw[om (by simpa using Og)]) (.inl hl);have mn:(m n).isSome=true:=by
    rcases lu with ⟨_,z⟩ | ⟨z,_⟩
    · rw[z];rfl
    · rw[iV] at z;rcases z with z | z<;>cases z
  refine aj (wpAny_nsDel_keeps hn fun h2 v qU Av=>?_);rw[mn];simp only [if_true,Bool.not_true,jU,dZ];refine az (wpAny_point (h _ ?_));have uE:=I1.uE;obtain⟨oL,_,_,KZ,_⟩:=id hn;refine⟨I1.ok,I1.os,I1.bare,⟨fun b o e n hb hx=>?_,fun b o e n hb hx=>?_,I1.base.free,fun b o e hx=>?_,I1.base.lD,I1.base.kU,I1.base.lE⟩,⟨_,qU,fun j y v' e1 e2 e3=>?_⟩,fun y c e=>?_,I1.free,I1.fm,fun p hp=>?_,fun b ob e=>?_,by simpa using I.len⟩
  · exact (Av.2 b (bq (dX (aI e) I1.ok.above))).trans (I1.base.keep b o e n hb hx)
  · obtain⟨sl,e1⟩:=I1.base.slot b o e n hb hx;exact⟨sl,(Av.2 b (bq (dX (aI e) I1.ok.above))).trans e1⟩
  · obtain⟨o',e1⟩:=I1.base.there b o e hx;exact⟨o',(Av.2 b (bq (dX (aI e) I1.ok.above))).trans e1⟩
  · have hj:j≠i:=fun z=>by
      subst z;rw[om (by simpa using Og)] at e2;cases e2
    rw[oA (aD hj)] at e2;obtain⟨u',r',q⟩:=o5 j y v' e1 (by rw[oA (aD hj)];exact e2) e3;refine⟨u',r',?_⟩;rcases q with ⟨k,z⟩ | ⟨k,c,z1,z2⟩
    · refine .inl ⟨k,?_⟩;have:y≠n:=fun z=>hj (Hh hN e1 (z▸hi))
      simp[this,z]
    · exact .inr ⟨k,c,z1,z2.sameBut Av (uE y c z1)⟩
  · obtain⟨w',z⟩:=I1.cell y c e;exact⟨w',z.sameBut Av (uE y c e)⟩
  · obtain⟨e,n,ne,nf,d⟩:=I1.pin p hp;exact⟨(Av.2 p.1 ne).trans e,n,ne,nf,d⟩
  · refine (I1.bA b ob e).iy (fun c w' hc q=>(Av.2 c ?_).trans q) (fun _ q=>q) fun _ _ q=>q
    rintro rfl;rcases hc with rfl | hc
    · rw[I1.free] at e;cases e
    · rw[I1.free] at hc;cases hc
end
def Cx.sA (X:Cx) (pn:aG) (xe:aA):Cx:={ X with pn:=pn,xe:=xe }
def Cx.lW (X:Cx) (v:ai) (xe:aA):Cx:={ X with A:=X.A.mark (some v),calm:=false,xe:=xe }
structure Oh (X:Cx):Prop where
  st:X.stack=X.env::X.outer
  fr:X.env.frame=some X.env.locals
  ex:X.ex = []
def Oi (X:Cx) (Es:St->XK):Prop:=∀(pins:aG) (σ:St) (H:Hp) (s:au) (u:ai) (s':au),Inv X pins σ H s->xH X.prog X.w X.stack H s (Es σ) u s'->X.xe u s'
def fZ (e C:ah) (dc:Option ah):HO:=.ext fun h=>∃oe vs,h.get? e=some oe/\oe.cls = .ref C/\oe.dict=dc/\oe.data = .fields vs
abbrev TH:=Ends->St->ah->Option ah->Hp->Prop
def PH (X:Cx) (hs:List ExceptHandler) (th:TH):Prop:=
  ∀(pins:aG) (s:au) (σ:St) (H:Hp) (D:Ends) (e C:ah) (dc:Option ah),Inv X pins σ H s->Met X pins H s.heap e (.ref C) dc->th D σ C dc H->wpAny (model X.prog X.w) X.A (handleBy (.ref e) X.env hs) (SP X pins D) X.xe s
def Wu:TH:=fun _ _ _ _ _=>False
def Oj (i:Nat) (D:Ends):Ends:={ nx:=fun σ H=>D.nx (σ.set i none) H,rt:=D.rt,bk:=fun σ H=>D.bk (σ.set i none) H,ct:=fun σ H=>D.ct (σ.set i none) H }
def JE (K:aF) (i:Nat) (Dc:ah) (ts:TS) (Gv:TH):TH:=fun D σ C dc H=>∃b,PySem.W.mroIn K C (.ref Dc)=some b/\
  if b=true then ∀e,H e=none->ts (Oj i D) (σ.set i (some (.ref e))) (upd H e (fZ e C dc)) else Gv D σ C dc H
def JF (tb:(St->XK)->TS) (th:TH):TS:=fun D σ H=>tb (fun aK cls dc H'=>∃C,cls = .ref C/\th D aK C dc H') D σ H
def Wv (sp:Sp) (qk:List V) (Es:St->XK) (t:TA):TE:=fun σ H Q=>t σ H fun vs H1=>sp (vs++qk) H1 Q (Es σ)
section
variable {X:Cx}{pins:aG}{σ:St}{H:Hp}{s:au}
theorem Ol {v:ai}{xe:aA}(I:Inv X pins σ H s):Inv (X.lW v xe) pins σ H s:=
  ⟨⟨I.ok.mod,I.ok.kind,I.ok.glob,I.ok.blt,I.ok.above,I.ok.inj,I.ok.has,I.ok.yW,(fun z=>absurd z bJ),I.ok.frames,I.ok.AY,I.ok.E5,I.ok.bs,I.ok.uD,I.ok.qN,I.ok.sG,I.ok.jX,I.ok.wW⟩,
    I.os,I.bare,I.base,I.loc,I.cell,I.free,I.fm,I.pin,I.bA,I.len⟩
theorem Gw {v:ai}{xe:aA}(ok:X.Ok) (I:Inv (X.lW v xe) pins σ H s):Inv X pins σ H s:=⟨ok,I.os,I.bare,I.base,I.loc,I.cell,I.free,I.fm,I.pin,I.bA,I.len⟩
theorem Ww {xe:aA}(I:Inv X pins σ H s):Inv (X.sA (X.pn++pins) xe) [] σ H s:=
  ⟨⟨I.ok.mod,I.ok.kind,I.ok.glob,I.ok.blt,I.ok.above,I.ok.inj,I.ok.has,I.ok.yW,I.ok.hd,I.ok.frames,I.ok.AY,I.ok.E5,I.ok.bs,I.ok.uD,I.ok.qN,I.ok.sG,I.ok.jX,I.ok.wW⟩,
    I.os,I.bare,I.base,I.loc,I.cell,I.free,I.fm,fun p hp=>I.pin p ((bM.mp hp).elim id fun z=>absurd z (by simp)),I.bA,I.len⟩
theorem D9 {pN:aG}{xe:aA}(ok:X.Ok) (I:Inv (X.sA (X.pn++pins) xe) pN σ H s):Inv X pins σ H s:=
  ⟨ok,I.os,I.bare,I.base,I.loc,I.cell,I.free,I.fm,fun p hp=>I.pin p (ee _ hp),I.bA,I.len⟩
end
section
variable {X:Cx}{CX:qP}{k i:Nat}{f Dc:ah}{ps:List Str}{sp:Sp}{x n:Str}{p pos m7:Pos}{e:Expr}{es:List Expr}{t:TA}{Es:St->XK}{Ea:Stmt}{yM body:List Stmt}{h₀:ExceptHandler}{rest hs:List ExceptHandler}{ts:TS}{Gv th:TH}{tb:(St->XK)->TS}
theorem Wx (F:d7 X.prog X.w X.K X.mg X.base x ps k sp) (xe:Oi X Es) (hr:cV k X.A) (hg:Gl X x) (ha:PA X (e::es) t) (j0:(x == ("__debug__" : Str))=false:=by decide)
    (he:starEach (e::es) X.env=(false,eval e X.env)::starEach es X.env:=by rfl) (kq:(backTo pos (starEach es X.env)).any (·.1)=false:=by rfl):PE X (.Call (.Name x p) (e::es) [] pos) (Wv sp [] Es t):=by
  obtain⟨f,fd,a,kp,_,b,G⟩:=F;intro pins s σ H Q I h;refine mD (yZ I hg a ?_ j0);refine PySem.W.callWith_K (h₀:=X.base) I.ok.mod.E4 kp (cA (ha pos pins s σ H _ I h) fun us s1 ⟨vs,H1,I1,r,q⟩=>⟨I1.lF,?_⟩) he kq;have r2:Vals (vs++[]) (us++[]):=r.append .nil;have hl:(us++[]).length=ps.length:=by rw[←r2.length];exact G.len _ _ _ _ q
  refine eG (gU (G.run X.A X.stack s1 H1 ⟨us,[]⟩ (us++[]) (vs++[]) Q (Es σ) hr I1.zJ ((Binds.all b) s1 us I1.lF hl) r2 q) fun r s' hq=>?_);cases r with
  | error e=>exact xe pins σ H1 s1 e s' I1 hq
  | ok fl=>
    cases fl with
    | ret u=>exact I1.after hq
    | next=>exact False.elim hq
    | brk=>exact False.elim hq
    | cont=>exact False.elim hq
theorem Wy (x:Oh X) (hb:∀pn xe (Es:St->XK),Oi (X.sA pn xe) Es->pF (X.sA pn xe) body (tb Es)) (hh:PH X (h₀::hs) th):PS X (.Try body (h₀::hs) [] [] pos) (JF tb th):=by
  intro pins s σ H D I h;refine wpAny_Try_except ?_;refine b8 (hb (X.pn++pins) (fun e bI=>wpAny (model X.prog X.w) X.A (noteFrame e X.env) (fun _ iQ=>wpAny (model X.prog X.w) X.A (setFlight e none) (fun _ nK=>wpAny (model X.prog X.w) X.A (handleBy e X.env (h₀::hs)) (SP X pins D) X.xe nK) X.xe iQ) X.xe bI)
    (fun aK cls dc H'=>∃C,cls = .ref C/\th D aK C dc H') (fun pN aK H' s' u wg I' Wz=>?_) [] s σ H D (Ww I) h) (fun fl s1 q=>?_) fun _ _ z=>z
  · refine Wq (D9 I.ok I') x.st x.fr Wz fun e cls dc H2 h' hu I2 met hE=>?_
    subst hu;obtain⟨C,rfl,WA⟩:=hE;exact hh pins _ aK H2 D e C dc I2 met WA
  · cases fl with
    | next=>
      obtain⟨aK,H',J,q⟩:=q;exact mO ⟨aK,H',D9 I.ok J,q⟩
    | brk=>
      obtain⟨aK,H',J,q⟩:=q;exact⟨aK,H',D9 I.ok J,q⟩
    | cont=>
      obtain⟨aK,H',J,q⟩:=q;exact⟨aK,H',D9 I.ok J,q⟩
    | ret u=>
      obtain⟨v,aK,H',J,r,q⟩:=q;exact⟨v,aK,H',D9 I.ok J,r,q⟩
theorem WB:PH X [] Wu:=fun _ _ _ _ _ _ _ _ _ _ h=>h.elim
theorem WC (xf:Oh X) (hg:Gl X x) (hm:X.mg x=some (.ref Dc)) (cd:rq X.K Dc) (hN:X.N.Nodup) (hi:X.N[i]? = some n) (hl:X.env.scope.names.lookup n=some .local)
    (WD:∀v xe,pF (X.lW v xe) (Ea::yM) ts) (hr:PH X rest Gv) (j0:(x == ("__debug__" : Str))=false:=by decide) :
    PH X (.ExceptHandler (some (.Name x p)) (some n) (Ea::yM) m7::rest) (JE X.K i Dc ts Gv):=by
  intro pins s σ H D e C dc I met h;obtain⟨oe,vs,T,oT,WE,he,hc,ux,hd,h1,wG,hT,dT,h3,F1,F2⟩:=met;obtain⟨b,hb,h⟩:=h;refine wpAny_handleBy_cons (codeAny_handlers_test (yZ (X:=X.lW (.ref e) X.xe) (Ol I) hg hm ?_ j0)) (by intro q;cases q);refine Wt (K:=X.K) I.lF he hc cd hb ?_;cases b with
  | false=>
    rw[ao (by decide)] at h;exact hr pins s σ H D e C dc I ⟨oe,vs,T,oT,WE,he,hc,ux,hd,h1,wG,hT,dT,h3,F1,F2⟩ h
  | true=>
    rw[aq rfl] at h;refine codeAny_handlers_suite_as ?_;refine wpAny_setFlight_none he hd h1 hT dT (gD.mp h3).1 ?_;have nN:∀b,b≠T->(s.heap.update T (Obj.mapFields (·.setIfInBounds 3 .none))).get? b=s.heap.get? b:=fun b hb=>cE _ _ (aD hb)
    have I1:Inv X pins σ H { s with heap:=s.heap.update T (Obj.mapFields (·.setIfInBounds 3 .none)) }:=I.se (t':=s.toks) (ch:=[T]) (fun b o hb q=>by rw[nN b (fun z=>hb (by simp[z]))];exact q) fun b hb=>by rw[iF.mp hb];exact F2
    have Gx:=(nN e wG.symm).trans he;have I2:=I1.D8 (a:=e) (o:=fZ e C dc) F1 xf.ex ⟨⟨oe,vs,Gx,hc,ux,hd⟩,⟨oe,Gx⟩,fun g1 g2 ⟨JC,Bw,q1,q2⟩ kk=>⟨JC,Bw,kk _ q1,q2⟩⟩;refine A0 I2 hN hi (.inl hl) (v:=.ref e) rfl (fun s2 I3=>?_) (.inr hl);refine cA (WD (.ref e) _ pins s2 _ _ (Oj i D) (Ol I3) (h e F1.1)) fun fl s3 q=>?_
    cases fl with
    | next=>
      obtain⟨aK,H',J,q⟩:=q;exact Gu (Gw I.ok J) hN hi hl fun s5 J5=>⟨_,H',J5,q⟩
    | brk=>
      obtain⟨aK,H',J,q⟩:=q;exact Gu (Gw I.ok J) hN hi hl fun s5 J5=>⟨_,H',J5,q⟩
    | cont=>
      obtain⟨aK,H',J,q⟩:=q;exact Gu (Gw I.ok J) hN hi hl fun s5 J5=>⟨_,H',J5,q⟩
    | ret u=>
      obtain⟨v,aK,H',J,r,q⟩:=q;exact Gu (Gw I.ok J) hN hi hl fun s5 J5=>⟨v,_,H',J5,r,q⟩
end
end L2
namespace L2
def Aw (K:aF) (C:PySem.Addr):Prop:=∃bm,nU K C bm/\eO bm
end L2
namespace L2
open PySem
def Gy (K:aF) (C:ah):Bool:=match K.lookup C with
  | some ⟨.type t,_,.cls cd,sl⟩=>t == "type" && ((match cd.mro with | .ref c::bm=>c == C&&(bm.contains (.type "ValueError")&&(bm.contains (.type "BaseException")&&(!bm.contains (.type "AttributeError") && !bm.contains (.type "NameError")))) | _=>false)&&(!cd.hasDel &&
      (match sl.toList with | [_,_,_,_,some (.builtin i),_]=>i == "ValueError.__new__" | _=>false)))
  | _=>false
theorem WG {K:aF}{C:ah}(h:Gy K C=true):Aw K C:=by
  unfold Gy at h;split at h
  · rename_i t dd cd sl hk;rw[fj,fj,fj] at h;obtain⟨h1,h2,h3,h4⟩:=h;split at h2
    · rename_i c bm hm;split at h4
      · rename_i k0 k1 k2 k3 i k5 hs;simp only [fj,jL,Bool.not_eq_true'] at h1 h2 h3 h4;obtain⟨rfl,a1,a2,a3,a4⟩:=h2;subst h1 h4;refine⟨bm,⟨cd.name,cd.qualname,cd.ns,cd.bases,cd.hasDict,cd.slotNames,cd.subclasses,cd.abstract,cd.collection,dd,k0,k1,k2,k3,k5,?_⟩,⟨a1,a2,a3,a4⟩⟩;rw[hk];obtain⟨x1,x2,x3,x4,x5,x6,x7,x8,x9,y1,y2⟩:=cd;dsimp only at hm h3;subst hm h3;obtain⟨l⟩:=sl;dsimp only at hs;subst hs;rfl
      · cases h4
    · cases h2
  · cases h
end L2
namespace L2
open PySem PySem.Spec PyProof.Rows
structure jO (K:aF) (C:ah):Prop where
  ga:PySem.W.findIn K (.ref C) "__getattribute__" = some (some (.builtin "BaseException.__getattribute__"))
  gn:PySem.W.findIn K (.ref C) "__getattr__" = some none
  bx:PySem.W.mroIn K C (.type "BaseException")=some true
  hd:PySem.W.hasDictIn K C=true
section
variable {prog:aU}{w:World}{A:Around}{E:aA}{s:au}{K:aF}{x C:ah}{ox:Obj}{od:Option Obj}{name:Str}{v:ai}{expr:Bool}{Q:aA}
theorem WH {Qf:Prop}(X:K.In s.heap) (I:PySem.W.InstAt s.heap x ox C od) (g:jO K C)
    (h:wpAny (model prog w) A.in1 (Builtin.«object.__getattribute__» ⟨[.ref x,.str name s.toks],[]⟩)
      (fun fin s'=>match fin with | .done (.ret v)=>wpAny (model prog w) A (handedOut v) Q E s' | _=>False) (fun _ _=>False) { s with toks:=s.toks+1 }) :
    wpAny (model prog w) A (getAttr (.ref x) name expr) Q E s:=by
  have FB:=PySem.F.attrBase_ValueError;refine aj (wpAny_mkText (cT (aj (I.type _ _ _ _ (fun _ _ e=>e) (aj (PySem.W.looks_findIn X g.ga _ _ _ _ (fun _ _ e=>e) ?_))))));dsimp only;rw[show (onTheHeap (Value.ref C)&&Value.builtin "BaseException.__getattribute__" == Value.builtin "object.__getattribute__")=false from by rw[show (Value.builtin "BaseException.__getattribute__" == Value.builtin "object.__getattribute__")=false from by decide +kernel,Bool.and_false],ao (by decide)];refine aj (PySem.W.looks_hook (mc:=.ref C) X (r:=none) (by rw[aq (show onTheHeap (Value.ref C)=true from rfl)];exact g.gn) _ _ _ _ (fun _ _ e=>e) (aj (iO (cT ?_))));unfold callGetattribute;rw[show (expr&&onTheHeap (Value.builtin "BaseException.__getattribute__"))=false from by cases expr<;>rfl,ao (by decide)];unfold boundAndCalled;rw[FB.ga.bind];refine aj (az ?_);show wpAny _ _ (call (.builtin "BaseException.__getattribute__") [.ref x,.str name s.toks]) _ _ _;refine eG ?_;refine jT FB.ga.plain PySem.F.entry_bexc_ga ?_;refine @PySem.W.check_slot (model prog w) _ _ { s with toks:=s.toks+1 } "BaseException.__getattribute__" "BaseException" "__getattribute__" (.ref x) [.str name s.toks] [] _ (by decide +kernel) (by decide +kernel) (I.type.andThen (PySem.W.looks_mroIn X g.bx)) (PySem.F.args_bexc_ga (.ref x) (.str name s.toks)) ?_;refine b8 h (fun fin s' z=>?_) fun _ _ z=>z.elim
  rcases fin with (_ | _ | _ | _) | _<;>first | exact z | exact z.elim
theorem WI (X:K.In s.heap) (I:PySem.W.InstAt s.heap x ox C od) (g:jO K C)
    (hf:PySem.W.findObj K C od name=some (.value v)) (hh:PySem.W.handedIn v=true) (h:Q v { s with toks:=s.toks+1 }):wpAny (model prog w) A (getAttr (.ref x) name expr) Q E s:=by
  refine WH (Qf:=True) X I g ?_;obtain⟨hh',g,d,t,os⟩:=s;have L0:=I.type (M:=model prog w);have L1:=PySem.W.looks_find (M:=model prog w) X I hf;unfold Builtin.«object.__getattribute__»;refine aj (az (aj (az (aj (L0.at (aj (L1.at ?_)))))));refine az ?_;show wpAny _ _ (handedOut v) _ _ _;rw[PySem.W.handedOut_of hh];exact az h
end
def Om (K:aF) (ta:TE) (f:Str):TE:=fun σ H Q=>ta σ H fun x H1=>∃a C d fs v,x = .ref a/\H1 a=some (fZ a C (some d))/\H1 d=some (.xd fs)/\jO K C/\gw K C f/\fs.lookup f=some v/\Q v H1
section
variable {X:Cx}{pins:aG}{σ:St}{H:Hp}{s:au}{a C d:ah}{fs:List (Str×V)}{f:Str}{v:V}{A:Around}{E:aA}
theorem WJ {b:Bool}{Q:aA}(I:Inv X pins σ H s) (e:H a=some (fZ a C (some d))) (ed:H d=some (.xd fs)) (c:jO X.K C) (n:gw X.K C f) (l:fs.lookup f=some v)
    (h:∀u s',Inv X pins σ H s'->RelV v u->Q u s'):wpAny (model X.prog X.w) A (getAttr (.ref a) f b) Q E s:=by
  obtain⟨⟨oe,vs,h1,h2,h3,h4⟩,_,_⟩:=(show bU X.prog X.w H s.heap a (fZ a C (some d)) from I.bA a _ e);obtain⟨mA,ns,r⟩:=(show bU X.prog X.w H s.heap d (.xd fs) from I.bA d _ ed);obtain⟨u,hu,ru⟩:=jd.some_of (v:=v) (o:=mA f) (by rw[←l];exact r f);obtain⟨od,ho,hl⟩:=Lc ns;have J:PySem.W.InstAt s.heap a oe C (some od):=⟨h1,h2,by unfold PySem.W.notCls;rw[h4],by rw[h3];exact ho⟩;exact WI I.lF J c (PySem.W.findObj_own c.hd n rfl (by rw[hl,hu])) (Ro ru) (h u _ (I.tok _) ru)
end
section
variable {X:Cx}{e:Expr}{f:Str}{pos:Pos}{ta:TE}
theorem WK (he:PE X e ta) (hb:attributeBase e f X.env (eval e X.env)=eval e X.env):PE X (.Attribute e f pos) (Om X.K ta f):=by
  intro pins s σ H Q I h;refine Rp hb (cA (he pins s σ H _ I h) fun u s1 bg=>?_);obtain⟨x,H1,I1,rx,a,C,d,fs,v,ex,ea,ed,c,n,l,q⟩:=bg;subst ex;obtain rfl:u=Value.ref a:=rx;exact WJ I1 ea ed c n l fun u' s2 I2 ru=>⟨v,H1,I2,ru,q⟩
end
structure nR (K:aF) (C:ah):Prop where
  ha:PySem.W.findIn K (.ref C) "__class__" = some (some (.builtin "object.__class__"))
  hn:PySem.W.specialIn K (.builtin "object.__class__") "__get__" = some (some (.builtin "getset_descriptor.__get__"))
  Oo:PySem.W.takesIn K (.builtin "object.__class__")=some true
  hm:PySem.W.mroIn K C (.type "object")=some true
end L2
namespace L2
open PySem
def xK (C:ah) (o:Obj):Bool:=(match o with
  | ⟨.type t,_,.cls cd,sl⟩=>t == "type" && ((match cd.mro with | .ref c::bm=>c == C&&(bm.contains (.type "ValueError")&&(bm.contains (.type "BaseException")&&(!bm.contains (.type "AttributeError") && !bm.contains (.type "NameError")))) | _=>false)&&(!cd.hasDel &&
      (match sl.toList with | [_,_,_,_,some (.builtin i),_]=>i == "ValueError.__new__" | _=>false)))
  | _=>false)&&(match o.data with | .cls cd=>wH cd.mro | _=>false)
theorem Oq {K:aF}{C:ah}{c0:ai}{dd:Option ah}{cd:ClassData}{sl:Array (Option ai)}(l:K.lookup C=some ⟨c0,dd,.cls cd,sl⟩) (h:xK C ⟨c0,dd,.cls cd,sl⟩=true):Gy K C=true/\Jy K C=true:=by
  unfold xK at h;rw[fj] at h;refine⟨?_,?_⟩
  · unfold Gy;rw[l];cases c0<;>first | exact h.1 | (have:=h.1;cases this)
  · unfold Jy PySem.W.clsIn;rw[l];exact h.2
theorem sC {K:aF}{C:ah}{c0:ai}{dd:Option ah}{cd:ClassData}{sl:Array (Option ai)}(l:K.lookup C=some ⟨c0,dd,.cls cd,sl⟩) (h:xK C ⟨c0,dd,.cls cd,sl⟩=true) (h1:PySem.W.hasDictIn K C=true)
    (h2:PySem.W.findIn K (.ref C) "__setattr__" = some (some (.builtin "object.__setattr__"))):tD K C:=⟨h1,(Oq l h).2,h2⟩
theorem rA {K:aF}{C:ah}{c0:ai}{dd:Option ah}{cd:ClassData}{sl:Array (Option ai)}(l:K.lookup C=some ⟨c0,dd,.cls cd,sl⟩) (h:xK C ⟨c0,dd,.cls cd,sl⟩=true):Aw K C:=WG (Oq l h).1
end L2
namespace L2
open PySem PySem.Spec PyProof.Rows
section
variable {X:Cx}{k:Nat}{C:ah}{ps:List Str}{sp:Sp}{E:XK}{x:Str}{p pos bY:Pos}{e:Expr}{es:List Expr}{t:TA}
theorem Ot (M:xy X.prog X.w X.K X.mg X.base C "__init__" ps k sp) (xo:Aw X.K C) (hr:cV (k+1) X.A) (xe:nu X E) (hg:Gl X x) (hm:X.mg x=some (.ref C)) (D5:ps.length<=1000) (ha:PA X (e::es) t)
    (j0:(x == ("__debug__" : Str))=false:=by decide) (he:starEach (e::es) X.env=(false,eval e X.env)::starEach es X.env:=by rfl) (kq:(backTo bY (starEach es X.env)).any (·.1)=false:=by rfl) :
    PS X (.Raise (some (.Call (.Name x p) (e::es) [] bY)) none pos) (Oe C sp [] E (fun _ _ _=>False) t):=by
  obtain⟨f,fd,m,b,F⟩:=M;obtain⟨bm,xo,U⟩:=xo;exact Wn ⟨xo,U,m.at_,m.fn⟩ F hr xe (fun _ _ _ _ _ _ _ z=>z.elim) hg hm (.all b) .nil D5 ha j0 he kq
end
theorem Ou {X:Cx}{e:Expr}{f:Str}{pos:Pos}{ta:TE}(K:aF) (h:X.K=K) (he:PE X e ta) (hb:attributeBase e f X.env (eval e X.env)=eval e X.env):PE X (.Attribute e f pos) (Om K ta f):=h▸WK he hb
section
variable {prog:aU}{w:World}{A:Around}{E:aA}{s:au}{env:Env}{bm:List ai}
theorem WL {x:Str}{C:ah}{vI:ai}{np bY pos:Pos}{Q:Flow->au->Prop}(U:eO bm) (hh:A.handled=none)
    (k:wpAny (model prog w) A (eval (.Name x np) env) (fun f s2=>f = .ref C/\lJ s2.heap C bm/\PySem.W.Looks (model prog w) s2.heap (typeLookup (.ref C) "__init__") (some vI)/\(∀self,PySem.W.Looks (model prog w) s2.heap (bindSpecial vI self) (vI,[self]))/\
        ∀h' e,s2.heap.objs.size<=e->Heap.MadeExcOf s2.heap h' e (.ref C) []->wpAny (model prog w) (A.under (.builtin "type.__call__" ⟨[.ref C],[]⟩)) (call vI [.ref e])
          (fun r s3=>r = .none/\∃oe vs,lJ s3.heap C bm/\s3.heap.get? e=some oe/\oe.cls = .ref C/\oe.data = .fields vs/\vs[1]? = some .none/\E (.ref e) s3) E { s2 with heap:=h' }) E s) :
    wpAny (model prog w) A (exec (.Raise (some (.Call (.Name x np) [] [] bY)) none pos) env) Q E s:=by
  rw[arm_exec_Raise];simp only [evalOpt,Option.map];refine aj (gp (NZ U hh (aj (b8 (wpAny_Call_ofName (b8 k (fun f s2 k2=>?_) fun _ _ z=>z)) (fun v s3 k3=>aj (gp (az k3))) fun _ _ z=>z))));obtain⟨rfl,xo,lk,bd,go⟩:=k2;unfold callWith;refine aj (cT (PySem.evalArgs_none (aj (gp ?_))));obtain⟨hp,g,d,tk,os⟩:=s2;have any:(backTo bY (starEach [] env)).any (·.1)=false:=rfl;simp only [any];have Jx:=xo;obtain⟨a1,a2,a3,a4,a5,a6,a7,a8,a9,b1,b2,b3,b4,b5,b6,o⟩:=Jx;refine aj (wpAny_keeperOf_exc o ?_);refine aj (NY (us:=[]) U xo (dj _) lk bd fun h' e hs hm=>b8 (go h' e hs hm) (fun r s3 q=>?_) fun _ _ z=>z);obtain⟨r0,oe,vs,q⟩:=q;exact⟨r0,aj (cT (wpAny_point (az ⟨e,C,oe,vs,rfl,q⟩)))⟩
end
def WM (C:ah) (E:XK):TS:=fun _ _ H=>E (.ref C) none H
section
variable {X:Cx}{k:Nat}{C:ah}{E:XK}{x:Str}{p pos bY:Pos}
theorem Ov (xo:Aw X.K C) (hi:PySem.W.findIn X.K (.ref C) "__init__" = some (some (.builtin "ValueError.__init__"))) (hr:cV k X.A) (xe:nu X E) (hg:Gl X x) (hm:X.mg x=some (.ref C)) (j0:(x == ("__debug__" : Str))=false:=by decide) :
    PS X (.Raise (some (.Call (.Name x p) [] [] bY)) none pos) (WM C E):=by
  obtain⟨bm,xo,U⟩:=xo;intro pins s σ H D I h;have F:=PySem.F.excBase_ValueError;refine WL (vI:=.builtin "ValueError.__init__") U hr.hd (yZ I hg hm ⟨rfl,xo.in I.lF,PySem.W.looks_findIn I.lF hi,fun self=>PySem.W.Looks.of_pure (F.init.bind self),fun h' e hs D6=>?_⟩ j0);obtain⟨t0,h1,_,_⟩:=D6.there;have I2:Inv X pins σ H { s with heap:=h' }:=I.kept (t':=s.toks) D6.keeps;have Fp:gW X pins H e:=I.oV hs (I.bA.fresh hs);obtain⟨hp,g,d,tk,os⟩:=s;refine N7 (us:=[]) U (xo.in I2.lF) (dj _) h1 rfl rfl rfl fun WN kk hx=>?_
  have I3:Inv X pins σ H { heap:=WN,gens:=g,drawn:=d,toks:=tk,os:=os }:=I2.se (t':=tk) (ch:=[e]) (fun b o hb q=>kk b o (fun z=>hb (by simp[z])) q) fun b hb=>by rw[iF.mp hb];exact Fp
  exact⟨rfl,_,_,xo.in I3.lF,hx,rfl,rfl,rfl,N5 I3 xe ⟨_,_,hx,rfl,rfl,rfl,rfl,Fp.1,b7 I.sz hs⟩ h⟩
end
section
variable {prog:aU}{w:World}{A:Around}{E:aA}{s:au}{K:aF}{x C:ah}{ox:Obj}{od:Option Obj}{name:Str}{v:ai}{fill expr:Bool}{tk:Tok}
theorem Ow {Q:aA}(X:K.In s.heap) (I:PySem.W.InstAt s.heap x ox C od) (g:jO K C)
    (h:wpAny (model prog w) A.in1 (Builtin.«object.__getattribute__» ⟨[.ref x,.str name tk],[]⟩)
      (fun fin s'=>match fin with | .done (.ret v)=>wpAny (model prog w) A (handedOut v) Q E s' | _=>False) (fun _ _=>False) s) :
    wpAny (model prog w) A (getAttrBy (.ref x) (.str name tk) fill expr) Q E s:=by
  have FB:=PySem.F.attrBase_ValueError;unfold getAttrBy;refine cT (aj (I.type _ _ _ _ (fun _ _ e=>e) (aj (PySem.W.looks_findIn X g.ga _ _ _ _ (fun _ _ e=>e) ?_))));dsimp only;rw[show (onTheHeap (Value.ref C)&&Value.builtin "BaseException.__getattribute__" == Value.builtin "object.__getattribute__")=false from by rw[show (Value.builtin "BaseException.__getattribute__" == Value.builtin "object.__getattribute__")=false from by decide +kernel,Bool.and_false],ao (by decide)];refine aj (PySem.W.looks_hook (mc:=.ref C) X (r:=none) (by rw[aq (show onTheHeap (Value.ref C)=true from rfl)];exact g.gn) _ _ _ _ (fun _ _ e=>e) (aj (iO (cT ?_))));unfold callGetattribute;rw[show (expr&&onTheHeap (Value.builtin "BaseException.__getattribute__"))=false from by cases expr<;>rfl,ao (by decide)];unfold boundAndCalled;rw[FB.ga.bind];refine aj (az ?_);show wpAny _ _ (call (.builtin "BaseException.__getattribute__") [.ref x,.str name tk]) _ _ _;refine eG ?_;refine jT FB.ga.plain PySem.F.entry_bexc_ga ?_;refine @PySem.W.check_slot (model prog w) _ _ s "BaseException.__getattribute__" "BaseException" "__getattribute__" (.ref x) [.str name tk] [] _ (by decide +kernel) (by decide +kernel) (I.type.andThen (PySem.W.looks_mroIn X g.bx)) (PySem.F.args_bexc_ga (.ref x) (.str name tk)) ?_;refine b8 h (fun fin s' z=>?_) fun _ _ z=>z.elim
  rcases fin with (_ | _ | _ | _) | _<;>first | exact z | exact z.elim
theorem WO {Q:Option ai->au->Prop}(X:K.In s.heap) {od:Obj}(I:PySem.W.InstAt s.heap x ox C (some od)) (g:jO K C) (i:nR K C) (h:Q (some (.ref C)) { s with toks:=s.toks+1 }):wpAny (model prog w) A (getAttr? (.ref x) "__class__") Q E s:=by
  have hf:PySem.W.findObj K C (some od) "__class__" = some (.bind (.builtin "getset_descriptor.__get__") (.builtin "object.__class__")):=PySem.W.findObj_data (by obtain⟨cd,hc,_⟩:=PySem.W.any_some g.hd;rw[hc];rfl) i.ha i.hn i.Oo;refine aj (wpAny_mkText (aj (iO (Ow (s:={ s with toks:=s.toks+1 }) X I g ?_))));have L0:=I.type (M:=model prog w);have L1:=PySem.W.looks_find (M:=model prog w) X I hf;unfold Builtin.«object.__getattribute__»;refine aj (az (aj (az (aj (L0 _ _ _ _ (fun _ _ e=>e) (aj (L1 _ _ _ _ (fun _ _ e=>e) ?_)))))));show wpAny (model prog w) A.in1 (holding [.builtin "object.__class__"] (call (.builtin "getset_descriptor.__get__") [.builtin "object.__class__",.ref x,.ref C]) >>= ret) _ _ _;refine aj (cT (eG (PySem.W.class_get (s:={ s with toks:=s.toks+1 }) X I i.hm ?_)));exact az (PySem.W.handed_on rfl (az h))
theorem WQ {od:Obj}(g:jO K C) (i:nR K C):PySem.W.KitX K (.ref x) (.ref C) (fun h=>PySem.W.InstAt h x ox C (some od)) where
  ty:=fun _ _ _ I=>I.type
  it:=fun _ _ X _=>by
    obtain⟨JG,pX,_⟩:=PySem.W.any_some g.hd;unfold PySem.W.clsIn at pX;split at pX
    · rename_i c' d' JH yX ho;intro A' Q' E' s' k q;unfold isType loadHead;exact aj (wpAny_loadPart (k _ _ (X _ _ ho)) (az q))
    · cases pX
  ne:=fun h tp dd its n sl X JI=>by
    obtain⟨JG,pX,_⟩:=PySem.W.any_some g.hd;refine Bool.eq_false_iff.mpr fun q=>?_
    have e:C=tp:=Value.ref.inj (jL.mp q);subst e;unfold PySem.W.clsIn at pX;split at pX
    · rename_i c' d' JH yX ho;have z:=(X _ _ ho).symm.trans JI;cases z
    · cases pX
  ca:=fun X I k=>WO X I g i k
end
section
variable {X:Cx}
theorem WR {pins:aG}{σ:St}{H:Hp}{s:au}{a C d:ah}{fs:List (Str×V)}{c:ai}{b:Bool}{Q:VK}(I:Inv X pins σ H s) (ea:H a=some (fZ a C (some d))) (ed:H d=some (.xd fs)) (g:jO X.K C) (i:nR X.K C) (e:PySem.W.kitOne X.K (.ref C) c=some b) (q:Q (.bl b) H) :
    wpAny (model X.prog X.w) X.A (call (.builtin "isinstance") [.ref a,c]) (EP X pins σ Q) X.xe s:=by
  obtain⟨⟨oe,vs,h1,h2,h3,h4⟩,_,_⟩:=(show bU X.prog X.w H s.heap a (fZ a C (some d)) from I.bA a _ ea);obtain⟨mA,ns,r⟩:=(show bU X.prog X.w H s.heap d (.xd fs) from I.bA d _ ed);obtain⟨od,ho,hl⟩:=Lc ns;have J:PySem.W.InstAt s.heap a oe C (some od):=⟨h1,h2,by unfold PySem.W.notCls;rw[h4],by rw[h3];exact ho⟩;exact PySem.W.kia_one (WQ g i) I.lF J e (fun z=>nomatch z) fun tk=>⟨.bl b,H,I.tok tk,rfl,q⟩
end
open Sem (wp)
namespace Rv
theorem slot_next:Slot "list_reverseiterator" "__next__" "list_reverseiterator.__next__":=
  .of (owner:="list_reverseiterator") (n:="__next__") (by rw[typeLookup_type,qL];kernel_rfl) (by decide +kernel) (by decide +kernel) (by decide +kernel)
    (by first | exact .inl (by decide +kernel) | exact .inr (by decide +kernel)) (by rw[jI];kernel_rfl)
theorem nV:Slot "list_reverseiterator" "__iter__" "list_reverseiterator.__iter__":=
  .of (owner:="list_reverseiterator") (n:="__iter__") (by rw[typeLookup_type,qL];kernel_rfl) (by decide +kernel) (by decide +kernel) (by decide +kernel)
    (by first | exact .inl (by decide +kernel) | exact .inr (by decide +kernel)) (by rw[jI];kernel_rfl)
theorem entry_next:entryFor table "list_reverseiterator.__next__" = some Builtin.«list_reverseiterator.__next__»:=entryFor_of_tree (by kernel_rfl)
theorem rB:entryFor table "list_reverseiterator.__iter__" = some Builtin.«dict_keyiterator.__iter__»:=
  entryFor_alias (id':="dict_keyiterator.__iter__") (by kernel_rfl) (by first | rfl | decide +kernel | (unfold String.splitOn;simp +decide [String.splitOnAux])) (by decide +kernel) (by kernel_rfl)
theorem owner:Manifest.owners.lookup (String.ofList ['r','o','t','a','r','e','t','i','e','s','r','e','v','e','r','_','t','s','i','l'].reverse)=some Manifest.sig_list_reverseiterator:=by kernel_rfl
theorem args_next (a:ai):argsOk "list_reverseiterator.__next__" ⟨[a],[]⟩:=by
  unfold argsOk;rw[signature?_of (id:="list_reverseiterator.__next__") (n:="__txen__".toList) (o:="rotaretiesrever_tsil".toList) (by kernel_rfl) owner]
  kernel_rfl
theorem tE (a:ai):argsOk "list_reverseiterator.__iter__" ⟨[a],[]⟩:=by
  unfold argsOk;rw[signature?_of (id:="list_reverseiterator.__iter__") (n:="__reti__".toList) (o:="rotaretiesrever_tsil".toList) (by kernel_rfl) owner]
  kernel_rfl
theorem mro_reversed:mroOf (.type "reversed")=pure [.type "reversed",.type "object"]:=by rw[mroOf_type];kernel_rfl
theorem WS:typeLookup (.type "reversed") "__new__" = pure (some (.builtin "reversed.__new__")):=by rw[typeLookup_type,qL];kernel_rfl
theorem made:Bind.madeBy (.type "reversed")=pure (some "reversed.__new__"):=madeBy_type mro_reversed WS (by decide +kernel)
theorem typeCall (a:ai):checkTypeCall "reversed" ⟨[a],[]⟩=pure ():=by kernel_rfl
theorem xM (a:ai):checkBuiltinCall "reversed.__new__" ⟨[.type "reversed",a],[]⟩=pure ():=by kernel_rfl
theorem gO:entryFor table "reversed.__new__" = some Builtin.«reversed.__new__»:=entryFor_of_tree (by kernel_rfl)
theorem Ax:isSubtype (.type "list_reverseiterator") (.type "reversed")=pure false:=by rw[jI];kernel_rfl
theorem sub_self:isSubtype (.type "reversed") (.type "reversed")=pure true:=by rw[jI];kernel_rfl
theorem vq:isSubtype (.type "dict") (.type "dict")=pure true:=by rw[jI];kernel_rfl
end Rv
def iW (h:Heap) (it l:ah) (j:Int):Prop:=∃o,h.get? it=some o/\o.cls = .type "list_reverseiterator"/\o.data = .fields #[.ref l,.int j 0]
theorem iW.typeIs {s:au}{it l:ah}{j:Int}(x:iW s.heap it l j):s.TypeIs (.ref it) "list_reverseiterator":=let ⟨o,ho,hc,_⟩:=x;⟨o,ho,hc⟩
theorem iW.at {h h':Heap}{it l:ah}{j:Int}(x:iW h it l j) (e:∀o,h.get? it=some o->h'.get? it=some o):iW h' it l j:=let ⟨o,ho,r⟩:=x;⟨o,e _ ho,r⟩
section
variable {prog:aU}{w:World}{A:Around}{E:aA}{s:au}
theorem Ox {it l:ah}{j:Int}{Q:aA}(hit:iW s.heap it l j) (h:Q (.ref it) s):wpAny (model prog w) A (pyIter (.ref it)) Q E s:=by
  refine wpAny_pyIter_slot hit.typeIs Rv.nV (jv Rv.nV hit.typeIs Rv.rB ?_ (Rv.tE _));show wpAny _ _ (ret (.ref it)) _ _ s;exact az ⟨_,rfl,"list_reverseiterator",_,hit.typeIs,Rv.slot_next.lookup,h⟩
theorem WT {it l:ah}{j:Nat}{items:Array ai}{x:ai}{Q:Option ai->au->Prop}(hit:iW s.heap it l (j:Int)) (hl:s.heap.IsList l items) (hx:items[j]? = some x)
    (hQ:∀h',iW h' it l ((j:Int)-1)->Heap.SameBut it s.heap h'->Q (some x) { s with heap:=h' }):wpAny (model prog w) A (pyNext (.ref it)) Q E s:=by
  obtain⟨o,ho,hc,hd⟩:=id hit;obtain⟨ol,WU,_,nl,WV⟩:=hl;unfold pyNext;refine aj (iO (mj (name:=Str.ofString "__next__") hit.typeIs Rv.slot_next (jv Rv.slot_next hit.typeIs Rv.entry_next ?_ (Rv.args_next _))));show wpAny _ _ (field (.ref it) 1 >>= _) _ _ s;refine aj (eY ho hd (x:=.int j 0) rfl ?_);show wpAny _ _ (if (j:Int)<0 then _ else _) _ _ s;rw[ao (by lia)];show wpAny _ _ (field (.ref it) 0 >>= _) _ _ s;refine aj (eY ho hd (x:=.ref l) rfl ?_);refine aj (ic WU WV ?_);simp only [mF,hx];refine aj (iN ho hd (by simp) (az ⟨x,rfl,az (hQ _ ?_ (Heap.SameBut.update ..))⟩));exact⟨_,dB _ ho (jS (jt hd _)),(Obj.cls_mapFields ..).trans hc,by rw[jt hd];simp[rawInt]⟩
theorem WW {it l:ah}{j:Int}{Q:Option ai->au->Prop}(hh:A.handled=none) (hit:iW s.heap it l j) (hj:j<0)
    (hQ:∀h',(∀b o,s.heap.get? b=some o->h'.get? b=some o)->Q none { s with heap:=h' }):wpAny (model prog w) A (pyNext (.ref it)) Q E s:=by
  obtain⟨o,ho,hc,hd⟩:=id hit;unfold pyNext;refine aj (iO (mj (name:=Str.ofString "__next__") hit.typeIs Rv.slot_next (jv Rv.slot_next hit.typeIs Rv.entry_next ?_ (Rv.args_next _))));show wpAny _ _ (field (.ref it) 1 >>= _) _ _ s;refine aj (eY ho hd (x:=.int j 0) rfl ?_);show wpAny _ _ (if j<0 then _ else _) _ _ s;rw[aq hj];refine aj (gv (aj ?_));show wpAny _ _ (newExc (.type "StopIteration") [] >>= _) _ _ _;refine aj ?_;simp only [newExc,newTuple];refine aj (fh ?_ (by size_fits));refine aj (m:=firstArgMember _ _) (kP (a:=Value.none) (by first | rfl | (simp only [firstArgMember];rfl)) ?_);refine fh ?_ (by size_fits);simp only [raiseNew];refine aj (wpAny_handled ?_);rw[show A.in1.handled=none from hh];refine aj (az (wpAny_throw ?_));refine aj (kF (T:="StopIteration") (b:=true) ⟨_,bO _ rfl,rfl⟩ isSubtype_stop ?_);exact az (hQ _ fun b o e=>bC _ (bC _ e))
end
def Bx (K:aF) (a:ah) (xs:List V):It:=
  ⟨fun i H=>aJ K H a xs/\i<xs.length,fun i H x H'=>H'=H/\xs.reverse[i]? = some x,fun i _=>xs.length<=i⟩
theorem WX {P:aU}{w:World}{K:aF}{tg:Expr}(a it:ah) (xs:List V):Turn P w K tg (Bx K a xs) [it] it (fun i h=>iW h it a ((xs.length:Int)-1-i)) where
  mem:=by simp
  obj:=fun i h st b hb=>by
    have e:b=it:=by simpa using hb
    subst e;obtain⟨o,e,c,d⟩:=st;exact⟨o,e,fun v z=>by rw[d] at z;cases z⟩
  keep:=fun i h h' st k=>st.at fun o e=>k it (by simp) o e
  item:=by
    intro X hP hw hK hc i pins s σ H E I hf st hg;subst hP hw hK;obtain⟨hq,hi⟩:=hg;obtain⟨its,rv,p,hz⟩:=I.list hq;have hx:xs[xs.length-1-i]? = some (xs[xs.length-1-i]'(by lia)):=bz _;obtain⟨u,hu,ru⟩:=rv.get hx;obtain⟨f0,f1,f2,f3,f4,f5⟩:=hf it (by simp);have ej:(xs.length:Int)-1-i=((xs.length-1-i:Nat):Int):=by lia
    rw[ej] at st;refine WT st p.isList (x:=u) (by simpa using hu) fun h' pO sb=>?_
    have I1:Inv X pins σ H { s with heap:=h' }:=I.turned (t':=s.toks) (fun b o hb e=>(sb.2 b hb).trans e) f0 f1 f3 f4 f5;obtain⟨o,e,c,d⟩:=id pO;refine⟨u,rfl,Fe (s:={ s with heap:=h' }) e c d (by decide) ⟨_,H,I1,ru,⟨rfl,?_⟩,?_,fun b hb=>(hf b hb).1⟩⟩
    · rw[List.getElem?_reverse hi];exact hx
    · show iW h' it a ((xs.length:Int)-1-(i+1:Nat));have:(xs.length:Int)-1-(i+1:Nat)=((xs.length-1-i:Nat):Int)-1:=by lia
      rw[this];exact pO
  done:=by
    intro X hP hw hK hc i pins s σ H E I hf st hg;subst hP hw hK;have hg:xs.length<=i:=hg;exact WW (I.ok.hd hc) st (by lia) fun h' eb=>⟨rfl,I.kept (t':=s.toks) eb⟩
  self:=fun _ _ _ _ _ st h=>Ox st h
def By (l:ah) (n:Nat):Obj:={ cls:=.type "list_reverseiterator",data:=.fields #[.ref l,rawInt ((n:Int)-1)] }
theorem WY (l:ah) (items:Array ai) :
    Meets (Builtin.«list.__reversed__» ⟨[.ref l],[]⟩) (fun _ R s=>s.heap.IsList l items/\R (.ok (.ret (.ref s.heap.objs.size))) { s with heap:=s.heap.push (By l items.size) }):=
  .of_wp fun prog w A R s h=>by
    obtain⟨hl,h⟩:=h;obtain⟨o,ho,hc,n,hd⟩:=hl
    wp_walk
    rw[hd]
    wp_walk
    exact⟨_,rfl,h⟩
theorem WZ (l:ah) (items:Array ai) :
    Meets (Builtin.«reversed.__new__» ⟨[.type "reversed",.ref l],[]⟩) (fun _ R s=>s.heap.IsList l items/\R (.ok (.ret (.ref s.heap.objs.size))) { s with heap:=s.heap.push (By l items.size) }):=
  .of_wp fun prog w A R s h=>by
    obtain⟨hl,h⟩:=h;have hT:=hl.typeIs;have hk:=oE.lookup;have hb:=oE.bind (.ref l);have sub:=Rv.sub_self
    wp_walk
    refine gU (jT oE.plain F.entry_list_reversed (oE.check _ _ _ _ _ _ _ _ hT (F.args_list_reversed_1 _) (WY l items prog w A.in1
      (wants (fun v s1=>v = .ref s.heap.objs.size/\s1 = { s with heap:=s.heap.push (By l items.size) }) (fun e s'=>R (.error e) s')) s ⟨hl,rfl,rfl⟩))) fun r s1 hr=>?_
    cases r with
    | error e=>exact hr
    | ok fl=>
      cases fl with
      | ret obj=>
        obtain⟨rfl,rfl⟩:=hr;exact az ⟨_,rfl,h⟩
      | _=>exact hr.elim
section
variable {prog:aU}{w:World}{A:Around}{E:aA}{s:au}
theorem W0 {l:ah}{items:Array ai}{Q:aA}(hl:s.heap.IsList l items)
    (h:Q (.ref s.heap.objs.size) { s with heap:=s.heap.push (By l items.size) }):wpAny (model prog w) A (call (.type "reversed") [.ref l]) Q E s:=by
  have hct:=Rv.typeCall (.ref l);have Oz:=Rv.made;have W2:=Rv.mro_reversed;refine eG (codeAny_of_tree ?_);show wpAny (model prog w) _ (callAny (.type "reversed") _) _ _ _;refine az ⟨Code.quiet_builtin _ (by decide +kernel),ia F.entry_type_call ?_⟩;rw[Around.under_plain (weight_type_call_type "reversed" [.ref l] []) (units_type_call_type "reversed" [.ref l] [])];have h1:(Value.type "reversed" == Value.type "type")=false:=by decide +kernel
  have h2:((Manifest.find? "reversed").bind (·.mro.findSome? fun t=>(Manifest.find? t).bind fun b=>if b.noNew then some true else if b.attrs.any (·.1 == "__new__") then some false else none)).getD false=false:=by decide +kernel
  repeat (any_goals first | wp_step | assumption)
  refine gU (jT (by decide +kernel) Rv.gO (kP (Rv.xM _) (WZ l items prog w A.in1
    (wants (fun obj s1=>obj = .ref s.heap.objs.size/\s1 = { s with heap:=s.heap.push (By l items.size) }) E) s ⟨hl,rfl,rfl⟩))) fun r s1 hr=>?_
  cases r with
  | error e=>exact hr
  | ok fl=>
    cases fl with
    | ret obj=>
      obtain⟨rfl,rfl⟩:=hr;have hT:({ s with heap:=s.heap.push (By l items.size) }:au).TypeIs (.ref s.heap.objs.size) "list_reverseiterator":=⟨_,bO _ rfl,rfl⟩;have W4:=Rv.Ax
      repeat (any_goals first | wp_step | assumption)
    | _=>exact hr.elim
end
def Eb (K:aF) (te:TE):TI:=fun σ H R=>te σ H fun x H1=>∃l xs,x = .ref l/\aJ K H1 l xs/\R (Bx K l xs) H1
section
variable {X:Cx}{tg:Expr}
theorem W6 {e:Expr}{te:TE}{p pos:Pos}(hg:Gl X "reversed") (hm:X.mg "reversed" = none) (he:PE X e te) (hs:starEach [e] X.env = [(false,eval e X.env)]:=by rfl) :
    PI X tg (.Call (.Name "reversed" p) [e] [] pos) (Eb X.K te):=by
  intro pins s σ H R I h;refine Call_ (B0 I hg hm boot_reversed (qB (cA (za he zf hs pos pins s σ H (fun vs H1=>match vs with | [x]=>∃l xs,x = .ref l/\aJ X.K H1 l xs/\R (Bx X.K l xs) H1 | _=>False) I h) fun us s1 bg=>?_) (by rw[hs];rfl) rfl));obtain⟨vs,H1,I1,r1,q1⟩:=bg
  match vs,q1 with
  | [x],q1=>
    obtain⟨l,xs,rfl,hl,q⟩:=q1;obtain⟨u,rfl,ru⟩:=qj r1;cases ru;obtain⟨its,rv,pl,hz⟩:=I1.list hl;have hn:=rv.length;refine W0 pl.isList (Ox (j:=(its.toArray.size:Int)-1) ⟨_,bO _ rfl,rfl,rfl⟩ ?_);refine⟨s1.heap.objs.size,[s1.heap.objs.size],_,_,H1,rfl,I1.kept (t':=s1.toks) fun b o e=>bC _ e,WX l _ xs,⟨_,bO _ rfl,rfl,?_⟩,fun b hb=>?_,q⟩
    · show Data.fields #[.ref l,rawInt ((its.toArray.size:Int)-1)] = .fields #[.ref l,.int ((xs.length:Int)-1-(0:Nat)) 0];rw[bS,hn];simp[rawInt]
    · have e:b=s1.heap.objs.size:=by simpa using hb
      subst e;exact I1.oV (aH _) (I1.bA.fresh (aH _))
theorem W7 {e:Expr}{te:TE}{p pos:Pos}(K:aF) (h:X.K=K) (hg:Gl X "reversed") (hm:X.mg "reversed" = none) (he:PE X e te) (hs:starEach [e] X.env = [(false,eval e X.env)]:=by rfl) :
    PI X tg (.Call (.Name "reversed" p) [e] [] pos) (Eb K te):=h▸W6 hg hm he hs
theorem W8 {K:aF}{a:ah}{xs:List V}{g:TG}{tb:TS}{D:Ends}{σ:St}{H:Hp}(Pv:Nat->St->Hp->Prop) (h0:Pv 0 σ H) (hl:∀i σ H,i<=xs.length->Pv i σ H->aJ K H a xs)
    (hs:∀i x σ H,xs.reverse[i]? = some x->Pv i σ H->g x σ H fun nG H2=>tb { D with nx:=Pv (i+1),ct:=Pv (i+1),bk:=D.nx } nG H2) (hd:∀σ H,Pv xs.length σ H->D.nx σ H) :
    ∃W:Nat->Nat->St->Hp->Prop,(∃m,W 0 m σ H)/\∀i m σ H,W i m σ H->
      ((Bx K a xs).stop i H/\D.nx σ H)\/((Bx K a xs).go i H/\∃N:St->Hp->Prop,(∀aK H',N aK H'->∃m',m'<m/\W (i+1) m' aK H')/\∀x H',(Bx K a xs).ue i H x H'->g x σ H' fun nG H2=>tb { D with nx:=N,ct:=N,bk:=D.nx } nG H2):=by
  refine⟨fun i m σ H=>m=xs.length-i/\i<=xs.length/\Pv i σ H,⟨xs.length,by simp,dj _,h0⟩,?_⟩;rintro i m σ H ⟨rfl,hi,p⟩;have q:=hl i σ H hi p
  by_cases cQ:i<xs.length
  · refine .inr ⟨⟨q,cQ⟩,Pv (i+1),fun aK H' p'=>⟨xs.length-(i+1),by lia,rfl,cQ,p'⟩,fun x H' y=>?_⟩;obtain⟨e,y⟩:=y;subst e;exact hs i x σ _ y p
  · have e:i=xs.length:=by lia
    subst e;exact .inl ⟨aH _,hd σ H p⟩
end
theorem W9 (a b:ah) (ha:(a == sysModules)=false) (hb:(b == sysModules)=false) (es:Array DictEntry) (ep wY:Nat) :
    Meets (Builtin.«dict.__ne__» ⟨[.ref a,.ref b],[]⟩) (fun _ R s=>j6 s.heap a es ep/\j6 s.heap b #[] wY/\R (.ok (.ret (.bool (!decide (es.size=0))))) s):=
  .of_wp fun prog w A R s h=>by
    obtain⟨h1,h2,h⟩:=h;have t1:=h1.typeIs;have t2:=h2.typeIs;obtain⟨o1,g1,c1,d1⟩:=h1;obtain⟨o2,g2,c2,d2⟩:=h2;have sub:=Rv.vq
    wp_walk
    rw[d1];refine az ?_;show wpAny _ _ (dictEntries b >>= _) _ _ _;refine aj (oK g2 d2 ?_)
    by_cases e:es.size=0
    · rw[ao (by rw[e];simp)];rw[aO e] at h;have e':es = #[]:=Array.eq_empty_of_size_eq_zero e;subst e';refine aj (oR g1 d1 ?_);simp
      wp_walk
      exact⟨_,rfl,h⟩
    · rw[aq (by simp[e])];rw[aV e] at h;refine aj (gv (az ?_));exact az ⟨_,rfl,h⟩
section
variable {X:Cx}
theorem Xa (hu:X.A.units+9<cLine):iZ X (compareOp .NotEq) (fun x y H Q=>∃p q kvs,x = .ref p/\y = .ref q/\Rd H p (.dK kvs)/\H q=some (.dK [])/\Q (.bl (!decide (kvs = []))) H):=by
  intro pins s σ H x y v u Q I rx ry h;obtain⟨p,q,kvs,rfl,rfl,hp,hq,k⟩:=h;cases rx;cases ry;obtain⟨z,hs,vs,rel,o,es,ep,e,ex,dt,kk,pr,nd⟩:=wj I.bA hp;obtain⟨z',yr,Bw,JJ,o',yj,wY,e',G7,Xb,kk',Xc,nd'⟩:=wj I.bA (.inl hq);have l1:kvs.length=vs.length:=Paired.length rel;have l2:es.size=vs.length:=by rw[←pr.length];simp
  have l3 : [].length=Bw.length:=Paired.length JJ;have l4:yj.size=Bw.length:=by rw[←Xc.length];simp
  have e0:yj = #[]:=Array.eq_empty_of_size_eq_zero (by rw[l4,←l3];rfl);subst e0;refine richCompare_meets_room (op:=.NotEq) ⟨o,e,ex.1⟩ ⟨o',e',G7.1⟩ PySem.F.slot_dict_ne PySem.F.entry_dict_ne (PySem.F.args_dict_ne_2 _ _) (W9 p q hs yr es ep wY) ⟨⟨o,e,ex,dt⟩,⟨o',e',G7,Xb⟩,?_⟩ (by lia);refine⟨(fun x=>nomatch x),.bl (!decide (kvs = [])),H,I,?_,k⟩;show Value.bool _=Value.bool _
  congr 2
  exact jw.mpr ⟨fun z=>List.eq_nil_of_length_eq_zero (by lia),fun z=>by rw[z] at l1;simp at l1;lia⟩
end
theorem i9 {K:aF}{C D:ah}{b:Bool}{cd:ClassData}(h1:PySem.W.clsIn K D=some cd) (h2:PySem.W.typeIn K (.ref D)=some (.type "type")) (h3:PySem.W.subIn K (.ref C) (.ref D)=some b) (h4:(Value.ref C == Value.ref D)=true->b=true):PySem.W.kitOne K (.ref C) (.ref D)=some b:=by
  unfold PySem.W.kitOne;split
  · rename_i h;rw[h4 h]
  · unfold PySem.W.kitCls;dsimp only;rw[h1,h2,h3];rfl
section
variable {prog:aU}{w:World}{A:Around}{E:aA}{s:au}{K:aF}{x C:ah}{ox:Obj}{name:Str}{v:ai}
theorem Xd {od:Option Obj}{a g:ai}(hc:(PySem.W.clsIn K C).isSome=true) (ha:PySem.W.findIn K (.ref C) name=some (some a)) (hg:PySem.W.specialIn K a "__get__" = some (some g)) (ht:PySem.W.takesIn K a=some true):PySem.W.findObj K C od name=some (.bind g a):=by
  obtain⟨cd,hc⟩:=qE.mp hc;unfold PySem.W.findObj;rw[hc,Option.bind_some,ha,Option.bind_some];simp[hg,ht]
theorem Xe {Q:Option ai->au->Prop}(X:K.In s.heap) {od:Option Obj}(I:PySem.W.InstAt s.heap x ox C od) (g:jO K C) (i:nR K C) (h:Q (some (.ref C)) { s with toks:=s.toks+1 }):wpAny (model prog w) A (getAttr? (.ref x) "__class__") Q E s:=by
  have hf:PySem.W.findObj K C od "__class__" = some (.bind (.builtin "getset_descriptor.__get__") (.builtin "object.__class__")):=Xd (by obtain⟨cd,hc,_⟩:=PySem.W.any_some g.hd;rw[hc];rfl) i.ha i.hn i.Oo;refine aj (wpAny_mkText (aj (iO (Ow (s:={ s with toks:=s.toks+1 }) X I g ?_))));have L0:=I.type (M:=model prog w);have L1:=PySem.W.looks_find (M:=model prog w) X I hf;unfold Builtin.«object.__getattribute__»;refine aj (az (aj (az (aj (L0 _ _ _ _ (fun _ _ e=>e) (aj (L1 _ _ _ _ (fun _ _ e=>e) ?_)))))));show wpAny (model prog w) A.in1 (holding [.builtin "object.__class__"] (call (.builtin "getset_descriptor.__get__") [.builtin "object.__class__",.ref x,.ref C]) >>= ret) _ _ _;refine aj (cT (eG (PySem.W.class_get (s:={ s with toks:=s.toks+1 }) X I i.hm ?_)));exact az (PySem.W.handed_on rfl (az h))
theorem Xf {od:Option Obj}(g:jO K C) (i:nR K C):PySem.W.KitX K (.ref x) (.ref C) (fun h=>PySem.W.InstAt h x ox C od) where
  ty:=fun _ _ _ I=>I.type
  it:=fun _ _ X _=>by
    obtain⟨JG,pX,_⟩:=PySem.W.any_some g.hd;unfold PySem.W.clsIn at pX;split at pX
    · rename_i c' d' JH yX ho;intro A' Q' E' s' k q;unfold isType loadHead;exact aj (wpAny_loadPart (k _ _ (X _ _ ho)) (az q))
    · cases pX
  ne:=fun h tp dd its n sl X JI=>by
    obtain⟨JG,pX,_⟩:=PySem.W.any_some g.hd;refine Bool.eq_false_iff.mpr fun q=>?_
    have e:C=tp:=Value.ref.inj (jL.mp q);subst e;unfold PySem.W.clsIn at pX;split at pX
    · rename_i c' d' JH yX ho;have z:=(X _ _ ho).symm.trans JI;cases z
    · cases pX
  ca:=fun X I k=>Xe X I g i k
end
section
variable {X:Cx}
theorem Xg {pins:aG}{σ:St}{H:Hp}{s:au}{a C:ah}{c:ai}{b:Bool}{Q:VK}(I:Inv X pins σ H s) (ea:H a=some (fZ a C none)) (g:jO X.K C) (i:nR X.K C) (e:PySem.W.kitOne X.K (.ref C) c=some b) (q:Q (.bl b) H) :
    wpAny (model X.prog X.w) X.A (call (.builtin "isinstance") [.ref a,c]) (EP X pins σ Q) X.xe s:=by
  obtain⟨⟨oe,vs,h1,h2,h3,h4⟩,_,_⟩:=(show bU X.prog X.w H s.heap a (fZ a C none) from I.bA a _ ea);have J:PySem.W.InstAt s.heap a oe C none:=⟨h1,h2,by unfold PySem.W.notCls;rw[h4],by rw[h3];trivial⟩;exact PySem.W.kia_one (Xf g i) I.lF J e (fun z=>nomatch z) fun tk=>⟨.bl b,H,I.tok tk,rfl,q⟩
end
section
variable {X:Cx}
theorem OA (K:aF) (hK:X.K=K):iZ X (binaryOp .Add) (fun x y H Q=>∃l b xs zs,x = .ref l/\y = .ref b/\aJ K H l xs/\aJ K H b zs/\xs.length+zs.length<=sizeLine/\∀p,H p=none->Q (.ref p) (upd H p (.lst (xs++zs)))):=by
  subst hK;intro pins s σ H x y v u Q I rx ry h;obtain⟨l,b,xs,zs,rfl,rfl,hH,hB,hz,q⟩:=h;cases rx;cases ry;obtain⟨its,r,hl,z⟩:=I.list hH;obtain⟨dU,r2,nA,z2⟩:=I.list hB;have e1:=r.length;have e2:=r2.length;obtain⟨⟨cls,dd,data,sl⟩,ho,hc,n,hd⟩:=hl.isList;obtain⟨⟨HD,Fx,data2,Fy⟩,zL,zM,n2,hd2⟩:=nA.isList;simp only at hc hd zM hd2;subst hc hd zM hd2;have e:its.toArray++dU.toArray=(its++dU).toArray:=by simp
  refine concat_meets ⟨_,ho,rfl⟩ ⟨_,zL,rfl⟩ noFill_list_add seq_list_add PySem.F.slot_list_add PySem.F.entry_list_add (PySem.F.args_list_add_2 _ _) (list_addW l b its.toArray dU.toArray n n2 dd Fx sl Fy (by rw[bS,bS];lia)) ⟨ho,zL,?_⟩;rw[e];exact⟨.ref _,_,I.zS (t':=s.toks) (r.append r2) (by rw[bL];lia),rfl,q _ I.fresh⟩
end
section
variable {P:aU}{w:World}{K:aF}{mg:Str->Option ai}{base:Heap}
theorem eX.x {x:Str}{ps:List Str}{k:Nat}{sp:Sp}(F:eX P w K mg base x ps k sp):d7 P w K mg base x ps k sp:=by
  obtain⟨f,fd,a,kp,lk,b,F⟩:=F;refine⟨f,fd,a,kp,lk,b,F.len,fun A outer s H args us vs Q E hr he hb hv hs=>?_⟩;refine gU (F.run A outer s H args us vs Q E hr he hb hv hs) fun r s' hq=>?_
  cases r with
  | ok fl=>
    cases fl with
    | ret u=>exact hq
    | next=>exact False.elim hq
    | brk=>exact False.elim hq
    | cont=>exact False.elim hq
  | error e=>exact False.elim hq
theorem d7.or {x:Str}{ps:List Str}{k:Nat}{OB OC:Sp}(F:d7 P w K mg base x ps k OB) (G:d7 P w K mg base x ps k OC):d7 P w K mg base x ps k (fun vs H Q E=>OB vs H Q E\/OC vs H Q E):=by
  obtain⟨f,fd,a,kp,⟨oc,od,nI,lk⟩,b,F⟩:=F;obtain⟨f',S1,a',C7,⟨S2,S3,Io,FO⟩,b',G⟩:=G;have e:f=f':=Value.ref.inj (cX (a.symm.trans a'));subst e;have e2:=cX (lk.symm.trans FO);injection e2 with _ _ h _
  injection h with h
  subst h;refine⟨f,fd,a,kp,⟨oc,od,nI,lk⟩,b,fun vs H Q E h=>h.elim (F.len vs H Q E) (G.len vs H Q E),fun A outer s H args us vs Q E hr he hb hv hs=>?_⟩;rcases hs with hs | hs
  · exact F.run A outer s H args us vs Q E hr he hb hv hs
  · exact G.run A outer s H args us vs Q E hr he hb hv hs
end
section
variable {X:Cx}
theorem Gz (K:aF) (h:X.K=K):oW X (.builtin "isinstance") (fun xs H Q=>∃a C dc D b,xs = [.ref a,.ref D]/\H a=some (fZ a C dc)/\(∀d,dc=some d->∃fs,H d=some (.xd fs))/\jO K C/\nR K C/\PySem.W.kitOne K (.ref C) (.ref D)=some b/\Q (.bl b) H):=by
  subst h;intro pins s σ H xs us Q I r h;obtain⟨a,C,dc,D,b,rfl,ea,hd,g,i,e,q⟩:=h;obtain⟨u,w',rfl,ru,iY⟩:=Cp r;cases ru;cases iY;cases dc with
  | none=>exact Xg I ea g i e q
  | some d=>
    obtain⟨fs,ed⟩:=hd d rfl;exact WR I ea ed g i e q
end
section
variable {X:Cx}{pos:Pos}
theorem sset {i:Nat}{x:Str}{e:Expr}{te:TE}{pos':Pos}(hN:X.N.Nodup) (he:PE X e te) (hi:X.N[i]? = some x:=by rfl) (hx:Loc X.env.scope x:=by first | exact Or.inl rfl | exact Or.inr rfl) (hs:swapsWith e (some (.Name x pos')) pos.line X.env=pure false:=by rfl) (hf:X.fn x=true\/X.env.scope.names.lookup x=some .local:=by first | exact .inl rfl | exact .inr rfl | assumption):PS X (.Assign [.Name x pos'] e pos) (zA te (zx i)):=Q3 hN hi hx he hs hf
theorem fE {i:Nat}{x:Str}(hN:X.N.Nodup) (hi:X.N[i]? = some x:=by rfl) (hx:Loc X.env.scope x:=by first | exact Or.inl rfl | exact Or.inr rfl) (hf:X.fn x=true\/X.env.scope.names.lookup x=some .local:=by first | exact .inl rfl | exact .inr rfl | assumption):PG X (.Name x pos) (zx i):=mS hN hi hx hf
theorem aR {a b:Expr}{ta tb:TE}{r:R2}(hr:zP X r) (ha:PE X a ta) (hb:PE X b tb) (hs:Lw b:=by exact fun _ _=>rfl):PE X (.Subscript a b pos) (A5 r ta tb):=RO hr ha hb hs
end
section
variable {X:Cx}{x:Str}{ps:List Str}{k:Nat}{sp:Sp}{e:Expr}{es:List Expr}{t:TA}{p pos:Pos}
theorem bw (F:eX X.prog X.w X.K X.mg X.base x ps k sp) (ha:PA X (e::es) t) (hr:cV k X.A:=by exact cV.mono (by assumption) (by decide)) (hg:Gl X x:=by rfl) (j0:(x == ("__debug__" : Str))=false:=by decide)
    (he:starEach (e::es) X.env=(false,eval e X.env)::starEach es X.env:=by rfl) (kq:(backTo pos (starEach es X.env)).any (·.1)=false:=by rfl):PE X (.Call (.Name x p) (e::es) [] pos) (Fv sp [] E0 t):=S0 F hr hg ha j0 he kq
end
theorem fF {N P:List Str}{sc:Scope}(h1:sc.kind = .function:=by rfl) (h2:sc.isCoroutine=false:=by rfl) (h3:sc.isGenerator=false:=by rfl) (h4:N.Nodup:=by decide +kernel) (h5:N.take P.length=P:=by rfl) (h6:∀x∈P,sc.names.lookup x=some .local\/sc.names.lookup x=some .cell:=by decide +kernel) (h7:∀y∈sc.names,y.2≠.free:=by decide +kernel):aE N P sc:=⟨h1,h2,h3,h4,h5,h6,h7⟩
end L2
namespace LK48
open PySem L2 Dm PySem.NumText
def top (i:Nat):Stmt:=PySem.Challenge.pw_digmatrix_k48_refused_alike.main.body.getD i (.Pass ⟨0,0,0,0⟩)
structure Tx (K:aF) (mg:Str->Option ai) (w:World) (zj:ah) (zm:ah) (zg:ah) (zp:ah):Prop where
 JK:mg "DigError" = some (.ref zj)
 Xh:rq K zj
 OD:yL K zj
 JL:mg "Round" = some (.ref zm)
 Xi:tD K zm
 OE:Aw K zm
 GA:jO K zm
 JM:nR K zm
 Xj:Ds K zm "Round.__init__" "__init__" (FJ (top 2) 0) ["self","ties"]
 OF:gw K zm "ties"
 JN:mg "NoDating" = some (.ref zg)
 Xk:tD K zg
 OG:Aw K zg
 GB:jO K zg
 JO:nR K zg
 Xl:Ds K zg "NoDating.__init__" "__init__" (FJ (top 3) 0) ["self","row"]
 OH:gw K zg "row"
 OI:mg "NoYear" = some (.ref zp)
 OJ:Aw K zp
 OL:jO K zp
 OM:nR K zp
 ON:PySem.W.findIn K (.ref zp) "__init__" = some (some (.builtin "ValueError.__init__"))
 Xm:PySem.W.mroIn K zm (.ref zj)=some true
 Xn:PySem.W.mroIn K zg (.ref zj)=some true
 Xo:PySem.W.mroIn K zp (.ref zj)=some true
 Xp:PySem.W.kitOne K (.ref zm) (.ref zm)=some true
 OO:PySem.W.kitOne K (.ref zm) (.ref zg)=some false
 OP:PySem.W.kitOne K (.ref zg) (.ref zm)=some false
 Xq:PySem.W.kitOne K (.ref zg) (.ref zg)=some true
 Xr:PySem.W.kitOne K (.ref zp) (.ref zm)=some false
 Xs:PySem.W.kitOne K (.ref zp) (.ref zg)=some false
 Xu:Df K mg "one_names" (top 6) ["units","ties"]
 Xv:Df K mg "join_ones" (top 7) ["names","first","second"]
 Xw:Df K mg "ones" (top 8) ["units","ties"]
 Xx:Df K mg "ties_beneath" (top 9) ["telling"]
 Xy:Df K mg "shortest_round" (top 11) ["telling"]
 Xz:Df K mg "round_through" (top 12) ["start","beneath"]
 OQ:Df K mg "refuse_round" (top 13) ["telling"]
 OR:Df K mg "order" (top 14) ["telling"]
 XA:Df K mg "least_free" (top 15) ["beneath","placed"]
 XC:Df K mg "rests_on" (top 16) ["lowers","placed"]
 XD:Df K mg "gap_of" (top 18) ["tie"]
 XE:Df K mg "finds_within" (top 19) ["telling"]
 XF:Df K mg "floors" (top 20) ["telling"]
 XG:Df K mg "ceilings" (top 21) ["telling"]
 XH:Df K mg "bare_chains" (top 22) ["bounds"]
 XI:Df K mg "led_up" (top 23) ["chain","tie"]
 XJ:Df K mg "one_tie_longer" (top 24) ["beneath","chains"]
 XM:Df K mg "impossible_row" (top 25) ["telling"]
 XN:Df K mg "refuse_undated" (top 26) ["telling"]
 XO:Df K mg "chains_up" (top 28) ["telling"]
 XQ:Df K mg "chains_down" (top 29) ["telling"]
 XR:Df K mg "led_down" (top 30) ["chain","tie"]
 OS:Df K mg "reasons" (top 31) ["telling","name"]
 OT:Df K mg "all_beneath" (top 33) ["telling"]
 OU:Df K mg "drawn" (top 34) ["telling"]
 XS:Df K mg "lies_between" (top 35) ["depths","upper","lower"]
 OV:Df K mg "walk" (top 36) ["telling","upper","lower"]
 XT:Df K mg "step_towards" (top 37) ["end","name","pairs","depths"]
 OW:Df K mg "levels" (top 39) ["telling"]
 XU:Df K mg "spans" (top 41) ["telling"]
 OX:Df K mg "dating" (top 42) ["telling","name","year"]
 XW:Df K mg "_law_cell_at" (top 44) ["_law_script","_law_k"]
 XX:Df K mg "_law_part" (top 45) ["_law_cell","_law_k","_law_many"]
 XY:Df K mg "_law_names" (top 46) ["_law_one","_law_other"]
 XZ:Df K mg "_law_number" (top 47) ["_law_cell"]
 X0:Df K mg "_law_tie" (top 48) ["_law_names_here","_law_places","_law_many","_law_cell","_law_around"]
 X3:Df K mg "_law_ties" (top 49) ["_law_names_here","_law_places","_law_many","_law_cells","_law_around"]
 X4:Df K mg "_law_frame" (top 50) ["_law_cell"]
 X5:Df K mg "_law_finds" (top 51) ["_law_names_here","_law_many","_law_frame_here","_law_cells"]
 X6:Df K mg "_law_telling" (top 52) ["_law_script","_law_around"]
 X7:Df K mg "_law_copy" (top 53) ["_law_telling_here"]
 X8:Df K mg "_law_ones" (top 54) ["_law_telling_here"]
 Yb:Df K mg "_law_narrow" (top 56) ["_law_telling_here","_law_cell"]
 Yc:Df K mg "_law_ask" (top 57) ["_law_way","_law_telling_here","_law_name","_law_other"]
 Yd:Df K mg "_law_word" (top 58) ["_law_way","_law_telling_here","_law_name","_law_other"]
 Ye:Df K mg "_law_is_round" (top 59) ["_law_telling_here","_law_ring","_law_many"]
 Yg:Df K mg "law" (top 60) ["_law_script"]
 min:mg "min" = none
 list:mg "list" = none
 sorted:mg "sorted" = none
 all:mg "all" = none
 reversed:mg "reversed" = none
 any:mg "any" = none
 range:mg "range" = none
 len:mg "len" = none
 max:mg "max" = none
 isinstance:mg "isinstance" = none
theorem Tx.ex {K:aF}{mg:Str->Option ai}{w:World}{zj:ah}{zm:ah}{zg:ah}{zp:ah}(T:Tx K mg w zj zm zg zp):∃zj,∃zm,∃zg,∃zp,Tx K mg w zj zm zg zp:=⟨_,_,_,_,T⟩
theorem fG:aE ["units","ties","names","unit","tie"] ["units","ties"] (zq (top 6)):=fF
theorem gX:aE ["names","first","second","least","unit"] ["names","first","second"] (zq (top 7)):=fF
theorem lX:aE ["units","ties","names","members","unit"] ["units","ties"] (zq (top 8)):=fF
theorem cM:aE ["telling","names","beneath","members","tie"] ["telling"] (zq (top 9)):=fF
theorem bP:aE ["telling","beneath","shortest","name","ties"] ["telling"] (zq (top 11)):=fF
theorem bh:aE ["start","beneath","met","ways","longer","name","ties","lower","tie"] ["start","beneath"] (zq (top 12)):=fF
theorem dD:aE ["telling","ties"] ["telling"] (zq (top 13)):=fF
theorem gP:aE ["telling","beneath","placed"] ["telling"] (zq (top 14)):=fF
theorem jz:aE ["beneath","placed","free"] ["beneath","placed"] (zq (top 15)):=fF
theorem Yh:aE ["lowers","placed"] ["lowers","placed"] (zq (top 16)):=fF
theorem Yi:aE ["tie"] ["tie"] (zq (top 18)):=fF
theorem cN:aE ["telling","names","within","members","find"] ["telling"] (zq (top 19)):=fF
theorem jc:aE ["telling","within","starts","name"] ["telling"] (zq (top 20)):=fF
theorem gk:aE ["telling","within","ends","name"] ["telling"] (zq (top 21)):=fF
theorem fU:aE ["bounds","chains","name"] ["bounds"] (zq (top 22)):=fF
theorem Yj:aE ["chain","tie"] ["chain","tie"] (zq (top 23)):=fF
theorem bQ:aE ["beneath","chains","longer","name","lower","tie","chain"] ["beneath","chains"] (zq (top 24)):=fF
theorem bR:aE ["telling","beneath","ends","chains","name"] ["telling"] (zq (top 25)):=fF
theorem gm:aE ["telling","row"] ["telling"] (zq (top 26)):=fF
theorem cJ:aE ["telling","beneath","chains","name","lower","tie","chain"] ["telling"] (zq (top 28)):=fF
theorem bW:aE ["telling","beneath","chains","name","lower","tie","chain"] ["telling"] (zq (top 29)):=fF
theorem Yk:aE ["chain","tie"] ["chain","tie"] (zq (top 30)):=fF
theorem cZ:aE ["telling","name","one","up","down"] ["telling","name"] (zq (top 31)):=fF
theorem aW:aE ["telling","straight","depths","name","lower","tie"] ["telling"] (zq (top 33)):=fF
theorem cD:aE ["telling","straight","depths","pairs","name","lower","tie"] ["telling"] (zq (top 34)):=fF
theorem Yl:aE ["depths","upper","lower"] ["depths","upper","lower"] (zq (top 35)):=fF
theorem dF:aE ["telling","upper","lower","names","depths","end","pairs","path"] ["telling","upper","lower"] (zq (top 36)):=fF
theorem iw:aE ["end","name","pairs","depths","steps"] ["end","name","pairs","depths"] (zq (top 37)):=fF
theorem cz:aE ["telling","beneath","numbers","rows","name","number"] ["telling"] (zq (top 39)):=fF
theorem nv:aE ["telling","ups","downs"] ["telling"] (zq (top 41)):=fF
theorem dS:aE ["telling","name","year","one","finds","chains"] ["telling","name","year"] (zq (top 42)):=fF
theorem Ym:aE ["_law_script","_law_k"] ["_law_script","_law_k"] (zq (top 44)):=fF
theorem Yn:aE ["_law_cell","_law_k","_law_many"] ["_law_cell","_law_k","_law_many"] (zq (top 45)):=fF
theorem aZ:aE ["_law_one","_law_other","_law_signs","_law_size","_law_at","_law_turned","_law_names_here","_law_k","_law_name","_law_j","_law_number_here"] ["_law_one","_law_other"] (zq (top 46)):=fF
theorem iX:aE ["_law_cell","_law_some"] ["_law_cell"] (zq (top 47)):=fF
theorem c7:aE ["_law_names_here","_law_places","_law_many","_law_cell","_law_around","_law_a","_law_b","_law_kind"] ["_law_names_here","_law_places","_law_many","_law_cell","_law_around"] (zq (top 48)):=fF
theorem fH:aE ["_law_names_here","_law_places","_law_many","_law_cells","_law_around","_law_ties_here","_law_cell","_law_tie_here"] ["_law_names_here","_law_places","_law_many","_law_cells","_law_around"] (zq (top 49)):=fF
theorem jA:aE ["_law_cell","_law_first"] ["_law_cell"] (zq (top 50)):=fF
theorem cO:aE ["_law_names_here","_law_many","_law_frame_here","_law_cells","_law_finds_here","_law_k","_law_cell","_law_low","_law_high"] ["_law_names_here","_law_many","_law_frame_here","_law_cells"] (zq (top 51)):=fF
theorem bK:aE ["_law_script","_law_around","_law_names_here","_law_places","_law_many","_law_frame_here","_law_turn","_law_units","_law_ties_here"] ["_law_script","_law_around"] (zq (top 52)):=fF
theorem Yo:aE ["_law_telling_here"] ["_law_telling_here"] (zq (top 53)):=fF
theorem c9:aE ["_law_telling_here","_law_label","_law_name","_law_k","_law_tie_here","_law_least"] ["_law_telling_here"] (zq (top 54)):=fF
theorem d8:aE ["_law_telling_here","_law_cell","_law_finds_here","_law_find","_law_far"] ["_law_telling_here","_law_cell"] (zq (top 56)):=fF
theorem Yp:aE ["_law_way","_law_telling_here","_law_name","_law_other"] ["_law_way","_law_telling_here","_law_name","_law_other"] (zq (top 57)):=fF
theorem cK:aE ["_law_way","_law_telling_here","_law_name","_law_other","_law_found","e"] ["_law_way","_law_telling_here","_law_name","_law_other"] (zq (top 58)):=fF
theorem eS:aE ["_law_telling_here","_law_ring","_law_many","_law_label","_law_k"] ["_law_telling_here","_law_ring","_law_many"] (zq (top 59)):=fF
theorem gY:aE ["_law_script","_law_telling_here","_law_name","_law_other","_law_many","_law_handed","_law_words","_law_alike"] ["_law_script"] (zq (top 60)):=fF
theorem Yq:aE ["self","ties"] ["self","ties"] (zq (FJ (top 2) 0)):=fF
theorem Yr:aE ["self","row"] ["self","row"] (zq (FJ (top 3) 0)):=fF
section
variable {P:aU}{w:World}{K:aF}{mg:Str->Option ai}{base:Heap}{zj:ah}{zm:ah}{zg:ah}{zp:ah}
local macro_rules | `(tactic| walk_at "rd")=>`(tactic| repeat (first | refine⟨_,rfl,?_⟩ | refine⟨_,_,rfl,rfl,?_⟩ | refine⟨_,_,_,rfl,?_⟩))
local macro_rules | `(tactic| walk_at "rd")=>`(tactic| repeat (first | refine⟨_,rfl,?_⟩ | refine⟨_,_,rfl,rfl,?_⟩ | refine⟨_,_,_,rfl,?_⟩))
inductive vt (vs:List V) (H:Hp) (Q:VK):Prop
 | mk (a:ah) (ns:List Int) (i:Int) (_:vs = [.ref a,.int i]) (_:aJ K H a (ns.map V.int)) (_:0<=i) (_:Q (.int (lT ns i)) H)
def Ys:Sp:=fun vs H Q _=>vt (K:=K) vs H Q
theorem wI (T:Tx K mg w zj zm zg zp):eX P w K mg base "_law_cell_at" ["_law_script","_law_k"] 1 (Ys (K:=K)):=by
 refine T.XW.has Ym (fun vs H Q E h=>?_) (fun f bX A outer s H vs Q E hr h=>?_)
 ·obtain⟨a,ns,i,rfl,_⟩:=h;rfl
 ·obtain⟨a,ns,i,rfl,ha,h0,k⟩:=h;refine⟨_,(zc (fQ (e7 A6 (pv 1) (jf (r9 K rfl) (by rfl) T.len cP (za (pv 0) zf)) (dW _)) (zi (zz (aR (gJ K rfl) (pv 0) (pv 1)))) fW)
   (zi (zz zh))),?_⟩
  refine⟨_,rfl,_,rfl,a,_,rfl,.inl ha,_,_,rfl,rfl,_,rfl,?_⟩;refine bZ (fun c=>?_) (fun c=>?_)
  ·have c:=aP c;rw[ay] at c;have hi:i.toNat<ns.length:=by lia
   refine⟨_,rfl,_,rfl,a,_,i,.int (lT ns i),rfl,rfl,ha,?_,k⟩;have e:lT ns i=ns[i.toNat]:=by unfold lT;rw[cR,bz hi];rfl
   have:=nJ (xs:=ns.map V.int) (j:=i.toNat) (v:=.int (lT ns i)) (by rw[e];simp[hi]);rw[mC h0] at this;exact this
  ·have c:¬i<((ns.map V.int).length:Int):=fun z=>c (aO z)
   rw[ay] at c;have e:lT ns i=0:=by unfold lT;rw[cR,qK (by lia)];rfl
   rw[e] at k;exact k
def Yt:Sp:=fun vs H Q _=>∃c k m:Int,vs = [.int c,.int k,.int m]/\0<m/\Q (.int (pt c k m)) H
theorem zy (T:Tx K mg w zj zm zg zp):eX P w K mg base "_law_part" ["_law_cell","_law_k","_law_many"] 1 Yt:=by
 refine T.XX.has Yn (fun vs H Q E h=>?_) (fun f bX A outer s H vs Q E hr h=>?_)
 ·obtain⟨c,i,m,rfl,_⟩:=h;rfl
 ·obtain⟨c,i,m,rfl,hm,k⟩:=h;refine⟨_,(zi (zz (gf zI (gf zI (gf Fl (gf zI (gf Fl (gf pP (gf zI (pv 0) zh) zh) (gf pP zh (gf Fl zh (pv 1)))) zh) (gf pP (pv 1) zh)) zh) (pv 2)))),?_⟩;have b1:=mP c (show (99991:Int)≠0 by decide);have b2:=mE c (show (0:Int)<99991 by decide);have b3:=mP ((c%99991+17) * (48271+7919 * i)) (show (65537:Int)≠0 by decide);have b4:=mE ((c%99991+17) * (48271+7919 * i)) (show (0:Int)<65537 by decide)
  walk_at "rd"
  refine⟨(by decide:(0:Int)<99991),?_⟩
  walk_at "rd"
  refine⟨.inl ⟨by decide,by decide⟩,?_⟩
  walk_at "rd"
  refine⟨.inl ⟨by lia,by lia⟩,?_⟩
  walk_at "rd"
  refine⟨(by decide:(0:Int)<65537),?_⟩
  walk_at "rd"
  refine⟨.inl ⟨by lia,by lia⟩,?_⟩
  walk_at "rd"
  refine⟨(by decide:(0:Int)<8191),?_⟩
  walk_at "rd"
  exact⟨hm,k⟩
theorem Yu:Ck 10 56:=⟨by decide,by decide,by decide⟩
theorem OY:(0:Int)<10 ^ (56:Int).toNat:=by decide
theorem OZ (z:Int) (one at':Int) (k j:Nat) (h:z=uW one at' k j):kr dQ.cps.toList (z%37)=some (qt one at' k j):=by
 obtain⟨h0,h1⟩:=sQ z;subst h;have:=nJ (xs:=co dQ) (j:=(uW one at' k j%37).toNat) (v:=qt one at' k j) (by unfold qt;rw[cR,bz h1];rfl);rw[mC h0] at this;exact this
def Yv:Sp:=fun vs H Q _=>∃one other:Int,vs = [.int one,.int other]/\∀(p:ah) (xs:List Str) (H':Hp),xs.length=8->xs.Nodup->(∀x∈xs,sP x=true)->H p=none->H' p=some (.lst (xs.map V.str))->ak H H'->Q (.ref p) H'
set_option maxHeartbeats 4000000 in
theorem Yw (T:Tx K mg w zj zm zg zp):eX P w K mg base "_law_names" ["_law_one","_law_other"] 2 Yv:=by
 refine T.XY.has aZ (fun vs H Q E h=>?_) (fun f bX A outer s H vs Q E hr h=>?_)
 ·obtain⟨one,other,rfl,_⟩:=h;rfl
 ·obtain⟨one,other,rfl,k⟩:=h;refine⟨_,(zc (sset (i:=2) aZ.nd ig)
   (zc (sset (i:=3) aZ.nd (gf pP zh (bw (zy T) (za (pv 0) (za zh (za zh zf))))))
   (zc (sset (i:=4) aZ.nd (bw (zy T) (za (pv 1) (za zh (za (pv 3) zf)))))
   (zc (sset (i:=5) aZ.nd (bw (zy T) (za (pv 1) (za zh (za zh zf)))))
   (zc (sset (i:=6) aZ.nd (fB zf))
   (zc (gQ bH rfl (zD (by rfl) T.range (za zh zf)) (fE (i:=7) aZ.nd) (zc (sset (i:=8) aZ.nd ig)
    (zc (gQ bH rfl (zD (by rfl) T.range (za zh zf)) (fE (i:=9) aZ.nd) (zc (sset (i:=10) aZ.nd (bw (zy T) (za (pv 0) (za (gf pP (pv 9) zh) (za zh zf)))))
     (zc (fQ (PW.pt (xg (e7 jQ (pv 9) (pv 4) (dW _)) (w9 (e7 jQ (pv 5) zh (dW _))))) (zi (sset (i:=10) aZ.nd (gf pP (pv 10) (pv 7)))) fW)
     (zi (sset (i:=8) aZ.nd (gf Rm (pv 8) (aR RS (pv 2) (gf zI (pv 10) zh))))))))
    (zi (fQ (e7 jQ (pv 5) zh (dW _)) (zi (ko (pS K rfl PySem.F.plainAttrs_list PySem.F.slot_list_append PySem.F.type_list_append ql (pv 6) (za (sL L7 (pv 8) uK (qR (pv 3))) zf)))) (zi (ko (pS K rfl PySem.F.plainAttrs_list PySem.F.slot_list_append PySem.F.type_list_append ql (pv 6) (za (sL L7 (pv 8) uK (qR (gf pP zh (gf zI (gf pP (pv 3) (pv 7)) zh)))) zf)))))))))
   (zi (zz (pv 6))))))))),?_⟩
  walk_at "rd"
  refine⟨by decide,?_⟩
  walk_at "rd"
  obtain⟨s1,s2⟩:=iB one 0 12 (by decide);have hs:∃size:Nat,1+pt one 0 12=(size:Int)/\1<=size/\size<=12:=⟨(1+pt one 0 12).toNat,by lia,by lia,by lia⟩;obtain⟨size,es,z1,z2⟩:=hs;rw[es];refine⟨by lia,?_⟩;obtain⟨a1,a2⟩:=iB other 1 (size:Int) (by lia);generalize pt other 1 (size:Int)=at' at a1 a2
  walk_at "rd"
  refine⟨by decide,?_⟩;generalize pt other 20 2=tu;refine⟨by decide,fun p hp=>?_⟩;refine⟨8,rfl,by decide,by decide,Cg (lo:=0) (n:=8) (fun i σ H'=>∃v7 v8 v9 v10,σ = [some (.int one),some (.int other),some (.str dQ),some (.int size),some (.int at'),some (.int tu),some (.ref p),v7,v8,v9,v10]/\ak H H'/\
   H' p=some (.lst (((List.range i).map (wB one at' (decide (tu=0)) size)).map V.str))) ⟨none,none,none,none,(by rw[←es];rfl),ak.new hp,zb⟩ ?_ ?_⟩
  ·rintro i σ H1 hi ⟨v7,v8,v9,v10,rfl,q1,q2⟩;simp only [kM];refine⟨12,rfl,by decide,by decide,Cg (lo:=0) (n:=12) (fun j σ H2=>∃v9 v10,σ = [some (.int one),some (.int other),some (.str dQ),some (.int size),some (.int at'),some (.int tu),some (.ref p),some (.int i),some (.str (o6 ((List.range j).map (qt one at' (if decide (tu=0)=true then i else 0))))),v9,v10]/\H2=H1)
    ⟨v9,v10,by rw[TM];rfl,rfl⟩ ?_ ?_⟩
   ·rintro j σ H2 hj ⟨v9,v10,rfl,rfl⟩;simp only [kM]
    walk_at "rd"
    refine⟨by decide,?_⟩
    try dsimp only [zx]
    refine mX (decide ((j:Int)=at'/\tu=0)) (fun Q' hQ=>?_) (bZ (fun c=>?_) (fun c=>?_))
    ·refine⟨_,rfl,_,rfl,rfl,_,rfl,?_⟩;refine bZ (fun c=>?_) (fun c=>?_)
     ·have c:(j:Int)=at':=V.int.inj (aP c);refine⟨_,rfl,rfl,_,rfl,?_⟩;have e:decide (V.int tu=V.int 0)=decide ((j:Int)=at'/\tu=0):=jw.mpr ⟨fun z=>⟨c,V.int.inj z⟩,fun z=>by rw[z.2]⟩;rw[e];exact hQ
     ·rw[aV (fun z=>c (aO (bT V.int z.1)))] at hQ;exact hQ
    all_goals
     walk_at "rd"
     refine⟨(by decide:(0:Int)<37),dQ,_,qt one at' (if decide (tu=0)=true then i else 0) j,rfl,rfl,by decide,?_,?_⟩
    ·refine OZ _ one at' _ j ?_;obtain⟨c1,c2⟩:=aP c;unfold uW;rw[aq c1,aq (aO c2)]
    ·refine⟨_,_,rfl,rfl,?_,some (.int j),some (.int (pt one ((j:Int)+2) 37+i)),?_,rfl⟩
     ·rw[F9,ay,ju];exact b7 (show j+1<=100 by lia) (by decide)
     ·rw[show (⟨#[qt one at' (if decide (tu=0)=true then i else 0) j]⟩:Str)=o6 [qt one at' (if decide (tu=0)=true then i else 0) j] from rfl,My,List.range_succ,aT];rfl
    ·refine OZ _ one at' _ j ?_;have c:¬((j:Int)=at'/\tu=0):=fun z=>c (aO z)
     unfold uW
     by_cases c1:(j:Int)=at'
     ·rw[aq c1,ao (fun z=>c ⟨c1,aP z⟩)];simp
     ·rw[ao c1]
    ·refine⟨_,_,rfl,rfl,?_,some (.int j),some (.int (pt one ((j:Int)+2) 37)),?_,rfl⟩
     ·rw[F9,ay,ju];exact b7 (show j+1<=100 by lia) (by decide)
     ·rw[show (⟨#[qt one at' (if decide (tu=0)=true then i else 0) j]⟩:Str)=o6 [qt one at' (if decide (tu=0)=true then i else 0) j] from rfl,My,List.range_succ,aT];rfl
   ·rintro σ H2 ⟨v9,v10,rfl,rfl⟩;have hlen:((o6 (qu one at' (if decide (tu=0)=true then i else 0) 12)).length:Nat)=12:=by rw[F9,Bj]
    have Ec:∀x:Str,x=wB one at' (decide (tu=0)) size i->((List.range i).map (wB one at' (decide (tu=0)) size)).map V.str++[V.str x]=((List.range (i+1)).map (wB one at' (decide (tu=0)) size)).map V.str:=fun x e=>by
     rw[List.range_succ,aT,aT,e];rfl
    have vz:(((List.range i).map (wB one at' (decide (tu=0)) size)).map V.str).length<sizeLine:=by
     rw[ay,ay,ju];exact jx (by lia)
    refine⟨_,rfl,rfl,_,rfl,?_⟩;refine bZ (fun c=>?_) (fun c=>?_)
    ·have c:tu=0:=V.int.inj (aP c);refine⟨_,rfl,.inl ⟨rfl,_,aJ.of q2⟩,_,rfl,_,rfl,_,rfl,_,rfl,(by show (o6 (qu one at' (if decide (tu=0)=true then i else 0) 12)).length<=sizeLine;rw[hlen];decide),p,_,_,rfl,rfl,q2,vz,?_⟩;refine⟨_,_,_,_,rfl,q1.upd hp,?_⟩;rw[zb]
     congr 2
     refine Ec _ ?_;show Txt.slice (o6 (qu one at' (if decide (tu=0)=true then i else 0) 12)) none (some (size:Int))=_;rw[Mz _ _ (by lia) (by rw[Bj];lia)];unfold wB;rw[aO c];rfl
    ·have c:¬tu=0:=fun z=>c (aO (bT V.int z))
     refine⟨_,rfl,.inl ⟨rfl,_,aJ.of q2⟩,_,rfl,?_⟩
     walk_at "rd"
     refine⟨(by decide:(0:Int)<12),?_⟩;refine⟨_,_,rfl,rfl,_,rfl,_,rfl,(by show (o6 (qu one at' (if decide (tu=0)=true then i else 0) 12)).length<=sizeLine;rw[hlen];decide),p,_,_,rfl,rfl,q2,vz,?_⟩;refine⟨_,_,_,_,rfl,q1.upd hp,?_⟩;rw[zb]
     congr 2
     refine Ec _ ?_;show Txt.slice (o6 (qu one at' (if decide (tu=0)=true then i else 0) 12)) none (some (1+((size:Int)+(i:Int))%12))=_;have e:1+((size:Int)+(i:Int))%12=((1+(size+i)%12:Nat):Int):=by lia
     rw[e,Mz _ _ (by lia) (by rw[Bj];lia)];unfold wB;rw[aV c];rfl
  ·rintro σ H1 ⟨v7,v8,v9,v10,rfl,q1,q2⟩;obtain⟨n1,n2,n3⟩:=T8 (one:=one) (tu:=decide (tu=0)) a1 a2 z1 z2;exact⟨_,rfl,k p _ H1 n3 n1 n2 hp q2 q1⟩
def Yx:Sp:=fun vs H Q _=>∃c:Int,vs = [.int c]/\∀(z:Int) (H':Hp),0<=z->z<10 ^ 56->ak H H'->Q (.int z) H'
set_option maxHeartbeats 4000000 in
theorem Ed (T:Tx K mg w zj zm zg zp):eX P w K mg base "_law_number" ["_law_cell"] 2 Yx:=by
 refine T.XZ.has iX (fun vs H Q E h=>?_) (fun f bX A outer s H vs Q E hr h=>?_)
 ·obtain⟨c,rfl,_⟩:=h;rfl
 ·obtain⟨c,rfl,k⟩:=h;refine⟨_,(zc (sset (i:=1) iX.nd (fB (za (gf zI (pv 0) (gf Ri zh zh)) (za (bw (zy T) (za (pv 0) (za zh (za zh zf)))) (za (bw (zy T) (za (pv 0) (za zh (za zh zf)))) zf)))))
   (zi (zz (aR (gJ K rfl) (pv 1) (bw (zy T) (za (pv 0) (za zh (za zh zf)))))))),?_⟩
  walk_at "rd"
  refine⟨Yu,?_⟩
  walk_at "rd"
  refine⟨OY,?_⟩
  walk_at "rd"
  refine⟨by decide,?_⟩
  walk_at "rd"
  refine⟨by decide,(by show 3<=sizeLine;decide),fun p1 kZ=>?_⟩
  walk_at "rd"
  refine⟨by decide,?_⟩;obtain⟨b1,b2⟩:=iB c 62 3 (by decide);obtain⟨d1,d2⟩:=iB c 60 7 (by decide);obtain⟨d3,d4⟩:=iB c 61 2000 (by decide);have d5:=mP c (show (10 ^ (56:Int).toNat:Int)≠0 by decide);have d6:=mE c OY;have Yy:(10:Int) ^ (56:Int).toNat=10 ^ 56:=rfl;rw[Yy] at d5 d6;have h4:pt c 62 3=0\/pt c 62 3=1\/pt c 62 3=2:=by lia
  rcases h4 with h4 | h4 | h4
  all_goals
   rw[h4];refine⟨p1,_,_,_,rfl,rfl,aJ.of zb,rfl,k _ _ ?_ ?_ (ak.new kZ)⟩
  ·exact d5
  ·exact d6
  ·exact d1
  ·lia
  ·exact d3
  ·lia
def Ef:List V:=[.str "over",.str "cuts",.str "fills",.str "after",.str "after",.str "same",.str "over"]
theorem Yz {i:Int}(h0:0<=i) (h1:i<7):∃kd:Str,kr Ef i=some (.str kd)/\(kd = "after"\/kd∈Bl):=by
 have h:i=0\/i=1\/i=2\/i=3\/i=4\/i=5\/i=6:=by lia
 rcases h with rfl | rfl | rfl | rfl | rfl | rfl | rfl
 ·exact⟨_,rfl,.inr (by decide +kernel)⟩
 ·exact⟨_,rfl,.inr (by decide +kernel)⟩
 ·exact⟨_,rfl,.inr (by decide +kernel)⟩
 ·exact⟨_,rfl,.inl rfl⟩
 ·exact⟨_,rfl,.inl rfl⟩
 ·exact⟨_,rfl,.inr (by decide +kernel)⟩
 ·exact⟨_,rfl,.inr (by decide +kernel)⟩
theorem YA:(Str.ofString "same" : Str)∈Bl:=by decide +kernel
theorem YB:(Str.ofString "over" : Str)∈Bl:=by decide +kernel
theorem YC:¬(Str.ofString "over" : Str)=dw:=by decide +kernel
def Down (pl:Str->Int) (t:aQ):Prop:=(t.k=dw->pl t.a=pl t.b)/\(¬t.k=dw->pl t.b<pl t.a)
theorem Eg {ps:List Int}{i:Nat}(h:i<ps.length):kr (ps.map V.int) (i:Int)=some (.int ps[i]):=nJ (by simp[h])
theorem GC {xs:List Str}{i:Nat}(h:i<xs.length):kr (xs.map V.str) (i:Int)=some (.str xs[i]):=nJ (by simp[h])
inductive vA (vs:List V) (H:Hp) (Q:VK):Prop
 | mk (pn pp:ah) (xs:List Str) (ps:List Int) (m:Nat) (c:Int) (ar:Bool) (_:vs = [.ref pn,.ref pp,.int m,.int c,.bl ar]) (_:aJ K H pn (xs.map V.str)) (_:aJ K H pp (ps.map V.int)) (_:xs.length=8) (_:xs.Nodup) (_:ps.length=8) (_:1<=m) (_:m<=8) (_:∀(p:ah) (t:aQ) (H':Hp),nB (xs.take m) t->(ar=false->Down (wC xs ps) t)->H p=none->H' p=some (.tup (cH t))->ak H H'->Q (.ref p) H')
def YD:Sp:=fun vs H Q _=>vA (K:=K) vs H Q
set_option maxHeartbeats 8000000 in
theorem YE (T:Tx K mg w zj zm zg zp):eX P w K mg base "_law_tie" ["_law_names_here","_law_places","_law_many","_law_cell","_law_around"] 3 (YD (K:=K)):=by
 refine T.X0.has c7 (fun vs H Q E h=>?_) (fun f bX A outer s H vs Q E hr h=>?_)
 ·obtain⟨pn,pp,xs,ps,m,c,ar,rfl,_⟩:=h;rfl
 ·obtain⟨pn,pp,xs,ps,m,c,ar,rfl,hn,hp,lx,nd,lp,m1,m8,k⟩:=h;refine⟨_,(zc (sset (i:=5) c7.nd (bw (zy T) (za (pv 3) (za zh (za (pv 2) zf)))))
   (zc (sset (i:=6) c7.nd (bw (zy T) (za (pv 3) (za zh (za (pv 2) zf)))))
   (zc (sset (i:=7) c7.nd (aR (gJ K rfl) (fB (za ig (za ig (za ig (za ig (za ig (za ig (za ig zf)))))))) (bw (zy T) (za (pv 3) (za zh (za zh zf))))))
   (zc (fQ (PW.pt (xg (xh (wc (pv 4))) (w9 (e7 A6 (aR (gJ K rfl) (pv 1) (pv 5)) (aR (gJ K rfl) (pv 1) (pv 6)) (dW _))))) (zi (Q4 (i:=5) (j:=6) rfl c7.nd rfl rfl (by decide) rfl rfl (za (pv 6) (za (pv 5) zf)) rfl)) fW)
   (zc (fQ (PW.pt (xg (xh (wc (pv 4))) (w9 (e7 jQ (aR (gJ K rfl) (pv 1) (pv 5)) (aR (gJ K rfl) (pv 1) (pv 6)) (dW _))))) (zi (sset (i:=7) c7.nd ig)) (zi (fQ (PW.pt (xg (xh (wc (pv 4))) (w9 (e7 jQ (pv 7) ig (dW _))))) (zi (sset (i:=7) c7.nd ig)) fW)))
   (zc (fQ (e7 jQ (pv 7) ig (dW _)) (zi (zz (iz (za (pv 7) (za (aR (gJ K rfl) (pv 0) (pv 5)) (za (aR (gJ K rfl) (pv 0) (pv 6)) (za (aR (gJ K rfl) (fB (za (bw (zy T) (za (pv 3) (za zh (za zh zf)))) (za (bw (Ed T) (za (pv 3) zf)) zf))) (bw (zy T) (za (pv 3) (za zh (za zh zf))))) zf))))))) fW)
   (zi (zz (iz (za (pv 7) (za (aR (gJ K rfl) (pv 0) (pv 5)) (za (aR (gJ K rfl) (pv 0) (pv 6)) zf)))))))))))),?_⟩
  have hm:(0:Int)<(m:Int):=by lia
  refine⟨_,rfl,_,rfl,_,_,_,rfl,hm,?_⟩;obtain⟨a0,ea,la⟩:∃a:Nat,pt c 30 m=(a:Int)/\a<m:=⟨(pt c 30 m).toNat,by have:=iB c 30 m hm;lia,by have:=iB c 30 m hm;lia⟩;rw[ea]
  try dsimp only [zx]
  refine⟨_,rfl,_,rfl,_,_,_,rfl,hm,?_⟩;obtain⟨b0,eb,lb⟩:∃a:Nat,pt c 31 m=(a:Int)/\a<m:=⟨(pt c 31 m).toNat,by have:=iB c 31 m hm;lia,by have:=iB c 31 m hm;lia⟩;rw[eb]
  try dsimp only [zx]
  refine⟨(by show 7<=sizeLine;decide),fun p1 kZ=>?_⟩;refine⟨_,rfl,_,_,_,rfl,by decide,?_⟩;obtain⟨kd,ek,hk⟩:=Yz (iB c 33 7 (by decide)).1 (iB c 33 7 (by decide)).2;have s1:ak H (upd H p1 (.lst Ef)):=ak.new kZ;refine⟨p1,Ef,_,_,rfl,rfl,aJ.of zb,ek,?_⟩
  try dsimp only [zx]
  show xj _ _ _ _ (upd H p1 (.lst Ef));generalize upd H p1 (.lst Ef)=H1 at s1;have pa:=Eg (ps:=ps) (i:=a0) (by lia);have pb:=Eg (ps:=ps) (i:=b0) (by lia);refine M5 (fun aK=>∃a b:Nat,aK = [some (.ref pn),some (.ref pp),some (.int m),some (.int c),some (.bl ar),some (.int a),some (.int b),some (.str kd)]/\a<m/\b<m/\(ar=false->∀(h1:a<ps.length) (h2:b<ps.length),ps[b]<=ps[a]))
   (!ar&&decide (ps[a0]<ps[b0])) (fun Q' hQ=>?_) (fun e=>⟨_,⟨b0,a0,rfl,lb,la,fun ea h1 h2=>by rw[ea] at e;have:=aP e;lia⟩,fun h=>⟨_,rfl,_,rfl,_,_,rfl,h⟩⟩)
   (fun e=>⟨_,⟨a0,b0,rfl,la,lb,fun ea h1 h2=>by rw[ea] at e;have:=iI e;lia⟩,fun h=>h⟩) ?_
  ·refine⟨_,rfl,ar,rfl,?_⟩;cases ar with
   | true=>exact fR hQ
   | false=>
    refine gx ?_;exact⟨_,rfl,_,rfl,pp,_,_,_,rfl,rfl,s1.seq hp,pa,_,rfl,_,rfl,pp,_,_,_,rfl,rfl,s1.seq hp,pb,_,_,rfl,rfl,_,rfl,hQ⟩
  clear pa pb la lb ea eb;rintro aK ⟨a,b,rfl,GD,hbm,cQ⟩;have pa:=Eg (ps:=ps) (i:=a) (by lia);have pb:=Eg (ps:=ps) (i:=b) (by lia);have xa:=GC (xs:=xs) (i:=a) (by lia);have xb:=GC (xs:=xs) (i:=b) (by lia);have hle:ar=false->ps[b]<=ps[a]:=fun e=>cQ e _ _
  have ma:xs[a]∈xs.take m:=l9.mpr ⟨a,by lia,rfl⟩;have mb:xs[b]∈xs.take m:=l9.mpr ⟨b,by lia,rfl⟩;have la:=MR (xs:=xs) (ps:=ps) nd (i:=a) (x:=xs[a]) (p:=ps[a]) (bz _) (bz _);have lb:=MR (xs:=xs) (ps:=ps) nd (i:=b) (x:=xs[b]) (p:=ps[b]) (bz _) (bz _);dsimp only;refine M5 (fun aK=>∃tF:Str,aK = [some (.ref pn),some (.ref pp),some (.int m),some (.int c),some (.bl ar),some (.int a),some (.int b),some (.str tF)]/\(tF = "after"\/tF∈Bl)/\(ar=false->(tF=dw->ps[a]=ps[b])/\(¬tF=dw->ps[b]<ps[a])))
   (!ar&&decide (ps[a]=ps[b])) (fun Q' hQ=>?_) (fun e=>?_) (fun e=>?_) ?_
  ·refine⟨_,rfl,ar,rfl,?_⟩;cases ar with
   | true=>exact fR hQ
   | false=>
    refine gx ?_;refine⟨_,rfl,_,rfl,pp,_,_,_,rfl,rfl,s1.seq hp,pa,_,rfl,_,rfl,pp,_,_,_,rfl,rfl,s1.seq hp,pb,rfl,_,rfl,?_⟩;have e:decide (V.int ps[a]=V.int ps[b])=decide (ps[a]=ps[b]):=jw.mpr ⟨V.int.inj,bT V.int⟩;rw[e];exact hQ
  ·exact⟨_,⟨"same",rfl,.inr YA,fun ea=>⟨fun _=>by rw[ea] at e;exact aP e,fun z=>absurd rfl z⟩⟩,fun h=>h⟩
  ·have c1:ar=false->¬ps[a]=ps[b]:=fun ea z=>by rw[ea] at e;exact iI e z
   have yN:∀Q':Bool->Hp->Prop,Q' (!ar&&decide (kd=dw)) H1->B8 (B9 (tB (wZ 4))) (Hy (A5 K6 (wZ 7) (tC (V.str (Str.ofString "same"))))) [some (.ref pn),some (.ref pp),some (.int m),some (.int c),some (.bl ar),some (.int a),some (.int b),some (.str kd)] H1 Q':=fun Q' hQ=>by
    refine⟨_,rfl,ar,rfl,?_⟩;cases ar with
    | true=>exact fR hQ
    | false=>
     refine gx ?_;refine⟨_,rfl,rfl,_,rfl,?_⟩;have e:decide (V.str kd=V.str "same")=decide (kd=dw):=jw.mpr ⟨V.str.inj,bT V.str⟩;rw[e];exact hQ
   by_cases c2:(!ar&&decide (kd=dw))=true
   ·refine⟨_,⟨"over",rfl,.inr YB,fun ea=>⟨fun z=>absurd z YC,fun _=>by have:=hle ea;have:=c1 ea;lia⟩⟩,fun h=>mX (!ar&&decide (kd=dw)) yN ?_⟩;rw[c2];exact gx h
   ·refine⟨_,⟨kd,rfl,hk,fun ea=>⟨fun z=>absurd (by rw[ea];exact aO z) c2,fun _=>by have:=hle ea;have:=c1 ea;lia⟩⟩,fun h=>mX (!ar&&decide (kd=dw)) yN ?_⟩;rw[Bool.eq_false_iff.mpr c2];exact fR h
  clear hk ek;rintro aK ⟨tF,rfl,gj,uy⟩;have fin:∀g,iU (xs.take m) (cH ⟨tF,xs[a],xs[b],g⟩)->nB (xs.take m) ⟨tF,xs[a],xs[b],g⟩/\(ar=false->Down (wC xs ps) ⟨tF,xs[a],xs[b],g⟩):=fun g h3=>
   ⟨⟨h3,ma,mb⟩,fun e=>⟨fun z=>by show wC xs ps xs[a]=wC xs ps xs[b];rw[la,lb];exact (uy e).1 z,fun z=>by show wC xs ps xs[b]<wC xs ps xs[a];rw[la,lb];exact (uy e).2 z⟩⟩
  refine⟨_,rfl,rfl,_,rfl,?_⟩;refine bZ (fun c3=>?_) (fun c3=>?_)
  ·have c3:tF = "after":=V.str.inj (aP c3);refine⟨_,rfl,_,rfl,_,rfl,pn,_,_,_,rfl,rfl,s1.seq hn,xa,_,rfl,_,rfl,pn,_,_,_,rfl,rfl,s1.seq hn,xb,?_⟩;refine⟨_,rfl,_,_,_,rfl,by decide,?_⟩;refine⟨_,rfl,c,rfl,fun z H2 z0 z1 s2=>?_⟩;refine⟨(by show 2<=sizeLine;decide),fun p2 oY=>?_⟩;have s3:=ak.new (o:=.lst [.int (pt c 34 5),.int z]) oY;refine⟨_,rfl,_,_,_,rfl,by decide,?_⟩;obtain⟨d1,d2⟩:=iB c 34 5 (by decide);obtain⟨v,hv,xN⟩:=Dw (u:=.int (pt c 34 5)) (v:=.int z) (iB c 35 2 (by decide)).1 (iB c 35 2 (by decide)).2;obtain⟨g,rfl,g0,g1⟩:∃g:Int,v = .int g/\0<=g/\uX g:=by
    rcases xN with rfl | rfl
    ·exact⟨_,rfl,d1,by unfold uX;lia⟩
    ·exact⟨_,rfl,z0,by unfold uX;lia⟩
   refine⟨p2,_,_,_,rfl,rfl,aJ.of zb,hv,(by show 4<=sizeLine;decide),fun p3 wJ=>?_⟩;have tok:iU (xs.take m) (cH ⟨tF,xs[a],xs[b],some g⟩):=by rw[c3];exact .after ma mb g0 g1
   obtain⟨f1,f2⟩:=fin (some g) tok;exact k p3 _ _ f1 f2 (s1.free (s2.free (s3.free wJ))) zb (s1.trans (s2.trans (s3.trans (ak.new wJ))))
  ·have c3:¬tF = "after":=fun z=>c3 (aO (bT V.str z))
   refine⟨_,rfl,_,rfl,_,rfl,pn,_,_,_,rfl,rfl,s1.seq hn,xa,_,rfl,_,rfl,pn,_,_,_,rfl,rfl,s1.seq hn,xb,(by show 3<=sizeLine;decide),fun p3 wJ=>?_⟩;have tok:iU (xs.take m) (cH ⟨tF,xs[a],xs[b],none⟩):=.plain (gj.resolve_left c3) ma mb;obtain⟨f1,f2⟩:=fin none tok;exact k p3 _ _ f1 f2 (s1.free wJ) zb (s1.trans (ak.new wJ))
inductive tG (vs:List V) (H:Hp) (Q:VK):Prop
 | mk (pn pp pc:ah) (xs:List Str) (ps:List Int) (m:Nat) (cs:List Int) (ar:Bool) (_:vs = [.ref pn,.ref pp,.int m,.ref pc,.bl ar]) (_:aJ K H pn (xs.map V.str)) (_:aJ K H pp (ps.map V.int)) (_:aJ K H pc (cs.map V.int)) (_:xs.length=8) (_:xs.Nodup) (_:(∀x∈xs,sP x=true)) (_:ps.length=8) (_:m<=8) (_:cs.length<=100) (_:∀(p:ah) (av:List ah) (ts:List aQ) (H':Hp),(∀t∈ts,nB (xs.take m) t)->(ar=false->∀t∈ts,Down (wC xs ps) t)->ts.Nodup->ts.length<=cs.length->H p=none->H' p=some (.lst (av.map V.ref))->cy H' av (ts.map cH)->ak H H'->Q (.ref p) H')
def YF:Sp:=fun vs H Q _=>tG (K:=K) vs H Q
set_option maxHeartbeats 8000000 in
theorem YG (T:Tx K mg w zj zm zg zp):eX P w K mg base "_law_ties" ["_law_names_here","_law_places","_law_many","_law_cells","_law_around"] 4 (YF (K:=K)):=by
 refine T.X3.has fH (fun vs H Q E h=>?_) (fun f bX A outer s H vs Q E hr h=>?_)
 ·obtain⟨pn,pp,pc,xs,ps,m,cs,ar,rfl,_⟩:=h;rfl
 ·obtain⟨pn,pp,pc,xs,ps,m,cs,ar,rfl,hn,hp,hc,lx,nd,nm,lp,m8,lc,k⟩:=h;refine⟨_,(zc (sset (i:=5) fH.nd (fB zf))
   (zc (gQ bH rfl (ir K rfl (pv 3)) (fE (i:=6) fH.nd) (zi (fQ (e7 A7 (pv 2) zh (dW _)) (zc (sset (i:=7) fH.nd (bw (YE T) (za (pv 0) (za (pv 1) (za (pv 2) (za (pv 6) (za (pv 4) zf)))))))
     (zi (fQ (e7 (Mf K rfl (Dj hr)) (pv 7) (pv 5) (by with_unfolding_all rfl)) (zi (ko (pS K rfl PySem.F.plainAttrs_list PySem.F.slot_list_append PySem.F.type_list_append ql (pv 5) (za (pv 7) zf)))) fW))) fW)))
   (zi (zz (pv 5))))),?_⟩
  refine⟨by decide,fun p xO=>?_⟩;have O0:∀x∈xs.take m,sP x=true:=fun x hx=>nm x (ly hx)
  refine⟨_,rfl,pc,rfl,⟨_,(ak.new xO).seq hc⟩,ny (xs:=cs.map V.int) (fun i σ H'=>∃v6 v7 av ts,σ = [some (.ref pn),some (.ref pp),some (.int m),some (.ref pc),some (.bl ar),some (.ref p),v6,v7]/\ak H H'/\H' p=some (.lst (av.map V.ref))/\cy H' av (ts.map cH)/\
   (∀t∈ts,nB (xs.take m) t)/\(ar=false->∀t∈ts,Down (wC xs ps) t)/\ts.Nodup/\ts.length<=i)
   ⟨none,none,[],[],rfl,ak.new xO,zb,.nil,by simp,by simp,by simp,aH _⟩ (fun i σ H' _ h=>by obtain⟨_,_,_,_,_,q,_⟩:=h;exact q.seq hc) ?_ ?_⟩
  ·rintro i x σ H1 hx ⟨v6,v7,av,ts,rfl,q,kZ,tp,bA,uy,yx,cQ⟩;have hi:=iA hx;rw[ay] at hi;have hlen:av.length=ts.length:=by have:=tp.len;rw[ay] at this;exact this
   obtain⟨c,rfl⟩:∃z,x=V.int z:=by
    rw[aM] at hx;cases e:cs[i]? with
    | none=>rw[e] at hx;cases hx
    | some z=>rw[e] at hx;exact⟨z,(cX hx).symm⟩
   try dsimp only [zx]
   refine⟨_,rfl,_,_,rfl,rfl,_,rfl,?_⟩;refine bZ (fun c1=>?_) (fun c1=>?_)
   ·have c1:=aP c1;refine⟨_,rfl,_,rfl,_,rfl,_,rfl,_,rfl,pn,pp,xs,ps,m,c,ar,rfl,q.seq hn,q.seq hp,lx,nd,lp,by lia,m8,fun p4 t H4 tok dn fp4 e4 s4=>?_⟩;have q4:=q.trans s4;have GF:=tp.same s4;have pY:=s4 _ _ kZ;have hw:∀vs∈ts.map cH,∀v∈vs,Wd v:=fun vs hv=>by
     obtain⟨u,hu,rfl⟩:=br.mp hv;exact ((bA u hu).ok.words O0).1
    try dsimp only [zx]
    refine⟨_,rfl,_,rfl,p,_,_,rfl,.inl (aJ.of pY),GF.MB (n:=7) hw e4 (tok.ok.words O0).1,_,rfl,?_⟩;rw[aq rfl,GF.Du];refine bZ (fun c3=>?_) (fun c3=>?_)
    ·have c3:cH t ∉ ts.map cH:=by simpa using c3
     refine⟨_,rfl,.inl ⟨rfl,_,aJ.of pY⟩,_,rfl,p,_,_,rfl,rfl,pY,by rw[ay];exact jx (by lia),?_⟩;refine⟨_,_,av++[p4],ts++[t],rfl,q4.upd xO,?_,?_,?_,?_,?_,?_⟩
     ·rw[zb,aT];rfl
     ·rw[aT];exact cy.snoc (GF.iy (qv pY)) (qv pY _ _ e4)
     ·intro u hu;rcases bM.mp hu with hu | hu
      ·exact bA u hu
      ·have:u=t:=by simpa using hu
       subst this;exact tok
     ·intro e u hu;rcases bM.mp hu with hu | hu
      ·exact uy e u hu
      ·have:u=t:=by simpa using hu
       subst this;exact dn e
     ·rw[jV];refine⟨yx,by simp,fun a ha b hb e=>?_⟩;simp at hb;subst hb;subst e;exact c3 (br.mpr ⟨a,ha,rfl⟩)
     ·rw[bL];exact Nat.succ_le_succ cQ
    ·exact⟨_,_,av,ts,rfl,q4,pY,GF,bA,uy,yx,by lia⟩
   ·exact⟨_,_,av,ts,rfl,q,kZ,tp,bA,uy,yx,by lia⟩
  ·rintro σ H1 ⟨v6,v7,av,ts,rfl,q,kZ,tp,bA,uy,yx,cQ⟩;rw[ay] at cQ;exact⟨_,rfl,k p av ts _ bA uy yx cQ xO kZ tp q⟩
def YH:Sp:=fun vs H Q _=>∃c:Int,vs = [.int c]/\∀(p:ah) (lo hi:Int) (H':Hp),lo<=hi->lo.natAbs<10 ^ 56->uX hi->H p=none->H' p=some (.tup [.int lo,.int hi])->ak H H'->Q (.ref p) H'
set_option maxHeartbeats 4000000 in
theorem YI (T:Tx K mg w zj zm zg zp):eX P w K mg base "_law_frame" ["_law_cell"] 3 YH:=by
 refine T.X4.has jA (fun vs H Q E h=>?_) (fun f bX A outer s H vs Q E hr h=>?_)
 ·obtain⟨c,rfl,_⟩:=h;rfl
 ·obtain⟨c,rfl,k⟩:=h;refine⟨_,(zc (sset (i:=1) jA.nd (gf Fl (bw (Ed T) (za (pv 0) zf)) (aR (gJ K rfl) (fB (za zh (za (Ci Cm zh) zf))) (bw (zy T) (za (pv 0) (za zh (za zh zf)))))))
   (zi (zz (iz (za (pv 1) (za (gf pP (pv 1) (aR (gJ K rfl) (fB (za (bw (zy T) (za (pv 0) (za zh (za zh zf)))) (za (bw (Ed T) (za (gf pP (pv 0) zh) zf)) zf))) (bw (zy T) (za (pv 0) (za zh (za zh zf)))))) zf)))))),?_⟩
  refine⟨_,rfl,c,rfl,fun z H1 z0 z1 s1=>?_⟩;refine⟨_,rfl,(by show 2<=sizeLine;decide),fun p1 kZ=>?_⟩;refine⟨_,rfl,_,_,_,rfl,by decide,?_⟩;obtain⟨v,hv,xN⟩:=Dw (u:=.int 1) (v:=.int (-1)) (iB c 50 2 (by decide)).1 (iB c 50 2 (by decide)).2;obtain⟨j,rfl,hj⟩:∃j:Int,v = .int j/\(j=1\/j = -1):=by
   rcases xN with rfl | rfl
   ·exact⟨_,rfl,.inl rfl⟩
   ·exact⟨_,rfl,.inr rfl⟩
  refine⟨p1,_,_,_,rfl,rfl,aJ.of zb,hv,?_⟩;refine⟨_,_,rfl,rfl,.inr (by rcases hj with rfl | rfl<;>exact⟨by decide,by decide⟩),?_⟩;have s2:=s1.trans (ak.new (o:=.lst [.int 1,.int (-1)]) kZ)
  try dsimp only [zx]
  obtain⟨lo,YJ⟩:∃lo,lo=z * j:=⟨_,rfl⟩;rw[←YJ];have GG:lo.natAbs<10 ^ 56:=by rcases hj with rfl | rfl<;>lia
  refine⟨_,rfl,_,rfl,_,rfl,_,_,_,rfl,by decide,?_⟩;refine⟨_,rfl,_,_,rfl,rfl,_,rfl,fun y H2 y0 y1 s3=>?_⟩;refine⟨(by show 2<=sizeLine;decide),fun p2 oY=>?_⟩;have s4:=ak.new (o:=.lst [.int (pt c 51 12),.int y]) oY;refine⟨_,rfl,_,_,_,rfl,by decide,?_⟩;obtain⟨d1,d2⟩:=iB c 51 12 (by decide);obtain⟨v,hv,xN⟩:=Dw (u:=.int (pt c 51 12)) (v:=.int y) (iB c 52 2 (by decide)).1 (iB c 52 2 (by decide)).2;obtain⟨g,rfl,g0,g1⟩:∃g:Int,v = .int g/\0<=g/\g<10 ^ 56:=by
   rcases xN with rfl | rfl
   ·exact⟨_,rfl,d1,by lia⟩
   ·exact⟨_,rfl,y0,y1⟩
  refine⟨p2,_,_,_,rfl,rfl,aJ.of zb,hv,_,_,rfl,rfl,(by show 2<=sizeLine;decide),fun p3 wJ=>?_⟩;refine k p3 lo (lo+g) _ (by lia) GG (by unfold uX;lia) (s2.free (s3.free (s4.free wJ))) zb (s2.trans (s3.trans (s4.trans (ak.new wJ))))
inductive rC (vs:List V) (H:Hp) (Q:VK):Prop
 | mk (pn pm pc:ah) (xs:List Str) (m:Nat) (lo hi:Int) (cs:List Int) (_:vs = [.ref pn,.int m,.ref pm,.ref pc]) (_:aJ K H pn (xs.map V.str)) (_:bu K H pm [.int lo,.int hi]) (_:aJ K H pc (cs.map V.int)) (_:xs.length=8) (_:xs.Nodup) (_:(∀x∈xs,sP x=true)) (_:m<=8) (_:cs.length<=6) (_:lo.natAbs<10 ^ 56) (_:∀(p:ah) (av:List ah) (fs:List c8) (H':Hp),(∀f∈fs,uZ (xs.take m) f)->(fs.map c8.n).Nodup->fs.length<=cs.length->H p=none->H' p=some (.lst (av.map V.ref))->cy H' av (fs.map gK)->ak H H'->Q (.ref p) H')
def YK:Sp:=fun vs H Q _=>rC (K:=K) vs H Q
set_option maxHeartbeats 8000000 in
theorem YL (T:Tx K mg w zj zm zg zp):eX P w K mg base "_law_finds" ["_law_names_here","_law_many","_law_frame_here","_law_cells"] 3 (YK (K:=K)):=by
 refine T.X5.has cO (fun vs H Q E h=>?_) (fun f bX A outer s H vs Q E hr h=>?_)
 ·obtain⟨pn,pm,pc,xs,m,lo,hi,cs,rfl,_⟩:=h;rfl
 ·obtain⟨pn,pm,pc,xs,m,lo,hi,cs,rfl,hn,hm,hc,lx,nd,nm,m8,lc,GG,k⟩:=h;refine⟨_,(zc (sset (i:=4) cO.nd (fB zf))
   (zc (gQ bH rfl (zD (by rfl) T.range (za (jf (r9 K rfl) (by rfl) T.len cP (za (pv 3) zf)) zf)) (fE (i:=5) cO.nd) (zc (sset (i:=6) cO.nd (aR (gJ K rfl) (pv 3) (pv 5)))
    (zi (fQ (e7 A7 (pv 1) zh (dW _)) (zc (sset (i:=7) cO.nd (gf pP (aR (zo K rfl) (pv 2) zh) (aR (gJ K rfl) (fB (za (gf Fj (bw (zy T) (za (pv 6) (za zh (za zh zf)))) zh) (za (bw (Ed T) (za (pv 6) zf)) zf))) (bw (zy T) (za (pv 6) (za zh (za zh zf)))))))
     (zc (sset (i:=8) cO.nd (gf pP (pv 7) (aR (gJ K rfl) (fB (za (bw (zy T) (za (pv 6) (za zh (za zh zf)))) (za (bw (Ed T) (za (gf pP (pv 6) zh) zf)) zf))) (bw (zy T) (za (pv 6) (za zh (za zh zf)))))))
     (zi (ko (pS K rfl PySem.F.plainAttrs_list PySem.F.slot_list_append PySem.F.type_list_append ql (pv 4) (za (iz (za (aR (gJ K rfl) (pv 0) (pv 5)) (za (aR (gJ K rfl) (pv 0) (bw (zy T) (za (pv 6) (za zh (za (pv 1) zf))))) (za (pv 7) (za (pv 8) zf))))) zf)))))) fW))))
   (zi (zz (pv 4))))),?_⟩
  refine⟨by decide,fun p xO=>?_⟩;have O1:(cs.map V.int).length=cs.length:=ay _;refine⟨_,rfl,pc,_,rfl,.inl ((ak.new xO).seq hc),((cs.map V.int).length:Int),rfl,by lia,by lia,Cg (lo:=0) (n:=(cs.map V.int).length) (fun i σ H'=>∃v5 v6 v7 v8 av fs,σ = [some (.ref pn),some (.int m),some (.ref pm),some (.ref pc),some (.ref p),v5,v6,v7,v8]/\ak H H'/\H' p=some (.lst (av.map V.ref))/\cy H' av (fs.map gK)/\
   (∀f∈fs,uZ (xs.take m) f)/\fs.map c8.n=xs.take fs.length/\fs.length<=i/\(1<=m->fs.length=i))
   ⟨none,none,none,none,[],[],rfl,ak.new xO,zb,.nil,by simp,by simp,aH _,fun _=>rfl⟩ ?_ ?_⟩
  ·rintro i σ H1 hi ⟨v5,v6,v7,v8,av,fs,rfl,q,kZ,tp,bA,nW,cQ,hle⟩;rw[O1] at hi;have hlen:av.length=fs.length:=by have:=tp.len;rw[ay] at this;exact this
   have ec:=Eg (ps:=cs) (i:=i) hi;rw[←kM (i:Int)] at ec
   try dsimp only [zx]
   refine⟨_,rfl,_,rfl,pc,_,_,_,rfl,rfl,q.seq hc,ec,?_⟩
   try dsimp only [zx]
   generalize cs[i]=c;refine⟨_,rfl,_,_,rfl,rfl,_,rfl,?_⟩;refine bZ (fun c1=>?_) (fun c1=>?_)
   ·have c1:=aP c1;have JP:(0:Int)<(m:Int):=by lia
    refine⟨_,rfl,pm,_,_,_,rfl,rfl,q.tup hm,sd,?_⟩;refine⟨_,rfl,_,_,_,rfl,by decide,_,_,rfl,rfl,?_⟩;refine⟨_,rfl,c,rfl,fun z H2 z0 z1 s2=>?_⟩;refine⟨(by show 2<=sizeLine;decide),fun p2 oY=>?_⟩;have s3:=ak.new (o:=.lst [.int (pt c 41 12-3),.int z]) oY;refine⟨_,rfl,_,_,_,rfl,by decide,?_⟩;obtain⟨d1,d2⟩:=iB c 41 12 (by decide);obtain⟨v,hv,xN⟩:=Dw (u:=.int (pt c 41 12-3)) (v:=.int z) (iB c 42 2 (by decide)).1 (iB c 42 2 (by decide)).2;obtain⟨g,rfl,g0,g1⟩:∃g:Int,v = .int g/\-3<=g/\g<10 ^ 56:=by
     rcases xN with rfl | rfl
     ·exact⟨_,rfl,by lia,by lia⟩
     ·exact⟨_,rfl,by lia,z1⟩
    refine⟨p2,_,_,_,rfl,rfl,aJ.of zb,hv,_,_,rfl,rfl,?_⟩;have q3:=q.trans (s2.trans s3);have t3:=s2.trans s3
    try dsimp only [zx]
    obtain⟨low,JQ⟩:∃low,low=lo+g:=⟨_,rfl⟩;rw[←JQ];refine⟨_,rfl,_,rfl,_,_,_,rfl,by decide,?_⟩;refine⟨_,rfl,_,_,rfl,rfl,_,rfl,fun y H4 y0 y1 s4=>?_⟩;refine⟨(by show 2<=sizeLine;decide),fun p5 Eh=>?_⟩;have s5:=ak.new (o:=.lst [.int (pt c 43 12),.int y]) Eh;refine⟨_,rfl,_,_,_,rfl,by decide,?_⟩;obtain⟨d3,d4⟩:=iB c 43 12 (by decide);obtain⟨v,hv,xN⟩:=Dw (u:=.int (pt c 43 12)) (v:=.int y) (iB c 44 2 (by decide)).1 (iB c 44 2 (by decide)).2;obtain⟨g',rfl,g0',g1'⟩:∃g:Int,v = .int g/\0<=g/\g<10 ^ 56:=by
     rcases xN with rfl | rfl
     ·exact⟨_,rfl,d3,by lia⟩
     ·exact⟨_,rfl,y0,y1⟩
    refine⟨p5,_,_,_,rfl,rfl,aJ.of zb,hv,_,_,rfl,rfl,?_⟩;have t5:=t3.trans (s4.trans s5);have q5:=q.trans t5
    try dsimp only [zx]
    have O2:i<xs.length:=by lia
    have en:=GC (xs:=xs) (i:=i) O2;rw[←kM (i:Int)] at en;obtain⟨b,eb,lb⟩:∃a:Nat,pt c 40 m=(a:Int)/\a<m:=⟨(pt c 40 m).toNat,by have:=iB c 40 m JP;lia,by have:=iB c 40 m JP;lia⟩;have eu:=GC (xs:=xs) (i:=b) (by lia);have xP:=t5 _ _ kZ;refine⟨_,rfl,.inl ⟨rfl,_,aJ.of xP⟩,_,rfl,_,rfl,pn,_,_,_,rfl,rfl,q5.seq hn,en,_,rfl,_,rfl,_,rfl,_,_,_,rfl,JP,?_⟩;rw[eb];refine⟨pn,_,_,_,rfl,rfl,q5.seq hn,eu,_,rfl,_,rfl,(by show 4<=sizeLine;decide),fun p6 BA=>?_⟩;have s6:=ak.new (o:=.tup (gK ⟨xs[i],xs[b],low,low+g'⟩)) BA;refine⟨p,_,_,rfl,rfl,s6 _ _ xP,by rw[ay];exact jx (by lia),?_⟩;have O3:=hle (by lia);refine⟨_,_,_,_,av++[p6],fs++[⟨xs[i],xs[b],low,low+g'⟩],rfl,(q5.trans s6).upd xO,?_,?_,?_,?_,?_,?_⟩
    ·rw[zb,aT];rfl
    ·rw[aT];exact cy.snoc (((tp.same t5).same s6).iy (qv (s6 _ _ xP))) (qv (s6 _ _ xP) _ _ zb)
    ·intro f hf;rcases bM.mp hf with hf | hf
     ·exact bA f hf
     ·have:f=⟨xs[i],xs[b],low,low+g'⟩:=by simpa using hf
      subst this;refine⟨nm _ (jW _),l9.mpr ⟨b,by lia,rfl⟩,?_,?_,?_⟩
      ·show low<=low+g';lia
      ·show low.natAbs<10 ^ 60;lia
      ·show (low+g').natAbs<10 ^ 60;lia
    ·rw[aT,bL,nW,O3];show xs.take i++[xs[i]]=xs.take (i+1);rw[aS,bz O2];rfl
    ·rw[bL];exact Nat.succ_le_succ cQ
    ·intro _;rw[bL,O3];rfl
   ·have c1:¬(0:Int)<(m:Int):=fun z=>c1 (aO z)
    exact⟨_,_,_,_,av,fs,rfl,q,kZ,tp,bA,nW,by lia,fun z=>by lia⟩
  ·rintro σ H1 ⟨v5,v6,v7,v8,av,fs,rfl,q,kZ,tp,bA,nW,cQ,hle⟩;rw[O1] at cQ;exact⟨_,rfl,k p av fs _ bA (by rw[nW];exact nd.sublist (List.take_sublist _ _)) cQ xO kZ tp q⟩
def Ei (c:Int):V->V
 | .int z=>.int (pt c (70+z) 6)
 | _=>.dG
inductive tH (vs:List V) (H:Hp) (Q:VK):Prop
 | mk (a:ah) (ns:List Int) (ar:Bool) (_:vs = [.ref a,.bl ar]) (_:aJ K H a (ns.map V.int)) (_:ns.length<=63) (_:∀(p pm pu pt pf:ah) (lo hi:Int) (us:List Str) (ts:List aQ) (fs:List c8) (at' af:List ah) (H':Hp),Gf lo hi us ts fs->(ar=false->∃pl:Str->Int,∀t∈ts,Down pl t)->H' p=some (.tup [.ref pm,.ref pu,.ref pt,.ref pf])->kX K H' p pm pu pt pf lo hi us ts fs at' af->ak H H'->Q (.ref p) H')
def YM:Sp:=fun vs H Q _=>tH (K:=K) vs H Q
set_option maxHeartbeats 8000000 in
theorem YN (T:Tx K mg w zj zm zg zp):eX P w K mg base "_law_telling" ["_law_script","_law_around"] 5 (YM (K:=K)):=by
 refine T.X6.has bK (fun vs H Q E h=>?_) (fun f bX A outer s H vs Q E hr h=>?_)
 ·obtain⟨a,ns,ar,rfl,_⟩:=h;rfl
 ·obtain⟨a,ns,ar,rfl,ha,hl,k⟩:=h;refine⟨_,(zc (sset (i:=2) bK.nd (bw (Yw T) (za (bw (wI T) (za (pv 0) (za zh zf))) (za (bw (wI T) (za (pv 0) (za zh zf))) zf))))
   (zc (C3 (i:=3) (own:=["_law_k"]) (cap:=["_law_script"]) (ix:=[0]) (kW:=zq (top 52)) rfl bK.nd rfl rfl rfl ⟨rfl,by decide +kernel,by decide +kernel,by decide +kernel,by decide +kernel⟩ rfl (zD (by rfl) T.range (za zh zf)) (fun _ _ _ _=>mS (i:=0) (show List.Nodup (["_law_k","_law_script"]:List Str) by decide +kernel) rfl (Or.inl rfl)) (fun _ _ _ _=>qo) (fun _ _ _ _=>(bw (zy T) (za (bw (wI T) (za (pv 1) (za zh zf))) (za (gf pP zh (pv 0)) (za zh zf))))))
   (zc (sset (i:=4) bK.nd (bw (zy T) (za (bw (wI T) (za (pv 0) (za zh zf))) (za zh (za zh zf)))))
   (zc (sset (i:=5) bK.nd (bw (YI T) (za (bw (wI T) (za (pv 0) (za zh zf))) zf)))
   (zc (sset (i:=6) bK.nd (bw (zy T) (za (bw (wI T) (za (pv 0) (za zh zf))) (za zh (za zh zf)))))
   (zc (C3 (i:=7) (own:=["_law_name"]) (cap:=["_law_names_here","_law_many"]) (ix:=[2,4]) (kW:=zq (top 52)) rfl bK.nd rfl rfl rfl ⟨rfl,by decide +kernel,by decide +kernel,by decide +kernel,by decide +kernel⟩ rfl (ir K rfl (gf zU (sL (Aa K rfl) (pv 2) (qR (pv 6)) uK) (sL (Aa K rfl) (pv 2) uK (qR (pv 6))))) (fun _ _ _ _=>mS (i:=0) (show List.Nodup (["_law_name","_law_names_here","_law_many"]:List Str) by decide +kernel) rfl (Or.inl rfl)) (fun _ _ _ _=>HZ (e7 (Me K rfl) (pv 0) (sL (Aa K rfl) (pv 1) uK (qR (pv 2))) (by with_unfolding_all rfl))) (fun _ _ _ _=>(pv 0)))
   (zc (sset (i:=8) bK.nd (bw (YG T) (za (pv 2) (za (pv 3) (za (pv 4) (za (sL (Aa K rfl) (pv 0) (qR zh) (qR zh)) (za (pv 1) zf)))))))
   (zi (zz (iz (za (pv 5) (za (pv 7) (za (pv 8) (za (bw (YL T) (za (pv 2) (za (pv 4) (za (pv 5) (za (sL (Aa K rfl) (pv 0) (qR zh) (qR zh)) zf))))) zf)))))))))))))),?_⟩
  refine⟨_,rfl,a,ns,_,rfl,ha,by decide,_,rfl,a,ns,_,rfl,ha,by decide,_,_,rfl,fun pn xs H1 x1 x2 x3 Ay hn s1=>?_⟩
  try dsimp only [zx]
  refine⟨8,rfl,by decide,by decide,fun D hD=>?_⟩;have sD:∀ys,ak H1 (upd H1 D (.lst ys)):=fun ys=>ak.new hD
  refine SW (LY (lo:=0) (n:=8)) (fun _=>true) (Ei (lT ns 2)) (fun _=>trivial) (by decide) (fun v hv ys Q' q=>q) (fun v hv _ ys Q' q=>?_) ?_
  ·obtain⟨z,hz,rfl⟩:=br.mp hv;exact⟨_,rfl,a,ns,_,rfl,(s1.trans (sD ys)).seq ha,by decide,_,rfl,_,_,rfl,rfl,_,_,_,rfl,by decide,q⟩
  have YO:((((List.range 8).map fun i=>V.int (0+(i:Nat))).filter fun _=>true).map (Ei (lT ns 2)))=((List.range 8).map fun i=>pt (lT ns 2) (70+(0+(i:Nat))) 6).map V.int:=by
   rw[List.filter_eq_self.mpr (fun _ _=>rfl),fO,fO];rfl
  rw[YO];have O4:((List.range 8).map fun i=>pt (lT ns 2) (70+(0+(i:Nat))) 6).length=8:=by simp
  generalize ((List.range 8).map fun i=>pt (lT ns 2) (70+(0+(i:Nat))) 6)=ps at O4;have s2:ak H1 (upd H1 D (.lst (ps.map V.int))):=sD _;have eD:upd H1 D (.lst (ps.map V.int)) D=some (.lst (ps.map V.int)):=zb;generalize upd H1 D (.lst (ps.map V.int))=H2 at s2 eD;have q2:=s1.trans s2
  try dsimp only [zx]
  refine⟨_,rfl,a,ns,_,rfl,q2.seq ha,by decide,_,_,_,rfl,by decide,?_⟩;obtain⟨m,em,lm⟩:∃m:Nat,pt (lT ns 3) 0 9=(m:Int)/\m<=8:=⟨(pt (lT ns 3) 0 9).toNat,by have:=iB (lT ns 3) 0 9 (by decide);lia,by have:=iB (lT ns 3) 0 9 (by decide);lia⟩;rw[em]
  try dsimp only [zx]
  refine⟨_,rfl,a,ns,_,rfl,q2.seq ha,by decide,_,rfl,fun pm lo hi H3 YQ GG MS fpm Ej s3=>?_⟩;have q3:=q2.trans s3
  try dsimp only [zx]
  refine⟨_,rfl,a,ns,_,rfl,q3.seq ha,by decide,_,_,_,rfl,by decide,?_⟩;obtain⟨tu,et,lt⟩:∃m:Nat,pt (lT ns 3) 1 8=(m:Int)/\m<8:=⟨(pt (lT ns 3) 1 8).toNat,by have:=iB (lT ns 3) 1 8 (by decide);lia,by have:=iB (lT ns 3) 1 8 (by decide);lia⟩;rw[et]
  try dsimp only [zx]
  have wK:=s3 _ _ (s2 _ _ hn);have GH:(xs.map V.str).length=8:=by rw[ay,x1]
  refine⟨_,rfl,_,rfl,_,rfl,pn,_,rfl,aJ.of wK,fun p1 kZ=>?_⟩;rw[Ua (by lia) (by rw[GH];lia)];have t1:=ak.new (o:=.lst ((xs.map V.str).drop (tu:Int).toNat)) kZ;refine⟨_,rfl,_,rfl,_,rfl,pn,_,rfl,aJ.of (t1 _ _ wK),fun p2 oY=>?_⟩;rw[MF (by lia) (by rw[GH];lia)];have t2:=ak.new (o:=.lst ((xs.map V.str).take (tu:Int).toNat)) oY;refine⟨p1,p2,_,_,rfl,rfl,t2 _ _ zb,zb,(by rw[kD,bF,GH];exact pH (by lia)),fun p3 wJ=>?_⟩;have JR:(xs.map V.str).drop (tu:Int).toNat++(xs.map V.str).take (tu:Int).toNat=(xs.drop tu++xs.take tu).map V.str:=by
   rw[mF,←List.map_drop,←kJ,←aT]
  rw[JR];have t3:=ak.new (o:=.lst ((xs.drop tu++xs.take tu).map V.str)) wJ;have JS:(xs.drop tu++xs.take tu).length=8:=by rw[bL,kD,bF];lia
  refine⟨p3,rfl,⟨_,aJ.of zb⟩,fun D2 JT=>?_⟩;have Az:=t1.trans (t2.trans t3);have e3:upd (upd (upd H3 p1 (.lst ((xs.map V.str).drop (tu:Int).toNat))) p2 (.lst ((xs.map V.str).take (tu:Int).toNat))) p3 (.lst ((xs.drop tu++xs.take tu).map V.str)) p3=some (.lst ((xs.drop tu++xs.take tu).map V.str)):=zb;generalize upd (upd (upd H3 p1 (.lst ((xs.map V.str).drop (tu:Int).toNat))) p2 (.lst ((xs.map V.str).take (tu:Int).toNat))) p3 (.lst ((xs.drop tu++xs.take tu).map V.str))=H4 at Az e3 JT;have JU:=Az _ _ wK;refine uh (wo (K:=K) (a:=p3) (xs:=(xs.drop tu++xs.take tu).map V.str)) (fun i aK ys H'=>∃w0,aK = [w0,some (.ref pn),some (.int m)]/\ys=(((xs.drop tu++xs.take tu).take i).filter fun x=>decide (x∈xs.take m)).map V.str/\ak H4 H'/\H' D2=some (.lst ys))
   ⟨none,rfl,by simp,ak.new JT,zb⟩ (fun i aK ys H' h=>?_) (by rw[ay,JS];decide) ?_ ?_
  ·obtain⟨_,_,rfl,q,hd⟩:=h;refine⟨aJ.of (q _ _ e3),hd,?_⟩;rw[ay];exact b7 (gE _ _) (by rw[bF];lia)
  ·rintro i v aK ys H' hx ⟨w0,rfl,rfl,q,hd⟩;rw[aM] at hx;cases ex:(xs.drop tu++xs.take tu)[i]? with
   | none=>rw[ex] at hx;cases hx
   | some x=>
    rw[ex] at hx;cases hx;have gI:=iA ex
    try dsimp only [zx]
    refine⟨_,rfl,_,rfl,_,rfl,_,rfl,pn,_,rfl,aJ.of (q _ _ JU),fun p6 BA=>?_⟩;rw[MF (by lia) (by rw[GH];lia),mF,←kJ];have t6:=ak.new (o:=.lst ((xs.take m).map V.str)) BA;refine⟨p6,_,rfl,.inl (aJ.of zb),rfl,?_⟩;refine⟨by rw[List.all_map];exact gF.mpr fun _ _=>rfl,_,rfl,?_⟩;rw[ao bJ,NV];have jy:=t6 _ _ hd;refine bZ (fun c=>?_) (fun c=>?_)
    ·refine⟨_,rfl,jy,pI (by rw[ay];exact gI) ⟨_,rfl,?_,(q.trans t6).upd JT,zb⟩⟩;rw[aS,ex,iH,aT];simp[aP c]
    ·refine⟨jy,pI (by rw[ay];exact gI) ⟨_,rfl,?_,q.trans t6,jy⟩⟩;have c:¬x∈xs.take m:=fun z=>c (aO z)
     rw[aS,ex,iH,aT];simp[c]
  rintro aK ys H5 ⟨w0,rfl,rfl,t5,hd⟩;rw[ay,bG] at hd;obtain⟨JV,xQ⟩:=T9 (xs:=xs) x2 tu m;generalize ((xs.drop tu++xs.take tu).filter fun x=>decide (x∈xs.take m))=us at hd JV xQ;have ul:us.length<=8:=by
   have:=sj JV (us:=xs.take m) fun x hx=>(xQ x).mp hx
   rw[bF] at this;lia
  have O5:=Az.trans t5;have q5:=q3.trans O5
  try dsimp only [zx]
  obtain⟨cs,ec,lc⟩:=MD ns (some 6) (some 22);have YR:cs.length<=16:=by
   have e2:=bT List.length ec;rw[ay] at e2;rw[←e2];unfold jg HT.dO;rw[bF];simp;lia
  refine⟨_,rfl,_,rfl,_,rfl,_,rfl,_,rfl,_,rfl,a,_,rfl,q5.seq ha,fun pc xG=>?_⟩;rw[ec];have s6:=ak.new (o:=.lst (cs.map V.int)) xG;have JW:=O5.trans s6;refine⟨_,rfl,pn,D,pc,xs,ps,m,cs,ar,rfl,aJ.of (JW _ _ wK),aJ.of (JW _ _ (s3 _ _ eD)),aJ.of zb,x1,x2,x3,O4,lm,by lia,fun qy av ts H7 tok dn yx tl fpt YS tt s7=>?_⟩;have JX:=JW.trans s7;have q7:=q3.trans JX
  try dsimp only [zx]
  obtain⟨JY,O6,lc2⟩:=MD ns (some 22) (some 28);have YT:JY.length<=6:=by
   have e2:=bT List.length O6;rw[ay] at e2;rw[←e2];unfold jg HT.dO;rw[bF];simp;lia
  refine⟨_,rfl,_,rfl,_,rfl,_,rfl,_,rfl,_,rfl,_,rfl,_,rfl,_,rfl,a,_,rfl,q7.seq ha,fun YU JZ=>?_⟩;rw[O6];have s8:=ak.new (o:=.lst (JY.map V.int)) JZ;have O7:=JX.trans s8;refine⟨pn,pm,YU,xs,m,lo,hi,JY,rfl,aJ.of (O7 _ _ wK),bu.of (O7 _ _ Ej),aJ.of zb,x1,x2,x3,lm,YT,GG,fun pf af fs H9 Bp MT fl fpf Ek ft s9=>?_⟩;refine⟨(by show 4<=sizeLine;decide),fun p hp=>?_⟩;have C2:=ak.new (o:=.tup [.ref pm,.ref D2,.ref qy,.ref pf]) hp;have El:=s8.trans (s9.trans C2);have sub:∀x∈xs.take m,x∈us:=fun x hx=>(xQ x).mpr hx
  have dat:Gf lo hi us ts fs:=⟨YQ,by unfold uX;lia,MS,JV,fun x hx=>x3 x (ly ((xQ x).mp hx)),ul,fun t ht=>(tok t ht).mono sub,yx,by lia,fun f hf=>(Bp f hf).mono sub,MT,by lia⟩;refine k p pm D2 qy pf lo hi us ts fs av af _ dat (fun e=>⟨_,dn e⟩) zb ⟨bu.of zb,bu.of (El _ _ (JX _ _ Ej)),aJ.of (El _ _ (s7 _ _ (s6 _ _ hd))),aJ.of (El _ _ YS),tt.same El,aJ.of (C2 _ _ Ek),ft.same C2⟩ (q7.trans El)
inductive vB (vs:List V) (H:Hp) (Q:VK):Prop
 | mk (p pm pu pt pf:ah) (lo hi:Int) (us:List Str) (ts:List aQ) (fs:List c8) (at' af:List ah) (_:vs = [.ref p]) (_:kX K H p pm pu pt pf lo hi us ts fs at' af) (_:∀(p' GI qy BB:ah) (H':Hp),H' p'=some (.tup [.ref pm,.ref GI,.ref qy,.ref BB])->kX K H' p' pm GI qy BB lo hi us ts fs at' af->ak H H'->Q (.ref p') H')
def YV:Sp:=fun vs H Q _=>vB (K:=K) vs H Q
set_option maxHeartbeats 4000000 in
theorem O8 (T:Tx K mg w zj zm zg zp):eX P w K mg base "_law_copy" ["_law_telling_here"] 1 (YV (K:=K)):=by
 refine T.X7.has Yo (fun vs H Q E h=>?_) (fun f bX A outer s H vs Q E hr h=>?_)
 ·obtain⟨p,pm,pu,pt,pf,lo,hi,us,ts,fs,at',af,rfl,_⟩:=h;rfl
 ·obtain⟨p,pm,pu,pt,pf,lo,hi,us,ts,fs,at',af,rfl,h,k⟩:=h;refine⟨_,(zi (zz (iz (za (aR (zo K rfl) (pv 0) zh) (za (xm (Di K rfl) (by rfl) T.list jR (za (aR (zo K rfl) (pv 0) zh) zf)) (za (xm (Di K rfl) (by rfl) T.list jR (za (aR (zo K rfl) (pv 0) zh) zf)) (za (xm (Di K rfl) (by rfl) T.list jR (za (aR (zo K rfl) (pv 0) zh) zf)) zf))))))),?_⟩;refine⟨_,rfl,p,_,_,_,rfl,rfl,h.p,rfl,?_⟩;refine⟨_,rfl,p,_,_,_,rfl,rfl,h.p,rfl,pu,_,rfl,.inl h.at'.u,fun b1 pC=>?_⟩;have t1:=ak.new (o:=.lst (us.map V.str)) pC;have h1:=h.same t1;refine⟨_,rfl,p,_,_,_,rfl,rfl,h1.p,rfl,pt,_,rfl,.inl h1.at'.t,fun b2 J0=>?_⟩;have t2:=ak.new (o:=.lst (at'.map V.ref)) J0;have h2:=h1.same t2;refine⟨_,rfl,p,_,_,_,rfl,rfl,h2.p,rfl,pf,_,rfl,.inl h2.at'.f,fun b3 GJ=>?_⟩;have t3:=ak.new (o:=.lst (af.map V.ref)) GJ;refine⟨(by show 4<=sizeLine;decide),fun ph YW=>?_⟩;have t4:=ak.new (o:=.tup [.ref pm,.ref b1,.ref b2,.ref b3]) YW;have q:=t1.trans (t2.trans (t3.trans t4));have hq:=h.same q;exact k ph b1 b2 b3 _ zb ⟨bu.of zb,hq.at'.m,aJ.of (t4 _ _ (t3 _ _ (t2 _ _ zb))),aJ.of (t4 _ _ (t3 _ _ zb)),hq.at'.tt,aJ.of (t4 _ _ zb),hq.at'.ft⟩ q
inductive vC (vs:List V) (H:Hp) (Q:VK):Prop
 | mk (pd:ah) (us:List Str) (bE:Str->Str) (f s:Str) (_:vs = [.ref pd,.str f,.str s]) (_:H pd=some (.dK (dN us bE))) (_:us.Nodup) (_:us.length<=1000) (_:∀H':Hp,H' pd=some (.dK (dN us (jn bE f s)))->(∀b o,b≠pd->H b=some o->H' b=some o)->Q .dG H')
def YX:Sp:=fun vs H Q _=>vC vs H Q
set_option maxHeartbeats 4000000 in
theorem YY (T:Tx K mg w zj zm zg zp):eX P w K mg base "join_ones" ["names","first","second"] 1 YX:=by
 refine T.Xv.has gX (fun vs H Q E h=>?_) (fun f bX A outer s H vs Q E hr h=>?_)
 ·obtain⟨pd,us,bE,f,s,rfl,_⟩:=h;rfl
 ·obtain⟨pd,us,bE,f,s',rfl,hd,nd,hl,k⟩:=h;have hu:=i0 hr;refine⟨_,(zc (sset (i:=3) gX.nd (jf (M4 rfl) (by rfl) T.min qM (za (pv 1) (za (pv 2) zf))))
   (zi (gQ bH rfl (ir K rfl (xm (Iv rfl) (by rfl) T.list jR (za (pv 0) zf))) (fE (i:=4) gX.nd) (zi (fQ (e7 (Me K rfl) (zw hu (pv 0) (pv 4) (fun _ _=>rfl)) (iz (za (pv 1) (za (pv 2) zf))) (by with_unfolding_all rfl)) (zi (lS hu (pv 0) (pv 4) (pv 3) rfl)) fW))))),?_⟩
  refine⟨_,rfl,_,rfl,_,_,rfl,?_⟩;refine⟨_,rfl,pd,_,rfl,hd,fun l o5=>?_⟩;rw[TX];have yy:pd≠l:=zv hd o5;refine⟨l,rfl,⟨_,aJ.of zb⟩,ny (xs:=us.map V.str) (fun i σ H'=>∃v4,σ = [some (.ref pd),some (.str f),some (.str s'),some (.str (j7 f s')),v4]/\(∀b o,b≠pd->H b=some o->H' b=some o)/\H' l=some (.lst (us.map V.str))/\
   H' pd=some (.dK (dN us fun x=>if x∈us.take i then jn bE f s' x else bE x)))
   ⟨none,rfl,fun b o _ e=>ak.new o5 _ _ e,zb,?_⟩ (fun i σ H' _ h=>by obtain⟨_,_,_,q,_⟩:=h;exact aJ.of q) ?_ ?_⟩
  ·rw[zr yy,hd,Bm (f:=fun x=>if x∈us.take 0 then jn bE f s' x else bE x) (g:=bE) fun x _=>by simp]
  ·rintro i x σ H1 hx ⟨v4,rfl,kp,pq,m9⟩;rw[aM] at hx;cases eu:us[i]? with
   | none=>rw[eu] at hx;cases hx
   | some u=>
    rw[eu] at hx;cases hx;have dz:u∈us:=bN eu;have hi:=iA eu;have iT:u ∉ us.take i:=by
     have:=um nd i hi;rw[show us[i]=u from (bV.mp eu).2] at this;exact this
    have hg:=cj.k (k:=Sum.inr u) m9;rw[qw dz,ao iT] at hg;dsimp only [zx];refine yu (decide (bE u=f\/bE u=s')) (fun Q' hQ=>?_) (fun H2 t2=>?_)
    ·refine⟨_,rfl,_,rfl,pd,_,rfl,hg,_,rfl,_,rfl,(by show 2<=sizeLine;decide),fun p hp=>?_⟩;refine⟨p,_,rfl,.inr (bu.of zb),rfl,rfl,_,rfl,?_⟩;have e:A9 (.str (bE u)) [.str f,.str s']=decide (bE u=f\/bE u=s'):=by
      rw[show ([.str f,.str s']:List V) = [f,s'].map V.str from rfl,NV];apply jw.mpr;simp
     show Q' (A9 (.str (bE u)) [.str f,.str s']) _;rw[e];exact hQ _ (ak.new hp)
    ·have hd2:=t2 _ _ m9;have O9:∀b o,b≠pd->H b=some o->H2 b=some o:=fun b o n e=>t2 _ _ (kp b o n e)
     refine bZ (fun c=>?_) (fun c=>?_)
     ·have c:=aP c;refine⟨_,rfl,_,rfl,_,rfl,pd,_,rfl,ff.k (k:=Sum.inr u) hd2 (by rw[DE];exact jx hl),?_⟩;refine⟨_,rfl,fun b o n e=>by rw[zr n];exact O9 b o n e,?_,?_⟩
      ·rw[zr yy.symm];exact t2 _ _ pq
      ·rw[zb,IG dz]
       congr 2
       refine Bm fun z hz=>?_
       have ht:z∈us.take (i+1)↔z∈us.take i\/z=u:=by
        rw[aS,eu];simp
       by_cases e:z=u
       ·subst e;rw[aq rfl,aq (ht.mpr (.inr rfl))];exact (aq c).symm
       ·rw[ao e]
        by_cases e2:z∈us.take i
        ·rw[aq e2,aq (ht.mpr (.inl e2))]
        ·rw[ao e2,ao (fun q=>(ht.mp q).elim e2 e)]
     ·have c:¬(bE u=f\/bE u=s'):=fun z=>c (aO z)
      refine⟨_,rfl,O9,t2 _ _ pq,?_⟩;rw[hd2]
      congr 2
      refine Bm fun z hz=>?_
      have ht:z∈us.take (i+1)↔z∈us.take i\/z=u:=by
       rw[aS,eu];simp
      by_cases e:z=u
      ·subst e;rw[ao iT,aq (ht.mpr (.inr rfl))];exact (ao c).symm
      ·by_cases e2:z∈us.take i
       ·rw[aq e2,aq (ht.mpr (.inl e2))]
       ·rw[ao e2,ao (fun q=>(ht.mp q).elim e2 e)]
  ·rintro σ H1 ⟨v4,rfl,kp,pq,m9⟩;refine k _ ?_ kp;rw[m9,ay,bG]
   congr 2
   exact Bm fun z hz=>aq hz
inductive xR (vs:List V) (H:Hp) (Q:VK):Prop
 | mk (pu pt:ah) (us:List Str) (av:List ah) (ts:List aQ) (_:vs = [.ref pu,.ref pt]) (_:aJ K H pu (us.map V.str)) (_:aJ K H pt (av.map V.ref)) (_:cy H av (ts.map cH)) (_:us.Nodup) (_:us.length<=1000) (_:(∀t∈ts,t.a∈us/\t.b∈us)) (_:∀(pd:ah) (H':Hp),H pd=none->H' pd=some (.dK (dN us (aC ts)))->ak H H'->Q (.ref pd) H')
def YZ:Sp:=fun vs H Q _=>xR (K:=K) vs H Q
set_option maxHeartbeats 4000000 in
theorem xS (T:Tx K mg w zj zm zg zp):eX P w K mg base "one_names" ["units","ties"] 2 (YZ (K:=K)):=by
 refine T.Xu.has fG (fun vs H Q E h=>?_) (fun f bX A outer s H vs Q E hr h=>?_)
 ·obtain⟨pu,pt,us,av,ts,rfl,_⟩:=h;rfl
 ·obtain⟨pu,pt,us,av,ts,rfl,pZ,lI,tp,nd,hl,gM,k⟩:=h;have hu:=i0 hr;refine⟨_,(zc (sset (i:=2) fG.nd o4)
   (zc (gQ bH rfl (ir K rfl (pv 0)) (fE (i:=3) fG.nd) (zi (lS hu (pv 2) (pv 3) (pv 3) rfl)))
   (zc (gQ bH rfl (ir K rfl (pv 1)) (fE (i:=4) fG.nd) (zi (fQ (e7 jQ (aR (zo K rfl) (pv 4) zh) ig (dW _)) (zi (ko (bw (YY T) (za (pv 2) (za (zw hu (pv 2) (aR (zo K rfl) (pv 4) zh) (fun _ _=>rfl)) (za (zw hu (pv 2) (aR (zo K rfl) (pv 4) zh) (fun _ _=>rfl)) zf)))))) fW)))
   (zi (zz (pv 2)))))),?_⟩
  have hlen:av.length=ts.length:=by have:=tp.len;rw[ay] at this;exact this
  refine fun pd fJ=>?_
  have s0:=ak.new (o:=.dK []) fJ;refine⟨_,rfl,pu,rfl,⟨_,s0.seq pZ⟩,ny (xs:=us.map V.str) (fun i σ H'=>∃v3,σ = [some (.ref pu),some (.ref pt),some (.ref pd),v3,none]/\ak H H'/\H' pd=some (.dK (dN (us.take i) id)))
   ⟨none,rfl,s0,zb⟩ (fun i σ H' _ h=>by obtain⟨_,_,q,_⟩:=h;exact q.seq pZ) ?_ ?_⟩
  ·rintro i x σ H1 hx ⟨v3,rfl,q,hd⟩;rw[aM] at hx;cases eu:us[i]? with
   | none=>rw[eu] at hx;cases hx
   | some u=>
    rw[eu] at hx;cases hx;have hi:=iA eu;have iT:u ∉ us.take i:=by
     have:=um nd i hi;rw[show us[i]=u from (bV.mp eu).2] at this;exact this
    dsimp only [zx];refine⟨_,rfl,_,rfl,_,rfl,pd,_,rfl,ff.k (k:=Sum.inr u) hd (by rw[DE,bF];exact jx (by lia)),?_⟩;refine⟨_,rfl,q.upd fJ,?_⟩;rw[zb,aS,eu]
    congr 2
    exact MK iT
  ·rintro σ H1 ⟨v3,rfl,q,hd⟩;rw[ay,bG] at hd;refine⟨_,rfl,pt,rfl,⟨_,q.seq lI⟩,ny (xs:=av.map V.ref) (fun i σ H'=>∃v4,σ = [some (.ref pu),some (.ref pt),some (.ref pd),v3,v4]/\ak H H'/\H' pd=some (.dK (dN us (aC (ts.take i)))))
    ⟨none,rfl,q,hd⟩ (fun i σ H' _ h=>by obtain⟨_,_,q,_⟩:=h;exact q.seq lI) ?_ ?_⟩
   ·rintro i x σ H2 hx ⟨v4,rfl,q2,hd2⟩;obtain⟨r,t,rfl,ht,_,hr⟩:=Dv tp hx;have Bu:=q2 _ _ hr;have i6:=gM t (bN ht);dsimp only [zx];refine⟨_,rfl,r,_,_,_,rfl,rfl,bu.of Bu,Dy t,rfl,_,rfl,?_⟩;refine bZ (fun c=>?_) (fun c=>?_)
    ·have c:t.k=dw:=V.str.inj (aP c);have g1:=cj.k (k:=Sum.inr t.a) hd2;have g2:=cj.k (k:=Sum.inr t.b) hd2;rw[qw i6.1] at g1;rw[qw i6.2] at g2;refine⟨_,rfl,_,rfl,_,rfl,r,_,_,_,rfl,rfl,bu.of Bu,Dz t,pd,_,rfl,g1,_,rfl,_,rfl,r,_,_,_,rfl,rfl,bu.of Bu,DA t,pd,_,rfl,g2,?_⟩;refine⟨pd,us,_,_,_,rfl,hd2,nd,hl,fun H3 fK kp=>?_⟩;refine⟨_,rfl,fun b o e=>kp b o (zv e fJ) (q2 b o e),?_⟩;rw[fK,MI ht];unfold xA;rw[aq c]
    ·have c:¬t.k=dw:=fun z=>c (aO (bT V.str z))
     refine⟨_,rfl,q2,?_⟩;rw[hd2,MI ht];unfold xA;rw[ao c]
   ·rintro σ H2 ⟨v4,rfl,q2,hd2⟩;rw[ay,hlen,bG] at hd2;exact⟨_,rfl,k pd _ fJ hd2 q2⟩
abbrev Em (H:Hp):List ah->List (List Str)->Prop:=Paired fun a g=>H a=some (.lst (g.map V.str))
theorem Pa {H:Hp}{ad:Str->ah}{g:Str->List Str}:∀{ks:List Str},(∀k∈ks,H (ad k)=some (.lst ((g k).map V.str)))->Em H (ks.map ad) (ks.map g)
 | [],_=>.nil
 | k::r,h=>.cons (h k (by simp)) (Pa fun z hz=>h z (bD _ hz))
inductive vD (vs:List V) (H:Hp) (Q:VK):Prop
 | mk (pu pt:ah) (us:List Str) (av:List ah) (ts:List aQ) (_:vs = [.ref pu,.ref pt]) (_:aJ K H pu (us.map V.str)) (_:aJ K H pt (av.map V.ref)) (_:cy H av (ts.map cH)) (_:us.Nodup) (_:us.length<64) (_:(∀t∈ts,t.a∈us/\t.b∈us)) (_:∀(p:ah) (as:List ah) (H':Hp),H p=none->(∀a∈as,H a=none)->p ∉ as->as.Nodup->H' p=some (.lst (as.map V.ref))->Em H' as (uo us ts)->ak H H'->Q (.ref p) H')
def Y0:Sp:=fun vs H Q _=>vD (K:=K) vs H Q
set_option maxHeartbeats 8000000 in
theorem Pb (T:Tx K mg w zj zm zg zp):eX P w K mg base "ones" ["units","ties"] 3 (Y0 (K:=K)):=by
 refine T.Xw.has lX (fun vs H Q E h=>?_) (fun f bX A outer s H vs Q E hr h=>?_)
 ·obtain⟨pu,pt,us,av,ts,rfl,_⟩:=h;rfl
 ·obtain⟨pu,pt,us,av,ts,rfl,pZ,lI,tp,nd,hl,gM,k⟩:=h;have hu:=i0 hr;refine⟨_,(zc (sset (i:=2) lX.nd (bw (xS T) (za (pv 0) (za (pv 1) zf))))
   (zc (sset (i:=3) lX.nd o4)
   (zc (gQ bH rfl (ir K rfl (jf (IX (K:=K) rfl) (by rfl) T.sorted mh (za (pv 0) zf))) (fE (i:=4) lX.nd) (zi (ko (pS K rfl PySem.F.plainAttrs_list PySem.F.slot_list_append PySem.F.type_list_append ql (Uv (pv 3) (zw hu (pv 2) (pv 4) (fun _ _=>rfl)) (fB zf) ⟨rfl,rfl,rfl,rfl⟩) (za (pv 4) zf)))))
   (zi (zz (xm (To rfl) (by rfl) T.list jR (za (Td K rfl PySem.F.plainAttrs_dict PySem.F.slot_dict_values PySem.F.type_dict_values Tn (pv 3)) zf))))))),?_⟩
  refine⟨_,rfl,_,rfl,pu,pt,us,av,ts,rfl,pZ,lI,tp,nd,by lia,gM,fun pn H1 Ay hn s1=>?_⟩
  try dsimp only [zx]
  refine fun pd fJ=>?_
  have s2:=ak.new (o:=.dK []) fJ;refine⟨_,rfl,pu,us,rfl,(s1.trans s2).seq pZ,hl,fun l ms o5 pm rs=>?_⟩;have em:=IK pm rs;subst em;have s3:=ak.new (o:=.lst ((aL us).map V.str)) o5;have pD:H pd=none:=s1.free fJ;have fl:H l=none:=(s1.trans s2).free o5;have n1:pd≠l:=zv zb o5;have n2:pn≠pd:=zv hn fJ;have n3:pn≠l:=zv (s2 _ _ hn) o5;refine⟨l,rfl,⟨_,aJ.of zb⟩,ny (xs:=(aL us).map V.str) (fun i σ H'=>∃v4 ad,σ = [some (.ref pu),some (.ref pt),some (.ref pn),some (.ref pd),v4]/\ak H H'/\H' l=some (.lst ((aL us).map V.str))/\H' pn=some (.dK (dN us (aC ts)))/\
   H' pd=some (.dK (dV (zn ts ((aL us).take i)) fun k=>.ref (ad k)))/\(∀k∈zn ts ((aL us).take i),H' (ad k)=some (.lst ((pJ ts ((aL us).take i) k).map V.str))/\H (ad k)=none/\ad k≠pd/\ad k≠l/\ad k≠pn)/\
   (∀k∈zn ts ((aL us).take i),∀k'∈zn ts ((aL us).take i),ad k=ad k'->k=k'))
   ⟨none,fun _=>0,rfl,s1.trans (s2.trans s3),zb,s3 _ _ (s2 _ _ hn),s3 _ _ zb,(fun k hk=>by simp[zn] at hk),fun k hk=>by simp[zn] at hk⟩ (fun i σ H' _ h=>by obtain⟨_,_,_,_,q,_⟩:=h;exact aJ.of q) ?_ ?_⟩
  ·rintro i v σ H2 hx ⟨v4,ad,rfl,q,nA,qU,hd2,vE,yO⟩;rw[aM] at hx;cases eu:(aL us)[i]? with
   | none=>rw[eu] at hx;cases hx
   | some u=>
    rw[eu] at hx;cases hx;have dz:u∈us:=j8.mp (bN eu);have hi:=iA eu;have hkl:(zn ts ((aL us).take i)).length<=63:=by
     have h1:(zn ts ((aL us).take i)).length<=((aL us).take i).length:=gE _ _;have h2:((aL us).take i).length<=(aL us).length:=by rw[bF];lia
     rw[IM] at h2;lia
    have Y3:∀k,(pJ ts ((aL us).take i) k).length<=63:=fun k=>by
     have h1:(pJ ts ((aL us).take i) k).length<=((aL us).take i).length:=gE _ _;have h2:((aL us).take i).length<=(aL us).length:=by rw[bF];lia
     rw[IM] at h2;lia
    have g:=cj.k (k:=Sum.inr u) qU;rw[qw dz] at g;obtain⟨J1,J2⟩:=T5 (ts:=ts) nd eu
    try dsimp only [zx]
    refine⟨_,rfl,pd,rfl,.inl ⟨_,.inl hd2⟩,_,rfl,_,rfl,pn,_,rfl,g,by decide,fun q0 bg=>?_⟩;have t0:=ak.new (o:=.lst []) bg;have fK:=t0 _ _ hd2;have nq:pd≠q0:=zv hd2 bg;refine⟨_,Sum.inr (aC ts u),fK,rfl,by rw[ji];exact jx (by lia),fun v hv=>?_,fun hv=>?_⟩
    ·have lG:aC ts u∈zn ts ((aL us).take i):=d9 fun z=>by rw[Ah z] at hv;cases hv
     rw[o8 lG] at hv;cases hv;obtain⟨h1,h2,h3,h4,h5⟩:=vE _ lG;have mY:¬aC ts u=u:=fun e=>by rw[e] at lG;exact J1 lG
     have yz:=t0 _ _ h1;refine⟨.inl ⟨rfl,_,aJ.of yz⟩,_,rfl,ad (aC ts u),_,_,rfl,rfl,yz,by rw[ay];exact jx (by have:=Y3 (aC ts u);lia),?_⟩;have ks:zn ts ((aL us).take (i+1))=zn ts ((aL us).take i):=by rw[MN eu,ao mY,g8]
     refine⟨_,ad,rfl,(q.trans t0).upd h2,?_,?_,?_,?_,?_⟩
     ·rw[zr (aD h4)];exact t0 _ _ nA
     ·rw[zr (aD h5)];exact t0 _ _ qU
     ·rw[zr (aD h3),ks];exact fK
     ·rw[ks];intro k hk;obtain⟨b1,b2,b3,b4,b5⟩:=vE k hk;refine⟨?_,b2,b3,b4,b5⟩;rw[IP eu]
      by_cases e:aC ts u=k
      ·subst e;rw[aq rfl,zb,aT];rfl
      ·rw[ao e,g8,zr (fun z=>e (yO _ lG _ hk z.symm))];exact t0 _ _ b1
     ·rw[ks];exact yO
    ·have lG:aC ts u ∉ zn ts ((aL us).take i):=fun z=>by rw[o8 z] at hv;cases hv
     have he:aC ts u=u:=d9 fun z=>lG (T3 nd gM eu z)
     rw[he];rw[he] at lG;have e3:upd (upd H2 q0 (.lst [])) pd (.dK (putK (dV (zn ts ((aL us).take i)) fun k=>.ref (ad k)) (Sum.inr u) (.ref q0))) q0=some (.lst []):=by rw[zr (aD nq),zb]
     refine⟨.inl ⟨rfl,_,aJ.of e3⟩,_,rfl,q0,_,_,rfl,rfl,e3,by decide,?_⟩;have ks:zn ts ((aL us).take (i+1))=zn ts ((aL us).take i)++[u]:=by rw[MN eu,aq he]
     have nl:l≠q0:=zv nA bg;have nn:pn≠q0:=zv qU bg;have yP:H q0=none:=q.free bg;refine⟨_,fun z=>if z=u then q0 else ad z,rfl,((q.trans t0).upd pD).upd yP,?_,?_,?_,?_,?_⟩
     ·rw[zr nl,zr (aD n1)];exact t0 _ _ nA
     ·rw[zr nn,zr n2];exact t0 _ _ qU
     ·rw[zr nq,zb,wA lG,ks]
      congr 2
      refine sS fun z hz=>?_
      dsimp only
      by_cases e:z=u
      ·rw[aq e,aq e]
      ·rw[ao e,ao e]
     ·rw[ks];intro k hk;dsimp only
      by_cases e:k=u
      ·subst e;rw[aq rfl];refine⟨?_,yP,aD nq,aD nl,aD nn⟩;rw[zb,IP eu,aq he,J2 he];rfl
      ·rw[ao e];have gj:k∈zn ts ((aL us).take i):=by
        rcases bM.mp hk with h | h
        ·exact h
        ·exact absurd (by simpa using h) e
       obtain⟨b1,b2,b3,b4,b5⟩:=vE k gj;refine⟨?_,b2,b3,b4,b5⟩;have nk:ad k≠q0:=zv b1 bg;rw[zr nk,zr b3,IP eu,ao (fun z=>e (z.symm.trans he)),g8];exact t0 _ _ b1
     ·rw[ks];intro k hk k' gj z;dsimp only at z;have sE:∀z,z∈zn ts ((aL us).take i)++[u]->z≠u->z∈zn ts ((aL us).take i):=fun z hz e=>by
       rcases bM.mp hz with h | h
       ·exact h
       ·exact absurd (by simpa using h) e
      by_cases e:k=u
      ·by_cases e':k'=u
       ·rw[e,e']
       ·rw[aq e,ao e'] at z;have:=(vE k' (sE _ gj e')).1;exact absurd z.symm (zv this bg)
      ·by_cases e':k'=u
       ·rw[ao e,aq e'] at z;have:=(vE k (sE _ hk e)).1;exact absurd z (zv this bg)
       ·rw[ao e,ao e'] at z;exact yO k (sE _ hk e) k' (sE _ gj e') z
  ·rintro σ H2 ⟨v4,ad,rfl,q,nA,qU,hd2,vE,yO⟩;rw[ay,bG] at hd2 vE yO;refine⟨_,rfl,.inr (.inr (.inl ⟨rfl,.inl ⟨_,hd2⟩⟩)),pd,_,rfl,rfl,hd2,fun pv GK=>?_⟩;have s3:=ak.new (o:=FZ pv pd) GK;refine⟨pv,pd,_,rfl,zb,s3 _ _ hd2,fun pf Ek=>?_⟩;rw[TZ];have em:(zn ts (aL us)).map (fun k=>V.ref (ad k))=((zn ts (aL us)).map ad).map V.ref:=by rw[fO];rfl
   rw[em];have s4:=ak.new (o:=.lst (((zn ts (aL us)).map ad).map V.ref)) Ek;have q4:=s3.trans s4;have knd:(zn ts (aL us)).Nodup:=(IL nd).sublist (l8 ..);refine k pf ((zn ts (aL us)).map ad) _ (q.free (s3.free Ek)) (fun a ha=>?_) (fun z=>?_) ?_ zb (Pa fun x hx=>q4 _ _ (vE x hx).1) (q.trans q4)
   ·obtain⟨x,hx,rfl⟩:=br.mp ha;exact (vE x hx).2.1
   ·obtain⟨x,hx,e⟩:=br.mp z;have:=s3 _ _ (vE x hx).1;rw[e,Ek] at this;cases this
   ·clear vE hd2 s4 q4 em;generalize zn ts (aL us)=ks at yO knd
    induction ks with
    | nil=>exact List.nodup_nil
    | cons x r ih=>
     rw[iL] at knd;rw[fL,iL];refine⟨fun z=>?_,ih (fun a ha b hb=>yO a (bD _ ha) b (bD _ hb)) knd.2⟩;obtain⟨y,hy,e⟩:=br.mp z;have:=yO y (bD _ hy) x (by simp) e;subst this;exact knd.1 hy
inductive tK (vs:List V) (H:Hp) (Q:VK):Prop
 | mk (p pu pt:ah) (x y:V) (us:List Str) (av:List ah) (ts:List aQ) (_:vs = [.ref p]) (_:mZ K H p pu pt x y us av ts) (_:∀(pd:ah) (ob:Obj) (ad:Str->ah) (bs:Str->List ah) (H':Hp),ak H H'->H pd=none->Bn H' pd ob (zn ts (aL us)) (cG ts (ts.zip av)) ad bs->Q (.ref pd) H')
def Y4:Sp:=fun vs H Q _=>tK (K:=K) vs H Q
set_option maxHeartbeats 8000000 in
theorem uz (T:Tx K mg w zj zm zg zp):eX P w K mg base "ties_beneath" ["telling"] 4 (Y4 (K:=K)):=by
 refine T.Xx.has cM (fun vs H Q E h=>?_) (fun f bX A outer s H vs Q E hr h=>?_)
 ·obtain⟨p,pu,pt,x,y,us,av,ts,rfl,_⟩:=h;rfl
 ·obtain⟨p,pu,pt,x,y,us,av,ts,rfl,hT,k⟩:=h;have hu:=i0 hr;refine⟨_,(zc (sset (i:=1) cM.nd (bw (xS T) (za (aR (zo K rfl) (pv 0) zh) (za (aR (zo K rfl) (pv 0) zh) zf))))
   (zc (sset (i:=2) cM.nd o4)
   (zc (gQ bH rfl (ir K rfl (bw (Pb T) (za (aR (zo K rfl) (pv 0) zh) (za (aR (zo K rfl) (pv 0) zh) zf)))) (fE (i:=3) cM.nd) (zi (lS hu (pv 2) (aR (gJ K rfl) (pv 3) zh) (fB zf) rfl)))
   (zc (gQ bH rfl (ir K rfl (aR (zo K rfl) (pv 0) zh)) (fE (i:=4) cM.nd) (zi (fQ (e7 Fo (aR (zo K rfl) (pv 4) zh) ig (dW _)) (zi (ko (pS K rfl PySem.F.plainAttrs_list PySem.F.slot_list_append PySem.F.type_list_append ql (zw hu (pv 2) (zw hu (pv 1) (aR (zo K rfl) (pv 4) zh) (fun _ _=>rfl)) (fun _ _=>rfl)) (za (iz (za (zw hu (pv 1) (aR (zo K rfl) (pv 4) zh) (fun _ _=>rfl)) (za (pv 4) zf))) zf)))) fW)))
   (zi (yC (zz (pv 2)))))))),?_⟩
  have gM:=hT.ends;obtain⟨hp,pZ,lI,tp,nd,hl,tl,_⟩:=hT;have hlen:av.length=ts.length:=by have:=tp.len;rw[ay] at this;exact this
  refine⟨_,rfl,p,_,_,_,rfl,rfl,hp,rfl,_,rfl,p,_,_,_,rfl,rfl,hp,rfl,pu,pt,us,av,ts,rfl,pZ,lI,tp,nd,by lia,gM,fun pn H1 Ay hn s1=>?_⟩
  try dsimp only [zx]
  refine fun pd fJ=>?_
  have s2:=ak.new (o:=.dK []) fJ;have q2:=s1.trans s2;refine⟨_,rfl,p,_,_,_,rfl,rfl,q2.tup hp,rfl,_,rfl,p,_,_,_,rfl,rfl,q2.tup hp,rfl,pu,pt,us,av,ts,rfl,q2.seq pZ,q2.seq lI,tp.same q2,nd,hl,gM,fun po as H3 AA Y5 En J3 tM Eo s3=>?_⟩;have wK:=s3 _ _ (s2 _ _ hn);have fK:=s3 _ _ (zb (H:=H1) (a:=pd) (o:=.dK []));have q3:=q2.trans s3;have pD:H pd=none:=s1.free fJ;have GL:pn≠pd:=zv hn fJ;have lk:as.length=(zn ts (aL us)).length:=by have:=Paired.length Eo;unfold uo at this;rw[ay] at this;exact this
  have AB:(zn ts (aL us)).length<=63:=by
   have:=IU (us:=us) (ts:=ts) nd;unfold uo at this;rw[ay] at this;lia
  have hz:∀{i:Nat}{t:aQ}{r:ah},ts[i]? = some t->av[i]? = some r->(ts.zip av)[i]? = some (t,r):=fun h1 h2=>jm.mpr ⟨h1,h2⟩
  generalize ek:zn ts (aL us)=keys at lk AB k;have knd:keys.Nodup:=ek▸uY nd;have J4:uo us ts=keys.map (pJ ts (aL us)):=by unfold uo;rw[ek]
  refine⟨po,rfl,⟨_,aJ.of tM⟩,ny (xs:=as.map V.ref) (fun i σ H'=>∃(v3:Option V) (ad:Str->ah),σ = [some (.ref p),some (.ref pn),some (.ref pd),v3,none]/\(∀b o,b≠pd->H3 b=some o->H' b=some o)/\
   H' pd=some (.dK (dV (keys.take i) fun k=>.ref (ad k)))/\(∀k∈keys.take i,H' (ad k)=some (.lst [])/\H3 (ad k)=none)/\(∀k∈keys.take i,∀k'∈keys.take i,ad k=ad k'->k=k'))
   ⟨none,fun _=>0,rfl,fun b o _ e=>e,fK,(fun k hk=>by simp at hk),fun k hk=>by simp at hk⟩ (fun i σ H' _ h=>by obtain⟨_,_,_,q,_⟩:=h;exact aJ.of (q _ _ (qf tM fK (by simp)) tM)) ?_ ?_⟩
  ·rintro i v σ H4 hx ⟨v3,ad,rfl,kp,jB,jk,inj⟩;obtain⟨r,g,rfl,hg,BC,hr⟩:=uq Eo hx;rw[J4,aM] at hg;cases eu:keys[i]? with
   | none=>rw[eu] at hg;cases hg
   | some u=>
    rw[eu] at hg;cases hg;have dz:u∈keys:=bN eu;have hi:=iA eu;have iT:u ∉ keys.take i:=by
     have:=um knd i hi;rw[show keys[i]=u from (bV.mp eu).2] at this;exact this
    obtain⟨gr,J6⟩:=MP (us:=us) (ts:=ts) nd (k:=u) (ek▸dz);rw[J6] at hr;have AD:=kp _ _ (qf hr fK (by simp)) hr
    try dsimp only [zx]
    refine⟨by decide,fun q0 bg=>?_⟩;have t0:=ak.new (o:=.lst []) bg;have gC:=t0 _ _ jB;have nq:pd≠q0:=zv jB bg;refine⟨_,rfl,_,rfl,r,_,_,_,rfl,rfl,aJ.of (t0 _ _ AD),sd,pd,_,rfl,ff.k (k:=Sum.inr u) gC (by rw[ji,bF];exact jx (by lia)),?_⟩;have fq:H3 q0=none:=by
     cases e:H3 q0 with
     | none=>rfl
     | some o=>rw[kp _ _ (aD nq) e] at bg;cases bg
    refine⟨_,fun z=>if z=u then q0 else ad z,rfl,fun b o n e=>by rw[zr n];exact t0 _ _ (kp b o n e),?_,?_,?_⟩
    ·rw[zb,wA iT,aS,eu]
     congr 2
     refine sS fun z hz=>?_
     dsimp only
     by_cases e:z=u
     ·rw[aq e,aq e]
     ·rw[ao e,ao e]
    ·intro k hk;rw[aS,eu,bM] at hk;dsimp only
     by_cases e:k=u
     ·rw[aq e];exact⟨by rw[zr (aD nq),zb],fq⟩
     ·rw[ao e];have gj:k∈keys.take i:=hk.elim id fun z=>absurd (by simpa using z) e
      obtain⟨h1,h2⟩:=jk k gj;refine⟨?_,h2⟩;rw[zr (fun z=>by rw[z,jB] at h1;cases h1)];exact t0 _ _ h1
    ·intro k hk k' gj e;rw[aS,eu,bM] at hk gj;dsimp only at e
     by_cases c1:k=u<;>by_cases c2:k'=u
     ·rw[c1,c2]
     ·rw[aq c1,ao c2] at e;have h2:=(jk k' (gj.elim id fun z=>absurd (by simpa using z) c2)).1;rw[←e,bg] at h2;cases h2
     ·rw[ao c1,aq c2] at e;have h2:=(jk k (hk.elim id fun z=>absurd (by simpa using z) c1)).1;rw[e,bg] at h2;cases h2
     ·rw[ao c1,ao c2] at e;exact inj k (hk.elim id fun z=>absurd (by simpa using z) c1) k' (gj.elim id fun z=>absurd (by simpa using z) c2) e
  ·rintro σ H4 ⟨v3,ad,rfl,kp,jB,jk,inj⟩;rw[ay,lk,bG] at jB jk inj;have xT:∀{H':Hp},(∀b o,b≠pd->H3 b=some o->H' b=some o)->ak H H':=fun C7 b o e=>C7 b o (zv e pD) (q3 _ _ e)
   have q4:=xT kp;refine⟨_,rfl,p,_,_,_,rfl,rfl,q4.tup hp,rfl,pt,rfl,⟨_,q4.seq lI⟩,ny (xs:=av.map V.ref) (fun i σ H'=>∃(v4:Option V) (bs:Str->List ah),σ = [some (.ref p),some (.ref pn),some (.ref pd),v3,v4]/\(∀b o,b≠pd->H3 b=some o->H' b=some o)/\
    H' pd=some (.dK (dV keys fun k=>.ref (ad k)))/\∀k∈keys,H' (ad k)=some (.lst ((bs k).map V.ref))/\Paired (fun b (p:Str×ah)=>H' b=some (.tup [.str p.1,.ref p.2])) (bs k) (cG ts ((ts.zip av).take i) k))
    ⟨none,fun _=>[],rfl,kp,jB,fun k hk=>⟨(jk k hk).1,.nil⟩⟩ (fun i σ H' _ h=>by obtain⟨_,_,_,q,_⟩:=h;exact (xT q).seq lI) ?_ ?_⟩
   ·rintro i x σ H5 hx ⟨v4,bs,rfl,lO,gC,nS⟩;obtain⟨r,t,rfl,ht,BC,hr⟩:=Dv tp hx;have q5:=xT lO;have wL:=q5 _ _ hr;have i6:=gM t (bN ht);have hit:=iA ht;have GN:=hz ht BC
    try dsimp only [zx]
    refine⟨_,rfl,r,_,_,_,rfl,rfl,bu.of wL,Dy t,rfl,_,rfl,?_⟩;refine bZ (fun c=>?_) (fun c=>?_)
    ·have c:t.k≠dw:=by
      intro z;simp[z,dw] at c
     have g1:=cj.k (k:=Sum.inr t.a) (lO _ _ GL wK);have g2:=cj.k (k:=Sum.inr t.b) (lO _ _ GL wK);rw[qw i6.1] at g1;rw[qw i6.2] at g2;have xU:aC ts t.a∈keys:=ek▸yw gM i6.1;have g3:=cj.k (k:=Sum.inr (aC ts t.a)) gC;rw[o8 xU] at g3;obtain⟨pC,J0⟩:=nS _ xU;refine⟨_,rfl,_,rfl,_,rfl,r,_,_,_,rfl,rfl,bu.of wL,Dz t,pn,_,rfl,g1,pd,_,rfl,g3,?_⟩;refine⟨.inl ⟨rfl,_,aJ.of pC⟩,_,rfl,_,rfl,r,_,_,_,rfl,rfl,bu.of wL,DA t,pn,_,rfl,g2,_,rfl,(by show 2<=sizeLine;decide),fun b0 rD=>?_⟩;have t0:=ak.new (o:=.tup [.str (aC ts t.b),.ref r]) rD;have AE:=t0 _ _ pC;have lb:(bs (aC ts t.a)).length<=900:=by
      have h1:=Paired.length J0;have h2:=Gg (ts:=ts) (z:=(ts.zip av).take i) (k:=aC ts t.a);rw[bF,g9] at h2;lia
     refine⟨ad (aC ts t.a),_,_,rfl,rfl,AE,by rw[ay];exact jx (by lia),?_⟩;have st:∀b vs,H5 b=some (.tup vs)->upd (upd H5 b0 (.tup [.str (aC ts t.b),.ref r])) (ad (aC ts t.a)) (.lst ((bs (aC ts t.a)).map V.ref++[.ref b0])) b=some (.tup vs):=fun b vs e=>qv AE _ _ (t0 _ _ e)
     refine⟨_,fun z=>if z=aC ts t.a then bs z++[b0] else bs z,rfl,fun b o n e=>?_,?_,fun k hk=>?_⟩
     ·rw[zr (fun z=>by rw[z,(jk _ xU).2] at e;cases e)];exact t0 _ _ (lO b o n e)
     ·rw[zr (fun z=>by rw[←z,gC] at pC;cases pC)];exact t0 _ _ gC
     ·obtain⟨b1,b2⟩:=nS k hk;have Pc:=Paired.fV b2 fun b p e=>st b _ e
      rw[MU GN];dsimp only
      by_cases e:k=aC ts t.a
      ·subst e;rw[aq rfl,aq ⟨c,rfl⟩];refine⟨by rw[zb,aT];rfl,Paired.snoc Pc ?_⟩;exact qv AE _ _ zb
      ·rw[ao e,ao (fun z=>e z.2.symm),g8];refine⟨?_,Pc⟩;rw[zr (fun z=>e (inj _ hk _ xU z))];exact t0 _ _ b1
    ·have c:t.k=dw:=by
      simpa[dw] using c
     refine⟨_,bs,rfl,lO,gC,fun k hk=>?_⟩;rw[MU GN,ao (fun z=>z.1 c),g8];exact nS k hk
   ·rintro σ H5 ⟨v4,bs,rfl,lO,gC,nS⟩;rw[ay] at nS;have ez:(ts.zip av).take av.length=ts.zip av:=ou (by rw[g9];lia);rw[ez] at nS;refine .inr ⟨pd,_,gC,fun ob=>⟨_,rfl,k pd ob ad bs _ ?_ pD ⟨zb,fun k hk=>?_,fun k hk=>?_⟩⟩⟩
    ·exact (xT lO).upd pD
    ·obtain⟨b1,b2⟩:=nS k hk;rw[zr (fun z=>by rw[z,gC] at b1;cases b1)];exact b1
    ·obtain⟨b1,b2⟩:=nS k hk;refine Paired.fV b2 fun b p e=>?_
     rw[zr (fun z=>by rw[z,gC] at e;cases e)];exact e
inductive p7 (vs:List V) (H:Hp) (Q:VK):Prop
 | mk (s:Str) (pd:ah) (ob:Obj) (keys:List Str) (ln:Ln) (ad:Str->ah) (bs:Str->List ah) (_:vs = [.str s,.ref pd]) (_:Bn H pd ob keys ln ad bs) (_:s∈keys) (_:(∀k∈keys,∀l r,(l,r)∈ln k->l∈keys)) (_:keys.length<=63) (_:∀(p:ah) (rs:List ah) (H':Hp),ak H H'->H p=none->H' p=some (.lst (rs.map V.ref))->rs.length<=64->MW ln s rs->Q (.ref p) H')
def Y6:Sp:=fun vs H Q _=>p7 vs H Q
set_option maxHeartbeats 8000000 in
theorem Y7 (T:Tx K mg w zj zm zg zp):eX P w K mg base "round_through" ["start","beneath"] 1 Y6:=by
 refine T.Xz.has bh (fun vs H Q E h=>?_) (fun f bX A outer s H vs Q E hr h=>?_)
 ·obtain⟨s',pd,ob,keys,ln,ad,bs,rfl,_⟩:=h;rfl
 ·obtain⟨s',pd,ob,keys,ln,ad,bs,rfl,hB,hs,hc,hk,k⟩:=h;have hu:=i0 hr;refine⟨_,(zc (sset (i:=2) bh.nd o4)
   (zc (sset (i:=3) bh.nd (fB (za (iz (za (pv 0) (za (fB zf) zf))) zf)))
   (zc (A2 bH (e7 (zev K rfl (j5 hr)) (pv 3) (fB zf) (dW _)) (zc (sset (i:=4) bh.nd (fB zf))
    (zc (gQ bH rfl (ir K rfl (pv 3)) (ug K rfl rfl (lQ (fE (i:=5) bh.nd) (lQ (fE (i:=6) bh.nd) ud))) (zi (gQ bH rfl (ir K rfl (zw hu (pv 1) (pv 5) (fun _ _=>rfl))) (ug K rfl rfl (lQ (fE (i:=7) bh.nd) (lQ (fE (i:=8) bh.nd) ud))) (zc (fQ (e7 jQ (pv 7) (pv 0) (dW _)) (zi (zz (gf zU (pv 6) (fB (za (pv 8) zf))))) fW)
      (zi (fQ (ym (CL hu (pv 7) (pv 2))) (zc (lS hu (pv 2) (pv 7) sH rfl)
       (zi (ko (pS K rfl PySem.F.plainAttrs_list PySem.F.slot_list_append PySem.F.type_list_append ql (pv 4) (za (iz (za (pv 7) (za (gf zU (pv 6) (fB (za (pv 8) zf))) zf))) zf))))) fW))))))
    (zi (sset (i:=3) bh.nd (pv 4))))))
   (zi (zz (fB zf)))))),?_⟩
  refine fun pm Ej=>?_
  have s0:=ak.new (o:=.dK []) Ej
  try dsimp only [zx]
  refine⟨_,rfl,by decide,fun l0 uA=>?_⟩;have s1:=ak.new (o:=.lst []) uA;refine⟨(by show 2<=sizeLine;decide),fun b0 rD=>?_⟩;have s2:=ak.new (o:=.tup [.str s',.ref l0]) rD;refine⟨(by show 1<=sizeLine;decide),fun pw Y8=>?_⟩;have s3:=ak.new (o:=.lst [.ref b0]) Y8;have q3:=s0.trans (s1.trans (s2.trans s3));have wz:=s3 _ _ (s2 _ _ (s1 _ _ (zb (H:=H) (a:=pm) (o:=.dK []))));have J7:=s3 _ _ (s2 _ _ (zb (H:=upd H pm (.dK [])) (a:=l0) (o:=.lst [])));have GJ:=s3 _ _ (zb (H:=upd (upd H pm (.dK [])) l0 (.lst [])) (a:=b0) (o:=.tup [.str s',.ref l0]));have Pd:=zb (H:=upd (upd (upd H pm (.dK [])) l0 (.lst [])) b0 (.tup [.str s',.ref l0])) (a:=pw) (o:=.lst [.ref b0]);generalize upd (upd (upd (upd H pm (.dK [])) l0 (.lst [])) b0 (.tup [.str s',.ref l0])) pw (.lst [.ref b0])=H3 at q3 wz J7 GJ Pd;refine⟨fun m σ H'=>∃(v4 v5 v6 v7 v8:Option V) (pw:ah) (wl:List ah) (es:List (Str×List ah)) (d:Nat) (M:List Str),σ = [some (.str s'),some (.ref pd),some (.ref pm),some (.ref pw),v4,v5,v6,v7,v8]/\ak H H'/\H' pm=some (.dK (dV M iu))/\
   H' pw=some (.lst (wl.map V.ref))/\Paired (MV H') wl es/\(∀e∈es,Wk ln s' e.2 e.1/\e.2.length=d/\e.1∈keys)/\M.Nodup/\(∀v∈M,v∈keys)/\Bf ln s' d M (es.map Prod.fst)/\(es≠[]->d<=M.length)/\
   m=2 * (keys.length-M.length)+(if es = [] then 0 else 1),⟨_,none,none,none,none,none,pw,[b0],[(s',[])],0,[],rfl,q3,wz,Pd,.cons ⟨l0,GJ,J7⟩ .nil,?_,by simp,by simp,Bf.zero,fun _=>aH _,rfl⟩,?_⟩
  ·intro e he;have:e=(s',[]):=by simpa using he
   subst this;exact⟨.nil,rfl,hs⟩
  rintro m σ H4 ⟨v4,v5,v6,v7,v8,pw,wl,es,d,M,rfl,q4,Y9,Pe,Pf,Za,wM,AF,bf,Zb,rfl⟩;have lM:M.length<=63:=by have:=sj wM AF;lia
  refine⟨_,rfl,by decide,fun le hle=>?_⟩;have t5:=ak.new (o:=.lst []) hle;refine⟨pw,le,_,rfl,rfl,dH.sO (aJ.of (t5 _ _ Pe)) (aJ.of zb),_,rfl,?_⟩;have lw:wl.length=es.length:=Paired.length Pf;have q5:=q4.trans t5;have BD:=t5 _ _ Y9;have GO:=t5 _ _ Pe;have Pg:Paired (MV (upd H4 le (.lst []))) wl es:=Paired.fV Pf fun _ _ ⟨q,h1,h2⟩=>⟨q,t5 _ _ h1,t5 _ _ h2⟩
  have Zc:=t5;generalize upd H4 le (.lst [])=H5 at q5 BD GO Pg Zc;refine bZ (fun c=>?_) (fun c=>?_)
  ·have GP:es≠[]:=fun z=>by
    subst z;have:wl = []:=mq.mp (by simpa using lw);subst this;simp at c
   have dM:=Zb GP;refine⟨fun aK H'=>∃m',m'<2 * (keys.length-M.length)+(if es = [] then 0 else 1)/\_,fun aK H' h=>h,?_⟩
   try dsimp only [zx]
   refine⟨by decide,fun pl kq=>?_⟩;have t6:=ak.new (o:=.lst []) kq;have yy:pl≠pm:=aD (zv BD kq);have Zd:pw≠pm:=qf GO BD (by simp);have Bk:∀{H':Hp},(∀b o,b≠pm->H5 b=some o->H' b=some o)->ak H H':=fun kp b o e=>kp b o (zv e Ej) (q5 _ _ e)
   refine⟨_,rfl,pw,rfl,⟨_,aJ.of (t6 _ _ GO)⟩,ny (xs:=wl.map V.ref) (fun i σ H'=>∃(v5 v6 v7 v8:Option V) (ml:List ah) (fs:List (Str×List ah)),σ = [some (.str s'),some (.ref pd),some (.ref pm),some (.ref pw),some (.ref pl),v5,v6,v7,v8]/\
    u0 H5 H' pm pl ln s' keys M d ml fs/\∀u∈(es.take i).map Prod.fst,∀v r,(v,r)∈ln u->v≠s'/\v∈M++fs.map Prod.fst)
    ⟨v5,v6,v7,v8,[],[],rfl,⟨fun b o _ e=>t6 _ _ e,?_,zb,.nil,(fun e he=>(cW he).elim),by simpa using wM⟩,fun u hu=>by simp at hu⟩ (fun i σ H' _ h=>by obtain⟨_,_,_,_,_,_,_,g,_⟩:=h;exact aJ.of (g.kp _ _ Zd GO)) ?_ ?_⟩
   ·rw[jK,g8];exact t6 _ _ BD
   ·rintro i x σ H6 hx ⟨u5,u6,u7,u8,ml,fs,rfl,g,cond⟩;obtain⟨b,e,rfl,he,hbw,q,hb,hq⟩:=uq Pg hx;have hie:=iA he;have Ze:e∈es:=bN he;obtain⟨wk,J8,ek⟩:=Za e Ze;have nb:b≠pm:=qf hb BD (by simp);have nq:q≠pm:=qf hq BD (by simp);refine⟨b,_,rfl,bu.of (g.kp _ _ nb hb),rfl,_,_,rfl,_,_,rfl,rfl,?_⟩;have B6:=hB.same (Bk g.kp);refine⟨_,rfl,_,rfl,pd,_,rfl,B6.get ek,ad e.1,rfl,⟨_,aJ.of (B6.l _ ek)⟩,ny (xs:=(bs e.1).map V.ref) (fun j σ H'=>∃(v7 v8:Option V) (ml:List ah) (fs:List (Str×List ah)),σ = [some (.str s'),some (.ref pd),some (.ref pm),some (.ref pw),some (.ref pl),some (.str e.1),some (.ref q),v7,v8]/\
     u0 H5 H' pm pl ln s' keys M d ml fs/\(∀u∈(es.take i).map Prod.fst,∀v r,(v,r)∈ln u->v≠s'/\v∈M++fs.map Prod.fst)/\∀p∈(ln e.1).take j,p.1≠s'/\p.1∈M++fs.map Prod.fst)
     ⟨u7,u8,ml,fs,rfl,g,cond,by simp⟩ (fun j σ H' _ h=>by obtain⟨_,_,_,_,_,g,_⟩:=h;exact aJ.of ((hB.same (Bk g.kp)).l _ ek)) ?_ ?_⟩
    ·rintro j x σ H7 hx ⟨u7,u8,ml,fs,rfl,g,cond,nX⟩;have B7:=hB.same (Bk g.kp);obtain⟨b',⟨l,r⟩,rfl,nY,Ph,Zf⟩:=uq (B7.e _ ek) hx;have BE:(l,r)∈ln e.1:=bN nY;have iV:l∈keys:=hc _ ek l r BE;refine⟨b',_,rfl,bu.of Zf,rfl,_,_,rfl,_,_,rfl,rfl,?_⟩;have p8:=g.kp _ _ nq hq;have Pj:(M++fs.map Prod.fst).length<=63:=by
      have:=sj g.nd (us:=keys) fun v hv=>(bM.mp hv).elim (AF v) fun z=>by
       obtain⟨e',h1,rfl⟩:=br.mp z;exact (g.ok e' h1).2.2
      lia
     try dsimp only [zx]
     refine⟨_,rfl,_,rfl,rfl,_,rfl,?_⟩;refine bZ (fun c1=>?_) (fun c1=>?_)
     ·have c1:l=s':=V.str.inj (aP c1);refine⟨_,rfl,_,rfl,(by show 1<=sizeLine;decide),fun p1 kZ=>?_⟩;have w1:=ak.new (o:=.lst [.ref r]) kZ;refine⟨q,p1,_,_,rfl,rfl,w1 _ _ p8,zb,by rw[ay];exact pH (by show e.2.length+1<=1000;lia),fun p2 oY=>?_⟩;have w2:=ak.new (o:=.lst (e.2.map V.ref++[.ref r])) oY;have q7:ak H _:=(Bk g.kp).trans (w1.trans w2);refine k p2 (e.2++[r]) _ q7 (((Bk g.kp).trans w1).free oY) (by rw[zb,aT];rfl) (by rw[bL];show e.2.length+1<=64;lia) (.inr ⟨by simp,c1▸wk.snoc BE,fun j h1 h2=>bf.no j h1 ?_⟩);rw[bL] at h2;have h2:j<e.2.length+1:=h2;lia
     ·have c1:¬l=s':=fun z=>c1 (aO (bT V.str z))
      have g1:=cj.k (k:=Sum.inr l) g.m;refine⟨_,rfl,_,rfl,pm,_,rfl,g1,_,rfl,?_⟩;refine bZ (fun c2=>?_) (fun c2=>?_)
      ·have hv:l ∉ M++fs.map Prod.fst:=fun z=>by
        rw[o8 z] at c2;cases c2
       refine⟨_,rfl,_,rfl,pm,_,rfl,ff.k (k:=Sum.inr l) g.m (by rw[ji];exact jx (by lia)),?_⟩;rw[IW hv];have J9:upd H7 pm (.dK (dV (M++fs.map Prod.fst++[l]) iu)) pl=some (.lst (ml.map V.ref)):=by rw[zr yy];exact g.l
       have BF:upd H7 pm (.dK (dV (M++fs.map Prod.fst++[l]) iu)) q=some (.lst (e.2.map V.ref)):=by rw[zr nq];exact p8
       try dsimp only [zx]
       refine⟨_,rfl,.inl ⟨rfl,_,aJ.of J9⟩,_,rfl,_,rfl,_,rfl,(by show 1<=sizeLine;decide),fun p1 kZ=>?_⟩;have w1:=ak.new (o:=.lst [.ref r]) kZ;refine⟨q,p1,_,_,rfl,rfl,w1 _ _ BF,zb,by rw[ay];exact pH (by show e.2.length+1<=1000;lia),fun p2 oY=>?_⟩;have w2:=ak.new (o:=.lst (e.2.map V.ref++[.ref r])) oY;refine⟨(by show 2<=sizeLine;decide),fun b9 Zg=>?_⟩;have w3:=ak.new (o:=.tup [.str l,.ref p2]) Zg;have w:=w1.trans (w2.trans w3);have Zh:ml.length<=63:=by
        have h1:ml.length=fs.length:=Paired.length g.w;rw[bL,ay] at Pj;lia
       refine⟨pl,_,_,rfl,rfl,w _ _ J9,by rw[ay];exact jx (by lia),?_⟩;have g':=g.add kq yy hv w (rs:=e.2++[r]) (q:=p2) (b:=b9) (by rw[aT];exact w3 _ _ zb) (aD (zv (w1 _ _ J9) oY)) zb ⟨wk.snoc BE,by rw[bL,J8];rfl,iV⟩;have mm:∀v,v∈M++fs.map Prod.fst->v∈M++(fs++[(l,e.2++[r])]).map Prod.fst:=fun v h=>by
        rw[aT,←mG];exact ee _ h
       refine⟨_,_,_,_,rfl,g',fun u hu v r' h=>⟨(cond u hu v r' h).1,mm _ (cond u hu v r' h).2⟩,ME nY (fun p hp=>⟨(nX p hp).1,mm _ (nX p hp).2⟩) ⟨c1,?_⟩⟩;rw[aT,←mG];simp
      ·have hv:l∈M++fs.map Prod.fst:=d9 fun z=>by
        rw[Ah z] at c2;exact c2 rfl
       exact⟨_,_,ml,fs,rfl,g,cond,ME nY nX ⟨c1,hv⟩⟩
    ·rintro σ H7 ⟨u7,u8,ml,fs,rfl,g,cond,nX⟩;have B7:=hB.same (Bk g.kp);have lb:(bs e.1).length=(ln e.1).length:=Paired.length (B7.e _ ek);rw[ay,lb,bG] at nX;refine⟨_,_,_,_,ml,fs,rfl,g,fun u hu v r h=>?_⟩;rw[kJ,aS,aM,he,bM] at hu;rcases hu with hu | hu
     ·exact cond u (by rw[kJ];exact hu) v r h
     ·have:u=e.1:=by simpa using hu
      subst this;exact nX (v,r) h
   ·rintro σ H6 ⟨u5,u6,u7,u8,ml,fs,rfl,g,cond⟩;rw[ay,lw,bG] at cond;refine⟨_,rfl,?_⟩
    try dsimp only [zx]
    have Ep:∀v∈M++fs.map Prod.fst,v∈keys:=fun v hv=>(bM.mp hv).elim (AF v) fun z=>by
     obtain⟨e',h1,rfl⟩:=br.mp z;exact (g.ok e' h1).2.2
    have lN:=sj g.nd Ep;refine⟨_,?_,_,_,_,_,_,pl,ml,fs,d+1,M++fs.map Prod.fst,rfl,Bk g.kp,g.m,g.l,Paired.fV g.w fun _ _ ⟨q,_,h1,h2⟩=>⟨q,h1,h2⟩,g.ok,g.nd,Ep,bf.succ (fun v hv=>?_) cond,fun hf=>?_,rfl⟩
    ·rw[ao GP,bL,ay] at *;cases fs with
     | nil=>simp
     | cons a r=>
      rw[ao (by simp)];simp only [iK] at *;lia
    ·obtain⟨e',h1,rfl⟩:=br.mp hv;exact⟨e'.2,(g.ok e' h1).1,(g.ok e' h1).2.1⟩
    ·rw[bL,ay];have:=jC.mpr hf;lia
  ·have GP:es = []:=by
    have:wl = []:=by simpa using c
    subst this;exact mq.mp lw.symm
   subst GP;refine⟨by decide,fun p hp=>?_⟩;exact k p [] _ (q5.trans (ak.new hp)) (q5.free hp) zb (by simp) (.inl ⟨rfl,bf.done⟩)
inductive tN (vs:List V) (H:Hp) (Q:VK):Prop
 | mk (p pu pt:ah) (x y:V) (us:List Str) (av:List ah) (ts:List aQ) (_:vs = [.ref p]) (_:mZ K H p pu pt x y us av ts) (_:∀(q:ah) (rs:List ah) (H':Hp),ak H H'->H q=none->H' q=some (.lst (rs.map V.ref))->rs.length<=64->lV (cG ts (ts.zip av)) (zn ts (aL us)) rs->Q (.ref q) H')
def Zi:Sp:=fun vs H Q _=>tN (K:=K) vs H Q
set_option maxHeartbeats 8000000 in
theorem Ka (T:Tx K mg w zj zm zg zp):eX P w K mg base "shortest_round" ["telling"] 5 (Zi (K:=K)):=by
 refine T.Xy.has bP (fun vs H Q E h=>?_) (fun f bX A outer s H vs Q E hr h=>?_)
 ·obtain⟨p,pu,pt,x,y,us,av,ts,rfl,_⟩:=h;rfl
 ·obtain⟨p,pu,pt,x,y,us,av,ts,rfl,hT,k⟩:=h;refine⟨_,(zc (sset (i:=1) bP.nd (bw (uz T) (za (pv 0) zf)))
   (zc (sset (i:=2) bP.nd (fB zf))
   (zc (gQ bH rfl (sV (pv 1)) (fE (i:=3) bP.nd) (zc (sset (i:=4) bP.nd (bw (Y7 T) (za (pv 3) (za (pv 1) zf))))
    (zi (fQ (PW.pt (xg (e7 (zev K rfl (j5 hr)) (pv 4) (fB zf) (dW _)) (w9 (PW.pt (Ca (e7 (Ab K rfl (j5 hr)) (pv 2) (fB zf) (dW _)) (Fc (e7 A6 (jf (r9 K rfl) (by rfl) T.len cP (za (pv 4) zf)) (jf (r9 K rfl) (by rfl) T.len cP (za (pv 2) zf)) (dW _)))))))) (zi (sset (i:=2) bP.nd (pv 4))) fW))))
   (zi (zz (pv 2)))))),?_⟩
  have gM:=hT.ends;refine⟨_,rfl,p,pu,pt,x,y,us,av,ts,rfl,hT,fun pd ob ad bs H1 s1 pD hB=>?_⟩;have cl:=DI (us:=us) (ts:=ts) (av:=av) gM;have lk:=hT.j9;generalize zn ts (aL us)=keys at hB cl lk k;generalize cG ts (ts.zip av)=ln at hB cl k
  try dsimp only [zx]
  refine⟨by decide,fun ps D5=>?_⟩;have s2:=ak.new (o:=.lst []) D5;refine⟨_,rfl,pd,ob,_,rfl,s2 _ _ hB.d,Al (fun i σ H'=>∃(v3 v4:Option V) (ps:ah) (rs:List ah),σ = [some (.ref p),some (.ref pd),some (.ref ps),v3,v4]/\ak H1 H'/\H ps=none/\H' ps=some (.lst (rs.map V.ref))/\rs.length<=64/\lV ln (keys.take i) rs)
   ⟨none,none,ps,[],rfl,s2,s1.free D5,zb,by simp,by simpa using lV.nil⟩ (fun i σ H' _ h=>by obtain⟨_,_,_,_,_,q,_⟩:=h;exact q _ _ hB.d) ?_ ?_⟩
  ·rintro i kk vv σ H3 hx ⟨v3,v4,ps,rs,rfl,q3,Er,AG,lr,hR⟩;obtain⟨u,hu,rfl,_⟩:=Ai hx;have dJ:u∈keys:=bN hu
   try dsimp only [zx]
   refine⟨_,rfl,_,rfl,u,pd,ob,keys,ln,ad,bs,rfl,hB.same q3,dJ,cl,lk,fun pr xs H4 s4 Kc xV lx hS=>?_⟩;have q4:=q3.trans s4;have AH:=s4 _ _ AG
   try dsimp only [zx]
   refine yu (decide (xs≠[]/\(rs = []\/xs.length<rs.length))) (fun Q' hQ=>?_) (fun H5 t5=>?_)
   ·refine⟨_,rfl,by decide,fun e1 Gx=>?_⟩;have w1:=ak.new (o:=.lst []) Gx;refine⟨pr,e1,_,rfl,rfl,dH.sO (aJ.of (w1 _ _ xV)) (aJ.of zb),_,rfl,?_⟩;refine bZ (fun c=>?_) (fun c=>?_)
    ·have c:xs≠[]:=by simpa using c
     refine⟨_,rfl,by decide,fun e2 Bv=>?_⟩;have w2:=ak.new (o:=.lst []) Bv;have Et:=w1.trans w2;refine⟨ps,e2,_,rfl,rfl,dH.sO (aJ.of (Et _ _ AH)) (aJ.of zb),_,rfl,?_⟩;refine bZ (fun c2=>?_) (fun c2=>?_)
     ·have c2:rs = []:=by simpa using c2
      rw[show true=decide (xs≠[]/\(rs = []\/xs.length<rs.length)) from (aO ⟨c,.inl c2⟩).symm];exact hQ _ Et
     ·have c2:¬rs = []:=by simpa using c2
      refine⟨_,rfl,pr,_,rfl,.inl (aJ.of (Et _ _ xV)),_,rfl,ps,_,rfl,.inl (aJ.of (Et _ _ AH)),_,_,rfl,rfl,_,rfl,?_⟩;have:decide (((xs.map V.ref).length:Int)<((rs.map V.ref).length:Int))=decide (xs≠[]/\(rs = []\/xs.length<rs.length)):=by
       rw[ay,ay];apply jw.mpr;constructor
       ·intro z;exact⟨c,.inr (by lia)⟩
       ·rintro ⟨_,z | z⟩
        ·exact absurd z c2
        ·lia
      rw[←this] at hQ;exact hQ _ Et
    ·have c:xs = []:=by simpa using c
     rw[show false=decide (xs≠[]/\(rs = []\/xs.length<rs.length)) from (aV fun z=>z.1 c).symm];exact hQ _ w1
   ·have:=hR.step hS;rw[show keys.take i++[u]=keys.take (i+1) by rw[aS,hu];rfl] at this;refine bZ (fun c=>?_) (fun c=>?_)
    ·have c:=aP c;rw[aq c] at this;exact⟨_,rfl,_,_,pr,xs,rfl,q4.trans t5,(s1.trans q3).free Kc,t5 _ _ xV,lx,this⟩
    ·have c:¬(xs≠[]/\(rs = []\/xs.length<rs.length)):=fun z=>c (aO z)
     rw[ao c] at this;exact⟨_,_,ps,rs,rfl,q4.trans t5,Er,t5 _ _ AH,lr,this⟩
  ·rintro σ H3 ⟨v3,v4,ps,rs,rfl,q3,Er,AG,lr,hR⟩;rw[ji,bG] at hR;exact⟨_,rfl,k ps rs _ (s1.trans q3) Er AG lr hR⟩
theorem Zj {α:Type}(f:α->Bool) (l:List α):(l.map f).all id=l.all f:=by rw[List.all_map];rfl
inductive tO (vs:List V) (H:Hp) (Q:VK):Prop
 | mk (pl pp:ah) (bs:List ah) (L:List (Str×ah)) (M:List Str) (_:vs = [.ref pl,.ref pp]) (_:aJ K H pl (bs.map V.ref)) (_:Paired (fun b (p:Str×ah)=>H b=some (.tup [.str p.1,.ref p.2])) bs L) (_:H pp=some (.dK (dV M iu))) (_:L.length<=900) (_:∀H',ak H H'->Q (.bl (ur M L)) H')
def Zk:Sp:=fun vs H Q _=>tO (K:=K) vs H Q
set_option maxHeartbeats 4000000 in
theorem Zl (T:Tx K mg w zj zm zg zp):eX P w K mg base "rests_on" ["lowers","placed"] 1 (Zk (K:=K)):=by
 refine T.XC.has Yh (fun vs H Q E h=>?_) (fun f bX A outer s H vs Q E hr h=>?_)
 ·obtain⟨pl,pp,bs,L,M,rfl,_⟩:=h;rfl
 ·obtain⟨pl,pp,bs,L,M,rfl,hl,pr,hm,lL,k⟩:=h;have hu:=i0 hr;refine⟨_,(zi (zz (jf (Tc K rfl rfl) (by rfl) T.all PyProof.Rows.boot_all (za (r8 (own:=["lower","tie"]) (cap:=["placed"]) (ix:=[1]) (kW:=zq (top 16)) rfl ⟨rfl,by decide +kernel,by decide +kernel,by decide +kernel,by decide +kernel⟩ rfl (ir K rfl (pv 0)) (fun _ _ _ _=>ug (n:=2) K rfl rfl (lQ (mS (i:=0) (show List.Nodup (["lower","tie","placed"]:List Str) by decide +kernel) rfl (Or.inl rfl)) (lQ (mS (i:=1) (show List.Nodup (["lower","tie","placed"]:List Str) by decide +kernel) rfl (Or.inl rfl)) ud))) (fun _ _ _ _=>qo) (fun _ _ _ _=>(K2 (FG hu (pv 0) (pv 2))))) zf)))),?_⟩;have lb:bs.length=L.length:=Paired.length pr;refine⟨_,rfl,pl,rfl,⟨_,hl⟩,fun D hD=>?_⟩;refine uh (wo (K:=K) (a:=pl) (xs:=bs.map V.ref)) (fun i aK ys H'=>∃w0 w1,aK = [w0,w1,some (.ref pp)]/\ys=((L.take i).map fun p=>decide (p.1∈M)).map V.bl/\ak H H'/\H' D=some (.lst ys))
   ⟨none,none,rfl,by simp,ak.new hD,zb⟩ (fun i aK ys H' h=>?_) (by rw[ay];exact pH (by lia)) ?_ ?_
  ·obtain⟨_,_,_,rfl,q,hd⟩:=h;refine⟨q.seq hl,hd,?_⟩;rw[ay,ay,bF];lia
  ·rintro i v aK ys H' hx ⟨w0,w1,rfl,rfl,q,hd⟩;obtain⟨b,⟨l,r⟩,rfl,nY,_,hb⟩:=uq pr hx;have gI:=iA hx;refine⟨b,_,rfl,bu.of (q _ _ hb),rfl,_,_,rfl,_,_,rfl,rfl,?_⟩
   try dsimp only [zx]
   unfold lH;dsimp only;rw[aq rfl];have g:=cj.k (k:=Sum.inr l) (q _ _ hm);refine⟨_,rfl,_,rfl,pp,_,rfl,g,hd,pI gI ⟨_,_,rfl,?_,q.upd hD,zb⟩⟩;rw[aS,nY,aT,aT]
   congr 1
   show [V.bl (e8 (dV M iu) (Sum.inr l)).isSome] = [V.bl (decide (l∈M))]
   by_cases c:l∈M
   ·rw[o8 c,aO c];rfl
   ·rw[Ah c,aV c];rfl
  rintro aK ys H1 ⟨w0,w1,rfl,rfl,q,hd⟩;rw[ay,lb,bG] at hd;refine⟨D,_,rfl,aJ.of hd,?_⟩;rw[Zj];exact k _ q
inductive tP (vs:List V) (H:Hp) (Q:VK):Prop
 | mk (pd pp:ah) (ob:Obj) (keys:List Str) (ln:Ln) (ad:Str->ah) (bs:Str->List ah) (M:List Str) (u:Str) (r:List Str) (_:vs = [.ref pd,.ref pp]) (_:Bn H pd ob keys ln ad bs) (_:H pp=some (.dK (dV M iu))) (_:keys.length<=63) (_:(∀k∈keys,(ln k).length<=900)) (_:sU ln keys M=u::r) (_:∀H',ak H H'->Q (.str u) H')
def Zm:Sp:=fun vs H Q _=>tP vs H Q
set_option maxHeartbeats 4000000 in
theorem Pk (T:Tx K mg w zj zm zg zp):eX P w K mg base "least_free" ["beneath","placed"] 2 Zm:=by
 refine T.XA.has jz (fun vs H Q E h=>?_) (fun f bX A outer s H vs Q E hr h=>?_)
 ·obtain⟨pd,pp,ob,keys,ln,ad,bs,M,u,r,rfl,_⟩:=h;rfl
 ·obtain⟨pd,pp,ob,keys,ln,ad,bs,M,u,r,rfl,hB,hm,lk,ll,hf,k⟩:=h;have hu:=i0 hr;refine⟨_,(zc (C3 (i:=2) (own:=["name"]) (cap:=["placed","beneath"]) (ix:=[1,0]) (kW:=zq (top 15)) rfl jz.nd rfl rfl rfl ⟨rfl,by decide +kernel,by decide +kernel,by decide +kernel,by decide +kernel⟩ rfl (sV (pv 0)) (fun _ _ _ _=>mS (i:=0) (show List.Nodup (["name","placed","beneath"]:List Str) by decide +kernel) rfl (Or.inl rfl)) (fun _ _ _ _=>HZ (PW.pt (xg (ym (CL hu (pv 0) (pv 1))) (w9 (wc (bw (Zl T) (za (zw hu (pv 2) (pv 0) (fun _ _=>rfl)) (za (pv 1) zf)))))))) (fun _ _ _ _=>(pv 0)))
   (zi (zz (aR (gJ K rfl) (pv 2) zh)))),?_⟩
  refine⟨_,rfl,pd,ob,_,rfl,hB.d,fun D hD=>?_⟩;refine uh (Gm (a:=pd) (ob:=ob) (kvs:=dV keys fun k=>.ref (ad k))) (fun i aK ys H'=>∃w0,aK = [w0,some (.ref pp),some (.ref pd)]/\ys=((keys.take i).filter fun x=>decide (x ∉ M)&&ur M (ln x)).map V.str/\ak H H'/\H' D=some (.lst ys))
   ⟨none,rfl,by simp,ak.new hD,zb⟩ (fun i aK ys H' h=>?_) (by rw[ay,ji];exact pH (by lia)) ?_ ?_
  ·obtain⟨_,_,rfl,q,hd⟩:=h;refine⟨q _ _ hB.d,hd,?_⟩;rw[ay];exact b7 (gE _ _) (by rw[bF];lia)
  ·rintro i v aK ys H1 hx ⟨w0,rfl,rfl,q,hd⟩;have gI:=iA hx;rw[DG,aM] at hx;cases eu:keys[i]? with
   | none=>rw[eu] at hx;cases hx
   | some z=>
    rw[eu] at hx;cases hx;have hz:z∈keys:=bN eu;have B1:=hB.same q;have g:=cj.k (k:=Sum.inr z) (q _ _ hm);have no:∀(H2:Hp),ak H1 H2->(decide (z ∉ M)&&ur M (ln z))=false->∃Eu,[some (V.str z),some (V.ref pp),some (V.ref pd)] = [Eu,some (.ref pp),some (.ref pd)]/\((keys.take i).filter fun x=>decide (x ∉ M)&&ur M (ln x)).map V.str=((keys.take (i+1)).filter fun x=>decide (x ∉ M)&&ur M (ln x)).map V.str/\ak H H2/\H2 D=some (.lst (((keys.take i).filter fun x=>decide (x ∉ M)&&ur M (ln x)).map V.str)):=fun H2 t e=>by
     refine⟨_,rfl,?_,q.trans t,t _ _ hd⟩;rw[aS,eu,iH,aT];have:(some z).toList.filter (fun x=>decide (x ∉ M)&&ur M (ln x)) = []:=by
      show [z].filter _ = [];rw[qG (by rw[e];exact bJ)];rfl
     rw[this,jK,g8]
    try dsimp only [zx]
    refine⟨_,rfl,_,rfl,pp,_,rfl,g,_,rfl,?_⟩;refine bZ (fun c=>?_) (fun c=>?_)
    ·have c1:z ∉ M:=fun y=>by rw[o8 y] at c;cases c
     refine⟨_,rfl,_,rfl,pd,_,rfl,B1.get hz,_,rfl,ad z,pp,bs z,ln z,M,rfl,aJ.of (B1.l z hz),B1.e z hz,q _ _ hm,ll z hz,fun H2 t2=>⟨_,rfl,?_⟩⟩;refine bZ (fun c2=>?_) (fun c2=>?_)
     ·refine⟨_,rfl,t2 _ _ hd,pI gI ⟨_,rfl,?_,(q.trans t2).upd hD,zb⟩⟩;rw[aS,eu,iH,aT]
      congr 1
      have:(some z).toList.filter (fun x=>decide (x ∉ M)&&ur M (ln x)) = [z]:=by
       show [z].filter _ = [z];rw[qF (by rw[aO c1,c2];rfl)];rfl
      rw[this];rfl
     ·have c2:ur M (ln z)=false:=by simpa using c2
      exact⟨t2 _ _ hd,pI gI (no H2 t2 (by rw[c2,Bool.and_false]))⟩
    ·have c1:z∈M:=d9 fun y=>by
      rw[Ah y] at c;exact c rfl
     refine⟨hd,pI gI (no H1 (ak.refl _) ?_)⟩;rw[show decide (z ∉ M)=false from aV (fun y=>y c1),Bool.false_and]
  rintro aK ys H1 ⟨w0,rfl,rfl,q,hd⟩;rw[ay,ji,bG] at hd;have hd:H1 D=some (.lst ((sU ln keys M).map V.str)):=hd;rw[hf] at hd
  try dsimp only [zx]
  exact⟨_,rfl,D,_,_,_,rfl,rfl,aJ.of hd,sd,k _ q⟩
inductive rE (vs:List V) (H:Hp) (Q:VK):Prop
 | mk (p pu pt:ah) (x y:V) (us:List Str) (av:List ah) (ts:List aQ) (_:vs = [.ref p]) (_:mZ K H p pu pt x y us av ts) (_:fC (cG ts (ts.zip av)) (zn ts (aL us))) (_:∀H',ak H H'->Q .dG H')
def Zn:Sp:=fun vs H Q _=>rE (K:=K) vs H Q
theorem Zo (T:Tx K mg w zj zm zg zp):eX P w K mg base "refuse_round" ["telling"] 6 (Zn (K:=K)):=by
 refine T.OQ.has dD (fun vs H Q E h=>?_) (fun f bX A outer s H vs Q E hr h=>?_)
 ·obtain⟨p,pu,pt,x,y,us,av,ts,rfl,_⟩:=h;rfl
 ·obtain⟨p,pu,pt,x,y,us,av,ts,rfl,hT,nr,k⟩:=h;refine⟨_,(zc (sset (i:=1) dD.nd (bw (Ka T) (za (pv 0) zf)))
   (zi (fQ (e7 (zev K rfl (j5 hr)) (pv 1) (fB zf) (dW _)) (zi QZ) fW))),?_⟩
  refine⟨_,rfl,p,pu,pt,x,y,us,av,ts,rfl,hT,fun q rs H1 s1 fq hq lr R=>?_⟩;have e:rs = []:=d9 fun z=>by
   obtain⟨s',hs,j,hj,r⟩:=R.gh.mp z;exact nr s' hs j hj r
  subst e
  try dsimp only [zx]
  refine⟨_,rfl,by decide,fun e he=>?_⟩;have s2:=ak.new (o:=.lst []) he;refine⟨q,e,_,rfl,rfl,dH.sO (aJ.of (s2 _ _ hq)) (aJ.of zb),_,rfl,fR ?_⟩;exact k _ (s1.trans s2)
inductive tQ (vs:List V) (H:Hp) (Q:VK):Prop
 | mk (p pu pt:ah) (x y:V) (us:List Str) (av:List ah) (ts:List aQ) (_:vs = [.ref p]) (_:mZ K H p pu pt x y us av ts) (_:fC (cG ts (ts.zip av)) (zn ts (aL us))) (_:∀(q:ah) (os:List Str) (H':Hp),ak H H'->H q=none->H' q=some (.lst (os.map V.str))->Ord (cG ts (ts.zip av)) (zn ts (aL us)) os->os.Perm (zn ts (aL us))->Q (.ref q) H')
def Pn:Sp:=fun vs H Q _=>tQ (K:=K) vs H Q
set_option maxHeartbeats 4000000 in
theorem BG (T:Tx K mg w zj zm zg zp):eX P w K mg base "order" ["telling"] 7 (Pn (K:=K)):=by
 refine T.OR.has gP (fun vs H Q E h=>?_) (fun f bX A outer s H vs Q E hr h=>?_)
 ·obtain⟨p,pu,pt,x,y,us,av,ts,rfl,_⟩:=h;rfl
 ·obtain⟨p,pu,pt,x,y,us,av,ts,rfl,hT,nr,k⟩:=h;have hu:=i0 hr;refine⟨_,(zc (ko (bw (Zo T) (za (pv 0) zf)))
   (zc (sset (i:=1) gP.nd (bw (uz T) (za (pv 0) zf)))
   (zc (sset (i:=2) gP.nd o4)
   (zc (A2 bH (e7 A6 (jf LO (by rfl) T.len cP (za (pv 2) zf)) (jf M6 (by rfl) T.len cP (za (pv 1) zf)) (dW _)) (zi (lS hu (pv 2) (bw (Pk T) (za (pv 1) (za (pv 2) zf))) sH rfl)))
   (zi (zz (xm (Iv rfl) (by rfl) T.list jR (za (pv 2) zf)))))))),?_⟩
  refine⟨_,rfl,p,pu,pt,x,y,us,av,ts,rfl,hT,nr,fun H1 s1=>?_⟩;refine⟨_,rfl,p,pu,pt,x,y,us,av,ts,rfl,hT.same s1,fun pd ob ad bs H2 s2 pD hB=>?_⟩;have cl:=DI (us:=us) (ts:=ts) (av:=av) hT.ends;have lk:=hT.j9;have kn:=uY (ts:=ts) hT.nd;have kl:=MO (ts:=ts) hT.nd;have ll:∀k∈zn ts (aL us),(cG ts (ts.zip av) k).length<=900:=fun k _=>by
   have h1:=Gg (ts:=ts) (z:=ts.zip av) (k:=k);have h2:=hT.tl;rw[g9] at h1;lia
  generalize zn ts (aL us)=keys at hB cl lk k nr kn kl ll;generalize cG ts (ts.zip av)=ln at hB cl k nr ll;have q2:=s1.trans s2
  try dsimp only [zx]
  refine fun pp AI=>?_
  have s3:=ak.new (o:=.dK []) AI;refine⟨fun m σ H'=>∃os,σ = [some (.ref p),some (.ref pd),some (.ref pp)]/\ak H2 H'/\H' pp=some (.dK (dV os iu))/\Ord ln keys os/\m=keys.length-os.length,⟨_,[],rfl,s3,zb,Ord.nil,rfl⟩,?_⟩;rintro m σ H4 ⟨os,rfl,q4,pY,O,rfl⟩;have B4:=hB.same q4;have lo:=sj O.nd O.sub;refine⟨_,rfl,pp,_,rfl,pY,_,rfl,pd,_,rfl,.inr ⟨_,B4.d⟩,_,_,rfl,rfl,_,rfl,?_⟩;rw[ji,ji];refine bZ (fun c=>?_) (fun c=>?_)
  ·have c:=aP c;have hx:∃x∈keys,x ∉ os:=qD fun hn=>by
    have:=sj (us:=os) kn fun x hx=>d9 fun z=>hn ⟨x,hx,z⟩
    lia
   obtain⟨u,r,dz⟩:∃u r,sU ln keys os=u::r:=by
    cases e:sU ln keys os with
    | nil=>exact absurd e (Uo cl nr hx)
    | cons u r=>exact⟨u,r,rfl⟩
   obtain⟨m1,m2,m3⟩:=i8.mp (show u∈sU ln keys os by rw[dz];simp);refine⟨fun aK H'=>∃m',m'<keys.length-os.length/\_,fun aK H' h=>h,?_⟩;refine⟨_,rfl,_,rfl,_,rfl,pd,pp,ob,keys,ln,ad,bs,os,u,r,rfl,B4,pY,lk,ll,dz,fun H5 s5=>?_⟩;refine⟨pp,_,rfl,ff.k (k:=Sum.inr u) (s5 _ _ pY) (by rw[ji];exact jx (by lia)),?_⟩;rw[IW m2];refine⟨_,?_,os++[u],rfl,(q4.trans s5).upd AI,zb,O.snoc kl dz,rfl⟩;rw[bL];show keys.length-(os.length+1)<_;lia
  ·have c:¬((os.length:Int)<(keys.length:Int)):=fun z=>c (aO z)
   have e:os.length=keys.length:=by lia
   refine⟨_,rfl,pp,_,rfl,pY,fun q hq=>?_⟩;rw[DG];exact k q os _ (q2.trans (q4.trans (ak.new hq))) ((q2.trans q4).free hq) zb O (O.perm kn e)
inductive rF (vs:List V) (H:Hp) (Q:VK):Prop
 | mk (p pu pt:ah) (x y:V) (us:List Str) (av:List ah) (ts:List aQ) (_:vs = [.ref p]) (_:mZ K H p pu pt x y us av ts) (_:fC (cG ts (ts.zip av)) (zn ts (aL us))) (_:∀(q:ah) (cs:List ah) (lv:Str->Nat) (H':Hp),ak H H'->H q=none->H' q=some (.lst (cs.map V.ref))->cs.length<=63->cs.Nodup->(∀c∈cs,H c=none/\c≠q)->(∀(j:Nat) c,cs[j]? = some c->H' c=some (.lst (((zn ts (aL us)).filter (jj lv j)).map V.str)))->Lv (cG ts (ts.zip av)) (zn ts (aL us)) lv cs.length->Q (.ref q) H')
def Po:Sp:=fun vs H Q _=>rF (K:=K) vs H Q
set_option maxHeartbeats 8000000 in
theorem Pp (T:Tx K mg w zj zm zg zp):eX P w K mg base "levels" ["telling"] 8 (Po (K:=K)):=by
 refine T.OW.has cz (fun vs H Q E h=>?_) (fun f bX A outer s H vs Q E hr h=>?_)
 ·obtain⟨p,pu,pt,x,y,us,av,ts,rfl,_⟩:=h;rfl
 ·obtain⟨p,pu,pt,x,y,us,av,ts,rfl,hT,nr,k⟩:=h;have hu:=i0 hr;refine⟨_,(zc (sset (i:=1) cz.nd (bw (uz T) (za (pv 0) zf)))
   (zc (sset (i:=2) cz.nd o4)
   (zc (sset (i:=3) cz.nd (fB zf))
   (zc (gQ bH rfl (ir K rfl (bw (BG T) (za (pv 0) zf))) (fE (i:=4) cz.nd) (zc (sset (i:=5) cz.nd (M8 K rfl 0 rfl (by rfl) T.max (r8 (own:=["lower","tie"]) (cap:=["numbers"]) (ix:=[2]) (kW:=zq (top 39)) rfl ⟨rfl,by decide +kernel,by decide +kernel,by decide +kernel,by decide +kernel⟩ rfl (ir K rfl (zw hu (pv 1) (pv 4) (fun _ _=>rfl))) (fun _ _ _ _=>ug (n:=2) K rfl rfl (lQ (mS (i:=0) (show List.Nodup (["lower","tie","numbers"]:List Str) by decide +kernel) rfl (Or.inl rfl)) (lQ (mS (i:=1) (show List.Nodup (["lower","tie","numbers"]:List Str) by decide +kernel) rfl (Or.inl rfl)) ud))) (fun _ _ _ _=>qo) (fun _ _ _ _=>(gf pP (zw hu (pv 2) (pv 0) (fun _ _=>rfl)) zh)))))
    (zc (lS hu (pv 2) (pv 4) (pv 5) rfl)
    (zc (fQ (e7 jQ (pv 5) (jf (r9 K rfl) (by rfl) T.len cP (za (pv 3) zf)) (dW _)) (zi (ko (pS K rfl PySem.F.plainAttrs_list PySem.F.slot_list_append PySem.F.type_list_append ql (pv 3) (za (fB zf) zf)))) fW)
    (zi (ko (pS K rfl PySem.F.plainAttrs_list PySem.F.slot_list_append PySem.F.type_list_append ql (aR (gJ K rfl) (pv 3) (pv 5)) (za (pv 4) zf))))))))
   (zi (zz (r8 (own:=["row"]) (cap:=[]) (ix:=[]) (kW:=zq (top 39)) rfl ⟨rfl,by decide +kernel,by decide +kernel,by decide +kernel,by decide +kernel⟩ rfl (ir K rfl (pv 3)) (fun _ _ _ _=>mS (i:=0) (show List.Nodup (["row"]:List Str) by decide +kernel) rfl (Or.inl rfl)) (fun _ _ _ _=>qo) (fun _ _ _ _=>(jf (IX (K:=K) rfl) (by rfl) T.sorted mh (za (pv 0) zf)))))))))),?_⟩
  refine⟨_,rfl,p,pu,pt,x,y,us,av,ts,rfl,hT,fun pd ob ad bs H1 s1 pD hB=>?_⟩;have lk:=hT.j9;have kn:=uY (ts:=ts) hT.nd;have kl:=MO (ts:=ts) hT.nd;have ll:∀k∈zn ts (aL us),(cG ts (ts.zip av) k).length<=900:=fun k _=>by
   have h1:=Gg (ts:=ts) (z:=ts.zip av) (k:=k);have h2:=hT.tl;rw[g9] at h1;lia
  try dsimp only [zx]
  refine fun pn Pq=>?_
  have s2:=ak.new (o:=.dK []) Pq
  try dsimp only [zx]
  refine⟨by decide,fun pr xV=>?_⟩;have s3:=ak.new (o:=.lst []) xV;have q3:=s1.trans (s2.trans s3);have Kc:H1 pr=none:=s2.free xV;have Pr:pn≠pr:=zv zb xV;refine⟨_,rfl,p,pu,pt,x,y,us,av,ts,rfl,hT.same q3,nr,fun q os H4 s4 fq hq O pm=>?_⟩;have JU:=s4 _ _ (s3 _ _ (zb (H:=H1) (a:=pn) (o:=.dK [])));have AD:=s4 _ _ (zb (H:=upd H1 pn (.dK [])) (a:=pr) (o:=.lst []));have Zp:pn≠q:=zv (s3 _ _ zb) fq;have Zq:pr≠q:=zv zb fq;have fq1:H1 q=none:=(s2.trans s3).free fq;have lo:os.length<=63:=by rw[pm.length_eq];exact lk
  generalize zn ts (aL us)=keys at hB lk k nr kn kl ll O pm;generalize cG ts (ts.zip av)=ln at hB k nr ll O;refine⟨q,rfl,⟨_,aJ.of hq⟩,ny (xs:=os.map V.str) (fun i σ H'=>∃(v4 v5:Option V) (cs:List ah) (lv:Str->Nat),σ = [some (.ref p),some (.ref pd),some (.ref pn),some (.ref pr),v4,v5]/\ak H1 H'/\H' q=some (.lst (os.map V.str))/\
   H' pn=some (.dK (dV (os.take i) fun x=>.int (lv x)))/\H' pr=some (.lst (cs.map V.ref))/\cs.length<=i/\cs.Nodup/\(∀c∈cs,H1 c=none/\c≠pn/\c≠pr/\c≠q)/\
   (∀(j:Nat) c,cs[j]? = some c->H' c=some (.lst (((os.take i).filter (jj lv j)).map V.str)))/\Lv ln (os.take i) lv cs.length)
   ⟨none,none,[],fun _=>0,rfl,s2.trans (s3.trans s4),hq,JU,AD,aH _,by simp,by simp,by simp,Lv.nil⟩ (fun i σ H' _ h=>by obtain⟨_,_,_,_,_,_,q,_⟩:=h;exact aJ.of q) ?_ ?_⟩
  ·rintro i v σ H5 hx ⟨v4,v5,cs,lv,rfl,q5,Ew,Kd,wL,cl,cn,cf,ch,L⟩;rw[aM] at hx;cases eu:os[i]? with
   | none=>rw[eu] at hx;cases hx
   | some u=>
    rw[eu] at hx;cases hx;have dz:u∈keys:=O.sub u (bN eu);have vF:=O.low i u eu;have hi:=iA eu;have Ke:u ∉ os.take i:=fun z=>by
     have nd:=O.nd;rw[←qJ i os,jV] at nd;refine nd.2.2 u z u ?_ rfl;obtain⟨hi,e⟩:=bV.mp eu;rw[←e];exact List.mem_drop_iff_getElem.mpr ⟨0,by lia,by simp⟩
    have tk:os.take (i+1)=os.take i++[u]:=by rw[aS,eu];rfl
    have lt:(os.take i).length<=63:=by rw[bF];lia
    have B5:=hB.same q5;have lb:(bs u).length=(ln u).length:=Paired.length (B5.e u dz);have lu:=ll u dz
    try dsimp only [zx]
    refine⟨_,rfl,_,rfl,pd,_,rfl,B5.get dz,ad u,rfl,⟨_,aJ.of (B5.l u dz)⟩,fun D hD=>?_⟩;refine uh (wo (K:=K) (a:=ad u) (xs:=(bs u).map V.ref)) (fun i' aK ys H'=>∃w0 w1,aK = [w0,w1,some (.ref pn)]/\ys=(sW lv ((ln u).take i')).map V.int/\ak H5 H'/\H' D=some (.lst ys))
     ⟨none,none,rfl,by simp[sW],ak.new hD,zb⟩ (fun i' aK ys H' h=>?_) (by rw[ay];exact pH (by lia)) ?_ ?_
    ·obtain⟨_,_,_,rfl,q,hd⟩:=h;refine⟨aJ.of (q _ _ (B5.l u dz)),hd,?_⟩;unfold sW;rw[ay,ay,bF];lia
    ·rintro i' v aK ys H' hx ⟨w0,w1,rfl,rfl,q,hd⟩;obtain⟨b,⟨l,r⟩,rfl,nY,_,hb⟩:=uq (B5.e u dz) hx;have gI:=iA hx;have hl:l∈os.take i:=vF l r (bN nY);refine⟨b,_,rfl,bu.of (q _ _ hb),rfl,_,_,rfl,_,_,rfl,rfl,?_⟩
     try dsimp only [zx]
     unfold lH;dsimp only;rw[aq rfl];have g:=cj.k (k:=Sum.inr l) (q _ _ Kd);rw[o8 hl] at g;refine⟨_,rfl,_,rfl,pn,_,rfl,g,_,_,rfl,rfl,hd,pI gI ⟨_,_,rfl,?_,q.upd hD,zb⟩⟩;rw[aS,nY];unfold sW;rw[aT,aT];rfl
    rintro aK ys H6 ⟨w0,w1,rfl,rfl,t6,jy⟩;rw[ay,lb,bG] at jy;refine⟨D,_,rfl,aJ.of jy,fun m hm=>?_⟩;obtain⟨k',rfl,hk⟩:=L.next vF hm;have L':=L.step Ke vF hm hk;have Ic:=t6 _ _ Kd;have Zr:=t6 _ _ wL
    try dsimp only [zx]
    refine⟨_,rfl,_,rfl,_,rfl,pn,_,rfl,ff.k (k:=Sum.inr u) Ic (by rw[ji];exact jx (by lia)),?_⟩;rw[wA Ke];have ed:dV (os.take i++[u]) (fun z=>if z=u then V.int (k':Int) else V.int (lv z))=dV (os.take (i+1)) fun x=>V.int (pA lv u k' x):=by
     rw[tk];refine sS fun z _=>?_
     unfold pA;split<;>rfl
    rw[ed];have q7:ak H1 (upd H6 pn (.dK (dV (os.take (i+1)) fun x=>V.int (pA lv u k' x)))):=(q5.trans t6).upd Pq;have p8:upd H6 pn (.dK (dV (os.take (i+1)) fun x=>V.int (pA lv u k' x))) q=some (.lst (os.map V.str)):=by rw[zr (aD Zp)];exact t6 _ _ Ew
    have BH:upd H6 pn (.dK (dV (os.take (i+1)) fun x=>V.int (pA lv u k' x))) pr=some (.lst (cs.map V.ref)):=by rw[zr (aD Pr)];exact Zr
    have GQ:upd H6 pn (.dK (dV (os.take (i+1)) fun x=>V.int (pA lv u k' x))) pn=some (.dK (dV (os.take (i+1)) fun x=>V.int (pA lv u k' x))):=zb;have GR:∀(j:Nat) c,cs[j]? = some c->upd H6 pn (.dK (dV (os.take (i+1)) fun x=>V.int (pA lv u k' x))) c=some (.lst (((os.take i).filter (jj lv j)).map V.str)):=fun j c e=>by
     rw[zr (cf c (bN e)).2.1];exact t6 _ _ (ch j c e)
    generalize upd H6 pn (.dK (dV (os.take (i+1)) fun x=>V.int (pA lv u k' x)))=H7 at q7 p8 BH GQ GR
    try dsimp only
    unfold xj;refine UN (fun aK H'=>∃(uB:List ah),aK = [some (.ref p),some (.ref pd),some (.ref pn),some (.ref pr),some (.str u),some (.int k')]/\ak H1 H'/\H' q=some (.lst (os.map V.str))/\
      H' pn=some (.dK (dV (os.take (i+1)) fun x=>V.int (pA lv u k' x)))/\H' pr=some (.lst (uB.map V.ref))/\uB.length<=i+1/\uB.Nodup/\(∀c∈uB,H1 c=none/\c≠pn/\c≠pr/\c≠q)/\
      (∀(j:Nat) c,uB[j]? = some c->H' c=some (.lst (((os.take i).filter (jj lv j)).map V.str)))/\k'<uB.length/\uB.length=if k'=cs.length then cs.length+1 else cs.length) (decide (k'=cs.length)) (fun Q' hQ=>?_) (fun e hn=>?_) (fun e hn=>?_) ?_
    ·refine⟨_,rfl,_,rfl,pr,_,rfl,.inl (aJ.of BH),rfl,_,rfl,?_⟩;have e:decide (V.int (k':Int)=V.int ((cs.map V.ref).length:Int))=decide (k'=cs.length):=by
      rw[jw,ay];constructor
      ·intro z;injection z with z;lia
      ·intro z;rw[z]
     rw[e];exact hQ
    ·have e:=aP e;refine⟨_,rfl,.inl ⟨rfl,_,aJ.of BH⟩,by decide,fun q0 bg=>?_⟩;have t0:=ak.new (o:=.lst []) bg;refine⟨pr,_,_,rfl,rfl,t0 _ _ BH,by rw[ay];exact jx (by lia),?_⟩;have yP:H1 q0=none:=q7.free bg;have Zs:H1 pr=none:=Kc;have mp:=aT (f:=V.ref) (l₁:=cs) (l₂:=[q0]);have wN:pr≠q0:=zv BH bg;refine hn _ _ ⟨cs++[q0],rfl,(q7.trans t0).upd Zs,?_,?_,by rw[zb,mp];rfl,by rw[bL];show cs.length+1<=_;lia,?_,fun c hc=>?_,fun j c hc=>?_,by rw[bL];show _<cs.length+1;lia,by rw[aq e,bL];rfl⟩
     ·rw[zr (aD Zq)];exact t0 _ _ p8
     ·rw[zr Pr];exact t0 _ _ GQ
     ·rw[jV];refine⟨cn,by simp,fun a ha b hb z=>?_⟩;have hb:b=q0:=by simpa using hb
      subst hb;subst z;obtain⟨j,hj⟩:=g7.mp ha;have:=GR j _ hj;rw[bg] at this;cases this
     ·rcases bM.mp hc with hc | hc
      ·exact cf c hc
      ·have hc:c=q0:=by simpa using hc
       subst hc;exact⟨yP,aD (zv GQ bg),aD wN,aD (zv p8 bg)⟩
     ·by_cases hj:j<cs.length
      ·rw[jl hj] at hc;rw[zr (cf c (bN hc)).2.2.1];exact t0 _ _ (GR j c hc)
      ·rw[k8 (by lia)] at hc;have Kf:j=cs.length:=by
        have:=iA hc;have:j-cs.length<1:=this;lia
       subst Kf;simp at hc;subst hc;rw[zr (aD wN),zb,L.xC (aH _)];rfl
    ·have e:=iI e;exact hn _ _ ⟨cs,rfl,q7,p8,GQ,BH,by lia,cn,cf,GR,by lia,by rw[ao e]⟩
    ·rintro aK H8 ⟨uB,rfl,q8,BF,Zt,Pu,Zu,Pw,Px,Py,kc,ec⟩;have gj:uB[k']? = some uB[k']:=bz kc;have hc:=Py k' _ gj;generalize uB[k']=c at gj hc;have GS:=Px c (bN gj);refine⟨_,rfl,_,rfl,pr,_,_,.ref c,rfl,rfl,aJ.of Pu,nJ (by rw[aM,gj];rfl),.inl ⟨rfl,_,aJ.of hc⟩,_,rfl,c,_,_,rfl,rfl,hc,?_,?_⟩
     ·rw[ay];exact jx (by have:=gE (jj lv k') (os.take i);lia)
     refine⟨_,_,uB,pA lv u k',rfl,q8.upd GS.1,?_,?_,?_,Zu,Pw,Px,fun j d hd=>?_,?_⟩
     ·rw[zr (aD GS.2.2.2)];exact BF
     ·rw[zr (aD GS.2.1)];exact Zt
     ·rw[zr (aD GS.2.2.1)];exact Pu
     ·rw[tk,UK Ke]
      by_cases e:k'=j
      ·subst e;rw[gj] at hd;cases hd;rw[zb,aq rfl,aT];rfl
      ·rw[ao e,g8,zr (fun z=>e (UM Pw gj (by rw[←z];exact hd)))];exact Py j d hd
     ·rw[tk,ec];exact L'
  ·rintro σ H5 ⟨v4,v5,cs,lv,rfl,q5,Ew,Kd,wL,cl,cn,cf,ch,L⟩;rw[ay,bG] at ch L;rw[ay] at cl;have Lk:=L.mem fun x=>pm.mem_iff
   try dsimp only [zx]
   refine⟨_,rfl,pr,rfl,⟨_,aJ.of wL⟩,fun D hD=>?_⟩;refine uh (wo (K:=K) (a:=pr) (xs:=cs.map V.ref)) (fun i' aK ys H'=>∃(w0:Option V) (ds:List ah),aK = [w0]/\ys=ds.map V.ref/\ds.length=i'/\ak H5 H'/\H' D=some (.lst ys)/\ds.Nodup/\(∀d∈ds,H5 d=none/\d≠D)/\∀(j:Nat) d,ds[j]? = some d->H' d=some (.lst ((keys.filter (jj lv j)).map V.str)))
    ⟨none,[],rfl,rfl,rfl,ak.new hD,zb,by simp,by simp,by simp⟩ (fun i' aK ys H' h=>?_) (by rw[ay];exact pH (by lia)) ?_ ?_
   ·obtain⟨_,_,_,rfl,dl,q,hd,_⟩:=h;refine⟨aJ.of (q _ _ wL),hd,?_⟩;rw[ay];lia
   ·rintro i' v aK ys H6 hx ⟨w0,ds,rfl,rfl,dl,q,hd,dn,df,dh⟩;have gI:=iA hx;rw[aM] at hx;cases ec:cs[i']? with
    | none=>rw[ec] at hx;cases hx
    | some c=>
     rw[ec] at hx;cases hx;have hc:=q _ _ (ch i' c ec)
     try dsimp only [zx]
     unfold lH;dsimp only;rw[aq rfl];refine⟨_,rfl,c,os.filter (jj lv i'),rfl,aJ.of hc,by have:=gE (jj lv i') os;lia,fun d ms yi Kg rs=>?_⟩;have em:=IK Kg rs;subst em;rw[UL pm kl];have t1:=ak.new (o:=.lst ((keys.filter (jj lv i')).map V.str)) yi;have nd:D≠d:=zv hd yi;refine⟨t1 _ _ hd,pI gI ⟨_,ds++[d],rfl,by rw[aT];rfl,by rw[bL];show ds.length+1=_;lia,(q.trans t1).upd hD,by rw[zb],?_,fun b hb=>?_,fun j b hb=>?_⟩⟩
     ·rw[jV];refine⟨dn,by simp,fun a ha b hb z=>?_⟩;have hb:b=d:=by simpa using hb
      subst hb;subst z;obtain⟨j,hj⟩:=g7.mp ha;have:=dh j _ hj;rw[yi] at this;cases this
     ·rcases bM.mp hb with hb | hb
      ·exact df b hb
      ·have hb:b=d:=by simpa using hb
       subst hb;exact⟨q.free yi,aD nd⟩
     ·by_cases hj:j<ds.length
      ·rw[jl hj] at hb;rw[zr (df b (bN hb)).2];exact t1 _ _ (dh j b hb)
      ·rw[k8 (by lia)] at hb;have Kf:j=ds.length:=by
        have:=iA hb;have:j-ds.length<1:=this;lia
       subst Kf;simp at hb;subst hb;rw[zr (aD nd),zb,dl]
   rintro aK ys H6 ⟨w0,ds,rfl,rfl,dl,q,hd,dn,df,dh⟩;rw[ay] at dl;have f5:=s1.trans q5;refine k D ds lv H6 (f5.trans q) (f5.free hD) hd (by lia) dn (fun c hc=>⟨f5.free (df c hc).1,(df c hc).2⟩) dh ?_;rw[dl];exact Lk
inductive vG (vs:List V) (H:Hp) (Q:VK):Prop
 | mk (p pu pt:ah) (x y:V) (us:List Str) (av:List ah) (ts:List aQ) (_:vs = [.ref p]) (_:mZ K H p pu pt x y us av ts) (_:fC (cG ts (ts.zip av)) (zn ts (aL us))) (_:∀(pd:ah) (ob:Obj) (os:List Str) (cU:Str->List Str) (ad:Str->ah) (obs:Str->Obj) (H':Hp),ak H H'->H pd=none->Dp H' pd ob os cU ad obs->os.Perm (zn ts (aL us))->(∀k∈zn ts (aL us),(cU k).Nodup/\∀y,y∈cU k↔iC (cG ts (ts.zip av)) k y)->Q (.ref pd) H')
def Pz:Sp:=fun vs H Q _=>vG (K:=K) vs H Q
set_option maxHeartbeats 8000000 in
theorem Kh (T:Tx K mg w zj zm zg zp):eX P w K mg base "all_beneath" ["telling"] 8 (Pz (K:=K)):=by
 refine T.OT.has aW (fun vs H Q E h=>?_) (fun f bX A outer s H vs Q E hr h=>?_)
 ·obtain⟨p,pu,pt,x,y,us,av,ts,rfl,_⟩:=h;rfl
 ·obtain⟨p,pu,pt,x,y,us,av,ts,rfl,hT,nr,k⟩:=h;have hu:=i0 hr;refine⟨_,(zc (sset (i:=1) aW.nd (bw (uz T) (za (pv 0) zf)))
   (zc (sset (i:=2) aW.nd o4)
   (zc (gQ bH rfl (ir K rfl (bw (BG T) (za (pv 0) zf))) (fE (i:=3) aW.nd) (zc (lS hu (pv 2) (pv 3) o4 rfl)
    (zi (gQ bH rfl (ir K rfl (zw hu (pv 1) (pv 3) (fun _ _=>rfl))) (ug K rfl rfl (lQ (fE (i:=4) aW.nd) (lQ (fE (i:=5) aW.nd) ud))) (zc (lS hu (zw hu (pv 2) (pv 3) (fun _ _=>rfl)) (pv 4) sH rfl)
     (zi (ko (pS K rfl PySem.F.plainAttrs_dict PySem.F.slot_dict_update PySem.F.type_dict_update Nm (zw hu (pv 2) (pv 3) (fun _ _=>rfl)) (za (zw hu (pv 2) (pv 4) (fun _ _=>rfl)) zf)))))))))
   (zi (Nn (zz (pv 2))))))),?_⟩
  refine⟨_,rfl,p,pu,pt,x,y,us,av,ts,rfl,hT,fun ps PB aB bB H1 s1 Er hB=>?_⟩;have lk:=hT.j9;have kn:=uY (ts:=ts) hT.nd;have cl:=DI (us:=us) (ts:=ts) (av:=av) hT.ends;have ll:∀k,(cG ts (ts.zip av) k).length<=900:=fun k=>by
   have h1:=Gg (ts:=ts) (z:=ts.zip av) (k:=k);have h2:=hT.tl;rw[g9] at h1;lia
  try dsimp only [zx]
  refine fun pd fJ=>?_
  have s2:=ak.new (o:=.dK []) fJ;refine⟨_,rfl,p,pu,pt,x,y,us,av,ts,rfl,hT.same (s1.trans s2),nr,fun q os H3 s3 fq hq O pm=>?_⟩;have fK:=s3 _ _ (zb (H:=H1) (a:=pd) (o:=.dK []));have nq:pd≠q:=zv zb fq;have lo:os.length<=63:=by rw[pm.length_eq];exact lk
  generalize zn ts (aL us)=keys at hB lk k nr kn cl O pm;generalize cG ts (ts.zip av)=ln at hB k nr cl ll O;have wO:∀z,z∈os↔z∈keys:=fun z=>pm.mem_iff
  refine⟨q,rfl,⟨_,aJ.of hq⟩,ny (xs:=os.map V.str) (fun i σ H'=>∃(v3 v4 v5:Option V) (cU:Str->List Str) (ad:Str->ah),σ = [some (.ref p),some (.ref ps),some (.ref pd),v3,v4,v5]/\ak H1 H'/\H' q=some (.lst (os.map V.str))/\
    H' pd=some (.dK (dV (os.take i) fun k=>.ref (ad k)))/\(∀k∈os.take i,H' (ad k)=some (.dK (dV (cU k) iu))/\H1 (ad k)=none/\ad k≠pd/\ad k≠q/\(cU k).Nodup/\∀y,y∈cU k↔iC ln k y)/\(∀k∈os.take i,∀k'∈os.take i,ad k=ad k'->k=k'))
   ⟨none,none,none,fun _=>[],fun _=>0,rfl,s2.trans s3,hq,fK,(fun k hk=>by simp at hk),fun k hk=>by simp at hk⟩ (fun i σ H' _ h=>by obtain⟨_,_,_,_,_,_,_,q,_⟩:=h;exact aJ.of q) ?_ ?_⟩
  ·rintro i v σ H4 hx ⟨v3,v4,v5,cU,ad,rfl,q4,xW,jB,jk,inj⟩;rw[aM] at hx;cases eu:os[i]? with
   | none=>rw[eu] at hx;cases hx
   | some u=>
    rw[eu] at hx;cases hx;have dJ:u∈keys:=(wO u).mp (bN eu);have hi:=iA eu;have vF:=O.low i u eu;have iT:u ∉ os.take i:=by
     have:=um O.nd i hi;rw[show os[i]=u from (bV.mp eu).2] at this;exact this
    have tk:os.take (i+1)=os.take i++[u]:=by rw[aS,eu];rfl
    have lt:(os.take i).length<=63:=by rw[bF];lia
    try dsimp only [zx]
    refine fun q0 bg=>?_
    have t0:=ak.new (o:=.dK []) bg;have gC:=t0 _ _ jB;refine⟨_,rfl,_,rfl,pd,_,rfl,ff.k (k:=Sum.inr u) gC (by rw[ji];exact jx (by lia)),?_⟩;rw[wA iT];have GU:q0≠pd:=aD (zv jB bg);have Kl:q0≠q:=aD (zv xW bg);have yP:H1 q0=none:=q4.free bg;have Ex:∀k∈os.take i,ad k≠q0:=fun k hk=>zv (jk k hk).1 bg
    have ed:dV (os.take i++[u]) (fun z=>if z=u then V.ref q0 else V.ref (ad z))=dV (os.take (i+1)) fun z=>V.ref (if z=u then q0 else ad z):=by
     rw[tk];refine sS fun z _=>?_
     split<;>rfl
    rw[ed];have q6:ak H1 (upd (upd H4 q0 (.dK [])) pd (.dK (dV (os.take (i+1)) fun z=>V.ref (if z=u then q0 else ad z)))):=(q4.trans t0).upd fJ;have jy:upd (upd H4 q0 (.dK [])) pd (.dK (dV (os.take (i+1)) fun z=>V.ref (if z=u then q0 else ad z))) pd=some (.dK (dV (os.take (i+1)) fun z=>V.ref (if z=u then q0 else ad z))):=zb;have PD:upd (upd H4 q0 (.dK [])) pd (.dK (dV (os.take (i+1)) fun z=>V.ref (if z=u then q0 else ad z))) q=some (.lst (os.map V.str)):=by rw[zr (aD nq)];exact t0 _ _ xW
    have BI:upd (upd H4 q0 (.dK [])) pd (.dK (dV (os.take (i+1)) fun z=>V.ref (if z=u then q0 else ad z))) q0=some (.dK (dV [] iu)):=by rw[zr GU,zb];rfl
    have rG:∀k∈os.take i,upd (upd H4 q0 (.dK [])) pd (.dK (dV (os.take (i+1)) fun z=>V.ref (if z=u then q0 else ad z))) (ad k)=some (.dK (dV (cU k) iu)):=fun k hk=>by rw[zr (jk k hk).2.2.1];exact t0 _ _ (jk k hk).1
    generalize upd (upd H4 q0 (.dK [])) pd (.dK (dV (os.take (i+1)) fun z=>V.ref (if z=u then q0 else ad z)))=H6 at q6 jy PD BI rG;have B6:=hB.same q6;have dz:u∈os.take (i+1):=by rw[tk];simp
    refine⟨_,rfl,_,rfl,ps,_,rfl,B6.get dJ,aB u,rfl,⟨_,aJ.of (B6.l u dJ)⟩,ny (xs:=(bB u).map V.ref) (fun i' σ H'=>∃(v4 v5:Option V) (M:List Str),σ = [some (.ref p),some (.ref ps),some (.ref pd),some (.str u),v4,v5]/\ak H1 H'/\H' q=some (.lst (os.map V.str))/\H' pd=some (.dK (dV (os.take (i+1)) fun z=>V.ref (if z=u then q0 else ad z)))/\
      (∀k∈os.take i,H' (ad k)=some (.dK (dV (cU k) iu)))/\H' q0=some (.dK (dV M iu))/\M.Nodup/\∀y,y∈M↔∃l r,(l,r)∈(ln u).take i'/\(l=y\/iC ln l y))
     ⟨_,_,[],rfl,q6,PD,jy,rG,BI,by simp,by simp⟩ (fun i' σ H' _ h=>by obtain⟨_,_,_,_,q,_⟩:=h;exact aJ.of (q _ _ (hB.l u dJ))) ?_ ?_⟩
    ·rintro i' v σ H7 hx ⟨v4,v5,M,rfl,q7,p8,lC,vH,Km,Mn,Mm⟩;obtain⟨b,⟨l,r⟩,rfl,nY,_,hb⟩:=uq (hB.same q7 |>.e u dJ) hx;have Kn:(l,r)∈ln u:=bN nY;have hl:l∈os.take i:=vF l r Kn;have lu:l≠u:=fun z=>iT (z▸hl)
     obtain⟨_,pq,nA,J7,Zv,BE⟩:=jk l hl;have Ko:∀y∈M,y∈keys:=fun y hy=>by
      obtain⟨l',r',h1,h2⟩:=(Mm y).mp hy;have o5:=cl u dJ l' r' (ly h1);rcases h2 with rfl | ⟨j,_,h2⟩
      ·exact o5
      ·exact h2.inKeys cl o5
     have lM:M.length<=63:=b7 (sj Mn Ko) lk;have iV:l∈keys:=cl u dJ l r Kn;have lbl:(cU l).length<=63:=b7 (sj Zv fun y hy=>by
      obtain⟨j,_,h2⟩:=(BE y).mp hy;exact h2.inKeys cl iV) lk
     have g1:=cj.k (k:=Sum.inr u) lC;rw[o8 dz,aq rfl] at g1;refine⟨b,_,rfl,bu.of hb,rfl,_,_,rfl,_,_,rfl,rfl,?_⟩
     try dsimp only [zx]
     refine⟨_,rfl,_,rfl,pd,_,rfl,g1,_,rfl,q0,_,rfl,ff.k (k:=Sum.inr l) Km (by rw[ji];exact jx (by lia)),?_⟩;rw[Nz];have q8:=q7.upd (o:=.dK (dV (fY M l) iu)) yP;have BF:upd H7 q0 (.dK (dV (fY M l) iu)) q=some (.lst (os.map V.str)):=by rw[zr (aD Kl)];exact p8
     have BJ:upd H7 q0 (.dK (dV (fY M l) iu)) pd=some (.dK (dV (os.take (i+1)) fun z=>V.ref (if z=u then q0 else ad z))):=by rw[zr (aD GU)];exact lC
     have Ey:∀k∈os.take i,upd H7 q0 (.dK (dV (fY M l) iu)) (ad k)=some (.dK (dV (cU k) iu)):=fun k hk=>by rw[zr (Ex k hk)];exact vH k hk
     have Kp:upd H7 q0 (.dK (dV (fY M l) iu)) q0=some (.dK (dV (fY M l) iu)):=zb;generalize upd H7 q0 (.dK (dV (fY M l) iu))=H8 at q8 BF BJ Ey Kp;have g2:=cj.k (k:=Sum.inr u) BJ;rw[o8 dz,aq rfl] at g2;have g3:=cj.k (k:=Sum.inr l) BJ;rw[o8 (show l∈os.take (i+1) by rw[tk];exact ee _ hl),ao lu] at g3;have lp:(fY M l).length<=64:=by
      unfold fY;split
      ·lia
      ·rw[bL];show M.length+1<=64;lia
     refine⟨_,rfl,_,rfl,pd,_,rfl,g2,.inr (.inr (.inl ⟨rfl,.inl ⟨_,Kp⟩⟩)),_,rfl,_,rfl,pd,_,rfl,g3,q0,ad l,_,_,rfl,rfl,aD (Ex l hl),Kp,.inl (Ey l hl),by rw[ji,ji];lia,?_⟩;rw[NB];refine⟨_,_,Bt (fY M l) (cU l),rfl,q8.upd yP,by rw[zr (aD Kl)];exact BF,by rw[zr (aD GU)];exact BJ,fun k hk=>by rw[zr (Ex k hk)];exact Ey k hk,zb,Ny (Jm Mn),fun y=>?_⟩;rw[Nx,Jl,Mm,BE,aS,nY];constructor
     ·rintro ((⟨l',r',h1,h2⟩ | rfl) | h)
      ·exact⟨l',r',ee _ h1,h2⟩
      ·exact⟨y,r,f7 _ (by simp),.inl rfl⟩
      ·exact⟨l,r,f7 _ (by simp),.inr h⟩
     ·rintro ⟨l',r',h1,h2⟩;rcases bM.mp h1 with h1 | h1
      ·exact .inl (.inl ⟨l',r',h1,h2⟩)
      ·have h1:(l',r')=(l,r):=by simpa using h1
       cases h1;rcases h2 with rfl | h2
       ·exact .inl (.inr rfl)
       ·exact .inr h2
    ·rintro σ H7 ⟨v4,v5,M,rfl,q7,p8,lC,vH,Km,Mn,Mm⟩;have lb:(bB u).length=(ln u).length:=Paired.length (hB.e u dJ);rw[ay,lb,bG] at Mm;refine⟨_,_,_,fun z=>if z=u then M else cU z,fun z=>if z=u then q0 else ad z,rfl,q7,p8,lC,fun k hk=>?_,fun k hk k' gj e=>?_⟩
     ·rw[tk,bM] at hk;dsimp only
      by_cases c:k=u
      ·rw[aq c,aq c];refine⟨Km,yP,GU,Kl,Mn,fun y=>?_⟩;rw[Mm,c];exact pB.symm
      ·rw[ao c,ao c];have gj:k∈os.take i:=hk.elim id fun z=>absurd (by simpa using z) c
       obtain⟨_,h2⟩:=jk k gj;exact⟨vH k gj,h2⟩
     ·rw[tk,bM] at hk gj;dsimp only at e
      by_cases c1:k=u<;>by_cases c2:k'=u
      ·rw[c1,c2]
      ·rw[aq c1,ao c2] at e;exact absurd e.symm (Ex k' (gj.elim id fun z=>absurd (by simpa using z) c2))
      ·rw[ao c1,aq c2] at e;exact absurd e (Ex k (hk.elim id fun z=>absurd (by simpa using z) c1))
      ·rw[ao c1,ao c2] at e;exact inj k (hk.elim id fun z=>absurd (by simpa using z) c1) k' (gj.elim id fun z=>absurd (by simpa using z) c2) e
  ·rintro σ H4 ⟨v3,v4,v5,cU,ad,rfl,q4,xW,jB,jk,inj⟩;rw[ay,bG] at jB jk inj;refine ND (ad:=ad) (f:=fun k=>dV (cU k) iu) os H4 (fun k hk=>(jk k hk).1) inj O.nd fun H5 obs h1 h2=>?_
   have gC:H5 pd=some (.dK (dV os fun k=>.ref (ad k))):=by rw[h2 pd fun k hk=>aD (jk k hk).2.2.1];exact jB
   have q5:ak H1 H5:=fun b o e=>by
    rw[h2 b fun k hk z=>by rw[z,(jk k hk).2.1] at e;cases e];exact q4 b o e
   refine .ie pd _ gC fun ob=>.go ⟨_,rfl,k pd ob os cU ad obs _ ((s1.trans q5).upd (s1.free fJ)) (s1.free fJ) ⟨zb,fun z hz=>?_⟩ pm fun z hz=>?_⟩
   ·rw[zr (jk z hz).2.2.1];exact h1 z hz
   ·exact (jk z ((wO z).mpr hz)).2.2.2.2
inductive qa (vs:List V) (H:Hp) (Q:VK):Prop
 | mk (pd:ah) (ob:Obj) (os:List Str) (cU:Str->List Str) (ad:Str->ah) (obs:Str->Obj) (u l:Str) (_:vs = [.ref pd,.str u,.str l]) (_:Dp H pd ob os cU ad obs) (_:u∈os) (_:(∀t∈cU u,t∈os)) (_:(cU u).length<=63) (_:∀H',ak H H'->Q (.bl ((cU u).any fun t=>decide (l∈cU t))) H')
def Zw:Sp:=fun vs H Q _=>qa vs H Q
set_option maxHeartbeats 8000000 in
theorem PF (T:Tx K mg w zj zm zg zp):eX P w K mg base "lies_between" ["depths","upper","lower"] 1 Zw:=by
 refine T.XS.has Yl (fun vs H Q E h=>?_) (fun f bX A outer s H vs Q E hr h=>?_)
 ·obtain⟨pd,ob,os,cU,ad,obs,u,l,rfl,_⟩:=h;rfl
 ·obtain⟨pd,ob,os,cU,ad,obs,u,l,rfl,hD,dz,cl,lb,k⟩:=h;have hu:=i0 hr;refine⟨_,(zi (zz (jf (Vr K rfl rfl) (by rfl) T.any PyProof.Rows.boot_any (za (r8 (own:=["third"]) (cap:=["lower","depths"]) (ix:=[2,0]) (kW:=zq (top 35)) rfl ⟨rfl,by decide +kernel,by decide +kernel,by decide +kernel,by decide +kernel⟩ rfl (sV (zw hu (pv 0) (pv 1) (fun _ _=>rfl))) (fun _ _ _ _=>mS (i:=0) (show List.Nodup (["third","lower","depths"]:List Str) by decide +kernel) rfl (Or.inl rfl)) (fun _ _ _ _=>qo) (fun _ _ _ _=>(K2 (FG hu (pv 1) (zw hu (pv 2) (pv 0) (fun _ _=>rfl)))))) zf)))),?_⟩;refine⟨_,rfl,_,rfl,pd,_,rfl,nO hD.d dz,ad u,obs u,_,rfl,hD.e u dz,fun D yQ=>?_⟩;refine uh (Gm (a:=ad u) (ob:=obs u) (kvs:=dV (cU u) iu)) (fun i aK ys H'=>∃w0,aK = [w0,some (.str l),some (.ref pd)]/\ys=(((cU u).take i).map fun t=>decide (l∈cU t)).map V.bl/\ak H H'/\H' D=some (.lst ys))
   ⟨none,rfl,by simp,ak.new yQ,zb⟩ (fun i aK ys H' h=>?_) (by rw[ay,ji];exact pH (by lia)) ?_ ?_
  ·obtain⟨_,_,rfl,q,hd⟩:=h;refine⟨q _ _ (hD.e u dz),hd,?_⟩;rw[ay,ay,bF];lia
  ·rintro i v aK ys H' hx ⟨w0,rfl,rfl,q,hd⟩;have gI:=iA hx;rw[DG,aM] at hx;cases et:(cU u)[i]? with
   | none=>rw[et] at hx;cases hx
   | some t=>
    rw[et] at hx;cases hx;have ht:=cl t (bN et);have D':=hD.same q
    try dsimp only [zx]
    unfold lH;dsimp only;rw[aq rfl];refine⟨_,rfl,_,rfl,_,rfl,pd,_,rfl,nO D'.d ht,ad t,_,rfl,Jo (D'.e t ht) l,hd,pI gI ⟨_,rfl,?_,q.upd yQ,zb⟩⟩;rw[aS,et,aT,aT]
    congr 1
    show [V.bl (if l∈cU t then some (V.bl true) else none).isSome] = [V.bl (decide (l∈cU t))]
    by_cases c:l∈cU t
    ·rw[aq c,aO c];rfl
    ·rw[ao c,aV c];rfl
  rintro aK ys H1 ⟨w0,rfl,rfl,q,hd⟩;rw[ay,ji,bG] at hd;refine⟨D,_,rfl,aJ.of hd,?_⟩;rw[List.any_map];exact k _ q
inductive tR (vs:List V) (H:Hp) (Q:VK):Prop
 | mk (p pu pt:ah) (x y:V) (us:List Str) (av:List ah) (ts:List aQ) (_:vs = [.ref p]) (_:mZ K H p pu pt x y us av ts) (_:ts.length<=60) (_:fC (cG ts (ts.zip av)) (zn ts (aL us))) (_:∀(D:ah) (bs:List ah) (qs:List SS) (H':Hp),ak H H'->H D=none->H' D=some (.lst (bs.map V.ref))->Paired (fun a (p:SS)=>H' a=some (.tup [.str p.1,.str p.2])) bs qs->qs.Pairwise (fun a b=>ki a b=true)->qs.length<64->(∀p,p∈qs↔DX (cG ts (ts.zip av)) (zn ts (aL us)) p)->Q (.ref D) H')
def PJ:Sp:=fun vs H Q _=>tR (K:=K) vs H Q
set_option maxHeartbeats 8000000 in
theorem Kq (T:Tx K mg w zj zm zg zp):eX P w K mg base "drawn" ["telling"] 9 (PJ (K:=K)):=by
 refine T.OU.has cD (fun vs H Q E h=>?_) (fun f bX A outer s H vs Q E hr h=>?_)
 ·obtain⟨p,pu,pt,x,y,us,av,ts,rfl,_⟩:=h;rfl
 ·obtain⟨p,pu,pt,x,y,us,av,ts,rfl,hT,wQ,nr,k⟩:=h;have hu:=i0 hr;refine⟨_,(zc (sset (i:=1) cD.nd (bw (uz T) (za (pv 0) zf)))
   (zc (sset (i:=2) cD.nd (bw (Kh T) (za (pv 0) zf)))
   (zc (sset (i:=3) cD.nd LG)
   (zc (gQ bH rfl (sV (pv 1)) (fE (i:=4) cD.nd) (zi (gQ bH rfl (ir K rfl (zw hu (pv 1) (pv 4) (fun _ _=>rfl))) (ug K rfl rfl (lQ (fE (i:=5) cD.nd) (lQ (fE (i:=6) cD.nd) ud))) (zi (fQ (xh (wc (bw (PF T) (za (pv 2) (za (pv 4) (za (pv 5) zf)))))) (zi (lS hu (pv 3) (iz (za (pv 4) (za (pv 5) zf))) sH rfl)) fW)))))
   (zi (zz (jf (Np (K:=K) rfl rfl) (by rfl) T.sorted mh (za (pv 3) zf)))))))),?_⟩
  refine⟨_,rfl,p,pu,pt,x,y,us,av,ts,rfl,hT,fun ps PB aB bB H1 s1 Er hB=>?_⟩;have lk:=hT.j9;have kn:=uY (ts:=ts) hT.nd;have cl:=DI (us:=us) (ts:=ts) (av:=av) hT.ends;have Kr:=fun (a b:Str)=>Uk (ts:=ts) (av:=av) hT.len (x:=a) (y:=b)
  have Zx:(qY ts).length<=60:=by
   have:(qY ts).length<=ts.length:=by unfold qY;rw[ay];exact gE _ _
   lia
  try dsimp only [zx]
  refine⟨_,rfl,p,pu,pt,x,y,us,av,ts,rfl,hT.same s1,nr,fun pd ob os cU ad obs H2 s2 pD hD pm kj=>?_⟩;generalize zn ts (aL us)=keys at hB lk k nr kn cl pm kj;generalize cG ts (ts.zip av)=ln at hB k nr cl kj Kr;generalize qY ts=Zy at Kr Zx;have wO:∀z,z∈os↔z∈keys:=fun z=>pm.mem_iff
  have xX:∀u∈keys,∀t∈cU u,t∈keys:=fun u hu t ht=>by
   obtain⟨j,_,h⟩:=((kj u hu).2 t).mp ht;exact h.inKeys cl hu
  have Zz:∀u∈keys,∀l,((cU u).any fun t=>decide (l∈cU t))=true↔∃t,iC ln u t/\iC ln t l:=fun u hu l=>by
   rw[iM];constructor
   ·rintro ⟨t,h1,h2⟩;exact⟨t,((kj u hu).2 t).mp h1,((kj t (xX u hu t h1)).2 l).mp (aP h2)⟩
   ·rintro ⟨t,h1,h2⟩;have yz:=((kj u hu).2 t).mpr h1;exact⟨t,yz,aO (((kj t (xX u hu t yz)).2 l).mpr h2)⟩
  try dsimp only [zx]
  refine fun pp AI=>?_
  have s3:=ak.new (o:=.dT []) AI;have B2:=hB.same s2;have bound:∀qs:List SS,qs.Nodup->(∀q∈qs,∃r,(q.2,r)∈ln q.1)->qs.length<=60:=fun qs n h=>by
   have:=NC (us:=Zy) n fun q hq=>(Kr q.1 q.2).mpr (h q hq)
   lia
  refine⟨_,rfl,ps,PB,_,rfl,s3 _ _ B2.d,Al (fun i σ H'=>∃(v4 v5 v6:Option V) (qs:List SS),σ = [some (.ref p),some (.ref ps),some (.ref pd),some (.ref pp),v4,v5,v6]/\ak H2 H'/\H' pp=some (.dT (dP qs))/\qs.Nodup/\∀q:SS,q∈qs↔q.1∈keys.take i/\(∃r,(q.2,r)∈ln q.1)/\¬∃t,iC ln q.1 t/\iC ln t q.2)
   ⟨none,none,none,[],rfl,s3,zb,by simp,by simp⟩ (fun i σ H' _ h=>by obtain⟨_,_,_,_,_,q,_⟩:=h;exact q _ _ B2.d) ?_ ?_⟩
  ·rintro i kk vv σ H4 hx ⟨v4,v5,v6,qs,rfl,q4,pY,qn,qm⟩;obtain⟨u,dz,rfl,_⟩:=Ai hx;have dJ:u∈keys:=bN dz;have iT:u ∉ keys.take i:=by
    have hi:=iA dz;have:=um kn i hi;rw[show keys[i]=u from (bV.mp dz).2] at this;exact this
   have B4:=B2.same q4
   try dsimp only [zx]
   refine⟨_,rfl,_,rfl,ps,_,rfl,B4.get dJ,aB u,rfl,⟨_,aJ.of (B4.l u dJ)⟩,ny (xs:=(bB u).map V.ref) (fun i' σ H'=>∃(v5 v6:Option V) (qs:List SS),σ = [some (.ref p),some (.ref ps),some (.ref pd),some (.ref pp),some (.str u),v5,v6]/\ak H2 H'/\H' pp=some (.dT (dP qs))/\qs.Nodup/\
     ∀q:SS,q∈qs↔(q.1∈keys.take i/\(∃r,(q.2,r)∈ln q.1)/\¬∃t,iC ln q.1 t/\iC ln t q.2)\/(q.1=u/\(∃r,(q.2,r)∈(ln u).take i')/\¬∃t,iC ln q.1 t/\iC ln t q.2))
    ⟨_,_,qs,rfl,q4,pY,qn,fun q=>by rw[qm];simp⟩ (fun i' σ H' _ h=>by obtain⟨_,_,_,_,q,_⟩:=h;exact aJ.of ((B2.same q).l u dJ)) ?_ ?_⟩
   ·clear qn qm pY;rintro i' v σ H5 hx ⟨v5,v6,qs,rfl,q5,Eh,qn,qm⟩;obtain⟨b,⟨l,r⟩,rfl,nY,_,hb⟩:=uq ((B2.same q5).e u dJ) hx;have Kn:(l,r)∈ln u:=bN nY;have ZA:∀q∈qs,∃r,(q.2,r)∈ln q.1:=fun q hq=>by
     rcases (qm q).mp hq with ⟨_,h,_⟩ | ⟨e,⟨r,h⟩,_⟩
     ·exact h
     ·exact⟨r,by rw[e];exact ly h⟩
    have lq:=bound qs qn ZA;refine⟨b,_,rfl,bu.of hb,rfl,_,_,rfl,_,_,rfl,rfl,?_⟩
    try dsimp only [zx]
    have yR:∀q:SS,(q.1=u/\(∃r,(q.2,r)∈(ln u).take (i'+1))/\¬∃t,iC ln q.1 t/\iC ln t q.2)↔(q.1=u/\(∃r,(q.2,r)∈(ln u).take i')/\¬∃t,iC ln q.1 t/\iC ln t q.2)\/(q=(u,l)/\¬∃t,iC ln u t/\iC ln t l):=fun q=>by
     rw[aS,nY];constructor
     ·rintro ⟨e,⟨r',h⟩,n⟩;rcases bM.mp h with h | h
      ·exact .inl ⟨e,⟨r',h⟩,n⟩
      ·have h:(q.2,r')=(l,r):=by simpa using h
       have h:=(Prod.mk.inj h).1;refine .inr ⟨Prod.ext e h,?_⟩;rw[←e,←h];exact n
     ·rintro (⟨e,⟨r',h⟩,n⟩ | ⟨rfl,n⟩)
      ·exact⟨e,⟨r',ee _ h⟩,n⟩
      ·exact⟨rfl,⟨r,f7 _ (by simp)⟩,n⟩
    have PL:=Zz u dJ l;refine yu (!((cU u).any fun t=>decide (l∈cU t))) (fun Q' hQ=>?_) (fun H6 s6=>?_)
    ·refine⟨_,rfl,_,rfl,_,rfl,pd,ob,os,cU,ad,obs,u,l,rfl,hD.same q5,(wO u).mpr dJ,fun t ht=>(wO t).mpr (xX u dJ t ht),b7 (sj (kj u dJ).1 (xX u dJ)) lk,fun H6 s6=>⟨_,rfl,?_⟩⟩;exact hQ _ s6
    ·have q6:=q5.trans s6;have BA:=s6 _ _ Eh;refine bZ (fun c=>?_) (fun c=>?_)
     ·have nb:¬∃t,iC ln u t/\iC ln t l:=fun z=>by rw[PL.mpr z] at c;cases c
      refine⟨_,rfl,_,rfl,_,rfl,(by show 2<=sizeLine;decide),fun b0 rD=>?_⟩;have t0:=ak.new (o:=.tup [.str u,.str l]) rD;refine⟨pp,_,rfl,ff.t (k:=[Sum.inr u,Sum.inr l]) (t0 _ _ BA) zb (by unfold dP;rw[ay];exact jx (by lia)),?_⟩;rw[Vu (p:=(u,l))];refine⟨_,_,fY qs (u,l),rfl,(q6.trans t0).upd AI,zb,Jm qn,fun q=>?_⟩;rw[Jl,qm,yR];constructor
      ·rintro ((h | h) | rfl)
       ·exact .inl h
       ·exact .inr (.inl h)
       ·exact .inr (.inr ⟨rfl,nb⟩)
      ·rintro (h | h | ⟨rfl,_⟩)
       ·exact .inl (.inl h)
       ·exact .inl (.inr h)
       ·exact .inr rfl
     ·have yb:∃t,iC ln u t/\iC ln t l:=PL.mp (by simpa using c);refine⟨_,_,qs,rfl,q6,BA,qn,fun q=>?_⟩;rw[qm,yR];constructor
      ·rintro (h | h)
       ·exact .inl h
       ·exact .inr (.inl h)
      ·rintro (h | h | ⟨_,n⟩)
       ·exact .inl h
       ·exact .inr h
       ·exact absurd yb n
   ·clear qn qm pY;rintro σ H5 ⟨v5,v6,qs,rfl,q5,Eh,qn,qm⟩;have lb:(bB u).length=(ln u).length:=Paired.length (hB.e u dJ);rw[ay,lb,bG] at qm;refine⟨_,_,_,qs,rfl,q5,Eh,qn,fun q=>?_⟩;rw[qm,aS,dz];constructor
    ·rintro (⟨h1,h2⟩ | ⟨h1,h2⟩)
     ·exact⟨ee _ h1,h2⟩
     ·exact⟨f7 _ (by rw[h1];simp),by rw[←h1] at h2;exact h2⟩
    ·rintro ⟨h1,h2⟩;rcases bM.mp h1 with h1 | h1
     ·exact .inl ⟨h1,h2⟩
     ·have h1:q.1=u:=by simpa using h1
      exact .inr ⟨h1,by rw[←h1];exact h2⟩
  ·rintro σ H4 ⟨v4,v5,v6,qs,rfl,q4,pY,qn,qm⟩;rw[ji,bG] at qm;have lq:=bound qs qn fun q hq=>((qm q).mp hq).2.1
   refine⟨_,rfl,pp,_,qs,rfl,.inl pY,Vt qs,qn,by lia,fun D bs rs yQ pb PM up=>?_⟩;have t5:=ak.new (o:=.lst (bs.map V.ref)) yQ;have q3:=s1.trans (s2.trans q4);refine k D bs rs _ (q3.trans t5) (q3.free yQ) zb (Paired.fV pb fun a z e=>t5 _ _ e) up (by rw[PM.length_eq];lia) fun z=>?_
   rw[PM.mem_iff,qm];rfl
inductive vJ (vs:List V) (H:Hp) (Q:VK):Prop
 | mk (e u z:Str) (pp pd:ah) (bs:List ah) (qs:List SS) (ob:Obj) (os:List Str) (cU:Str->List Str) (ad:Str->ah) (obs:Str->Obj) (_:vs = [.str e,.str u,.ref pp,.ref pd]) (_:H pp=some (.lst (bs.map V.ref))) (_:Paired (fun a (p:SS)=>H a=some (.tup [.str p.1,.str p.2])) bs qs) (_:qs.length<64) (_:Dp H pd ob os cU ad obs) (_:(∀q∈qs,q.2∈os)) (_:(u,z)∈qs) (_:(z=e\/e∈cU z)) (_:∀(w:Str) (H':Hp),ak H H'->(u,w)∈qs->(w=e\/e∈cU w)->Q (.str w) H')
def ZC:Sp:=fun vs H Q _=>vJ vs H Q
set_option maxHeartbeats 8000000 in
theorem PN (T:Tx K mg w zj zm zg zp):eX P w K mg base "step_towards" ["end","name","pairs","depths"] 1 ZC:=by
 refine T.XT.has iw (fun vs H Q E h=>?_) (fun f bX A outer s H vs Q E hr h=>?_)
 ·obtain⟨e,u,z,pp,pd,bs,qs,ob,os,cU,ad,obs,rfl,_⟩:=h;rfl
 ·obtain⟨e,u,z,pp,pd,bs,qs,ob,os,cU,ad,obs,rfl,hp,tb,lq,hD,zN,ZD,ZE,k⟩:=h;have hu:=i0 hr;refine⟨_,(zc (C3 (i:=4) (own:=["pair"]) (cap:=["name","end","depths"]) (ix:=[1,0,3]) (kW:=zq (top 37)) rfl iw.nd rfl rfl rfl ⟨rfl,by decide +kernel,by decide +kernel,by decide +kernel,by decide +kernel⟩ rfl (ir K rfl (pv 2)) (fun _ _ _ _=>mS (i:=0) (show List.Nodup (["pair","name","end","depths"]:List Str) by decide +kernel) rfl (Or.inl rfl)) (fun _ _ _ _=>HZ (PW.pt (xg (e7 jQ (aR (zo K rfl) (pv 0) zh) (pv 1) (dW _)) (w9 (PW.pt (Ca (e7 jQ (aR (zo K rfl) (pv 0) zh) (pv 2) (dW _)) (Fc (ym (FG hu (pv 2) (zw hu (pv 3) (aR (zo K rfl) (pv 0) zh) (fun _ _=>rfl))))))))))) (fun _ _ _ _=>(aR (zo K rfl) (pv 0) zh)))
   (zi (zz (aR (gJ K rfl) (pv 4) zh)))),?_⟩
  have lb:bs.length=qs.length:=Paired.length tb;refine⟨_,rfl,pp,rfl,⟨_,aJ.of hp⟩,fun D yQ=>?_⟩;refine uh (wo (K:=K) (a:=pp) (xs:=bs.map V.ref)) (fun i aK ys H'=>∃w0,aK = [w0,some (.str u),some (.str e),some (.ref pd)]/\ys=((qs.take i).filter fun q=>decide (q.1=u)&&(decide (q.2=e)||decide (e∈cU q.2))).map (fun q=>V.str q.2)/\ak H H'/\H' D=some (.lst ys))
   ⟨none,rfl,by simp,ak.new yQ,zb⟩ (fun i aK ys H' h=>?_) (by rw[ay];exact pH (by lia)) ?_ ?_
  ·obtain⟨_,_,rfl,q,hd⟩:=h;refine⟨aJ.of (q _ _ hp),hd,?_⟩;rw[ay];exact b7 (gE _ _) (by rw[bF];lia)
  ·rintro i v aK ys H' hx ⟨w0,rfl,rfl,q,hd⟩;have gI:=iA hx;obtain⟨c,⟨q1,q2⟩,rfl,hq,_,hc⟩:=uq tb hx;have vZ:=q _ _ hc;have D':=hD.same q;have ho:=zN _ (bN hq);have no:(decide (q1=u)&&(decide (q2=e)||decide (e∈cU q2)))=false->∃Eu,[some (V.ref c),some (V.str u),some (V.str e),some (V.ref pd)] = [Eu,some (.str u),some (.str e),some (.ref pd)]/\((qs.take i).filter fun q=>decide (q.1=u)&&(decide (q.2=e)||decide (e∈cU q.2))).map (fun q=>V.str q.2)=((qs.take (i+1)).filter fun q=>decide (q.1=u)&&(decide (q.2=e)||decide (e∈cU q.2))).map (fun q=>V.str q.2)/\ak H H'/\H' D=some (.lst (((qs.take i).filter fun q=>decide (q.1=u)&&(decide (q.2=e)||decide (e∈cU q.2))).map (fun q=>V.str q.2))):=fun h=>by
    refine⟨_,rfl,?_,q,hd⟩;rw[aS,hq,iH,aT];have:(some (q1,q2)).toList.filter (fun q:SS=>decide (q.1=u)&&(decide (q.2=e)||decide (e∈cU q.2))) = []:=by
     show [(q1,q2)].filter _ = [];rw[qG (by dsimp only;rw[h];exact bJ)];rfl
    rw[this,jK,g8]
   have yes:(decide (q1=u)&&(decide (q2=e)||decide (e∈cU q2)))=true->∃Eu,[some (V.ref c),some (V.str u),some (V.str e),some (V.ref pd)] = [Eu,some (.str u),some (.str e),some (.ref pd)]/\((qs.take i).filter fun q=>decide (q.1=u)&&(decide (q.2=e)||decide (e∈cU q.2))).map (fun q=>V.str q.2)++[V.str q2]=((qs.take (i+1)).filter fun q=>decide (q.1=u)&&(decide (q.2=e)||decide (e∈cU q.2))).map (fun q=>V.str q.2)/\ak H (upd H' D (.lst (((qs.take i).filter fun q=>decide (q.1=u)&&(decide (q.2=e)||decide (e∈cU q.2))).map (fun q=>V.str q.2)++[V.str q2])))/\upd H' D (.lst (((qs.take i).filter fun q=>decide (q.1=u)&&(decide (q.2=e)||decide (e∈cU q.2))).map (fun q=>V.str q.2)++[V.str q2])) D=some (.lst (((qs.take i).filter fun q=>decide (q.1=u)&&(decide (q.2=e)||decide (e∈cU q.2))).map (fun q=>V.str q.2)++[V.str q2])):=fun h=>by
    refine⟨_,rfl,?_,q.upd yQ,zb⟩;rw[aS,hq,iH,aT];have:(some (q1,q2)).toList.filter (fun q:SS=>decide (q.1=u)&&(decide (q.2=e)||decide (e∈cU q.2))) = [(q1,q2)]:=by
     show [(q1,q2)].filter _ = [(q1,q2)];rw[qF (by dsimp only;exact h)];rfl
    rw[this];rfl
   try dsimp only [zx]
   refine⟨_,rfl,c,_,_,_,rfl,rfl,bu.of vZ,rfl,_,rfl,rfl,_,rfl,?_⟩;refine bZ (fun c1=>?_) (fun c1=>?_)
   ·have c1:q1=u:=V.str.inj (aP c1);refine⟨_,rfl,c,_,_,_,rfl,rfl,bu.of vZ,rfl,_,rfl,rfl,_,rfl,?_⟩;refine bZ (fun c2=>?_) (fun c2=>?_)
    ·have c2:q2=e:=V.str.inj (aP c2);exact⟨_,rfl,c,_,_,_,rfl,rfl,bu.of vZ,rfl,hd,pI gI (yes (by rw[aO c1,aO c2];rfl))⟩
    ·have c2:¬q2=e:=fun w=>c2 (aO (bT V.str w))
     refine⟨_,rfl,_,rfl,_,rfl,c,_,_,_,rfl,rfl,bu.of vZ,rfl,pd,_,rfl,nO D'.d ho,ad q2,_,rfl,Jo (D'.e q2 ho) e,_,rfl,?_⟩;refine bZ (fun c3=>?_) (fun c3=>?_)
     ·have c3:e∈cU q2:=d9 fun w=>by rw[ao w] at c3;cases c3
      exact⟨_,rfl,c,_,_,_,rfl,rfl,bu.of vZ,rfl,hd,pI gI (yes (by rw[aO c1,aO c3,Bool.or_true];rfl))⟩
     ·have c3:e ∉ cU q2:=fun w=>by rw[aq w] at c3;exact c3 rfl
      exact⟨hd,pI gI (no (by rw[aO c1,aV c2,aV c3];rfl))⟩
   ·have c1:¬q1=u:=fun w=>c1 (aO (bT V.str w))
    exact⟨hd,pI gI (no (by rw[aV c1];rfl))⟩
  rintro aK ys H1 ⟨w0,rfl,rfl,q,hd⟩;rw[ay,lb,bG] at hd;have mem:∀w∈qs.filter (fun q=>decide (q.1=u)&&(decide (q.2=e)||decide (e∈cU q.2))),(u,w.2)∈qs/\(w.2=e\/e∈cU w.2):=fun w hw=>by
   obtain⟨h1,h2⟩:=cF.mp hw;rw[fj,Bool.or_eq_true,dg,dg,dg] at h2;refine⟨?_,h2.2⟩;rw[←h2.1];exact h1
  have ne:qs.filter (fun q=>decide (q.1=u)&&(decide (q.2=e)||decide (e∈cU q.2)))≠[]:=by
   refine List.ne_nil_of_mem (a:=(u,z)) (cF.mpr ⟨ZD,?_⟩);rw[fj,Bool.or_eq_true,dg,dg,dg];exact⟨rfl,ZE⟩
  generalize qs.filter (fun q=>decide (q.1=u)&&(decide (q.2=e)||decide (e∈cU q.2)))=fl at hd mem ne;cases fl with
  | nil=>exact absurd rfl ne
  | cons w r=>
   obtain⟨m1,m2⟩:=mem w (by simp)
   try dsimp only [zx]
   exact⟨_,rfl,D,_,_,_,rfl,rfl,aJ.of hd,sd,k w.2 _ q m1 m2⟩
inductive vK (vs:List V) (H:Hp) (Q:VK):Prop
 | mk (p pu pt:ah) (x y:V) (us:List Str) (av:List ah) (ts:List aQ) (a b:Str) (_:vs = [.ref p,.str a,.str b]) (_:mZ K H p pu pt x y us av ts) (_:ts.length<=60) (_:fC (cG ts (ts.zip av)) (zn ts (aL us))) (_:a∈us) (_:b∈us) (_:∀(q:ah) (ws:List Str) (H':Hp),ak H H'->H q=none->H' q=some (.lst (ws.map V.str))->ws.length<=64->(iC (cG ts (ts.zip av)) (aC ts a) (aC ts b)->2<=ws.length/\ws[0]? = some (aC ts a)/\ws[ws.length-1]? = some (aC ts b)/\∀(i:Nat) c d,ws[i]? = some c->ws[i+1]? = some d->DX (cG ts (ts.zip av)) (zn ts (aL us)) (c,d))->(¬iC (cG ts (ts.zip av)) (aC ts a) (aC ts b)->ws = [])->Q (.ref q) H')
def PR:Sp:=fun vs H Q _=>vK (K:=K) vs H Q
set_option maxHeartbeats 8000000 in
theorem ZF (T:Tx K mg w zj zm zg zp):eX P w K mg base "walk" ["telling","upper","lower"] 10 (PR (K:=K)):=by
 refine T.OV.has dF (fun vs H Q E h=>?_) (fun f bX A outer s H vs Q E hr h=>?_)
 ·obtain⟨p,pu,pt,x,y,us,av,ts,a,b,rfl,_⟩:=h;rfl
 ·obtain⟨p,pu,pt,x,y,us,av,ts,a,b,rfl,hT,wQ,nr,ha,hb,k⟩:=h;have hu:=i0 hr;refine⟨_,(zc (sset (i:=3) dF.nd (bw (xS T) (za (aR (zo K rfl) (pv 0) zh) (za (aR (zo K rfl) (pv 0) zh) zf))))
   (zc (sset (i:=4) dF.nd (bw (Kh T) (za (pv 0) zf)))
   (zc (sset (i:=5) dF.nd (zw hu (pv 3) (pv 2) (fun _ _=>rfl)))
   (zc (fQ (ym (CL hu (pv 5) (zw hu (pv 4) (zw hu (pv 3) (pv 1) (fun _ _=>rfl)) (fun _ _=>rfl)))) (zi (zz (fB zf))) fW)
   (zc (sset (i:=6) dF.nd (bw (Kq T) (za (pv 0) zf)))
   (zc (sset (i:=7) dF.nd (fB (za (zw hu (pv 3) (pv 1) (fun _ _=>rfl)) zf)))
   (zc (A2 bH (e7 Fo (aR (gJ K rfl) (pv 7) (Ci Cm zh)) (pv 5) (dW _)) (zi (ko (pS K rfl PySem.F.plainAttrs_list PySem.F.slot_list_append PySem.F.type_list_append ql (pv 7) (za (bw (PN T) (za (pv 5) (za (aR (gJ K rfl) (pv 7) (Ci Cm zh)) (za (pv 6) (za (pv 4) zf))))) zf)))))
   (zi (zz (pv 7)))))))))),?_⟩
  have gM:=hT.ends;have lk:=hT.j9;have cl:=DI (us:=us) (ts:=ts) (av:=av) gM;have xY:=yw gM ha;have PU:=yw gM hb;have T0:=hT;obtain⟨hp,pZ,lI,tp,nd,hl,tl,_⟩:=hT;refine⟨_,rfl,p,_,_,_,rfl,rfl,hp,rfl,_,rfl,p,_,_,_,rfl,rfl,hp,rfl,pu,pt,us,av,ts,rfl,pZ,lI,tp,nd,by lia,gM,fun pn H1 Ay hn s1=>?_⟩
  try dsimp only [zx]
  refine⟨_,rfl,p,pu,pt,x,y,us,av,ts,rfl,T0.same s1,nr,fun pd ob os cU ad obs H2 s2 pD hD pm kj=>?_⟩;have qU:=s2 _ _ hn;have gb:=cj.k (k:=Sum.inr b) qU;rw[qw hb] at gb;have ga:=cj.k (k:=Sum.inr a) qU;rw[qw ha] at ga;have wO:∀z,z∈os↔z∈zn ts (aL us):=fun z=>pm.mem_iff
  have q2:=s1.trans s2
  try dsimp only [zx]
  refine⟨_,rfl,_,rfl,pn,_,rfl,gb,?_⟩
  try dsimp only [zx]
  refine mX (!decide (aC ts b∈cU (aC ts a))) (fun Q' hQ=>?_) ?_
  ·refine⟨_,rfl,_,rfl,_,rfl,_,rfl,pn,_,rfl,ga,pd,_,rfl,nO hD.d ((wO _).mpr xY),ad (aC ts a),_,rfl,Jo (hD.e _ ((wO _).mpr xY)) (aC ts b),_,rfl,?_⟩
   by_cases c:aC ts b∈cU (aC ts a)
   ·rw[aO c] at hQ;rw[aq c];exact hQ
   ·rw[aV c] at hQ;rw[ao c];exact hQ
  have vL:=(kj _ xY).2 (aC ts b);refine bZ (fun c=>?_) (fun c=>?_)
  ·have c:aC ts b ∉ cU (aC ts a):=fun w=>by rw[aO w] at c;cases c
   refine⟨by decide,fun q hq=>?_⟩;exact k q [] _ (q2.trans (ak.new hq)) (q2.free hq) zb (by simp) (fun h=>absurd (vL.mpr h) c) fun _=>rfl
  have i6:iC (cG ts (ts.zip av)) (aC ts a) (aC ts b):=vL.mp (by simpa using c);unfold qh;dsimp only;refine⟨_,rfl,p,pu,pt,x,y,us,av,ts,rfl,T0.same q2,wQ,nr,fun pp bs qs H3 s3 fpp AI tb up lq dq=>?_⟩;have Ks:=cj.k (k:=Sum.inr a) (s3 _ _ qU);rw[qw ha] at Ks;generalize hA:aC ts a=A' at xY i6 vL ga Ks k;generalize hB:aC ts b=B' at PU i6 vL gb k;generalize zn ts (aL us)=keys at lk nr cl xY PU kj pm wO dq k;generalize cG ts (ts.zip av)=ln at nr cl i6 vL kj dq k;have D3:=hD.same s3;have q3:=q2.trans s3
  try dsimp only [zx]
  refine⟨_,rfl,_,rfl,pn,_,rfl,Ks,by show 1<=sizeLine;decide,fun q hq=>?_⟩;have s4:=ak.new (o:=.lst [.str A']) hq;refine⟨fun m σ H'=>∃(ws:List Str) (c:Str),σ = [some (.ref p),some (.str a),some (.str b),some (.ref pn),some (.ref pd),some (.str B'),some (.ref pp),some (.ref q)]/\ak H3 H'/\H' q=some (.lst (ws.map V.str))/\1<=ws.length/\ws[0]? = some A'/\ws[ws.length-1]? = some c/\Rc ln A' (ws.length-1) c/\(c=B'\/iC ln c B')/\(∀(i:Nat) d e,ws[i]? = some d->ws[i+1]? = some e->DX ln keys (d,e))/\m=keys.length-ws.length,⟨_,[A'],A',rfl,s4,zb,by simp,rfl,rfl,Rc.refl,.inr i6,fun i d e e1 e2=>by simp at e2,rfl⟩,?_⟩;rintro m σ H4 ⟨ws,c,rfl,q4,xW,w1,w0,wl,wr,wb,wd,rfl⟩;have ck:=wr.inKeys cl xY;have short:=Gr cl nr xY wr;refine⟨_,rfl,_,rfl,q,_,_,.str c,rfl,rfl,aJ.of xW,NR wl,_,rfl,rfl,_,rfl,?_⟩;refine bZ (fun cc=>?_) (fun cc=>?_)
  ·have cc:c≠B':=fun w=>by rw[w] at cc;simp at cc
   have cb:iC ln c B':=wb.resolve_left cc;obtain⟨z,zd,ze⟩:=VS cl nr ck cb;have D4:=D3.same q4;have zk:∀w∈qs,w.2∈os:=fun w hw=>by
    obtain⟨h1,⟨r,h2⟩,_⟩:=(dq w).mp hw;exact (wO _).mpr (cl _ h1 _ r h2)
   refine⟨fun aK H'=>∃m',m'<keys.length-ws.length/\_,fun aK H' h=>h,?_⟩;refine⟨_,rfl,.inl ⟨rfl,_,aJ.of xW⟩,_,rfl,_,rfl,_,rfl,q,_,_,.str c,rfl,rfl,aJ.of xW,NR wl,_,rfl,_,rfl,B',c,z,pp,pd,bs,qs,ob,os,cU,ad,obs,rfl,q4 _ _ AI,Paired.fV tb fun a p e=>q4 _ _ e,lq,D4,zk,(dq _).mpr zd,?_,fun w H5 s5 PV ZG=>?_⟩
   ·rcases ze with h | h
    ·exact .inl h
    ·obtain⟨h1,⟨r,h2⟩,_⟩:=zd;exact .inr (((kj z (cl _ h1 _ r h2)).2 B').mpr h)
   have ZH:=(dq _).mp PV;obtain⟨h1,⟨r,h2⟩,h3⟩:=ZH;have h2:(w,r)∈ln c:=h2;have wk:w∈keys:=cl _ h1 _ r h2;have iY:Rc ln A' (ws.length-1+1) w:=wr.step h2;have Ku:=Gr cl nr xY iY;refine⟨q,_,_,rfl,rfl,s5 _ _ xW,by rw[ay];exact jx (by lia),?_⟩;have ll:(ws++[w]).length=ws.length+1:=by rw[bL];rfl
   refine⟨_,?_,ws++[w],w,rfl,(q4.trans s5).upd hq,by rw[zb,aT];rfl,by lia,?_,?_,?_,?_,?_,rfl⟩
   ·rw[ll];lia
   ·rw[jl (by lia)];exact w0
   ·rw[ll,Nat.add_sub_cancel,k8 (aH _)];simp
   ·rw[ll,Nat.add_sub_cancel];rw[show ws.length-1+1=ws.length by lia] at iY;exact iY
   ·rcases ZG with h | h
    ·exact .inl h
    ·exact .inr (((kj w wk).2 B').mp h)
   ·intro i d e e1 e2;have hi:=iA e2;rw[ll] at hi;rw[jl (by lia)] at e1
    by_cases ci:i+1<ws.length
    ·rw[jl ci] at e2;exact wd i d e e1 e2
    ·have ei:i=ws.length-1:=by lia
     subst ei;rw[wl] at e1;cases e1;rw[show ws.length-1+1=ws.length by lia,k8 (aH _)] at e2;simp at e2;subst e2;exact (dq _).mp PV
  ·have cc:c=B':=by
    have:=cc;simp at this;exact this
   subst cc;refine⟨_,rfl,k q ws _ (q3.trans q4) (q3.free hq) xW (by lia) (fun _=>⟨?_,w0,wl,wd⟩) fun n=>absurd i6 n⟩;refine d9 fun n=>?_
   have e1:ws.length=1:=by lia
   rw[e1] at wl wr;have:=wr.zero;subst this;obtain⟨j,j1,h⟩:=i6;exact nr _ xY j j1 h
inductive xZ (vs:List V) (H:Hp) (Q:VK):Prop
 | mk (r:ah) (t:aQ) (us:List Str) (_:vs = [.ref r]) (_:H r=some (.tup (cH t))) (_:nB us t) (_:∀H',ak H H'->Q (.int (dR t)) H')
def ZI:Sp:=fun vs H Q _=>xZ vs H Q
theorem PX (T:Tx K mg w zj zm zg zp):eX P w K mg base "gap_of" ["tie"] 1 ZI:=by
 refine T.XD.has Yi (fun vs H Q E h=>?_) (fun f bX A outer s H vs Q E hr h=>?_)
 ·obtain⟨r,t,us,rfl,_⟩:=h;rfl
 ·obtain⟨r,t,us,rfl,hr,tok,k⟩:=h;refine⟨_,(zi (zz (QW (e7 jQ (aR (zo K rfl) (pv 0) zh) ig (dW _)) (aR (zo K rfl) (pv 0) zh) zh))),?_⟩;refine⟨_,rfl,r,_,_,_,rfl,rfl,bu.of hr,Dy t,rfl,_,rfl,?_⟩;refine bZ (fun c=>?_) (fun c=>?_)
  ·have c:t.k=Gi:=V.str.inj (aP c);exact⟨_,rfl,r,_,_,_,rfl,rfl,bu.of hr,tok.after c,k _ (ak.refl _)⟩
  ·have c:¬t.k=Gi:=fun z=>c (aO (bT V.str z))
   have:=k _ (ak.refl H);rw[tok.plain c] at this;exact this
inductive rH (vs:List V) (H:Hp) (Q:VK):Prop
 | mk (p pm pu pt pf:ah) (lo hi:Int) (us:List Str) (av:List ah) (ts:List aQ) (af:List ah) (fs:List c8) (_:vs = [.ref p]) (_:fT K H p pm pu pt pf lo hi us av ts af fs) (_:∀(pd:ah) (ob:Obj) (ad:Str->ah) (H':Hp),ak H H'->H pd=none->Fw H' pd ob (zn ts (aL us)) (gA ts (fs.zip af)) ad->Q (.ref pd) H')
def ZJ:Sp:=fun vs H Q _=>rH (K:=K) vs H Q
set_option maxHeartbeats 8000000 in
theorem PY (T:Tx K mg w zj zm zg zp):eX P w K mg base "finds_within" ["telling"] 4 (ZJ (K:=K)):=by
 refine T.XE.has cN (fun vs H Q E h=>?_) (fun f bX A outer s H vs Q E hr h=>?_)
 ·obtain⟨p,pm,pu,pt,pf,lo,hi,us,av,ts,af,fs,rfl,_⟩:=h;rfl
 ·obtain⟨p,pm,pu,pt,pf,lo,hi,us,av,ts,af,fs,rfl,hF,k⟩:=h;have hu:=i0 hr;refine⟨_,(zc (sset (i:=1) cN.nd (bw (xS T) (za (aR (zo K rfl) (pv 0) zh) (za (aR (zo K rfl) (pv 0) zh) zf))))
   (zc (sset (i:=2) cN.nd o4)
   (zc (gQ bH rfl (ir K rfl (bw (Pb T) (za (aR (zo K rfl) (pv 0) zh) (za (aR (zo K rfl) (pv 0) zh) zf)))) (fE (i:=3) cN.nd) (zi (lS hu (pv 2) (aR (gJ K rfl) (pv 3) zh) (fB zf) rfl)))
   (zc (gQ bH rfl (ir K rfl (aR (zo K rfl) (pv 0) zh)) (fE (i:=4) cN.nd) (zi (ko (pS K rfl PySem.F.plainAttrs_list PySem.F.slot_list_append PySem.F.type_list_append ql (zw hu (pv 2) (zw hu (pv 1) (aR (zo K rfl) (pv 4) zh) (fun _ _=>rfl)) (fun _ _=>rfl)) (za (pv 4) zf)))))
   (zi (yC (zz (pv 2)))))))),?_⟩
  have gM:=hF.eU.ends;have hfl:=hF.sX;have Ez:=hF.fl;have ZK:=hF.fu;have PZ:=hF.f;have AJ:=hF.ft;obtain⟨hp,pZ,lI,tp,nd,hl,tl,_⟩:=hF.eU;have hlen:av.length=ts.length:=by have:=tp.len;rw[ay] at this;exact this
  refine⟨_,rfl,p,_,_,_,rfl,rfl,hp,rfl,_,rfl,p,_,_,_,rfl,rfl,hp,rfl,pu,pt,us,av,ts,rfl,pZ,lI,tp,nd,by lia,gM,fun pn H1 Ay hn s1=>?_⟩
  try dsimp only [zx]
  refine fun pd fJ=>?_
  have s2:=ak.new (o:=.dK []) fJ;have q2:=s1.trans s2;refine⟨_,rfl,p,_,_,_,rfl,rfl,q2.tup hp,rfl,_,rfl,p,_,_,_,rfl,rfl,q2.tup hp,rfl,pu,pt,us,av,ts,rfl,q2.seq pZ,q2.seq lI,tp.same q2,nd,hl,gM,fun po as H3 AA Y5 En J3 tM Eo s3=>?_⟩;have wK:=s3 _ _ (s2 _ _ hn);have fK:=s3 _ _ (zb (H:=H1) (a:=pd) (o:=.dK []));have q3:=q2.trans s3;have pD:H pd=none:=s1.free fJ;have GL:pn≠pd:=zv hn fJ;have lk:as.length=(zn ts (aL us)).length:=by have:=Paired.length Eo;unfold uo at this;rw[ay] at this;exact this
  have AB:(zn ts (aL us)).length<=63:=by
   have:=IU (us:=us) (ts:=ts) nd;unfold uo at this;rw[ay] at this;lia
  have hz:∀{i:Nat}{f:c8}{r:ah},fs[i]? = some f->af[i]? = some r->(fs.zip af)[i]? = some (f,r):=fun h1 h2=>jm.mpr ⟨h1,h2⟩
  generalize ek:zn ts (aL us)=keys at lk AB k;have knd:keys.Nodup:=ek▸uY nd;have J4:uo us ts=keys.map (pJ ts (aL us)):=by unfold uo;rw[ek]
  refine⟨po,rfl,⟨_,aJ.of tM⟩,ny (xs:=as.map V.ref) (fun i σ H'=>∃(v3:Option V) (ad:Str->ah),σ = [some (.ref p),some (.ref pn),some (.ref pd),v3,none]/\(∀b o,b≠pd->H3 b=some o->H' b=some o)/\
   H' pd=some (.dK (dV (keys.take i) fun k=>.ref (ad k)))/\(∀k∈keys.take i,H' (ad k)=some (.lst [])/\H3 (ad k)=none)/\(∀k∈keys.take i,∀k'∈keys.take i,ad k=ad k'->k=k'))
   ⟨none,fun _=>0,rfl,fun b o _ e=>e,fK,(fun k hk=>by simp at hk),fun k hk=>by simp at hk⟩ (fun i σ H' _ h=>by obtain⟨_,_,_,q,_⟩:=h;exact aJ.of (q _ _ (qf tM fK (by simp)) tM)) ?_ ?_⟩
  ·rintro i v σ H4 hx ⟨v3,ad,rfl,kp,jB,jk,inj⟩;obtain⟨r,g,rfl,hg,BC,hr⟩:=uq Eo hx;rw[J4,aM] at hg;cases eu:keys[i]? with
   | none=>rw[eu] at hg;cases hg
   | some u=>
    rw[eu] at hg;cases hg;have dz:u∈keys:=bN eu;have hi:=iA eu;have iT:u ∉ keys.take i:=by
     have:=um knd i hi;rw[show keys[i]=u from (bV.mp eu).2] at this;exact this
    obtain⟨gr,J6⟩:=MP (us:=us) (ts:=ts) nd (k:=u) (ek▸dz);rw[J6] at hr;have AD:=kp _ _ (qf hr fK (by simp)) hr
    try dsimp only [zx]
    refine⟨by decide,fun q0 bg=>?_⟩;have t0:=ak.new (o:=.lst []) bg;have gC:=t0 _ _ jB;have nq:pd≠q0:=zv jB bg;refine⟨_,rfl,_,rfl,r,_,_,_,rfl,rfl,aJ.of (t0 _ _ AD),sd,pd,_,rfl,ff.k (k:=Sum.inr u) gC (by rw[ji,bF];exact jx (by lia)),?_⟩;have fq:H3 q0=none:=by
     cases e:H3 q0 with
     | none=>rfl
     | some o=>rw[kp _ _ (aD nq) e] at bg;cases bg
    refine⟨_,fun z=>if z=u then q0 else ad z,rfl,fun b o n e=>by rw[zr n];exact t0 _ _ (kp b o n e),?_,?_,?_⟩
    ·rw[zb,wA iT,aS,eu]
     congr 2
     refine sS fun z hz=>?_
     dsimp only
     by_cases e:z=u
     ·rw[aq e,aq e]
     ·rw[ao e,ao e]
    ·intro k hk;rw[aS,eu,bM] at hk;dsimp only
     by_cases e:k=u
     ·rw[aq e];exact⟨by rw[zr (aD nq),zb],fq⟩
     ·rw[ao e];have gj:k∈keys.take i:=hk.elim id fun z=>absurd (by simpa using z) e
      obtain⟨h1,h2⟩:=jk k gj;refine⟨?_,h2⟩;rw[zr (fun z=>by rw[z,jB] at h1;cases h1)];exact t0 _ _ h1
    ·intro k hk k' gj e;rw[aS,eu,bM] at hk gj;dsimp only at e
     by_cases c1:k=u<;>by_cases c2:k'=u
     ·rw[c1,c2]
     ·rw[aq c1,ao c2] at e;have h2:=(jk k' (gj.elim id fun z=>absurd (by simpa using z) c2)).1;rw[←e,bg] at h2;cases h2
     ·rw[ao c1,aq c2] at e;have h2:=(jk k (hk.elim id fun z=>absurd (by simpa using z) c1)).1;rw[e,bg] at h2;cases h2
     ·rw[ao c1,ao c2] at e;exact inj k (hk.elim id fun z=>absurd (by simpa using z) c1) k' (gj.elim id fun z=>absurd (by simpa using z) c2) e
  ·rintro σ H4 ⟨v3,ad,rfl,kp,jB,jk,inj⟩;rw[ay,lk,bG] at jB jk inj;have xT:∀{H':Hp},(∀b o,b≠pd->H3 b=some o->H' b=some o)->ak H H':=fun C7 b o e=>C7 b o (zv e pD) (q3 _ _ e)
   have q4:=xT kp;refine⟨_,rfl,p,_,_,_,rfl,rfl,q4.tup hp,rfl,pf,rfl,⟨_,q4.seq PZ⟩,ny (xs:=af.map V.ref) (fun i σ H'=>∃(v4:Option V),σ = [some (.ref p),some (.ref pn),some (.ref pd),v3,v4]/\(∀b o,b≠pd->H3 b=some o->H' b=some o)/\
    H' pd=some (.dK (dV keys fun k=>.ref (ad k)))/\∀k∈keys,H' (ad k)=some (.lst ((gA ts ((fs.zip af).take i) k).map fun p=>V.ref p.2)))
    ⟨none,rfl,kp,jB,fun k hk=>by rw[List.take_zero];exact (jk k hk).1⟩ (fun i σ H' _ h=>by obtain⟨_,_,q,_⟩:=h;exact (xT q).seq PZ) ?_ ?_⟩
   ·rintro i x σ H5 hx ⟨v4,rfl,lO,gC,nS⟩;obtain⟨r,f,rfl,hf,BC,hr⟩:=Dv AJ hx;have q5:=xT lO;have wL:=q5 _ _ hr;have i6:=ZK f (bN hf);have hit:=iA hf;have GN:=hz hf BC;have g1:=cj.k (k:=Sum.inr f.u) (lO _ _ GL wK);rw[qw i6] at g1;have xU:aC ts f.u∈keys:=ek▸yw gM i6;have g3:=cj.k (k:=Sum.inr (aC ts f.u)) gC;rw[o8 xU] at g3;have pC:=nS _ xU;have lb:(gA ts ((fs.zip af).take i) (aC ts f.u)).length<=60:=by
     have h2:=Jc (ts:=ts) (z:=(fs.zip af).take i) (k:=aC ts f.u);rw[bF,g9] at h2;lia
    try dsimp only [zx]
    refine⟨_,rfl,_,rfl,_,rfl,r,_,_,_,rfl,rfl,bu.of wL,Na f,pn,_,rfl,g1,pd,_,rfl,g3,?_⟩;refine⟨.inl ⟨rfl,_,aJ.of pC⟩,_,rfl,ad (aC ts f.u),_,_,rfl,rfl,pC,by rw[ay];exact jx (by lia),?_⟩;refine⟨_,rfl,fun b o n e=>?_,?_,fun k hk=>?_⟩
    ·rw[zr (fun z=>by rw[z,(jk _ xU).2] at e;cases e)];exact lO b o n e
    ·rw[zr (fun z=>by rw[←z,gC] at pC;cases pC)];exact gC
    ·rw[U1 GN]
     by_cases e:aC ts f.u=k
     ·subst e;rw[aq rfl,zb,aT];rfl
     ·rw[ao e,g8,zr (fun z=>e (inj _ xU _ hk z.symm))];exact nS k hk
   ·rintro σ H5 ⟨v4,rfl,lO,gC,nS⟩;rw[ay] at nS;have ez:(fs.zip af).take af.length=fs.zip af:=ou (by rw[g9];lia);rw[ez] at nS;refine .inr ⟨pd,_,gC,fun ob=>⟨_,rfl,k pd ob ad _ ?_ pD ⟨zb,fun k hk=>?_⟩⟩⟩
    ·exact (xT lO).upd pD
    ·have b1:=nS k hk;rw[zr (fun z=>by rw[z,gC] at b1;cases b1)];exact b1
inductive rJ (vs:List V) (H:Hp) (Q:VK):Prop
 | mk (p pm pu pt pf:ah) (lo hi:Int) (us:List Str) (av:List ah) (ts:List aQ) (af:List ah) (fs:List c8) (_:vs = [.ref p]) (_:fT K H p pm pu pt pf lo hi us av ts af fs) (_:∀(pd:ah) (ob:Obj) (v:Str->IS) (ad:Str->ah) (H':Hp),ak H H'->H pd=none->Bd H' pd ob (zn ts (aL us)) v ad->(∀k∈zn ts (aL us),vd (yE lo (gA ts (fs.zip af) k)) (v k))->Q (.ref pd) H')
def ZL:Sp:=fun vs H Q _=>rJ (K:=K) vs H Q
set_option maxHeartbeats 8000000 in
theorem P0 (T:Tx K mg w zj zm zg zp):eX P w K mg base "floors" ["telling"] 5 (ZL (K:=K)):=by
 refine T.XF.has jc (fun vs H Q E h=>?_) (fun f bX A outer s H vs Q E hr h=>?_)
 ·obtain⟨p,pm,pu,pt,pf,lo,hi,us,av,ts,af,fs,rfl,_⟩:=h;rfl
 ·obtain⟨p,pm,pu,pt,pf,lo,hi,us,av,ts,af,fs,rfl,hF,k⟩:=h;have hu:=i0 hr;refine⟨_,(zc (sset (i:=1) jc.nd (bw (PY T) (za (pv 0) zf)))
   (zc (sset (i:=2) jc.nd o4)
   (zc (gQ bH rfl (sV (pv 1)) (fE (i:=3) jc.nd) (zi (lS hu (pv 2) (pv 3) (jf (UU (K:=K) rfl rfl hu) (by rfl) T.max PyProof.Rows.boot_max (za (gf zU (fB (za (iz (za (aR (zo K rfl) (aR (zo K rfl) (pv 0) zh) zh) (za ig zf))) zf)) (r8 (own:=["find"]) (cap:=[]) (ix:=[]) (kW:=zq (top 20)) rfl ⟨rfl,by decide +kernel,by decide +kernel,by decide +kernel,by decide +kernel⟩ rfl (ir K rfl (zw hu (pv 1) (pv 3) (fun _ _=>rfl))) (fun _ _ _ _=>mS (i:=0) (show List.Nodup (["find"]:List Str) by decide +kernel) rfl (Or.inl rfl)) (fun _ _ _ _=>qo) (fun _ _ _ _=>(iz (za (aR (zo K rfl) (pv 0) zh) (za (aR (zo K rfl) (pv 0) zh) zf)))))) zf)) rfl)))
   (zi (yC (zz (pv 2))))))),?_⟩
  have nd:=hF.eU.nd;have lk:=hF.eU.j9;have Ez:=hF.fl;have AJ:=hF.ft;refine⟨_,rfl,p,pm,pu,pt,pf,lo,hi,us,av,ts,af,fs,rfl,hF,fun pw ow aw H1 s1 ZM hW=>?_⟩;have knd:=uY (ts:=ts) nd;have EA:∀k,(gA ts (fs.zip af) k).length<=60:=fun k=>by
   have h2:=Jc (ts:=ts) (z:=fs.zip af) (k:=k);rw[g9] at h2;lia
  have EB:∀k,∀q∈gA ts (fs.zip af) k,H q.2=some (.tup (gK q.1)):=fun k q hq=>by
   have:=(cF.mp hq).1;obtain⟨i,hi⟩:=g7.mp this;obtain⟨h1,h2⟩:=jm.mp hi;exact wF AJ h2 (by rw[aM,h1];rfl)
  generalize zn ts (aL us)=keys at hW lk k knd;generalize gA ts (fs.zip af)=fw at hW k EA EB
  try dsimp only [zx]
  refine fun pd fJ=>?_
  have s2:=ak.new (o:=.dK []) fJ;refine⟨_,rfl,pw,ow,_,rfl,s2 _ _ hW.d,Al (fun i σ H'=>∃(v3:Option V) (v:Str->IS) (ad:Str->ah),σ = [some (.ref p),some (.ref pw),some (.ref pd),v3]/\ak H1 H'/\H' pd=some (.dK (dV (keys.take i) fun k=>.ref (ad k)))/\
    ∀k∈keys.take i,H' (ad k)=some (.tup [.int (v k).1,.str (v k).2])/\vd (yE lo (fw k)) (v k))
   ⟨none,fun _=>(0,""),fun _=>0,rfl,s2,zb,fun k hk=>by simp at hk⟩ (fun i σ H' _ h=>by obtain⟨_,_,_,_,q,_⟩:=h;exact q _ _ hW.d) ?_ ?_⟩
  ·rintro i kk vv σ H3 hx ⟨v3,v,ad,rfl,q3,fK,nD⟩;obtain⟨u,dz,rfl,_⟩:=Ai hx;have dJ:u∈keys:=bN dz;have F3:=hF.same (s1.trans q3);have W3:=hW.same q3
   try dsimp only [zx]
   refine⟨_,rfl,p,_,_,_,rfl,rfl,F3.eU.p,rfl,pm,_,_,_,rfl,rfl,F3.m,rfl,(by show 2<=sizeLine;decide),fun b0 rD=>?_⟩;have t1:=ak.new (o:=.tup [.int lo,.str ""]) rD;refine⟨by show 1<=sizeLine;decide,fun l0 uA=>?_⟩;have t2:=ak.new (o:=.lst [.ref b0]) uA;have q5:=q3.trans (t1.trans t2);have nS:=t2 _ _ (zb (H:=H3) (a:=b0) (o:=.tup [.int lo,.str ""]));have EC:upd (upd H3 b0 (.tup [.int lo,.str ""])) l0 (.lst [.ref b0]) l0=some (.lst [.ref b0]):=zb;have ED:=t1.trans t2;generalize upd (upd H3 b0 (.tup [.int lo,.str ""])) l0 (.lst [.ref b0])=H5 at q5 nS EC t2 ED;have W5:=hW.same q5;have lL:=EA u;have tL:=EB u;have AK:=W5.l u dJ;generalize eL:fw u=L at lL tL AK;refine⟨_,rfl,_,rfl,pw,_,rfl,nO W5.d dJ,aw u,rfl,⟨_,aJ.of AK⟩,fun D hD=>?_⟩;refine uh (wo (K:=K) (a:=aw u) (xs:=L.map fun p=>V.ref p.2)) (fun i' aK ys H'=>∃(w0:Option V) (bs:List ah),aK = [w0]/\ys=bs.map V.ref/\Paired (fun a (p:IS)=>H' a=some (.tup [.int p.1,.str p.2])) bs ((L.take i').map fun p=>(p.1.lo,p.1.n))/\ak H5 H'/\H' D=some (.lst ys))
    ⟨none,[],rfl,rfl,.nil,ak.new hD,zb⟩ (fun i' aK ys H' h=>?_) (by rw[ay];exact pH (by lia)) ?_ ?_
   ·obtain⟨_,bs,_,rfl,pb,q,hd⟩:=h;refine⟨aJ.of (q _ _ AK),hd,?_⟩;have:=Paired.length pb;rw[ay,bF] at this;rw[ay];lia
   ·rintro i' v' aK ys H' hx ⟨w0,bs,rfl,rfl,pb,q,hd⟩;have gI:=iA hx;rw[aM] at hx;cases ef:L[i']? with
    | none=>rw[ef] at hx;cases hx
    | some f=>
     rw[ef] at hx;cases hx;have hf:=q _ _ (q5 _ _ (s1 _ _ (tL f (bN ef))))
     try dsimp only [zx]
     unfold lH;dsimp only;rw[aq rfl];refine⟨_,rfl,f.2,_,_,_,rfl,rfl,bu.of hf,Jb f.1,_,rfl,f.2,_,_,_,rfl,rfl,bu.of hf,Ja f.1,(by show 2<=sizeLine;decide),fun b1 pC=>?_⟩;have w1:=ak.new (o:=.tup [.int f.1.lo,.str f.1.n]) pC;have m9:=w1 _ _ hd;refine⟨m9,pI gI ⟨_,bs++[b1],rfl,by rw[aT];rfl,?_,(q.trans w1).upd hD,zb⟩⟩;rw[aS,ef,aT];exact Paired.snoc (Paired.fV pb fun a z e=>qv m9 _ _ (w1 _ _ e)) (qv m9 _ _ zb)
   rintro aK ys H6 ⟨w0,bs,rfl,rfl,pb,t6,jy⟩;rw[ay,bG] at pb;have lb:=Paired.length pb;rw[ay] at lb;have Kv:=t6 _ _ EC;refine⟨l0,D,_,_,rfl,rfl,Kv,jy,by rw[ay];exact pH (show 1+_<=1000 by lia),fun l hl=>?_⟩;have t7:=ak.new (o:=.lst ([V.ref b0]++bs.map V.ref)) hl;have pr:Paired (fun a (p:IS)=>H6 a=some (.tup [.int p.1,.str p.2])) (b0::bs) (yE lo L):=.cons (t6 _ _ nS) pb;have EE:=Paired.fV pr fun a z e=>t7 _ _ e
   refine⟨l,b0::bs,yE lo L,rfl,aJ.of zb,Paired.fV EE fun a z e=>bu.of e,by unfold yE;simp,fun j a m ha hm AL=>?_⟩;have GD:=wF EE ha hm;have q7:=q5.trans (t6.trans t7);have EF:=ED.trans (t6.trans t7);have lC:=EF _ _ fK;have iT:u ∉ keys.take i:=by
    have hi:=iA dz;have:=um knd i hi;rw[show keys[i]=u from (bV.mp dz).2] at this;exact this
   refine⟨_,rfl,_,rfl,pd,_,rfl,ff.k (k:=Sum.inr u) lC (by rw[ji,bF];exact jx (by lia)),?_⟩;have yN:∀b vs,upd H6 l (.lst ([V.ref b0]++bs.map V.ref)) b=some (.tup vs)->upd (upd H6 l (.lst ([V.ref b0]++bs.map V.ref))) pd (.dK (putK (dV (keys.take i) fun k=>.ref (ad k)) (Sum.inr u) (.ref a))) b=some (.tup vs):=fun b vs e=>by
    rw[zr (qf e lC (by intro z;cases z))];exact e
   refine⟨_,fun z=>if z=u then m else v z,fun z=>if z=u then a else ad z,rfl,q7.upd fJ,?_,fun k hk=>?_⟩
   ·rw[zb,wA iT,aS,dz]
    congr 2
    refine sS fun z hz=>?_
    try dsimp only
    by_cases e:z=u
    ·rw[aq e,aq e]
    ·rw[ao e,ao e]
   ·rw[aS,dz,bM] at hk
    try dsimp only
    by_cases e:k=u
    ·rw[aq e,aq e];refine⟨yN _ _ GD,?_⟩;rw[e,eL];exact⟨bN hm,AL⟩
    ·rw[ao e,ao e];obtain⟨h1,h2⟩:=nD k (hk.elim id fun z=>absurd (by simpa using z) e);exact⟨yN _ _ (EF _ _ h1),h2⟩
  ·rintro σ H3 ⟨v3,v,ad,rfl,q3,fK,nD⟩;rw[ji,bG] at fK nD;refine .inr ⟨pd,_,fK,fun ob=>⟨_,rfl,k pd ob v ad _ ((s1.trans q3).upd (s1.free fJ)) (s1.free fJ) ⟨zb,fun k hk=>?_⟩ fun k hk=>(nD k hk).2⟩⟩;have b1:=(nD k hk).1;rw[zr (fun z=>by rw[z,fK] at b1;cases b1)];exact b1
inductive vM (vs:List V) (H:Hp) (Q:VK):Prop
 | mk (p pm pu pt pf:ah) (lo hi:Int) (us:List Str) (av:List ah) (ts:List aQ) (af:List ah) (fs:List c8) (_:vs = [.ref p]) (_:fT K H p pm pu pt pf lo hi us av ts af fs) (_:∀(pd:ah) (ob:Obj) (v:Str->IS) (ad:Str->ah) (H':Hp),ak H H'->H pd=none->Bd H' pd ob (zn ts (aL us)) v ad->(∀k∈zn ts (aL us),vf (yF hi (gA ts (fs.zip af) k)) (v k))->Q (.ref pd) H')
def ZN:Sp:=fun vs H Q _=>vM (K:=K) vs H Q
set_option maxHeartbeats 8000000 in
theorem P1 (T:Tx K mg w zj zm zg zp):eX P w K mg base "ceilings" ["telling"] 5 (ZN (K:=K)):=by
 refine T.XG.has gk (fun vs H Q E h=>?_) (fun f bX A outer s H vs Q E hr h=>?_)
 ·obtain⟨p,pm,pu,pt,pf,lo,hi,us,av,ts,af,fs,rfl,_⟩:=h;rfl
 ·obtain⟨p,pm,pu,pt,pf,lo,hi,us,av,ts,af,fs,rfl,hF,k⟩:=h;have hu:=i0 hr;refine⟨_,(zc (sset (i:=1) gk.nd (bw (PY T) (za (pv 0) zf)))
   (zc (sset (i:=2) gk.nd o4)
   (zc (gQ bH rfl (sV (pv 1)) (fE (i:=3) gk.nd) (zi (lS hu (pv 2) (pv 3) (jf (UZ (K:=K) rfl rfl hu) (by rfl) T.min qM (za (gf zU (fB (za (iz (za (aR (zo K rfl) (aR (zo K rfl) (pv 0) zh) zh) (za ig zf))) zf)) (r8 (own:=["find"]) (cap:=[]) (ix:=[]) (kW:=zq (top 21)) rfl ⟨rfl,by decide +kernel,by decide +kernel,by decide +kernel,by decide +kernel⟩ rfl (ir K rfl (zw hu (pv 1) (pv 3) (fun _ _=>rfl))) (fun _ _ _ _=>mS (i:=0) (show List.Nodup (["find"]:List Str) by decide +kernel) rfl (Or.inl rfl)) (fun _ _ _ _=>qo) (fun _ _ _ _=>(iz (za (aR (zo K rfl) (pv 0) zh) (za (aR (zo K rfl) (pv 0) zh) zf)))))) zf)) rfl)))
   (zi (yC (zz (pv 2))))))),?_⟩
  have nd:=hF.eU.nd;have lk:=hF.eU.j9;have Ez:=hF.fl;have AJ:=hF.ft;refine⟨_,rfl,p,pm,pu,pt,pf,lo,hi,us,av,ts,af,fs,rfl,hF,fun pw ow aw H1 s1 ZM hW=>?_⟩;have knd:=uY (ts:=ts) nd;have EA:∀k,(gA ts (fs.zip af) k).length<=60:=fun k=>by
   have h2:=Jc (ts:=ts) (z:=fs.zip af) (k:=k);rw[g9] at h2;lia
  have EB:∀k,∀q∈gA ts (fs.zip af) k,H q.2=some (.tup (gK q.1)):=fun k q hq=>by
   have:=(cF.mp hq).1;obtain⟨i,hi⟩:=g7.mp this;obtain⟨h1,h2⟩:=jm.mp hi;exact wF AJ h2 (by rw[aM,h1];rfl)
  generalize zn ts (aL us)=keys at hW lk k knd;generalize gA ts (fs.zip af)=fw at hW k EA EB
  try dsimp only [zx]
  refine fun pd fJ=>?_
  have s2:=ak.new (o:=.dK []) fJ;refine⟨_,rfl,pw,ow,_,rfl,s2 _ _ hW.d,Al (fun i σ H'=>∃(v3:Option V) (v:Str->IS) (ad:Str->ah),σ = [some (.ref p),some (.ref pw),some (.ref pd),v3]/\ak H1 H'/\H' pd=some (.dK (dV (keys.take i) fun k=>.ref (ad k)))/\
    ∀k∈keys.take i,H' (ad k)=some (.tup [.int (v k).1,.str (v k).2])/\vf (yF hi (fw k)) (v k))
   ⟨none,fun _=>(0,""),fun _=>0,rfl,s2,zb,fun k hk=>by simp at hk⟩ (fun i σ H' _ h=>by obtain⟨_,_,_,_,q,_⟩:=h;exact q _ _ hW.d) ?_ ?_⟩
  ·rintro i kk vv σ H3 hx ⟨v3,v,ad,rfl,q3,fK,nD⟩;obtain⟨u,dz,rfl,_⟩:=Ai hx;have dJ:u∈keys:=bN dz;have F3:=hF.same (s1.trans q3);have W3:=hW.same q3
   try dsimp only [zx]
   refine⟨_,rfl,p,_,_,_,rfl,rfl,F3.eU.p,rfl,pm,_,_,_,rfl,rfl,F3.m,rfl,(by show 2<=sizeLine;decide),fun b0 rD=>?_⟩;have t1:=ak.new (o:=.tup [.int hi,.str ""]) rD;refine⟨by show 1<=sizeLine;decide,fun l0 uA=>?_⟩;have t2:=ak.new (o:=.lst [.ref b0]) uA;have q5:=q3.trans (t1.trans t2);have nS:=t2 _ _ (zb (H:=H3) (a:=b0) (o:=.tup [.int hi,.str ""]));have EC:upd (upd H3 b0 (.tup [.int hi,.str ""])) l0 (.lst [.ref b0]) l0=some (.lst [.ref b0]):=zb;have ED:=t1.trans t2;generalize upd (upd H3 b0 (.tup [.int hi,.str ""])) l0 (.lst [.ref b0])=H5 at q5 nS EC t2 ED;have W5:=hW.same q5;have lL:=EA u;have tL:=EB u;have AK:=W5.l u dJ;generalize eL:fw u=L at lL tL AK;refine⟨_,rfl,_,rfl,pw,_,rfl,nO W5.d dJ,aw u,rfl,⟨_,aJ.of AK⟩,fun D hD=>?_⟩;refine uh (wo (K:=K) (a:=aw u) (xs:=L.map fun p=>V.ref p.2)) (fun i' aK ys H'=>∃(w0:Option V) (bs:List ah),aK = [w0]/\ys=bs.map V.ref/\Paired (fun a (p:IS)=>H' a=some (.tup [.int p.1,.str p.2])) bs ((L.take i').map fun p=>(p.1.hi,p.1.n))/\ak H5 H'/\H' D=some (.lst ys))
    ⟨none,[],rfl,rfl,.nil,ak.new hD,zb⟩ (fun i' aK ys H' h=>?_) (by rw[ay];exact pH (by lia)) ?_ ?_
   ·obtain⟨_,bs,_,rfl,pb,q,hd⟩:=h;refine⟨aJ.of (q _ _ AK),hd,?_⟩;have:=Paired.length pb;rw[ay,bF] at this;rw[ay];lia
   ·rintro i' v' aK ys H' hx ⟨w0,bs,rfl,rfl,pb,q,hd⟩;have gI:=iA hx;rw[aM] at hx;cases ef:L[i']? with
    | none=>rw[ef] at hx;cases hx
    | some f=>
     rw[ef] at hx;cases hx;have hf:=q _ _ (q5 _ _ (s1 _ _ (tL f (bN ef))))
     try dsimp only [zx]
     unfold lH;dsimp only;rw[aq rfl];refine⟨_,rfl,f.2,_,_,_,rfl,rfl,bu.of hf,Nc f.1,_,rfl,f.2,_,_,_,rfl,rfl,bu.of hf,Ja f.1,(by show 2<=sizeLine;decide),fun b1 pC=>?_⟩;have w1:=ak.new (o:=.tup [.int f.1.hi,.str f.1.n]) pC;have m9:=w1 _ _ hd;refine⟨m9,pI gI ⟨_,bs++[b1],rfl,by rw[aT];rfl,?_,(q.trans w1).upd hD,zb⟩⟩;rw[aS,ef,aT];exact Paired.snoc (Paired.fV pb fun a z e=>qv m9 _ _ (w1 _ _ e)) (qv m9 _ _ zb)
   rintro aK ys H6 ⟨w0,bs,rfl,rfl,pb,t6,jy⟩;rw[ay,bG] at pb;have lb:=Paired.length pb;rw[ay] at lb;have Kv:=t6 _ _ EC;refine⟨l0,D,_,_,rfl,rfl,Kv,jy,by rw[ay];exact pH (show 1+_<=1000 by lia),fun l hl=>?_⟩;have t7:=ak.new (o:=.lst ([V.ref b0]++bs.map V.ref)) hl;have pr:Paired (fun a (p:IS)=>H6 a=some (.tup [.int p.1,.str p.2])) (b0::bs) (yF hi L):=.cons (t6 _ _ nS) pb;have EE:=Paired.fV pr fun a z e=>t7 _ _ e
   refine⟨l,b0::bs,yF hi L,rfl,aJ.of zb,Paired.fV EE fun a z e=>bu.of e,by unfold yF;simp,fun j a m ha hm AL=>?_⟩;have GD:=wF EE ha hm;have q7:=q5.trans (t6.trans t7);have EF:=ED.trans (t6.trans t7);have lC:=EF _ _ fK;have iT:u ∉ keys.take i:=by
    have hi:=iA dz;have:=um knd i hi;rw[show keys[i]=u from (bV.mp dz).2] at this;exact this
   refine⟨_,rfl,_,rfl,pd,_,rfl,ff.k (k:=Sum.inr u) lC (by rw[ji,bF];exact jx (by lia)),?_⟩;have yN:∀b vs,upd H6 l (.lst ([V.ref b0]++bs.map V.ref)) b=some (.tup vs)->upd (upd H6 l (.lst ([V.ref b0]++bs.map V.ref))) pd (.dK (putK (dV (keys.take i) fun k=>.ref (ad k)) (Sum.inr u) (.ref a))) b=some (.tup vs):=fun b vs e=>by
    rw[zr (qf e lC (by intro z;cases z))];exact e
   refine⟨_,fun z=>if z=u then m else v z,fun z=>if z=u then a else ad z,rfl,q7.upd fJ,?_,fun k hk=>?_⟩
   ·rw[zb,wA iT,aS,dz]
    congr 2
    refine sS fun z hz=>?_
    try dsimp only
    by_cases e:z=u
    ·rw[aq e,aq e]
    ·rw[ao e,ao e]
   ·rw[aS,dz,bM] at hk
    try dsimp only
    by_cases e:k=u
    ·rw[aq e,aq e];refine⟨yN _ _ GD,?_⟩;rw[e,eL];exact⟨bN hm,AL⟩
    ·rw[ao e,ao e];obtain⟨h1,h2⟩:=nD k (hk.elim id fun z=>absurd (by simpa using z) e);exact⟨yN _ _ (EF _ _ h1),h2⟩
  ·rintro σ H3 ⟨v3,v,ad,rfl,q3,fK,nD⟩;rw[ji,bG] at fK nD;refine .inr ⟨pd,_,fK,fun ob=>⟨_,rfl,k pd ob v ad _ ((s1.trans q3).upd (s1.free fJ)) (s1.free fJ) ⟨zb,fun k hk=>?_⟩ fun k hk=>(nD k hk).2⟩⟩;have b1:=(nD k hk).1;rw[zr (fun z=>by rw[z,fK] at b1;cases b1)];exact b1
theorem ZO {H H':Hp}{a:ah}{xs:List V}(e:ak H H') (h:bu K H a xs):bu K H' a xs:=by
 rcases h with (h | ⟨o,h⟩) | h
 ·exact .inl (.inl (e _ _ h))
 ·exact .inl (.inr ⟨o,e _ _ h⟩)
 ·exact .inr h
inductive tS (C:ah) (vs:List V) (H:Hp) (Q:VK):Prop
 | mk (e p:ah) (xs:List V) (_:vs = [.ref e,.ref p]) (_:H e=some (gB e C none)) (_:aJ K H p xs) (_:xs.length<=1000) (_:∀(q d:ah),q≠e->d≠e->H q=none->H d=none->d≠q->Q .dG (upd (upd (upd H q (.lst xs)) d (.xd [("ties",.ref q)])) e (gB e C (some d))))
def ZP (C:ah):Sp:=fun vs H Q _=>tS (K:=K) C vs H Q
set_option maxHeartbeats 8000000 in
theorem ZQ (T:Tx K mg w zj zm zg zp):xy P w K mg base zm "__init__" ["self","ties"] 1 (ZP (K:=K) zm):=by
 refine T.Xj.has Yq (fun vs H Q E h=>?_) (fun f bX A outer s H vs Q E hr h=>?_)
 ·obtain⟨e,p,xs,rfl,_⟩:=h;rfl
 ·obtain⟨e,p,xs,rfl,he,hp,hl,k⟩:=h;refine⟨_,(zc (ko (Od (by rfl) T.JK T.OD (za (pv 0) (za ig zf))))
   (zi (Oc (pv 0) (xm (Di K rfl) (by rfl) T.list jR (za (pv 1) zf)) rfl))),?_⟩
  obtain⟨bm,xo,U⟩:=T.OE;refine⟨_,rfl,e,zm,none,bm,_,rfl,he,xo,U,(by show 1<=sizeLine;decide),?_⟩;refine⟨_,rfl,p,xs,rfl,.inl hp,fun q hq=>?_⟩;have ne:q≠e:=fun z=>by rw[z,he] at hq;cases hq
  refine⟨_,rfl,e,zm,rfl,by rw[zr ne.symm];exact he,T.Xi,T.OF,fun d hd=>?_⟩;have nd:d≠q:=fun z=>by rw[z,zb] at hd;cases hd
  rw[zr nd] at hd;exact k q d ne (fun z=>by rw[z,he] at hd;cases hd) hq hd nd
inductive tT (C:ah) (vs:List V) (H:Hp) (Q:VK):Prop
 | mk (e p p1:ah) (x0 x2:V) (xs:List V) (_:vs = [.ref e,.ref p]) (_:H e=some (gB e C none)) (_:bu K H p [x0,.ref p1,x2]) (_:aJ K H p1 xs) (_:xs.length<=1000) (_:∀(q r d:ah),q≠e->r≠e->d≠e->H q=none->H r=none->H d=none->r≠q->d≠q->d≠r->Q .dG (upd (upd (upd (upd H q (.lst xs)) r (.tup [x0,.ref q,x2])) d (.xd [("row",.ref r)])) e (gB e C (some d))))
def ZR (C:ah):Sp:=fun vs H Q _=>tT (K:=K) C vs H Q
set_option maxHeartbeats 8000000 in
theorem ZS (T:Tx K mg w zj zm zg zp):xy P w K mg base zg "__init__" ["self","row"] 1 (ZR (K:=K) zg):=by
 refine T.Xl.has Yr (fun vs H Q E h=>?_) (fun f bX A outer s H vs Q E hr h=>?_)
 ·obtain⟨e,p,p1,x0,x2,xs,rfl,_⟩:=h;rfl
 ·obtain⟨e,p,p1,x0,x2,xs,rfl,he,hp,kZ,hl,k⟩:=h;refine⟨_,(zc (ko (Od (by rfl) T.JK T.OD (za (pv 0) (za ig zf))))
   (zi (Oc (pv 0) (iz (za (aR (zo K rfl) (pv 1) zh) (za (xm (Di K rfl) (by rfl) T.list jR (za (aR (zo K rfl) (pv 1) zh) zf)) (za (aR (zo K rfl) (pv 1) zh) zf)))) rfl))),?_⟩
  obtain⟨bm,xo,U⟩:=T.OG;refine⟨_,rfl,e,zg,none,bm,_,rfl,he,xo,U,(by show 1<=sizeLine;decide),?_⟩
  try dsimp only
  refine⟨_,rfl,p,_,_,x0,rfl,rfl,hp,rfl,_,rfl,p,_,_,.ref p1,rfl,rfl,hp,rfl,p1,xs,rfl,.inl kZ,fun q hq=>?_⟩;have t1:=ak.new (o:=.lst xs) hq;refine⟨_,rfl,p,_,_,x2,rfl,rfl,ZO t1 hp,rfl,(by show 3<=sizeLine;decide),fun r hr=>?_⟩;have ne:q≠e:=fun z=>by rw[z,he] at hq;cases hq
  have nr:r≠q:=fun z=>by rw[z,zb] at hr;cases hr
  rw[zr nr] at hr;have P4:r≠e:=fun z=>by rw[z,he] at hr;cases hr
  refine⟨_,rfl,e,zg,rfl,by rw[zr P4.symm,zr ne.symm];exact he,T.Xk,T.OH,fun d hd=>?_⟩;have d1:d≠r:=fun z=>by rw[z,zb] at hd;cases hd
  rw[zr d1] at hd;have d2:d≠q:=fun z=>by rw[z,zb] at hd;cases hd
  rw[zr d2] at hd;exact k q r d ne P4 (fun z=>by rw[z,he] at hd;cases hd) hq hr hd nr d2 d1
inductive vN (vs:List V) (H:Hp) (Q:VK):Prop
 | mk (pb:ah) (ob:Obj) (keys:List Str) (v:Str->IS) (ab:Str->ah) (fz:Bool) (_:vs = [.ref pb]) (_:Bd H pb ob keys v ab) (_:keys.Nodup) (_:keys.length<=63) (_:∀(pd:ah) (o:Obj) (ad:Str->ah) (H':Hp),ak H H'->H pd=none->H' pd=some (VH fz o keys ad)->(∀k∈keys,cI H H' (ad k) ((v k).1,(v k).2,[]))->Q (.ref pd) H')
def ZT:Sp:=fun vs H Q _=>vN vs H Q
set_option maxHeartbeats 8000000 in
theorem Kw (T:Tx K mg w zj zm zg zp):eX P w K mg base "bare_chains" ["bounds"] 1 ZT:=by
 refine T.XH.has fU (fun vs H Q E h=>?_) (fun f bX A outer s H vs Q E hr h=>?_)
 ·obtain⟨pb,ob,keys,v,ab,fz,rfl,_⟩:=h;rfl
 ·obtain⟨pb,ob,keys,v,ab,fz,rfl,hB,knd,lk,k⟩:=h;have hu:=i0 hr;refine⟨_,(zc (sset (i:=1) fU.nd o4)
   (zc (gQ bH rfl (sV (pv 0)) (fE (i:=2) fU.nd) (zi (lS hu (pv 1) (pv 2) (gf (S8 K rfl) (zw hu (pv 0) (pv 2) (fun _ _=>rfl)) (iz (za (fB zf) zf))) rfl)))
   (zi (yC (zz (pv 1)))))),?_⟩
  try dsimp only [zx]
  refine fun pd fJ=>?_
  have s1:=ak.new (o:=.dK []) fJ;refine⟨_,rfl,pb,ob,_,rfl,s1 _ _ hB.d,Al (fun i σ H'=>∃(v2:Option V) (ad:Str->ah),σ = [some (.ref pb),some (.ref pd),v2]/\ak H H'/\H' pd=some (.dK (dV (keys.take i) fun k=>.ref (ad k)))/\∀k∈keys.take i,cI H H' (ad k) ((v k).1,(v k).2,[]))
   ⟨none,fun _=>0,rfl,s1,zb,fun k hk=>by simp at hk⟩ (fun i σ H' _ h=>by obtain⟨_,_,_,q,_⟩:=h;exact q _ _ hB.d) ?_ ?_⟩
  ·rintro i kk vv σ H3 hx ⟨v2,ad,rfl,q3,fK,nD⟩;obtain⟨u,dz,rfl,_⟩:=Ai hx;have dJ:u∈keys:=bN dz;have B3:=hB.same q3
   try dsimp only [zx]
   refine⟨_,rfl,_,rfl,pb,_,rfl,nO B3.d dJ,by show 0<=sizeLine;decide,fun l0 uA=>?_⟩;have t1:=ak.new (o:=.lst []) uA;refine⟨by show 1<=sizeLine;decide,fun b0 rD=>?_⟩;have t2:=ak.new (o:=.tup [.ref l0]) rD;refine⟨ab u,b0,_,_,rfl,rfl,bu.of (t2 _ _ (t1 _ _ (B3.e u dJ))),bu.of zb,by simp,by show 3<=sizeLine;decide,fun z=>by simp at z,fun _ p hp=>?_⟩;have t3:=ak.new (o:=.tup [.int (v u).1,.str (v u).2,.ref l0]) hp;have Ky:=t1.trans (t2.trans t3);have jy:=Ky _ _ fK;have iT:u ∉ keys.take i:=by
    have hi:=iA dz;have:=um knd i hi;rw[show keys[i]=u from (bV.mp dz).2] at this;exact this
   have hc:cI H (upd (upd (upd H3 l0 (.lst [])) b0 (.tup [.ref l0])) p (.tup [.int (v u).1,.str (v u).2,.ref l0])) p ((v u).1,(v u).2,[]):=⟨l0,zb,t3 _ _ (t2 _ _ zb),q3.free uA⟩;refine⟨_,rfl,_,rfl,pd,_,rfl,ff.k (k:=Sum.inr u) jy (by rw[ji,bF];exact jx (by lia)),?_⟩;refine⟨_,fun z=>if z=u then p else ad z,rfl,(q3.trans Ky).upd fJ,?_,fun k hk=>?_⟩
   ·rw[zb,wA iT,aS,dz]
    congr 2
    refine sS fun z hz=>?_
    try dsimp only
    by_cases e:z=u
    ·rw[aq e,aq e]
    ·rw[ao e,ao e]
   ·rw[aS,dz,bM] at hk
    try dsimp only
    by_cases e:k=u
    ·rw[aq e,e];exact hc.put jy
    ·rw[ao e];exact ((nD k (hk.elim id fun z=>absurd (by simpa using z) e)).same Ky).put jy
  ·rintro σ H3 ⟨v2,ad,rfl,q3,fK,nD⟩;rw[ji,bG] at fK nD;cases fz with
   | false=>exact .inl ⟨_,rfl,k pd ob ad _ q3 fJ fK nD⟩
   | true=>exact .inr ⟨pd,_,fK,fun AM=>⟨_,rfl,k pd AM ad _ (q3.upd fJ) fJ zb fun k hk=>(nD k hk).put fK⟩⟩
inductive tU (vs:List V) (H:Hp) (Q:VK):Prop
 | mk (a r:ah) (c:eE) (t:aQ) (us:List Str) (_:vs = [.ref a,.ref r]) (_:cI (fun _=>none) H a c) (_:H r=some (.tup (cH t))) (_:nB us t) (_:c.2.2.length<=900) (_:∀(q:ah) (H':Hp),ak H H'->H q=none->cI H H' q (c.1+dR t,c.2.1,c.2.2++[(t,r)])->Q (.ref q) H')
def ZU:Sp:=fun vs H Q _=>tU vs H Q
set_option maxHeartbeats 4000000 in
theorem P5 (T:Tx K mg w zj zm zg zp):eX P w K mg base "led_up" ["chain","tie"] 2 ZU:=by
 refine T.XI.has Yj (fun vs H Q E h=>?_) (fun f bX A outer s H vs Q E hr h=>?_)
 ·obtain⟨a,r,c,t,us,rfl,_⟩:=h;rfl
 ·obtain⟨a,r,c,t,us,rfl,⟨l,ha,hl,_⟩,uC,tok,lc,k⟩:=h;refine⟨_,(zi (zz (iz (za (gf pP (aR (zo K rfl) (pv 0) zh) (bw (PX T) (za (pv 1) zf))) (za (aR (zo K rfl) (pv 0) zh) (za (gf zU (aR (zo K rfl) (pv 0) zh) (fB (za (pv 1) zf))) zf)))))),?_⟩;refine⟨_,rfl,a,_,_,_,rfl,rfl,bu.of ha,rfl,_,rfl,r,t,us,rfl,uC,tok,fun H1 s1=>?_⟩;refine⟨_,_,rfl,rfl,_,rfl,a,_,_,_,rfl,rfl,bu.of (s1 _ _ ha),rfl,_,rfl,a,_,_,_,rfl,rfl,bu.of (s1 _ _ ha),rfl,_,rfl,by show 1<=sizeLine;decide,fun l1 pq=>?_⟩;have t1:=ak.new (o:=.lst [.ref r]) pq;refine⟨l,l1,_,_,rfl,rfl,t1 _ _ (s1 _ _ hl),zb,by rw[ay];exact pH (show _+1<=1000 by lia),fun l2 nA=>?_⟩;have t2:=ak.new (o:=.lst (c.2.2.map (fun p=>V.ref p.2)++[.ref r])) nA;refine⟨by show 3<=sizeLine;decide,fun b hb=>?_⟩;have t3:=ak.new (o:=.tup [.int (c.1+dR t),.str c.2.1,.ref l2]) hb;refine k b _ (s1.trans (t1.trans (t2.trans t3))) ((s1.trans (t1.trans t2)).free hb) ⟨l2,zb,?_,(s1.trans t1).free nA⟩;rw[t3 _ _ zb,aT];rfl
inductive qb (vs:List V) (H:Hp) (Q:VK):Prop
 | mk (a r:ah) (c:eE) (t:aQ) (us:List Str) (_:vs = [.ref a,.ref r]) (_:cI (fun _=>none) H a c) (_:H r=some (.tup (cH t))) (_:nB us t) (_:c.2.2.length<=900) (_:∀(q:ah) (H':Hp),ak H H'->H q=none->cI H H' q (c.1-dR t,c.2.1,(t,r)::c.2.2)->Q (.ref q) H')
def ZV:Sp:=fun vs H Q _=>qb vs H Q
set_option maxHeartbeats 4000000 in
theorem ZW (T:Tx K mg w zj zm zg zp):eX P w K mg base "led_down" ["chain","tie"] 2 ZV:=by
 refine T.XR.has Yk (fun vs H Q E h=>?_) (fun f bX A outer s H vs Q E hr h=>?_)
 ·obtain⟨a,r,c,t,us,rfl,_⟩:=h;rfl
 ·obtain⟨a,r,c,t,us,rfl,⟨l,ha,hl,_⟩,uC,tok,lc,k⟩:=h;refine⟨_,(zi (zz (iz (za (gf Fj (aR (zo K rfl) (pv 0) zh) (bw (PX T) (za (pv 1) zf))) (za (aR (zo K rfl) (pv 0) zh) (za (gf zU (fB (za (pv 1) zf)) (aR (zo K rfl) (pv 0) zh)) zf)))))),?_⟩;refine⟨_,rfl,a,_,_,_,rfl,rfl,bu.of ha,rfl,_,rfl,r,t,us,rfl,uC,tok,fun H1 s1=>?_⟩;refine⟨_,_,rfl,rfl,_,rfl,a,_,_,_,rfl,rfl,bu.of (s1 _ _ ha),rfl,_,rfl,by show 1<=sizeLine;decide,fun l1 pq=>?_⟩;have t1:=ak.new (o:=.lst [.ref r]) pq;refine⟨_,rfl,a,_,_,_,rfl,rfl,bu.of (t1 _ _ (s1 _ _ ha)),rfl,?_⟩;refine⟨l1,l,_,_,rfl,rfl,zb,t1 _ _ (s1 _ _ hl),by rw[ay];exact pH (show 1+_<=1000 by lia),fun l2 nA=>?_⟩;have t2:=ak.new (o:=.lst ([V.ref r]++c.2.2.map (fun p=>V.ref p.2))) nA;refine⟨by show 3<=sizeLine;decide,fun b hb=>?_⟩;have t3:=ak.new (o:=.tup [.int (c.1-dR t),.str c.2.1,.ref l2]) hb;refine k b _ (s1.trans (t1.trans (t2.trans t3))) ((s1.trans (t1.trans t2)).free hb) ⟨l2,zb,?_,(s1.trans t1).free nA⟩;rw[t3 _ _ zb];rfl
inductive rK (vs:List V) (H:Hp) (Q:VK):Prop
 | mk (pb pc:ah) (ob oc:Obj) (keys:List Str) (R:Rw) (wR:Str->ah) (bs:Str->List ah) (M:List Str) (v:Str->eE) (adc:Str->ah) (_:vs = [.ref pb,.ref pc]) (_:Bn H pb ob keys (pV R) wR bs) (_:H pc=some (.ie oc (.dK (dV M fun k=>.ref (adc k))))) (_:(∀k∈M,cI (fun _=>none) H (adc k) (v k))) (_:(∀k l b,(l,b)∈R k->H b.2=some (.tup (cH b.1))/\∃us,nB us b.1)) (_:keys.Nodup) (_:keys.length<=63) (_:(∀k,(R k).length<=900)) (_:(∀k∈M,(v k).2.2.length<=900)) (_:∀(pd:ah) (o:Obj) (M':List Str) (v':Str->eE) (ad:Str->ah) (H':Hp),ak H H'->H pd=none->H' pd=some (.ie o (.dK (dV M' fun k=>.ref (ad k))))->(∀k∈M',cI H H' (ad k) (v' k))->M'.Nodup->(∀k∈M',k∈keys)->(∀k∈keys,nQ R M v k (R k) (k∈M') (v' k))->Q (.ref pd) H')
def ZX:Sp:=fun vs H Q _=>rK vs H Q
set_option maxHeartbeats 16000000 in
theorem ZY (T:Tx K mg w zj zm zg zp):eX P w K mg base "one_tie_longer" ["beneath","chains"] 3 ZX:=by
 refine T.XJ.has bQ (fun vs H Q E h=>?_) (fun f bX A outer s H vs Q E hr h=>?_)
 ·obtain⟨pb,pc,ob,oc,keys,R,wR,bs,M,v,adc,rfl,_⟩:=h;rfl
 ·obtain⟨pb,pc,ob,oc,keys,R,wR,bs,M,v,adc,rfl,hB,hC,hM,hR,knd,lk,lR,lM,k⟩:=h;have hu:=i0 hr;refine⟨_,(zc (sset (i:=2) bQ.nd o4)
   (zc (gQ bH rfl (sV (pv 0)) (fE (i:=3) bQ.nd) (zi (gQ bH rfl (ir K rfl (zw hu (pv 0) (pv 3) (fun _ _=>rfl))) (ug K rfl rfl (lQ (fE (i:=4) bQ.nd) (lQ (fE (i:=5) bQ.nd) ud))) (zi (fQ (ym (FG hu (pv 4) (pv 1))) (zc (sset (i:=6) bQ.nd (bw (P5 T) (za (zw hu (pv 1) (pv 4) (fun _ _=>rfl)) (za (pv 5) zf))))
      (zi (fQ (PW.pt (Ca (ym (CL hu (pv 3) (pv 2))) (Fc (e7 A7 (aR (zo K rfl) (pv 6) zh) (aR (zo K rfl) (zw hu (pv 2) (pv 3) (fun _ _=>rfl)) zh) (dW _))))) (zi (lS hu (pv 2) (pv 3) (pv 6) rfl)) fW))) fW)))))
   (zi (yC (zz (pv 2)))))),?_⟩
  try dsimp only [zx]
  refine fun pd fJ=>?_
  have s1:=ak.new (o:=.dK []) fJ;refine⟨_,rfl,pb,ob,_,rfl,s1 _ _ hB.d,Al (fun i σ H'=>∃(v3 v4 v5 v6:Option V) (M':List Str) (v':Str->eE) (ad:Str->ah),σ = [some (.ref pb),some (.ref pc),some (.ref pd),v3,v4,v5,v6]/\ak H H'/\H' pd=some (.dK (dV M' fun k=>.ref (ad k)))/\(∀k∈M',cI H H' (ad k) (v' k))/\M'.Nodup/\(∀k∈M',k∈keys.take i)/\∀k∈keys.take i,nQ R M v k (R k) (k∈M') (v' k))
   ⟨none,none,none,none,[],fun _=>(0,"",[]),fun _=>0,rfl,s1,zb,fun k hk=>by simp at hk,List.nodup_nil,fun k hk=>by simp at hk,fun k hk=>by simp at hk⟩ (fun i σ H' _ h=>by obtain⟨_,_,_,_,_,_,_,_,q,_⟩:=h;exact q _ _ hB.d) ?_ ?_⟩
  ·rintro i kk vv σ H3 hx ⟨v3,v4,v5,v6,M',v',ad,rfl,q3,fK,nD,GV,BK,EG⟩;obtain⟨u,dz,rfl,_⟩:=Ai hx;have dJ:u∈keys:=bN dz;have B3:=hB.same q3;have EH:(bs u).length=(R u).length:=(Paired.length (hB.e u dJ)).trans Ju;have iT:u ∉ keys.take i:=by
    have hi:=iA dz;have:=um knd i hi;rw[show keys[i]=u from (bV.mp dz).2] at this;exact this
   have tk:keys.take (i+1)=keys.take i++[u]:=by rw[aS,dz];rfl
   try dsimp only [zx]
   refine⟨_,rfl,_,rfl,pb,_,rfl,B3.get dJ,wR u,rfl,⟨_,aJ.of (B3.l u dJ)⟩,ny (xs:=(bs u).map V.ref) (fun j σ H'=>∃(v4 v5 v6:Option V) (M':List Str) (v':Str->eE) (ad:Str->ah),σ = [some (.ref pb),some (.ref pc),some (.ref pd),some (.str u),v4,v5,v6]/\ak H H'/\H' pd=some (.dK (dV M' fun k=>.ref (ad k)))/\(∀k∈M',cI H H' (ad k) (v' k))/\M'.Nodup/\(∀k∈M',k∈keys.take i++[u])/\
     (∀k∈keys.take i,nQ R M v k (R k) (k∈M') (v' k))/\nQ R M v u ((R u).take j) (u∈M') (v' u))
    ⟨v4,v5,v6,M',v',ad,rfl,q3,fK,nD,GV,fun k hk=>ee _ (BK k hk),EG,nQ.nil fun z=>iT (BK u z)⟩ (fun j σ H' _ h=>by obtain⟨_,_,_,_,_,_,_,q,_⟩:=h;exact aJ.of ((hB.same q).l u dJ)) ?_ ?_⟩
   ·clear nD GV BK EG fK q3 B3;rintro j x σ H4 hx ⟨v4,v5,v6,M',v',ad,rfl,q4,jB,jk,wM,AN,BL,BN⟩;have B4:=hB.same q4;obtain⟨b,⟨l,r⟩,rfl,nY,_,hb⟩:=uq (B4.e u dJ) hx;obtain⟨t,ht⟩:=Jt nY;have rL:(l,(t,r))∈R u:=bN ht;obtain⟨EI,us,tok⟩:=hR u l (t,r) rL;have rt:(R u).take (j+1)=(R u).take j++[(l,(t,r))]:=by rw[aS,ht];rfl
    have tV:=q4 _ _ hC;refine⟨b,_,rfl,bu.of hb,rfl,_,_,rfl,_,_,rfl,rfl,?_⟩
    try dsimp only [zx]
    refine mX (decide (l∈M)) (fun Q' hQ=>?_) ?_
    ·by_cases c:l∈M
     ·refine⟨_,rfl,_,rfl,pc,_,rfl,nO tV c,?_⟩;rw[aO c] at hQ;exact⟨_,rfl,hQ⟩
     ·refine⟨_,rfl,_,rfl,pc,none,rfl,VI tV c,?_⟩;rw[aV c] at hQ;exact⟨_,rfl,hQ⟩
    refine bZ (fun c=>?_) (fun c=>?_)
    ·have c:=aP c;refine⟨_,rfl,_,rfl,pc,_,rfl,nO tV c,_,rfl,adc l,r,v l,t,us,rfl,(hM l c).same q4,q4 _ _ EI,tok,lM l c,fun q H5 s5 fq hq=>?_⟩;have q5:=q4.trans s5;have gC:=s5 _ _ jB;have Ew:cI H H5 q ((v l).1+dR t,(v l).2.1,(v l).2.2++[(t,r)]):=hq.old q4;have tW:∀k∈M',cI H H5 (ad k) (v' k):=fun k hk=>(jk k hk).same s5
     try dsimp only [zx]
     refine mX (decide (u ∉ M'\/(v' u).1<(v l).1+dR t)) (fun Q' hQ=>?_) ?_
     ·by_cases c2:u∈M'
      ·have g:=cj.k (k:=Sum.inr u) gC;rw[o8 c2] at g;obtain⟨lq,h1,_⟩:=Ew;obtain⟨lu,h2,_⟩:=tW u c2;refine⟨_,rfl,_,rfl,pd,_,rfl,g,_,rfl,fR ⟨_,rfl,q,_,_,_,rfl,rfl,bu.of h1,rfl,_,rfl,_,rfl,pd,_,rfl,g,ad u,_,_,_,rfl,rfl,bu.of h2,rfl,_,_,rfl,rfl,_,rfl,?_⟩⟩;rw[show decide (u ∉ M'\/(v' u).1<(v l).1+dR t)=decide ((v l).1+dR t > (v' u).1) from jw.mpr ⟨fun z=>z.elim (fun z=>absurd c2 z) id,fun z=>.inr z⟩] at hQ;exact hQ
      ·have g:=cj.k (k:=Sum.inr u) gC;rw[Ah c2] at g;refine⟨_,rfl,_,rfl,pd,_,rfl,g,_,rfl,gx ?_⟩;rw[aO (Or.inl c2)] at hQ;exact hQ
     refine bZ (fun c2=>?_) (fun c2=>?_)
     ·have c2:=aP c2;have lM':M'.length<=63:=by
       have:=sj (us:=keys) wM fun k hk=>by
        rcases bM.mp (AN k hk) with z | z
        ·exact ly z
        ·rw[show k=u by simpa using z];exact dJ
       lia
      refine⟨_,rfl,_,rfl,_,rfl,pd,_,rfl,ff.k (k:=Sum.inr u) gC (by rw[ji];exact jx (by lia)),?_⟩;have adq:∀k,k≠u->(if k=u then q else ad k)=ad k:=fun k n=>ao n
      have ek:∀(L:List Str),(dV L fun z=>if z=u then V.ref q else V.ref (ad z))=dV L fun k=>V.ref (if k=u then q else ad k):=fun L=>sS fun z _=>by split<;>rfl
      have rG:∀(kv:List (Key×V)),∀k,(k=u\/k∈M')->cI H (upd H5 pd (.dK kv)) (if k=u then q else ad k) (if k=u then ((v l).1+dR t,(v l).2.1,(v l).2.2++[(t,r)]) else v' k):=fun kv k hk=>by
       by_cases e:k=u
       ·rw[aq e,aq e];exact Ew.put gC
       ·rw[ao e,ao e];exact (tW k (hk.resolve_left e)).put gC
      have P6:∀(hs:Prop),hs->nQ R M v u ((R u).take (j+1)) hs (if u=u then ((v l).1+dR t,(v l).2.1,(v l).2.2++[(t,r)]) else v' u):=fun hs hh=>by
       rw[aq rfl,rt];exact BN.take c hh (fun z=>c2.elim (fun y=>absurd z y) id) rfl
      by_cases c3:u∈M'
      ·rw[Ge c3,ek];refine⟨_,_,_,M',fun k=>if k=u then ((v l).1+dR t,(v l).2.1,(v l).2.2++[(t,r)]) else v' k,fun k=>if k=u then q else ad k,rfl,q5.upd fJ,zb,fun k hk=>rG _ k (.inr hk),wM,AN,fun k hk=>?_,P6 _ c3⟩;exact (BL k hk).congr Iff.rfl (by dsimp only;rw[ao (fun z=>iT (z▸hk):¬k=u)])
      ·rw[wA c3,ek];refine⟨_,_,_,M'++[u],fun k=>if k=u then ((v l).1+dR t,(v l).2.1,(v l).2.2++[(t,r)]) else v' k,fun k=>if k=u then q else ad k,rfl,q5.upd fJ,zb,fun k hk=>rG _ k ?_,?_,fun k hk=>?_,fun k hk=>?_,P6 _ (by simp)⟩
       ·rcases qx hk with z | z
        ·exact .inr z
        ·exact .inl z
       ·rw[jV];refine⟨wM,by simp,fun a ha b hb e=>?_⟩;have hb:b=u:=by simpa using hb
        exact c3 (hb▸e▸ha)
       ·rcases qx hk with z | z
        ·exact AN k z
        ·rw[z];simp
       ·have ne:k≠u:=fun z=>iT (z▸hk)
        refine (BL k hk).congr ⟨fun z=>ee _ z,fun z=>?_⟩ (by dsimp only;rw[ao ne]);rcases qx z with z | z
        ·exact z
        ·exact absurd z ne
     ·have c2:¬(u ∉ M'\/(v' u).1<(v l).1+dR t):=fun z=>c2 (aO z)
      have c3:u∈M':=d9 fun z=>c2 (.inl z)
      refine⟨_,_,_,M',v',ad,rfl,q5,gC,tW,wM,AN,BL,?_⟩;rw[rt];exact BN.iy c3 (by have:¬((v' u).1<(v l).1+dR t):=fun z=>c2 (.inr z);show (v l).1+dR t<=_;lia)
    ·have c:l ∉ M:=fun z=>c (aO z)
     refine⟨_,_,_,M',v',ad,rfl,q4,jB,jk,wM,AN,BL,?_⟩;rw[rt];exact BN.skip c
   ·rintro σ H4 ⟨v4,v5,v6,M',v',ad,rfl,q4,jB,jk,wM,AN,BL,BN⟩;rw[ay,EH,bG] at BN;refine⟨_,_,_,_,M',v',ad,rfl,q4,jB,jk,wM,by rw[tk];exact AN,fun k hk=>?_⟩;rw[tk] at hk;rcases qx hk with z | z
    ·exact BL k z
    ·rw[z];exact BN
  ·rintro σ H3 ⟨v3,v4,v5,v6,M',v',ad,rfl,q3,fK,nD,GV,BK,EG⟩;rw[ji,bG] at BK EG;exact .inr ⟨pd,_,fK,fun AM=>⟨_,rfl,k pd AM M' v' ad _ (q3.upd fJ) fJ zb (fun k hk=>(nD k hk).put fK) GV BK EG⟩⟩
inductive rM (vs:List V) (H:Hp) (Q:VK):Prop
 | mk (p pm pu pt pf:ah) (lo hi:Int) (us:List Str) (av:List ah) (ts:List aQ) (af:List ah) (fs:List c8) (_:vs = [.ref p]) (_:fT K H p pm pu pt pf lo hi us av ts af fs) (_:fC (cG ts (ts.zip av)) (zn ts (aL us))) (_:(∀H',ak H H'->pW lo hi us av ts af fs->Q .dG H')) (_:∀(q:ah) (c:eE) (w:Str) (H':Hp),ak H H'->DY H' q c w->uw lo hi us av ts af fs c w->Q (.ref q) H')
def ZZ:Sp:=fun vs H Q _=>rM (K:=K) vs H Q
set_option maxHeartbeats 16000000 in
theorem Z0 (T:Tx K mg w zj zm zg zp):eX P w K mg base "impossible_row" ["telling"] 6 (ZZ (K:=K)):=by
 refine T.XM.has bR (fun vs H Q E h=>?_) (fun f bX A outer s H vs Q E hr h=>?_)
 ·obtain⟨p,pm,pu,pt,pf,lo,hi,us,av,ts,af,fs,rfl,_⟩:=h;rfl
 ·obtain⟨p,pm,pu,pt,pf,lo,hi,us,av,ts,af,fs,rfl,hF,nr,kN,kR⟩:=h;have hu:=i0 hr;refine⟨_,(zc (sset (i:=1) bR.nd (bw (uz T) (za (pv 0) zf)))
   (zc (sset (i:=2) bR.nd (bw (P1 T) (za (pv 0) zf)))
   (zc (sset (i:=3) bR.nd (bw (Kw T) (za (bw (P0 T) (za (pv 0) zf)) zf)))
   (zc (A2 bH (e7 (Xa (j5 hr)) (pv 3) o4 (dW _)) (zc (gQ bH rfl (sV (pv 3)) (fE (i:=4) bR.nd) (zi (fQ (e7 A7 (aR (zo K rfl) (zw hu (pv 3) (pv 4) (fun _ _=>rfl)) zh) (aR (zo K rfl) (zw hu (pv 2) (pv 4) (fun _ _=>rfl)) zh) (dW _)) (zi (zz (iz (za (aR (zo K rfl) (zw hu (pv 3) (pv 4) (fun _ _=>rfl)) zh) (za (aR (zo K rfl) (zw hu (pv 3) (pv 4) (fun _ _=>rfl)) zh) (za (aR (zo K rfl) (zw hu (pv 2) (pv 4) (fun _ _=>rfl)) zh) zf)))))) fW)))
    (zi (sset (i:=3) bR.nd (bw (ZY T) (za (pv 1) (za (pv 3) zf)))))))
   (zi (zz QN)))))),?_⟩
  have knd:=uY (ts:=ts) hF.eU.nd;have lk:=hF.eU.j9;have lf:=hF.sX;have cl:=yI (av:=av) hF.eU.ends;have lR:∀k,(cL ts (ts.zip av) k).length<=900:=fun k=>by
   have h1:=VJ (ts:=ts) (z:=ts.zip av) (k:=k);have h2:=hF.eU.tl;rw[g9] at h1;lia
  have hR:∀k l b,(l,b)∈cL ts (ts.zip av) k->H b.2=some (.tup (cH b.1))/\nB us b.1:=fun k l b h=>Js hF.eU h
  have uF:∀k m m',nj ts lo (fs.zip af) k m->nj ts lo (fs.zip af) k m'->m.1=m'.1:=fun k m m' h h'=>by rw[h.low lf,h'.low lf]
  have uG:∀k m m',nC ts hi (fs.zip af) k m->nC ts hi (fs.zip af) k m'->m.1=m'.1:=fun k m m' h h'=>by rw[h.high lf,h'.high lf]
  rw[uv] at nr;refine⟨_,rfl,p,pu,pt,_,_,us,av,ts,rfl,hF.eU,fun pb ob wR bs H1 s1 EJ hB=>?_⟩;rw[uv] at hB
  try dsimp only [zx]
  refine⟨_,rfl,p,pm,pu,pt,pf,lo,hi,us,av,ts,af,fs,rfl,hF.same s1,fun pe oe ve ae H2 s2 fpe hE GW=>?_⟩
  try dsimp only [zx]
  refine⟨_,rfl,p,pm,pu,pt,pf,lo,hi,us,av,ts,af,fs,rfl,hF.same (s1.trans s2),fun pl ol vl al H3 s3 P7 hL tX=>?_⟩;refine⟨pl,ol,_,vl,al,true,rfl,hL,knd,lk,fun pc oc adc H4 s4 EK hC AO=>?_⟩;have hC:H4 pc=some (.ie oc (.dK (dV (zn ts (aL us)) fun k=>.ref (adc k)))):=hC;have Z1:=s3.trans s4;have P8:=s2.trans Z1;have AQ:=s1.trans P8;have GW:∀k∈zn ts (aL us),nC ts hi (fs.zip af) k (ve k):=GW;have tX:∀k∈zn ts (aL us),nj ts lo (fs.zip af) k (vl k):=tX;unfold pW at kN;unfold uw at kR;generalize zn ts (aL us)=keys at *;generalize cL ts (ts.zip av)=R at *;generalize nj ts lo (fs.zip af)=F at *;generalize nC ts hi (fs.zip af)=G at *;have R0:nP R F keys 0 keys (fun k=>((vl k).1,(vl k).2,[])):=nP.zero knd (fun k hk=>⟨rfl,tX k hk⟩) uF
  try dsimp only [zx]
  refine⟨fun m σ H'=>∃(n:Nat) (pc:ah) (oc:Obj) (M:List Str) (v:Str->eE) (adc:Str->ah) (v4:Option V),σ = [some (.ref p),some (.ref pb),some (.ref pe),some (.ref pc),v4]/\ak H4 H'/\H' pc=some (.ie oc (.dK (dV M fun k=>.ref (adc k))))/\(∀k∈M,cI (fun _=>none) H' (adc k) (v k))/\nP R F keys n M v/\
    (∀k∈keys,∀c m,Up R F k c->G k m->c.2.2.length<n->c.1<=m.1)/\m=keys.length-n,
   ⟨_,0,pc,oc,keys,_,adc,none,rfl,ak.refl _,hC,fun k hk=>(AO k hk).any,R0,fun k hk c m _ _ z=>absurd z (Nat.not_lt_zero _),rfl⟩,?_⟩
  rintro m σ H5 ⟨n,pc,oc,M,v,adc,v4,rfl,q5,P9,Qa,Rn,sm,rfl⟩;refine⟨_,rfl,fun e he=>?_⟩;have t6:=ak.new (o:=.dK []) he;have q6:=q5.trans t6;have BO:=t6 _ _ P9;refine⟨pc,e,_,rfl,rfl,.inr ⟨oc,BO⟩,zb,_,rfl,?_⟩;have BI:∀k∈M,cI (fun _=>none) (upd H5 e (.dK [])) (adc k) (v k):=fun k hk=>(Qa k hk).same t6
  clear P9 Qa;generalize upd H5 e (.dK [])=H6 at q6 BO BI t6;refine bZ (fun c=>?_) (fun c=>?_)
  ·have ne:M≠[]:=fun z=>by rw[z] at c;simp[dV] at c
   obtain⟨k0,Kz⟩:=List.exists_mem_of_ne_nil _ ne;have hn:n<keys.length:=by
    have:=(Rn.is k0 Kz).1.short cl nr (Rn.sub k0 Kz);rw[(Rn.is k0 Kz).2] at this;exact this
   refine⟨fun aK H'=>∃m',m'<keys.length-n/\_,fun aK H' h=>h,?_⟩;refine⟨_,rfl,pc,oc,_,rfl,BO,Al (fun i σ H'=>∃(v4:Option V),σ = [some (.ref p),some (.ref pb),some (.ref pe),some (.ref pc),v4]/\ak H6 H'/\∀k∈M.take i,(v k).1<=(ve k).1)
    ⟨_,rfl,ak.refl _,fun k hk=>by simp at hk⟩ (fun i σ H' _ h=>by obtain⟨_,_,q,_⟩:=h;exact q _ _ BO) ?_ ?_⟩
   ·rintro i kk vv σ H7 hx ⟨v4,rfl,q7,GX⟩;obtain⟨u,dz,rfl,_⟩:=Ai hx;have AR:u∈M:=bN dz;have dJ:u∈keys:=Rn.sub u AR;have E7:=hE.same (s3.trans (s4.trans (q6.trans q7)));obtain⟨l,h1,h2,_⟩:=(BI u AR).same q7;have EL:=q7 _ _ BO
    try dsimp only [zx]
    refine⟨_,rfl,_,rfl,pc,_,rfl,nO EL AR,adc u,_,_,_,rfl,rfl,bu.of h1,rfl,_,rfl,_,rfl,pe,_,rfl,nO E7.d dJ,ae u,_,_,_,rfl,rfl,bu.of (E7.e u dJ),rfl,_,_,rfl,rfl,_,rfl,?_⟩;refine bZ (fun c2=>?_) (fun c2=>?_)
    ·have c2:(ve u).1<(v u).1:=aP c2;refine⟨_,rfl,_,rfl,pc,_,rfl,nO EL AR,adc u,_,_,_,rfl,rfl,bu.of h1,rfl,_,rfl,_,rfl,pc,_,rfl,nO EL AR,adc u,_,_,_,rfl,rfl,bu.of h1,rfl,_,rfl,_,rfl,pe,_,rfl,nO E7.d dJ,ae u,_,_,_,rfl,rfl,bu.of (E7.e u dJ),rfl,by show 3<=sizeLine;decide,fun q hq=>?_⟩;have t8:=ak.new (o:=.tup [.str (v u).2.1,.ref l,.str (ve u).2]) hq;refine kR q (v u) (ve u).2 _ (AQ.trans (q6.trans (q7.trans t8))) ⟨l,zb,t8 _ _ h2⟩ ⟨u,ve u,dJ,(Rn.is u AR).1,GW u dJ,rfl,c2,fun k' gj c' m' u' g' lt=>sm k' gj c' m' u' g' ?_⟩;rw[(Rn.is u AR).2] at lt;exact lt
    ·have c2:¬((v u).1 > (ve u).1):=fun z=>c2 (aO z)
     refine⟨_,rfl,q7,fun k hk=>?_⟩;rw[aS,dz] at hk;rcases qx hk with z | z
     ·exact GX k z
     ·rw[z];lia
   ·rintro σ H7 ⟨v4,rfl,q7,GX⟩;rw[ji,bG] at GX;have KA:=q6.trans q7;have B7:=hB.same (P8.trans KA);have EL:=q7 _ _ BO;refine⟨_,rfl,_,rfl,pb,pc,ob,oc,keys,R,wR,bs,M,v,adc,rfl,B7,EL,fun k hk=>(BI k hk).same q7,fun k l b h=>⟨KA _ _ (AQ _ _ (hR k l b h).1),us,(hR k l b h).2⟩,knd,lk,lR,fun k hk=>by
     have:=(Rn.is k hk).1.short cl nr (Rn.sub k hk);lia,fun pd o M' v' ad H8 s8 pD BJ Ey Z2 Z3 Z4=>?_⟩
    refine⟨keys.length-(n+1),by lia,n+1,pd,o,M',v',ad,_,rfl,KA.trans s8,BJ,fun k hk=>(Ey k hk).any,Rn.next cl Z2 Z3 Z4,fun k hk c m u g lt=>?_,rfl⟩
    by_cases e:c.2.2.length=n
    ·obtain⟨h1,h2⟩:=Rn.all k hk c u e;have h3:=GX k h1;rw[uG k m (ve k) g (GW k hk)];lia
    ·exact sm k hk c m u g (by lia)
  ·have e:M = []:=by
    cases M with
    | nil=>rfl
    | cons a b=>simp[dV] at c
   subst e;have st:=Rn.stop cl;exact kN _ (AQ.trans q6) fun k hk c m u g=>sm k hk c m u g (st k hk c u)
inductive ya (vs:List V) (H:Hp) (Q:VK):Prop
 | mk (p pm pu pt pf:ah) (lo hi:Int) (us:List Str) (av:List ah) (ts:List aQ) (af:List ah) (fs:List c8) (_:vs = [.ref p]) (_:fT K H p pm pu pt pf lo hi us av ts af fs) (_:fC (cG ts (ts.zip av)) (zn ts (aL us))) (_:∀(pd:ah) (o:Obj) (v:Str->eE) (ad:Str->ah) (H':Hp),ak H H'->H pd=none->H' pd=some (.ie o (.dK (dV (zn ts (aL us)) fun k=>.ref (ad k))))->(∀k∈zn ts (aL us),cI H H' (ad k) (v k))->(∀k∈zn ts (aL us),Up (cL ts (ts.zip av)) (nj ts lo (fs.zip af)) k (v k)/\jN (cL ts (ts.zip av)) (nj ts lo (fs.zip af)) k (v k).1)->Q (.ref pd) H')
def Z5:Sp:=fun vs H Q _=>ya (K:=K) vs H Q
set_option maxHeartbeats 16000000 in
theorem AS (T:Tx K mg w zj zm zg zp):eX P w K mg base "chains_up" ["telling"] 8 (Z5 (K:=K)):=by
 refine T.XO.has cJ (fun vs H Q E h=>?_) (fun f bX A outer s H vs Q E hr h=>?_)
 ·obtain⟨p,pm,pu,pt,pf,lo,hi,us,av,ts,af,fs,rfl,_⟩:=h;rfl
 ·obtain⟨p,pm,pu,pt,pf,lo,hi,us,av,ts,af,fs,rfl,hF,wN,k⟩:=h;have hu:=i0 hr;refine⟨_,(zc (sset (i:=1) cJ.nd (bw (uz T) (za (pv 0) zf)))
   (zc (sset (i:=2) cJ.nd (bw (Kw T) (za (bw (P0 T) (za (pv 0) zf)) zf)))
   (zc (gQ bH rfl (ir K rfl (bw (BG T) (za (pv 0) zf))) (fE (i:=3) cJ.nd) (zi (gQ bH rfl (ir K rfl (zw hu (pv 1) (pv 3) (fun _ _=>rfl))) (ug K rfl rfl (lQ (fE (i:=4) cJ.nd) (lQ (fE (i:=5) cJ.nd) ud))) (zc (sset (i:=6) cJ.nd (bw (P5 T) (za (zw hu (pv 2) (pv 4) (fun _ _=>rfl)) (za (pv 5) zf))))
     (zi (fQ (e7 A7 (aR (zo K rfl) (pv 6) zh) (aR (zo K rfl) (zw hu (pv 2) (pv 3) (fun _ _=>rfl)) zh) (dW _)) (zi (lS hu (pv 2) (pv 3) (pv 6) rfl)) fW))))))
   (zi (yC (zz (pv 2))))))),?_⟩
  have knd:=uY (ts:=ts) hF.eU.nd;have lk:=hF.eU.j9;have lf:=hF.sX;have cl:=yI (av:=av) hF.eU.ends;have hR:∀k l b,(l,b)∈cL ts (ts.zip av) k->H b.2=some (.tup (cH b.1))/\nB us b.1:=fun k l b h=>Js hF.eU h
  have uF:∀k m m',nj ts lo (fs.zip af) k m->nj ts lo (fs.zip af) k m'->m.1=m'.1:=fun k m m' h h'=>by rw[h.low lf,h'.low lf]
  have nr:=wN;rw[uv] at nr;refine⟨_,rfl,p,pu,pt,_,_,us,av,ts,rfl,hF.eU,fun pb ob wR bs H1 s1 EJ hB=>?_⟩;rw[uv] at hB
  try dsimp only [zx]
  refine⟨_,rfl,p,pm,pu,pt,pf,lo,hi,us,av,ts,af,fs,rfl,hF.same s1,fun pl ol vl al H2 s2 P7 hL tX=>?_⟩;refine⟨pl,ol,_,vl,al,false,rfl,hL,knd,lk,fun pc oc adc H3 s3 EK hC AO=>?_⟩;have hC:H3 pc=some (.dK (dV (zn ts (aL us)) fun k=>.ref (adc k))):=hC;have EM:=s2.trans s3;have EN:=s1.trans EM
  try dsimp only [zx]
  refine⟨_,rfl,p,pu,pt,_,_,us,av,ts,rfl,(hF.same EN).eU,wN,fun po os H4 s4 AA tM O KC=>?_⟩;have yc:=hB.same (EM.trans s4);have tV:=s4 _ _ hC;have AQ:=EN.trans s4;have rN:H pc=none:=(s1.trans s2).free EK;have En:po≠pc:=fun z=>by rw[z,hC] at AA;cases AA
  have AU:∀k∈zn ts (aL us),cI H H4 (adc k) ((vl k).1,(vl k).2,[]):=fun k hk=>((AO k hk).same s4).old (s1.trans s2)
  have tX:∀k∈zn ts (aL us),nj ts lo (fs.zip af) k (vl k):=tX;rw[uv] at O;clear wN hB hC AO;generalize zn ts (aL us)=keys at *;generalize cL ts (ts.zip av)=R at *;generalize nj ts lo (fs.zip af)=F at *;have U0:nh R F keys [] (fun k=>((vl k).1,(vl k).2,[])):=⟨fun k hk=>Up.bare (tX k hk),fun k hk m hm=>Int.le_of_eq (uF k m (vl k) hm (tX k hk)),fun k hk=>by simp at hk⟩;have hh:∀{H':Hp},(∀b o,b≠pc->H4 b=some o->H' b=some o)->ak H H':=fun kp b o e=>kp b o (zv e rN) (AQ _ _ e)
  refine⟨po,rfl,⟨_,aJ.of tM⟩,ny (xs:=os.map V.str) (fun i σ H'=>∃(v3 v4 v5 v6:Option V) (v:Str->eE) (ad:Str->ah),σ = [some (.ref p),some (.ref pb),some (.ref pc),v3,v4,v5,v6]/\(∀b o,b≠pc->H4 b=some o->H' b=some o)/\H' pc=some (.dK (dV keys fun k=>.ref (ad k)))/\(∀k∈keys,cI H H' (ad k) (v k))/\nh R F keys (os.take i) v)
   ⟨none,none,none,none,_,adc,rfl,fun b o _ e=>e,tV,AU,by simpa using U0⟩ (fun i σ H' _ h=>by obtain⟨_,_,_,_,_,_,_,q,_⟩:=h;exact aJ.of (q _ _ En tM)) ?_ ?_⟩
  ·rintro i x σ H5 hx ⟨v3,v4,v5,v6,v,ad,rfl,lO,gC,tW,U5⟩;rw[aM] at hx;cases eu:os[i]? with
   | none=>rw[eu] at hx;cases hx
   | some u=>
    rw[eu] at hx;cases hx;have dJ:u∈keys:=O.sub u (bN eu);obtain⟨fr,Qc,low⟩:=NN O eu;have B5:=yc.keep tV lO;have EH:(bs u).length=(R u).length:=(Paired.length (yc.e u dJ)).trans Ju;have tk:os.take (i+1)=os.take i++[u]:=by rw[aS,eu];rfl
    try dsimp only [zx]
    refine⟨_,rfl,_,rfl,pb,_,rfl,B5.get dJ,wR u,rfl,⟨_,aJ.of (B5.l u dJ)⟩,ny (xs:=(bs u).map V.ref) (fun j σ H'=>∃(v4 v5 v6:Option V) (v:Str->eE) (ad:Str->ah),σ = [some (.ref p),some (.ref pb),some (.ref pc),some (.str u),v4,v5,v6]/\(∀b o,b≠pc->H4 b=some o->H' b=some o)/\H' pc=some (.dK (dV keys fun k=>.ref (ad k)))/\(∀k∈keys,cI H H' (ad k) (v k))/\nh R F keys (os.take i) v/\∀l b,(l,b)∈(R u).take j->(v l).1+dR b.1<=(v u).1)
     ⟨v4,v5,v6,v,ad,rfl,lO,gC,tW,U5,fun l b h=>by simp at h⟩ (fun j σ H' _ h=>by obtain⟨_,_,_,_,_,_,q,_⟩:=h;exact aJ.of ((yc.keep tV q).l u dJ)) ?_ ?_⟩
    ·clear tW gC U5 B5 lO;rintro j x σ H6 hx ⟨v4,v5,v6,v,ad,rfl,vO,jy,rG,U6,vP⟩;have B6:=yc.keep tV vO;have q6:ak H H6:=hh vO;obtain⟨b,⟨l,r⟩,rfl,nY,_,hb⟩:=uq (B6.e u dJ) hx;obtain⟨t,ht⟩:=Jt nY;have rL:(l,(t,r))∈R u:=bN ht;obtain⟨EI,tok⟩:=hR u l (t,r) rL;have iV:l∈keys:=(cl _ _ _ rL).2;have nl:l≠u:=Qc l r (yH rL);have rt:(R u).take (j+1)=(R u).take j++[(l,(t,r))]:=by rw[aS,ht];rfl
     refine⟨b,_,rfl,bu.of hb,rfl,_,_,rfl,_,_,rfl,rfl,?_⟩
     try dsimp only [zx]
     have gl:=cj.k (k:=Sum.inr l) jy;rw[o8 iV] at gl;have lv:(v l).2.2.length<=900:=by
      have:=(U6.is l iV).short cl nr iV;lia
     refine⟨_,rfl,_,rfl,pc,_,rfl,gl,_,rfl,ad l,r,v l,t,us,rfl,(rG l iV).any,q6 _ _ EI,tok,lv,fun q H7 s7 fq hq=>?_⟩;have lC:=s7 _ _ jy;have EO:∀b o,b≠pc->H4 b=some o->H7 b=some o:=fun b o n e=>s7 _ _ (vO b o n e)
     have vH:∀k∈keys,cI H H7 (ad k) (v k):=fun k hk=>(rG k hk).same s7
     have p8:=hq.old q6;have gu:=cj.k (k:=Sum.inr u) lC;rw[o8 dJ] at gu;obtain⟨lq,h1,_⟩:=id p8;obtain⟨lu,h2,_⟩:=vH u dJ
     try dsimp only [zx]
     refine⟨_,rfl,q,_,_,_,rfl,rfl,bu.of h1,rfl,_,rfl,_,rfl,pc,_,rfl,gu,ad u,_,_,_,rfl,rfl,bu.of h2,rfl,_,_,rfl,rfl,_,rfl,?_⟩;refine bZ (fun c=>?_) (fun c=>?_)
     ·have c:(v u).1<(v l).1+dR t:=aP c;refine⟨_,rfl,_,rfl,_,rfl,pc,_,rfl,ff.k (k:=Sum.inr u) lC (by rw[ji];exact jx (by lia)),?_⟩;rw[Ge dJ,show (dV keys fun z=>if z=u then V.ref q else V.ref (ad z))=dV keys fun k=>V.ref (if k=u then q else ad k) from sS fun z _=>by split<;>rfl];refine⟨_,_,_,fun k=>if k=u then ((v l).1+dR t,(v l).2.1,(v l).2.2++[(t,r)]) else v k,fun k=>if k=u then q else ad k,rfl,fun b o n e=>by rw[zr n];exact EO b o n e,zb,fun k hk=>?_,U6.set fr (fun k hk l b hb=>low k hk l b.2 (yH hb)) ((U6.is l iV).up rL) (Int.le_of_lt c),fun l' b' h'=>?_⟩
      ·dsimp only
       by_cases e:k=u
       ·rw[aq e,aq e];exact p8.put lC
       ·rw[ao e,ao e];exact (vH k hk).put lC
      ·dsimp only;rw[aq rfl];show _<=(v l).1+dR t;rw[rt] at h';rcases qx h' with z | z
       ·rw[ao (Qc l' b'.2 (yH (ly z)))];have:=vP l' b' z;lia
       ·cases z;rw[ao nl];exact dY _
     ·have c:¬((v l).1+dR t > (v u).1):=fun z=>c (aO z)
      refine⟨_,_,_,v,ad,rfl,EO,lC,vH,U6,fun l' b' h'=>?_⟩;rw[rt] at h';rcases qx h' with z | z
      ·exact vP l' b' z
      ·cases z;show (v l).1+dR t<=_;lia
    ·rintro σ H6 ⟨v4,v5,v6,v,ad,rfl,vO,jy,rG,U6,vP⟩;rw[ay,EH,bG] at vP;exact⟨_,_,_,_,v,ad,rfl,vO,jy,rG,by rw[tk];exact U6.snoc vP⟩
  ·rintro σ H5 ⟨v3,v4,v5,v6,v,ad,rfl,lO,gC,tW,U5⟩;rw[ay,bG] at U5;have all:∀k∈keys,k∈os:=fun k hk=>KC.mem_iff.mpr hk
   exact .inr ⟨pc,_,gC,fun AM=>⟨_,rfl,k pc AM v ad _ ((hh lO).upd rN) rN zb (fun k hk=>(tW k hk).put gC) fun k hk=>⟨U5.is k hk,U5.lo cl all hk⟩⟩⟩
inductive yd (vs:List V) (H:Hp) (Q:VK):Prop
 | mk (p pm pu pt pf:ah) (lo hi:Int) (us:List Str) (av:List ah) (ts:List aQ) (af:List ah) (fs:List c8) (_:vs = [.ref p]) (_:fT K H p pm pu pt pf lo hi us av ts af fs) (_:fC (cG ts (ts.zip av)) (zn ts (aL us))) (_:∀(pd:ah) (o:Obj) (v:Str->eE) (ad:Str->ah) (H':Hp),ak H H'->H pd=none->H' pd=some (.ie o (.dK (dV (zn ts (aL us)) fun k=>.ref (ad k))))->(∀k∈zn ts (aL us),cI H H' (ad k) (v k))->(∀k∈zn ts (aL us),Dn (cL ts (ts.zip av)) (nC ts hi (fs.zip af)) k (v k)/\k7 (cL ts (ts.zip av)) (nC ts hi (fs.zip af)) k (v k).1)->Q (.ref pd) H')
def Z6:Sp:=fun vs H Q _=>yd (K:=K) vs H Q
set_option maxHeartbeats 16000000 in
theorem ER (T:Tx K mg w zj zm zg zp):eX P w K mg base "chains_down" ["telling"] 8 (Z6 (K:=K)):=by
 refine T.XQ.has bW (fun vs H Q E h=>?_) (fun f bX A outer s H vs Q E hr h=>?_)
 ·obtain⟨p,pm,pu,pt,pf,lo,hi,us,av,ts,af,fs,rfl,_⟩:=h;rfl
 ·obtain⟨p,pm,pu,pt,pf,lo,hi,us,av,ts,af,fs,rfl,hF,wN,k⟩:=h;have hu:=i0 hr;refine⟨_,(zc (sset (i:=1) bW.nd (bw (uz T) (za (pv 0) zf)))
   (zc (sset (i:=2) bW.nd (bw (Kw T) (za (bw (P1 T) (za (pv 0) zf)) zf)))
   (zc (gQ bH rfl (W7 K rfl (by rfl) T.reversed (bw (BG T) (za (pv 0) zf))) (fE (i:=3) bW.nd) (zi (gQ bH rfl (ir K rfl (zw hu (pv 1) (pv 3) (fun _ _=>rfl))) (ug K rfl rfl (lQ (fE (i:=4) bW.nd) (lQ (fE (i:=5) bW.nd) ud))) (zc (sset (i:=6) bW.nd (bw (ZW T) (za (zw hu (pv 2) (pv 3) (fun _ _=>rfl)) (za (pv 5) zf))))
     (zi (fQ (e7 A6 (aR (zo K rfl) (pv 6) zh) (aR (zo K rfl) (zw hu (pv 2) (pv 4) (fun _ _=>rfl)) zh) (dW _)) (zi (lS hu (pv 2) (pv 4) (pv 6) rfl)) fW))))))
   (zi (yC (zz (pv 2))))))),?_⟩
  have knd:=uY (ts:=ts) hF.eU.nd;have lk:=hF.eU.j9;have lf:=hF.sX;have cl:=yI (av:=av) hF.eU.ends;have hR:∀k l b,(l,b)∈cL ts (ts.zip av) k->H b.2=some (.tup (cH b.1))/\nB us b.1:=fun k l b h=>Js hF.eU h
  have uF:∀k m m',nC ts hi (fs.zip af) k m->nC ts hi (fs.zip af) k m'->m.1=m'.1:=fun k m m' h h'=>by rw[h.high lf,h'.high lf]
  have nr:=wN;rw[uv] at nr;refine⟨_,rfl,p,pu,pt,_,_,us,av,ts,rfl,hF.eU,fun pb ob wR bs H1 s1 EJ hB=>?_⟩;rw[uv] at hB
  try dsimp only [zx]
  refine⟨_,rfl,p,pm,pu,pt,pf,lo,hi,us,av,ts,af,fs,rfl,hF.same s1,fun pl ol vl al H2 s2 P7 hL tX=>?_⟩;refine⟨pl,ol,_,vl,al,false,rfl,hL,knd,lk,fun pc oc adc H3 s3 EK hC AO=>?_⟩;have hC:H3 pc=some (.dK (dV (zn ts (aL us)) fun k=>.ref (adc k))):=hC;have EM:=s2.trans s3;have EN:=s1.trans EM
  try dsimp only [zx]
  refine⟨_,rfl,p,pu,pt,_,_,us,av,ts,rfl,(hF.same EN).eU,wN,fun po os H4 s4 AA tM O KC=>?_⟩;have yc:=hB.same (EM.trans s4);have tV:=s4 _ _ hC;have AQ:=EN.trans s4;have rN:H pc=none:=(s1.trans s2).free EK;have En:po≠pc:=fun z=>by rw[z,hC] at AA;cases AA
  have AU:∀k∈zn ts (aL us),cI H H4 (adc k) ((vl k).1,(vl k).2,[]):=fun k hk=>((AO k hk).same s4).old (s1.trans s2)
  have tX:∀k∈zn ts (aL us),nC ts hi (fs.zip af) k (vl k):=tX;rw[uv] at O;clear wN hB hC AO;generalize zn ts (aL us)=keys at *;generalize cL ts (ts.zip av)=R at *;generalize nC ts hi (fs.zip af)=F at *;have U0:ni R F keys [] (fun k=>((vl k).1,(vl k).2,[])):=⟨fun k hk=>Dn.bare (tX k hk),fun k hk m hm=>Int.le_of_eq (uF k m (vl k) hm (tX k hk)).symm,fun k hk=>by simp at hk⟩;have hh:∀{H':Hp},(∀b o,b≠pc->H4 b=some o->H' b=some o)->ak H H':=fun kp b o e=>kp b o (zv e rN) (AQ _ _ e)
  refine⟨po,os.map V.str,rfl,aJ.of tM,W8 (xs:=os.map V.str) (fun i σ H'=>∃(v3 v4 v5 v6:Option V) (v:Str->eE) (ad:Str->ah),σ = [some (.ref p),some (.ref pb),some (.ref pc),v3,v4,v5,v6]/\(∀b o,b≠pc->H4 b=some o->H' b=some o)/\H' pc=some (.dK (dV keys fun k=>.ref (ad k)))/\(∀k∈keys,cI H H' (ad k) (v k))/\ni R F keys (os.reverse.take i) v)
   ⟨none,none,none,none,_,adc,rfl,fun b o _ e=>e,tV,AU,by simpa using U0⟩ (fun i σ H' _ h=>by obtain⟨_,_,_,_,_,_,_,q,_⟩:=h;exact aJ.of (q _ _ En tM)) ?_ ?_⟩
  ·rintro i x σ H5 hx ⟨v3,v4,v5,v6,v,ad,rfl,lO,gC,tW,U5⟩;rw[←List.map_reverse,aM] at hx;cases eu:os.reverse[i]? with
   | none=>rw[eu] at hx;cases hx
   | some u=>
    rw[eu] at hx;cases hx;have dJ:u∈keys:=O.sub u (List.mem_reverse.mp (bN eu));obtain⟨fr,low⟩:=VL O eu;have B5:=yc.keep tV lO;have EH:(bs u).length=(R u).length:=(Paired.length (yc.e u dJ)).trans Ju;have tk:os.reverse.take (i+1)=os.reverse.take i++[u]:=by rw[aS,eu];rfl
    try dsimp only [zx]
    refine⟨_,rfl,_,rfl,pb,_,rfl,B5.get dJ,wR u,rfl,⟨_,aJ.of (B5.l u dJ)⟩,ny (xs:=(bs u).map V.ref) (fun j σ H'=>∃(v4 v5 v6:Option V) (v:Str->eE) (ad:Str->ah),σ = [some (.ref p),some (.ref pb),some (.ref pc),some (.str u),v4,v5,v6]/\(∀b o,b≠pc->H4 b=some o->H' b=some o)/\H' pc=some (.dK (dV keys fun k=>.ref (ad k)))/\(∀k∈keys,cI H H' (ad k) (v k))/\ni R F keys (os.reverse.take i) v/\∀l b,(l,b)∈(R u).take j->(v l).1<=(v u).1-dR b.1)
     ⟨v4,v5,v6,v,ad,rfl,lO,gC,tW,U5,fun l b h=>by simp at h⟩ (fun j σ H' _ h=>by obtain⟨_,_,_,_,_,_,q,_⟩:=h;exact aJ.of ((yc.keep tV q).l u dJ)) ?_ ?_⟩
    ·clear tW gC U5 B5 lO;rintro j x σ H6 hx ⟨v4,v5,v6,v,ad,rfl,vO,jy,rG,U6,vP⟩;have B6:=yc.keep tV vO;have q6:ak H H6:=hh vO;obtain⟨b,⟨l,r⟩,rfl,nY,_,hb⟩:=uq (B6.e u dJ) hx;obtain⟨t,ht⟩:=Jt nY;have rL:(l,(t,r))∈R u:=bN ht;obtain⟨EI,tok⟩:=hR u l (t,r) rL;have iV:l∈keys:=(cl _ _ _ rL).2;obtain⟨Z7,nl⟩:=low l r (yH rL);have rt:(R u).take (j+1)=(R u).take j++[(l,(t,r))]:=by rw[aS,ht];rfl
     refine⟨b,_,rfl,bu.of hb,rfl,_,_,rfl,_,_,rfl,rfl,?_⟩
     try dsimp only [zx]
     have gu:=cj.k (k:=Sum.inr u) jy;rw[o8 dJ] at gu;have lv:(v u).2.2.length<=900:=by
      have:=(U6.is u dJ).short cl nr dJ;lia
     refine⟨_,rfl,_,rfl,pc,_,rfl,gu,_,rfl,ad u,r,v u,t,us,rfl,(rG u dJ).any,q6 _ _ EI,tok,lv,fun q H7 s7 fq hq=>?_⟩;have lC:=s7 _ _ jy;have EO:∀b o,b≠pc->H4 b=some o->H7 b=some o:=fun b o n e=>s7 _ _ (vO b o n e)
     have vH:∀k∈keys,cI H H7 (ad k) (v k):=fun k hk=>(rG k hk).same s7
     have p8:=hq.old q6;have gl:=cj.k (k:=Sum.inr l) lC;rw[o8 iV] at gl;obtain⟨lq,h1,_⟩:=id p8;obtain⟨lu,h2,_⟩:=vH l iV
     try dsimp only [zx]
     refine⟨_,rfl,q,_,_,_,rfl,rfl,bu.of h1,rfl,_,rfl,_,rfl,pc,_,rfl,gl,ad l,_,_,_,rfl,rfl,bu.of h2,rfl,_,_,rfl,rfl,_,rfl,?_⟩;refine bZ (fun c=>?_) (fun c=>?_)
     ·have c:(v u).1-dR t<(v l).1:=aP c;refine⟨_,rfl,_,rfl,_,rfl,pc,_,rfl,ff.k (k:=Sum.inr l) lC (by rw[ji];exact jx (by lia)),?_⟩;rw[Ge iV,show (dV keys fun z=>if z=l then V.ref q else V.ref (ad z))=dV keys fun k=>V.ref (if k=l then q else ad k) from sS fun z _=>by split<;>rfl];refine⟨_,_,_,fun k=>if k=l then ((v u).1-dR t,(v u).2.1,(t,r)::(v u).2.2) else v k,fun k=>if k=l then q else ad k,rfl,fun b o n e=>by rw[zr n];exact EO b o n e,zb,fun k hk=>?_,U6.set Z7 ((U6.is u dJ).dn rL) (Int.le_of_lt c),fun l' b' h'=>?_⟩
      ·dsimp only
       by_cases e:k=l
       ·rw[aq e,aq e];exact p8.put lC
       ·rw[ao e,ao e];exact (vH k hk).put lC
      ·dsimp only;rw[ao (aD nl)];rw[rt] at h';rcases qx h' with z | z
       ·have h8:=vP l' b' z
        by_cases e:l'=l
        ·rw[aq e];rw[e] at h8;show (v u).1-dR t<=_;lia
        ·rw[ao e];exact h8
       ·cases z;rw[aq rfl];exact dY _
     ·have c:¬((v u).1-dR t<(v l).1):=fun z=>c (aO z)
      refine⟨_,_,_,v,ad,rfl,EO,lC,vH,U6,fun l' b' h'=>?_⟩;rw[rt] at h';rcases qx h' with z | z
      ·exact vP l' b' z
      ·cases z;show (v l).1<=(v u).1-dR t;lia
    ·rintro σ H6 ⟨v4,v5,v6,v,ad,rfl,vO,jy,rG,U6,vP⟩;rw[ay,EH,bG] at vP;exact⟨_,_,_,_,v,ad,rfl,vO,jy,rG,by rw[tk];exact U6.snoc vP⟩
  ·rintro σ H5 ⟨v3,v4,v5,v6,v,ad,rfl,lO,gC,tW,U5⟩;rw[ay,←List.length_reverse (as:=os),bG] at U5;have all:∀k∈keys,k∈os.reverse:=fun k hk=>List.mem_reverse.mpr (KC.mem_iff.mpr hk)
   exact .inr ⟨pc,_,gC,fun AM=>⟨_,rfl,k pc AM v ad _ ((hh lO).upd rN) rN zb (fun k hk=>(tW k hk).put gC) fun k hk=>⟨U5.is k hk,U5.hi cl all hk⟩⟩⟩
theorem Qd {H H':Hp}{e:ah}(he:H e=none) (s:∀b o,b≠e->H b=some o->H' b=some o):ak H (del H' e):=fun b o h=>by
 have n:=zv h he;unfold del;rw[ao n];exact s b o n h
inductive vQ (C:ah) (vs:List V) (H:Hp) (Q:VK) (E:XK):Prop
 | mk (p pu pt:ah) (x y:V) (us:List Str) (av:List ah) (ts:List aQ) (_:vs = [.ref p]) (_:mZ K H p pu pt x y us av ts) (_:(fC (cG ts (ts.zip av)) (zn ts (aL us))->∀H',ak H H'->Q .dG H')) (_:∀(d q:ah) (rs:List ah) (H':Hp),ak H H'->H' d=some (.xd [("ties",.ref q)])->H' q=some (.lst (rs.map V.ref))->rs≠[]->rs.length<=64->lV (cG ts (ts.zip av)) (zn ts (aL us)) rs->E (.ref C) (some d) H')
def Z8 (C:ah):Sp:=fun vs H Q E=>vQ (K:=K) C vs H Q E
set_option maxHeartbeats 8000000 in
theorem Qe (T:Tx K mg w zj zm zg zp):d7 P w K mg base "refuse_round" ["telling"] 6 (Z8 (K:=K) zm):=by
 refine T.OQ.lK dD (fun vs H Q E h=>?_) (fun f bX A outer s H vs Q E hr h=>?_)
 ·obtain⟨p,pu,pt,x,y,us,av,ts,rfl,_⟩:=h;rfl
 ·obtain⟨p,pu,pt,x,y,us,av,ts,rfl,hT,kQ,kE⟩:=h;refine⟨_,(zc (sset (i:=1) dD.nd (bw (Ka T) (za (pv 0) zf)))
   (zi (fQ (e7 (zev K rfl (j5 hr)) (pv 1) (fB zf) (dW _)) (zi (Ot (ZQ T) T.OE (hr.mono (by decide)) aX (by rfl) T.JL (by decide) (za (pv 1) zf))) fW))),?_⟩
  refine⟨_,rfl,p,pu,pt,x,y,us,av,ts,rfl,hT,fun q rs H1 s1 fq hq lr R=>?_⟩
  try dsimp only [zx]
  refine⟨_,rfl,by decide,fun e he=>?_⟩;have s2:=ak.new (o:=.lst []) he;refine⟨q,e,_,rfl,rfl,dH.sO (aJ.of (s2 _ _ hq)) (aJ.of zb),_,rfl,?_⟩;refine bZ (fun c=>?_) (fun c=>?_)
  ·have c:rs≠[]:=fun z=>by rw[z] at c;simp at c
   have vz:=s2 _ _ hq;have q2:=s1.trans s2;generalize upd H1 e (.lst [])=H2 at vz q2;refine⟨_,rfl,fun o ho=>?_⟩;have t3:=ak.new (o:=gB o zm none) ho;refine⟨o,q,_,rfl,zb,aJ.of (t3 _ _ vz),by rw[ay];lia,fun q' d n1 n2 f1 f2 n3=>?_⟩;refine⟨rfl,some d,zb,?_⟩;rw[zr n1] at f1;rw[zr n2] at f2;refine kE d q' rs _ (q2.trans (Qd ho fun b o' n h=>?_)) ?_ ?_ c lr R
   ·rw[zr n,zr (zv h f2),zr (zv h f1),zr n];exact h
   ·unfold del;rw[ao n2,zr n2,zb]
   ·unfold del;rw[ao n1,zr n1,zr (aD n3),zb]
  ·have c:rs = []:=by simpa using c
   refine kQ (fun s hs j hj r=>?_) _ (s1.trans s2);exact (R.gh.mpr ⟨s,hs,j,hj,r⟩) c
inductive rO (C:ah) (vs:List V) (H:Hp) (Q:VK) (E:XK):Prop
 | mk (p pm pu pt pf:ah) (lo hi:Int) (us:List Str) (av:List ah) (ts:List aQ) (af:List ah) (fs:List c8) (_:vs = [.ref p]) (_:fT K H p pm pu pt pf lo hi us av ts af fs) (_:fC (cG ts (ts.zip av)) (zn ts (aL us))) (_:(∀H',ak H H'->pW lo hi us av ts af fs->Q .dG H')) (_:∀(d r:ah) (c:eE) (w:Str) (H':Hp),ak H H'->H' d=some (.xd [("row",.ref r)])->DY H' r c w->uw lo hi us av ts af fs c w->E (.ref C) (some d) H')
def Z9 (C:ah):Sp:=fun vs H Q E=>rO (K:=K) C vs H Q E
inductive qc (C1 C:ah) (vs:List V) (H:Hp) (Q:VK) (E:XK):Prop
 | mk (p pm pu pt pf:ah) (lo hi:Int) (us:List Str) (av:List ah) (ts:List aQ) (af:List ah) (fs:List c8) (_:vs = [.ref p]) (_:fT K H p pm pu pt pf lo hi us av ts af fs) (_:(fC (cG ts (ts.zip av)) (zn ts (aL us))->∀H',ak H H'->pW lo hi us av ts af fs->Q .dG H')) (_:(∀(d q:ah) (rs:List ah) (H':Hp),ak H H'->H' d=some (.xd [("ties",.ref q)])->H' q=some (.lst (rs.map V.ref))->rs≠[]->rs.length<=64->lV (cG ts (ts.zip av)) (zn ts (aL us)) rs->E (.ref C1) (some d) H')) (_:(fC (cG ts (ts.zip av)) (zn ts (aL us))->∀(d r:ah) (c:eE) (w:Str) (H':Hp),ak H H'->H' d=some (.xd [("row",.ref r)])->DY H' r c w->uw lo hi us av ts af fs c w->E (.ref C) (some d) H'))
def znq (C1 C:ah):Sp:=fun vs H Q E=>qc (K:=K) C1 C vs H Q E
set_option maxHeartbeats 8000000 in
theorem ES (T:Tx K mg w zj zm zg zp):d7 P w K mg base "refuse_undated" ["telling"] 7 (znq (K:=K) zm zg):=by
 refine T.XN.lK gm (fun vs H Q E h=>?_) (fun f bX A outer s H vs Q E hr h=>?_)
 ·obtain⟨p,pm,pu,pt,pf,lo,hi,us,av,ts,af,fs,rfl,_⟩:=h;rfl
 ·obtain⟨p,pm,pu,pt,pf,lo,hi,us,av,ts,af,fs,rfl,hF,kN,qz,kR⟩:=h;refine⟨_,(zc (ko (pK (Qe T) aX (hr.mono (by decide)) (by rfl) (za (pv 0) zf)))
   (zc (sset (i:=1) gm.nd (bw (Z0 T) (za (pv 0) zf)))
   (zi (fQ (ym (QS (pv 1))) (zi (Ot (ZS T) T.OG (hr.mono (by decide)) aX (by rfl) T.JN (by decide) (za (pv 1) zf))) fW)))),?_⟩
  refine⟨_,rfl,p,pu,pt,_,_,us,av,ts,rfl,hF.eU,fun nr H1 s1=>?_,qz⟩
  try dsimp only [zx]
  refine⟨_,rfl,p,pm,pu,pt,pf,lo,hi,us,av,ts,af,fs,rfl,hF.same s1,nr,fun H2 s2 no=>?_,fun q c w H2 s2 ra ri=>?_⟩
  ·try dsimp only [zx]
   refine⟨_,rfl,_,rfl,fR ?_⟩;exact kN nr _ (s1.trans s2) no
  ·try dsimp only [zx]
   refine⟨_,rfl,_,rfl,gx ?_⟩;obtain⟨l,h1,h2⟩:=ra;refine⟨_,rfl,fun e he=>?_⟩;have t3:=ak.new (o:=gB e zg none) he;have lc:c.2.2.length<=900:=by
    obtain⟨k,m,hk,u,_⟩:=ri;have ET:=nr;rw[uv] at ET;have:=u.short (yI (av:=av) hF.eU.ends) ET hk;have:=hF.eU.j9;lia
   refine⟨e,q,l,.str c.2.1,.str w,_,rfl,zb,bu.of (t3 _ _ h1),aJ.of (t3 _ _ h2),by rw[ay];lia,fun q' r d n1 n2 n3 fq fr fd n4 n5 n6=>?_⟩;refine⟨rfl,some d,zb,?_⟩;rw[zr n1] at fq;rw[zr n2] at fr;rw[zr n3] at fd;refine kR nr d r c w _ (s1.trans (s2.trans (Qd he fun b o n h=>?_))) ?_ ⟨q',?_,?_⟩ ri
   ·rw[zr n,zr (zv h fd),zr (zv h fr),zr (zv h fq),zr n];exact h
   ·unfold del;rw[ao n3,zr n3,zb]
   ·unfold del;rw[ao n2,zr n2,zr (aD n6),zb]
   ·unfold del;rw[ao n1,zr n1,zr (aD n5),zr (aD n4),zb]
theorem GY {us:List Str}{ts:List aQ}{av rs:List ah}(nr:fC (cG ts (ts.zip av)) (zn ts (aL us))) (hn:rs≠[]) (R:lV (cG ts (ts.zip av)) (zn ts (aL us)) rs):False:=by
 obtain⟨s,hs,j,hj,r⟩:=R.gh.mp hn;exact nr s hs j hj r
theorem zfd (T:Tx K mg w zj zm zg zp):eX P w K mg base "refuse_undated" ["telling"] 7 (fun vs H Q _=>Z9 (K:=K) zg vs H Q (fun _ _ _=>False)):=(ES T).good fun vs H Q E h=>by
 obtain⟨p,pm,pu,pt,pf,lo,hi,us,av,ts,af,fs,e,hF,nr,kN,kR⟩:=h;exact⟨p,pm,pu,pt,pf,lo,hi,us,av,ts,af,fs,e,hF,fun _=>kN,fun d q rs H' _ _ _ hn _ R=>GY nr hn R,fun _=>kR⟩
def zv9 (H:Hp) (q:ah) (keys:List Str) (f g:Str->Int):Prop:=∃as:List ah,H q=some (.lst (as.map V.ref))/\Paired (fun a k=>H a=some (.tup [.str k,.int (f k),.int (g k)])) as keys
inductive rP (C1 C:ah) (vs:List V) (H:Hp) (Q:VK) (E:XK):Prop
 | mk (p pm pu pt pf:ah) (lo hi:Int) (us:List Str) (av:List ah) (ts:List aQ) (af:List ah) (fs:List c8) (_:vs = [.ref p]) (_:fT K H p pm pu pt pf lo hi us av ts af fs) (_:(fC (cG ts (ts.zip av)) (zn ts (aL us))->∀(q:ah) (f g:Str->Int) (H':Hp),ak H H'->H q=none->zv9 H' q (zn ts (aL us)) f g->(∀k∈zn ts (aL us),jN (cL ts (ts.zip av)) (nj ts lo (fs.zip af)) k (f k))->(∀k∈zn ts (aL us),k7 (cL ts (ts.zip av)) (nC ts hi (fs.zip af)) k (g k))->pW lo hi us av ts af fs->Q (.ref q) H')) (_:(∀(d q:ah) (rs:List ah) (H':Hp),ak H H'->H' d=some (.xd [("ties",.ref q)])->H' q=some (.lst (rs.map V.ref))->rs≠[]->rs.length<=64->lV (cG ts (ts.zip av)) (zn ts (aL us)) rs->E (.ref C1) (some d) H')) (_:(fC (cG ts (ts.zip av)) (zn ts (aL us))->∀(d r:ah) (c:eE) (w:Str) (H':Hp),ak H H'->H' d=some (.xd [("row",.ref r)])->DY H' r c w->uw lo hi us av ts af fs c w->E (.ref C) (some d) H'))
def zrb (C1 C:ah):Sp:=fun vs H Q E=>rP (K:=K) C1 C vs H Q E
set_option maxHeartbeats 8000000 in
theorem Qg (T:Tx K mg w zj zm zg zp):d7 P w K mg base "spans" ["telling"] 9 (zrb (K:=K) zm zg):=by
 refine T.XU.lK nv (fun vs H Q E h=>?_) (fun f bX A outer s H vs Q E hr h=>?_)
 ·obtain⟨p,pm,pu,pt,pf,lo,hi,us,av,ts,af,fs,rfl,_⟩:=h;rfl
 ·obtain⟨p,pm,pu,pt,pf,lo,hi,us,av,ts,af,fs,rfl,hF,kN,qz,kR⟩:=h;have hu:=i0 hr;refine⟨_,(zc (ko (pK (ES T) aX (hr.mono (by decide)) (by rfl) (za (pv 0) zf)))
   (zc (sset (i:=1) nv.nd (bw (AS T) (za (pv 0) zf)))
   (zc (sset (i:=2) nv.nd (bw (ER T) (za (pv 0) zf)))
   (zi (zz (r8 (own:=["name"]) (cap:=["ups","downs"]) (ix:=[1,2]) (kW:=zq (top 41)) rfl ⟨rfl,by decide +kernel,by decide +kernel,by decide +kernel,by decide +kernel⟩ rfl (sV (pv 1)) (fun _ _ _ _=>mS (i:=0) (show List.Nodup (["name","ups","downs"]:List Str) by decide +kernel) rfl (Or.inl rfl)) (fun _ _ _ _=>qo) (fun _ _ _ _=>(iz (za (pv 0) (za (aR (zo K rfl) (zw hu (pv 1) (pv 0) (fun _ _=>rfl)) zh) (za (aR (zo K rfl) (zw hu (pv 2) (pv 0) (fun _ _=>rfl)) zh) zf))))))))))),?_⟩
  have lk:=hF.eU.j9;refine⟨_,rfl,p,pm,pu,pt,pf,lo,hi,us,av,ts,af,fs,rfl,hF,fun nr H1 s1 no=>?_,qz,kR⟩
  try dsimp only [zx]
  refine⟨_,rfl,p,pm,pu,pt,pf,lo,hi,us,av,ts,af,fs,rfl,hF.same s1,nr,fun pa oa va aa H2 s2 Qh EU xD ua=>?_⟩
  try dsimp only [zx]
  refine⟨_,rfl,p,pm,pu,pt,pf,lo,hi,us,av,ts,af,fs,rfl,hF.same (s1.trans s2),nr,fun pb ob vb ab H3 s3 EJ ye xE ub=>?_⟩;have q3:=s1.trans (s2.trans s3);have AV:=s3 _ _ EU;have KD:∀k∈zn ts (aL us),cI H1 H3 (aa k) (va k):=fun k hk=>(xD k hk).same s3
  have kN':=fun q H' s f h=>kN nr q (fun k=>(va k).1) (fun k=>(vb k).1) H' s f h (fun k hk=>(ua k hk).2) (fun k hk=>(ub k hk).2) no
  clear ua ub kN qz kR;generalize zn ts (aL us)=keys at *
  try dsimp only [zx]
  refine⟨_,rfl,pa,oa,_,rfl,AV,fun D hD=>?_⟩;refine uh (Gm (a:=pa) (ob:=oa) (kvs:=dV keys fun k=>.ref (aa k))) (fun i aK ys H'=>∃(w0:Option V) (as:List ah),aK = [w0,some (.ref pa),some (.ref pb)]/\ys=as.map V.ref/\Paired (fun a k=>H' a=some (.tup [.str k,.int (va k).1,.int (vb k).1])) as (keys.take i)/\ak H3 H'/\H' D=some (.lst ys))
   ⟨none,[],rfl,rfl,.nil,ak.new hD,zb⟩ (fun i aK ys H' h=>?_) (by rw[ay,ji];exact pH (by lia)) ?_ ?_
  ·obtain⟨_,as,_,rfl,KG,q,hd⟩:=h;refine⟨q _ _ AV,hd,?_⟩;have:=Paired.length KG;rw[bF] at this;rw[ay];lia
  ·rintro i x aK ys H4 hx ⟨w0,as,rfl,rfl,pr,q4,jB⟩;have gI:=iA hx;rw[DG,aM] at hx;cases eu:keys[i]? with
   | none=>rw[eu] at hx;cases hx
   | some u=>
    rw[eu] at hx;cases hx;have dz:u∈keys:=bN eu;obtain⟨la,h1,_⟩:=(KD u dz).same q4;obtain⟨lb,h2,_⟩:=(xE u dz).same q4
    try dsimp only [zx]
    unfold lH;dsimp only;rw[aq rfl];refine⟨_,rfl,_,rfl,_,rfl,pa,_,rfl,nO (q4 _ _ AV) dz,aa u,_,_,_,rfl,rfl,bu.of h1,rfl,_,rfl,_,rfl,pb,_,rfl,nO (q4 _ _ ye) dz,ab u,_,_,_,rfl,rfl,bu.of h2,rfl,(by show 3<=sizeLine;decide),fun b1 pC=>?_⟩;have w1:=ak.new (o:=.tup [.str u,.int (va u).1,.int (vb u).1]) pC;have m9:=w1 _ _ jB;refine⟨m9,pI gI ⟨_,as++[b1],rfl,by rw[aT];rfl,?_,(q4.trans w1).upd hD,zb⟩⟩;rw[aS,eu];exact Paired.snoc (Paired.fV pr fun a z e=>qv m9 _ _ (w1 _ _ e)) (qv m9 _ _ zb)
  rintro aK ys H4 ⟨w0,as,rfl,rfl,pr,q4,jB⟩;rw[ay,ji,bG] at pr;exact kN' D _ (q3.trans q4) (q3.free hD) ⟨as,jB,pr⟩
def BP (C:ah) (H:Hp) (E:XK) (us:List Str) (av:List ah) (ts:List aQ):Prop:=∀(d q:ah) (rs:List ah) (H':Hp),ak H H'->H' d=some (.xd [("ties",.ref q)])->H' q=some (.lst (rs.map V.ref))->rs≠[]->rs.length<=64->lV (cG ts (ts.zip av)) (zn ts (aL us)) rs->E (.ref C) (some d) H'
theorem BP.same {C:ah}{H H':Hp}{E:XK}{us:List Str}{av:List ah}{ts:List aQ}(h:BP C H E us av ts) (s:ak H H'):BP C H' E us av ts:=fun d q rs H2 s2=>h d q rs H2 (s.trans s2)
inductive yf (C:ah) (more:List V->Prop) (vs:List V) (H:Hp) (Q:VK) (E:XK):Prop
 | mk (p pu pt:ah) (x y:V) (us:List Str) (av:List ah) (ts:List aQ) (rest:List V) (_:vs = .ref p::rest) (_:more rest) (_:mZ K H p pu pt x y us av ts) (_:¬fC (cG ts (ts.zip av)) (zn ts (aL us))) (_:BP C H E us av ts)
def wU (C:ah) (more:List V->Prop):Sp:=fun vs H Q E=>yf (K:=K) C more vs H Q E
theorem zwa (T:Tx K mg w zj zm zg zp):d7 P w K mg base "order" ["telling"] 7 (wU (K:=K) zm fun r=>r = []):=by
 refine T.OR.lK gP (fun vs H Q E h=>?_) (fun f bX A outer s H vs Q E hr h=>?_)
 ·obtain⟨p,pu,pt,x,y,us,av,ts,rest,rfl,rfl,_⟩:=h;rfl
 ·obtain⟨p,pu,pt,x,y,us,av,ts,rest,rfl,rfl,hT,nn,kE⟩:=h;have hu:=i0 hr;refine⟨_,(zc (ko (pK (Qe T) aX (hr.mono (by decide)) (by rfl) (za (pv 0) zf)))
   (zc (sset (i:=1) gP.nd (bw (uz T) (za (pv 0) zf)))
   (zc (sset (i:=2) gP.nd o4)
   (zc (A2 aX.own (e7 A6 (jf LO (by rfl) T.len cP (za (pv 2) zf)) (jf M6 (by rfl) T.len cP (za (pv 1) zf)) (dW _)) (zi (lS hu (pv 2) (bw (Pk T) (za (pv 1) (za (pv 2) zf))) sH rfl)))
   (zi (zz (xm (Iv rfl) (by rfl) T.list jR (za (pv 2) zf)))))))),?_⟩
  exact⟨_,rfl,p,pu,pt,x,y,us,av,ts,rfl,hT,fun nr=>absurd nr nn,kE⟩
theorem KH (T:Tx K mg w zj zm zg zp):d7 P w K mg base "order" ["telling"] 7 (fun vs H Q E=>Pn (K:=K) vs H Q E\/wU (K:=K) zm (fun r=>r = []) vs H Q E):=(BG T).x.or (zwa T)
theorem zhz (T:Tx K mg w zj zm zg zp):d7 P w K mg base "all_beneath" ["telling"] 8 (wU (K:=K) zm fun r=>r = []):=by
 refine T.OT.lK aW (fun vs H Q E h=>?_) (fun f bX A outer s H vs Q E hr h=>?_)
 ·obtain⟨p,pu,pt,x,y,us,av,ts,rest,rfl,rfl,_⟩:=h;rfl
 ·obtain⟨p,pu,pt,x,y,us,av,ts,rest,rfl,rfl,hT,nn,kE⟩:=h;have hu:=i0 hr;refine⟨_,(zc (sset (i:=1) aW.nd (bw (uz T) (za (pv 0) zf)))
   (zc (sset (i:=2) aW.nd o4)
   (zc (gQ aX.own rfl (ir K rfl (pK (KH T) aX (hr.mono (by decide)) (by rfl) (za (pv 0) zf))) (fE (i:=3) aW.nd) (zc (lS hu (pv 2) (pv 3) o4 rfl)
    (zi (gQ aX.own rfl (ir K rfl (zw hu (pv 1) (pv 3) (fun _ _=>rfl))) (ug K rfl rfl (lQ (fE (i:=4) aW.nd) (lQ (fE (i:=5) aW.nd) ud))) (zc (lS hu (zw hu (pv 2) (pv 3) (fun _ _=>rfl)) (pv 4) sH rfl)
     (zi (ko (pS K rfl PySem.F.plainAttrs_dict PySem.F.slot_dict_update PySem.F.type_dict_update Nm (zw hu (pv 2) (pv 3) (fun _ _=>rfl)) (za (zw hu (pv 2) (pv 4) (fun _ _=>rfl)) zf)))))))))
   (zi (Nn (zz (pv 2))))))),?_⟩
  refine⟨_,rfl,p,pu,pt,x,y,us,av,ts,rfl,hT,fun pd ob ad bs H1 s1 pD hB=>?_⟩
  try dsimp only [zx]
  refine fun pe KI=>?_
  have s2:=ak.new (o:=.dK []) KI
  try dsimp only [zx]
  exact⟨_,rfl,.inr ⟨p,pu,pt,x,y,us,av,ts,[],rfl,rfl,hT.same (s1.trans s2),nn,kE.same (s1.trans s2)⟩⟩
theorem Qi (T:Tx K mg w zj zm zg zp):d7 P w K mg base "all_beneath" ["telling"] 8 (fun vs H Q E=>Pz (K:=K) vs H Q E\/wU (K:=K) zm (fun r=>r = []) vs H Q E):=(Kh T).x.or (zhz T)
theorem zwb (T:Tx K mg w zj zm zg zp):d7 P w K mg base "drawn" ["telling"] 9 (wU (K:=K) zm fun r=>r = []):=by
 refine T.OU.lK cD (fun vs H Q E h=>?_) (fun f bX A outer s H vs Q E hr h=>?_)
 ·obtain⟨p,pu,pt,x,y,us,av,ts,rest,rfl,rfl,_⟩:=h;rfl
 ·obtain⟨p,pu,pt,x,y,us,av,ts,rest,rfl,rfl,hT,nn,kE⟩:=h;have hu:=i0 hr;refine⟨_,(zc (sset (i:=1) cD.nd (bw (uz T) (za (pv 0) zf)))
   (zc (sset (i:=2) cD.nd (pK (Qi T) aX (hr.mono (by decide)) (by rfl) (za (pv 0) zf)))
   (zc (sset (i:=3) cD.nd LG)
   (zc (gQ aX.own rfl (sV (pv 1)) (fE (i:=4) cD.nd) (zi (gQ aX.own rfl (ir K rfl (zw hu (pv 1) (pv 4) (fun _ _=>rfl))) (ug K rfl rfl (lQ (fE (i:=5) cD.nd) (lQ (fE (i:=6) cD.nd) ud))) (zi (fQ (xh (wc (bw (PF T) (za (pv 2) (za (pv 4) (za (pv 5) zf)))))) (zi (lS hu (pv 3) (iz (za (pv 4) (za (pv 5) zf))) sH rfl)) fW)))))
   (zi (zz (jf (Np (K:=K) rfl rfl) (by rfl) T.sorted mh (za (pv 3) zf)))))))),?_⟩
  refine⟨_,rfl,p,pu,pt,x,y,us,av,ts,rfl,hT,fun pd ob ad bs H1 s1 pD hB=>?_⟩
  try dsimp only [zx]
  exact⟨_,rfl,.inr ⟨p,pu,pt,x,y,us,av,ts,[],rfl,rfl,hT.same s1,nn,kE.same s1⟩⟩
theorem Qj (T:Tx K mg w zj zm zg zp):d7 P w K mg base "drawn" ["telling"] 9 (fun vs H Q E=>PJ (K:=K) vs H Q E\/wU (K:=K) zm (fun r=>r = []) vs H Q E):=(Kq T).x.or (zwb T)
theorem zyk (T:Tx K mg w zj zm zg zp):d7 P w K mg base "walk" ["telling","upper","lower"] 10 (wU (K:=K) zm fun r=>∃a b:Str,r = [.str a,.str b]):=by
 refine T.OV.lK dF (fun vs H Q E h=>?_) (fun f bX A outer s H vs Q E hr h=>?_)
 ·obtain⟨p,pu,pt,x,y,us,av,ts,rest,rfl,⟨a,b,rfl⟩,_⟩:=h;rfl
 ·obtain⟨p,pu,pt,x,y,us,av,ts,rest,rfl,⟨a,b,rfl⟩,hT,nn,kE⟩:=h;have hu:=i0 hr;refine⟨_,(zc (sset (i:=3) dF.nd (bw (xS T) (za (aR (zo K rfl) (pv 0) zh) (za (aR (zo K rfl) (pv 0) zh) zf))))
   (zc (sset (i:=4) dF.nd (pK (Qi T) aX (hr.mono (by decide)) (by rfl) (za (pv 0) zf)))
   (zc (sset (i:=5) dF.nd (zw hu (pv 3) (pv 2) (fun _ _=>rfl)))
   (zc (fQ (ym (CL hu (pv 5) (zw hu (pv 4) (zw hu (pv 3) (pv 1) (fun _ _=>rfl)) (fun _ _=>rfl)))) (zi (zz (fB zf))) fW)
   (zc (sset (i:=6) dF.nd (pK (Qj T) aX (hr.mono (by decide)) (by rfl) (za (pv 0) zf)))
   (zc (sset (i:=7) dF.nd (fB (za (zw hu (pv 3) (pv 1) (fun _ _=>rfl)) zf)))
   (zc (A2 aX.own (e7 Fo (aR (gJ K rfl) (pv 7) (Ci Cm zh)) (pv 5) (dW _)) (zi (ko (pS K rfl PySem.F.plainAttrs_list PySem.F.slot_list_append PySem.F.type_list_append ql (pv 7) (za (bw (PN T) (za (pv 5) (za (aR (gJ K rfl) (pv 7) (Ci Cm zh)) (za (pv 6) (za (pv 4) zf))))) zf)))))
   (zi (zz (pv 7)))))))))),?_⟩
  refine⟨_,rfl,p,_,_,_,rfl,rfl,hT.p,rfl,_,rfl,p,_,_,_,rfl,rfl,hT.p,rfl,pu,pt,us,av,ts,rfl,hT.u,hT.t,hT.tt,hT.nd,by have:=hT.ul;lia,hT.ends,fun pn H1 Ay hn s1=>?_⟩
  try dsimp only [zx]
  exact⟨_,rfl,.inr ⟨p,pu,pt,x,y,us,av,ts,[],rfl,rfl,hT.same s1,nn,kE.same s1⟩⟩
theorem zyl (T:Tx K mg w zj zm zg zp):d7 P w K mg base "walk" ["telling","upper","lower"] 10 (fun vs H Q E=>PR (K:=K) vs H Q E\/wU (K:=K) zm (fun r=>∃a b:Str,r = [.str a,.str b]) vs H Q E):=(ZF T).x.or (zyk T)
theorem zs9 (T:Tx K mg w zj zm zg zp):d7 P w K mg base "levels" ["telling"] 8 (wU (K:=K) zm fun r=>r = []):=by
 refine T.OW.lK cz (fun vs H Q E h=>?_) (fun f bX A outer s H vs Q E hr h=>?_)
 ·obtain⟨p,pu,pt,x,y,us,av,ts,rest,rfl,rfl,_⟩:=h;rfl
 ·obtain⟨p,pu,pt,x,y,us,av,ts,rest,rfl,rfl,hT,nn,kE⟩:=h;have hu:=i0 hr;refine⟨_,(zc (sset (i:=1) cz.nd (bw (uz T) (za (pv 0) zf)))
   (zc (sset (i:=2) cz.nd o4)
   (zc (sset (i:=3) cz.nd (fB zf))
   (zc (gQ aX.own rfl (ir K rfl (pK (KH T) aX (hr.mono (by decide)) (by rfl) (za (pv 0) zf))) (fE (i:=4) cz.nd) (zc (sset (i:=5) cz.nd (M8 K rfl 0 rfl (by rfl) T.max (r8 (own:=["lower","tie"]) (cap:=["numbers"]) (ix:=[2]) (kW:=zq (top 39)) rfl ⟨rfl,by decide +kernel,by decide +kernel,by decide +kernel,by decide +kernel⟩ rfl (ir K rfl (zw hu (pv 1) (pv 4) (fun _ _=>rfl))) (fun _ _ _ _=>ug (n:=2) K rfl rfl (lQ (mS (i:=0) (show List.Nodup (["lower","tie","numbers"]:List Str) by decide +kernel) rfl (Or.inl rfl)) (lQ (mS (i:=1) (show List.Nodup (["lower","tie","numbers"]:List Str) by decide +kernel) rfl (Or.inl rfl)) ud))) (fun _ _ _ _=>qo) (fun _ _ _ _=>(gf pP (zw hu (pv 2) (pv 0) (fun _ _=>rfl)) zh)))))
    (zc (lS hu (pv 2) (pv 4) (pv 5) rfl)
    (zc (fQ (e7 jQ (pv 5) (jf (r9 K rfl) (by rfl) T.len cP (za (pv 3) zf)) (dW _)) (zi (ko (pS K rfl PySem.F.plainAttrs_list PySem.F.slot_list_append PySem.F.type_list_append ql (pv 3) (za (fB zf) zf)))) fW)
    (zi (ko (pS K rfl PySem.F.plainAttrs_list PySem.F.slot_list_append PySem.F.type_list_append ql (aR (gJ K rfl) (pv 3) (pv 5)) (za (pv 4) zf))))))))
   (zi (zz (r8 (own:=["row"]) (cap:=[]) (ix:=[]) (kW:=zq (top 39)) rfl ⟨rfl,by decide +kernel,by decide +kernel,by decide +kernel,by decide +kernel⟩ rfl (ir K rfl (pv 3)) (fun _ _ _ _=>mS (i:=0) (show List.Nodup (["row"]:List Str) by decide +kernel) rfl (Or.inl rfl)) (fun _ _ _ _=>qo) (fun _ _ _ _=>(jf (IX (K:=K) rfl) (by rfl) T.sorted mh (za (pv 0) zf)))))))))),?_⟩
  refine⟨_,rfl,p,pu,pt,x,y,us,av,ts,rfl,hT,fun pd ob ad bs H1 s1 pD hB=>?_⟩
  try dsimp only [zx]
  refine fun pe KI=>?_
  have s2:=ak.new (o:=.dK []) KI
  try dsimp only [zx]
  refine⟨by decide,fun pr xV=>?_⟩;have s3:=ak.new (o:=.lst []) xV;have q3:=s1.trans (s2.trans s3)
  try dsimp only [zx]
  exact⟨_,rfl,.inr ⟨p,pu,pt,x,y,us,av,ts,[],rfl,rfl,hT.same q3,nn,kE.same q3⟩⟩
theorem zta (T:Tx K mg w zj zm zg zp):d7 P w K mg base "levels" ["telling"] 8 (fun vs H Q E=>Po (K:=K) vs H Q E\/wU (K:=K) zm (fun r=>r = []) vs H Q E):=(Pp T).x.or (zs9 T)
def KJ (H0 H:Hp) (r la lb:ah) (cu cd:eE):Prop:=∃a b,H r=some (.tup [.ref a,.ref b])/\H a=some (.tup [.str cu.2.1,.ref la])/\H b=some (.tup [.str cd.2.1,.ref lb])/\H la=some (.lst (cu.2.2.map fun p=>V.ref p.2))/\H lb=some (.lst (cd.2.2.map fun p=>V.ref p.2))/\H0 la=none/\H0 lb=none/\la≠lb
inductive qd (vs:List V) (H:Hp) (Q:VK):Prop
 | mk (p pm pu pt pf:ah) (lo hi:Int) (us:List Str) (av:List ah) (ts:List aQ) (af:List ah) (fs:List c8) (nm:Str) (_:vs = [.ref p,.str nm]) (_:fT K H p pm pu pt pf lo hi us av ts af fs) (_:fC (cG ts (ts.zip av)) (zn ts (aL us))) (_:pW lo hi us av ts af fs) (_:nm∈us) (_:∀(r la lb:ah) (cu cd:eE) (H':Hp),ak H H'->KJ H H' r la lb cu cd->Up (cL ts (ts.zip av)) (nj ts lo (fs.zip af)) (aC ts nm) cu->jN (cL ts (ts.zip av)) (nj ts lo (fs.zip af)) (aC ts nm) cu.1->Dn (cL ts (ts.zip av)) (nC ts hi (fs.zip af)) (aC ts nm) cd->k7 (cL ts (ts.zip av)) (nC ts hi (fs.zip af)) (aC ts nm) cd.1->Q (.ref r) H')
def Qk:Sp:=fun vs H Q _=>qd (K:=K) vs H Q
set_option maxHeartbeats 8000000 in
theorem zre (T:Tx K mg w zj zm zg zp):eX P w K mg base "reasons" ["telling","name"] 9 (Qk (K:=K)):=by
 refine T.OS.has cZ (fun vs H Q E h=>?_) (fun f bX A outer s H vs Q E hr h=>?_)
 ·obtain⟨p,pm,pu,pt,pf,lo,hi,us,av,ts,af,fs,nm,rfl,_⟩:=h;rfl
 ·obtain⟨p,pm,pu,pt,pf,lo,hi,us,av,ts,af,fs,nm,rfl,hF,nr,no,nW,k⟩:=h;have hu:=i0 hr;refine⟨_,(zc (ko (bw (zfd T) (za (pv 0) zf)))
   (zc (sset (i:=2) cZ.nd (zw hu (bw (xS T) (za (aR (zo K rfl) (pv 0) zh) (za (aR (zo K rfl) (pv 0) zh) zf))) (pv 1) (fun _ _=>rfl)))
   (zc (sset (i:=3) cZ.nd (zw hu (bw (AS T) (za (pv 0) zf)) (pv 2) (fun _ _=>rfl)))
   (zc (sset (i:=4) cZ.nd (zw hu (bw (ER T) (za (pv 0) zf)) (pv 2) (fun _ _=>rfl)))
   (zi (zz (iz (za (sL (FU K rfl) (pv 3) (qR zh) uK) (za (sL (FU K rfl) (pv 4) (qR zh) uK) zf))))))))),?_⟩
  have gM:=hF.eU.ends;have iV:=Jd (ts:=ts) gM nW;refine⟨_,rfl,p,pm,pu,pt,pf,lo,hi,us,av,ts,af,fs,rfl,hF,nr,fun H1 s1 _=>?_,fun d r c w H1 s1 _ _ ri=>?_⟩
  ·have F1:=hF.same s1;have T1:=F1.eU
   try dsimp only [zx]
   refine⟨_,rfl,p,_,_,_,rfl,rfl,T1.p,rfl,_,rfl,p,_,_,_,rfl,rfl,T1.p,rfl,pu,pt,us,av,ts,rfl,T1.u,T1.t,T1.tt,T1.nd,by have:=T1.ul;lia,gM,fun pn H2 Ay hn s2=>?_⟩;have g1:=cj.k (k:=Sum.inr nm) hn;rw[qw nW] at g1;refine⟨_,rfl,pn,_,rfl,g1,?_⟩
   try dsimp only [zx]
   refine⟨_,rfl,p,pm,pu,pt,pf,lo,hi,us,av,ts,af,fs,rfl,F1.same s2,nr,fun pa oa va aa H3 s3 Qh EU xD ua=>?_⟩;refine⟨_,rfl,pa,_,rfl,nO EU iV,?_⟩
   try dsimp only [zx]
   have q3:=s1.trans (s2.trans s3);refine⟨_,rfl,p,pm,pu,pt,pf,lo,hi,us,av,ts,af,fs,rfl,hF.same q3,nr,fun pb ob vb ab H4 s4 EJ ye xE ub=>?_⟩;refine⟨_,rfl,pb,_,rfl,nO ye iV,?_⟩;obtain⟨la,a1,a2,a3⟩:=xD _ iV;obtain⟨lb,b1,b2,b3⟩:=xE _ iV;have a14:=s4 _ _ a1;have a24:=s4 _ _ a2;have nab:la≠lb:=zv a2 b3
   try dsimp only [zx]
   refine⟨_,rfl,1,rfl,aa (aC ts nm),_,rfl,bu.of a14,by show ¬(HT.dO 3 0 (some 1)=0/\HT.dO 3 3 none=3);decide,fun c1 hc1=>?_⟩;have t1:=ak.new (o:=.tup [.str (va (aC ts nm)).2.1,.ref la]) hc1;refine⟨_,rfl,1,rfl,ab (aC ts nm),_,rfl,bu.of (t1 _ _ b1),by show ¬(HT.dO 3 0 (some 1)=0/\HT.dO 3 3 none=3);decide,fun c2 zM=>?_⟩;have t2:=ak.new (o:=.tup [.str (vb (aC ts nm)).2.1,.ref lb]) zM;refine⟨by show 2<=sizeLine;decide,fun r uC=>?_⟩;have t3:=ak.new (o:=.tup [.ref c1,.ref c2]) uC;have BQ:=t1.trans (t2.trans t3);refine k r la lb (va (aC ts nm)) (vb (aC ts nm)) _ (q3.trans (s4.trans BQ)) ⟨c1,c2,zb,t3 _ _ (t2 _ _ zb),t3 _ _ zb,BQ _ _ a24,BQ _ _ b2,(s1.trans s2).free a3,q3.free b3,nab⟩ (ua _ iV).1 (ua _ iV).2 (ub _ iV).1 (ub _ iV).2
  ·obtain⟨kk,m,hk,u,g,_,hl,_⟩:=ri;have:=no kk hk c m u g;lia
def Ql (C:ah) (H:Hp) (E:XK) (lo hi:Int) (us:List Str) (av:List ah) (ts:List aQ) (af:List ah) (fs:List c8):Prop:=∀(d r:ah) (c:eE) (w:Str) (H':Hp),ak H H'->H' d=some (.xd [("row",.ref r)])->DY H' r c w->uw lo hi us av ts af fs c w->E (.ref C) (some d) H'
inductive vR (C1 C:ah) (more:List V->Prop) (vs:List V) (H:Hp) (Q:VK) (E:XK):Prop
 | mk (p pm pu pt pf:ah) (lo hi:Int) (us:List Str) (av:List ah) (ts:List aQ) (af:List ah) (fs:List c8) (rest:List V) (_:vs = .ref p::rest) (_:more rest) (_:fT K H p pm pu pt pf lo hi us av ts af fs) (_:¬(fC (cG ts (ts.zip av)) (zn ts (aL us))/\pW lo hi us av ts af fs)) (_:BP C1 H E us av ts) (_:(fC (cG ts (ts.zip av)) (zn ts (aL us))->Ql C H E lo hi us av ts af fs))
def GZ (C1 C:ah) (more:List V->Prop):Sp:=fun vs H Q E=>vR (K:=K) C1 C more vs H Q E
theorem zrf (T:Tx K mg w zj zm zg zp):d7 P w K mg base "reasons" ["telling","name"] 9 (GZ (K:=K) zm zg fun r=>∃a:Str,r = [.str a]):=by
 refine T.OS.lK cZ (fun vs H Q E h=>?_) (fun f bX A outer s H vs Q E hr h=>?_)
 ·obtain⟨p,pm,pu,pt,pf,lo,hi,us,av,ts,af,fs,rest,rfl,⟨a,rfl⟩,_⟩:=h;rfl
 ·obtain⟨p,pm,pu,pt,pf,lo,hi,us,av,ts,af,fs,rest,rfl,⟨a,rfl⟩,hF,nn,qz,kR⟩:=h;have hu:=i0 hr;refine⟨_,(zc (ko (pK (ES T) aX (hr.mono (by decide)) (by rfl) (za (pv 0) zf)))
   (zc (sset (i:=2) cZ.nd (zw hu (bw (xS T) (za (aR (zo K rfl) (pv 0) zh) (za (aR (zo K rfl) (pv 0) zh) zf))) (pv 1) (fun _ _=>rfl)))
   (zc (sset (i:=3) cZ.nd (zw hu (bw (AS T) (za (pv 0) zf)) (pv 2) (fun _ _=>rfl)))
   (zc (sset (i:=4) cZ.nd (zw hu (bw (ER T) (za (pv 0) zf)) (pv 2) (fun _ _=>rfl)))
   (zi (zz (iz (za (sL (FU K rfl) (pv 3) (qR zh) uK) (za (sL (FU K rfl) (pv 4) (qR zh) uK) zf))))))))),?_⟩
  exact⟨_,rfl,p,pm,pu,pt,pf,lo,hi,us,av,ts,af,fs,rfl,hF,fun nr _ _ no=>absurd ⟨nr,no⟩ nn,qz,kR⟩
theorem zrg (T:Tx K mg w zj zm zg zp):d7 P w K mg base "reasons" ["telling","name"] 9 (fun vs H Q E=>Qk (K:=K) vs H Q E\/GZ (K:=K) zm zg (fun r=>∃a:Str,r = [.str a]) vs H Q E):=(zre T).x.or (zrf T)
inductive yg (C:ah) (vs:List V) (H:Hp) (Q:VK) (E:XK):Prop
 | mk (p pm pu pt pf:ah) (lo hi:Int) (us:List Str) (av:List ah) (ts:List aQ) (af:List ah) (fs:List c8) (nm:Str) (y:Int) (f g:Str->Int) (_:vs = [.ref p,.str nm,.int y]) (_:fT K H p pm pu pt pf lo hi us av ts af fs) (_:fC (cG ts (ts.zip av)) (zn ts (aL us))) (_:pW lo hi us av ts af fs) (_:nm∈us) (_:fs.length<=59) (_:(∀k∈zn ts (aL us),jN (cL ts (ts.zip av)) (nj ts lo (fs.zip af)) k (f k))) (_:(∀k∈zn ts (aL us),k7 (cL ts (ts.zip av)) (nC ts hi (fs.zip af)) k (g k))) (_:(f (aC ts nm)<=y->y<=g (aC ts nm)->∀(q:ah) (as:List ah) (h:Str->Int) (H':Hp),ak H H'->H q=none->H' q=some (.lst (as.map V.ref))->Paired (fun a k=>H' a=some (.tup [.str k,.int (h k)])) as (zn ts (aL us))->Dt (cL ts (ts.zip av)) (zn ts (aL us)) f g h (aC ts nm) y->Q (.ref q) H')) (_:(¬(f (aC ts nm)<=y/\y<=g (aC ts nm))->∀H',ak H H'->E (.ref C) none H'))
def Qm (C:ah):Sp:=fun vs H Q E=>yg (K:=K) C vs H Q E
set_option maxHeartbeats 16000000 in
theorem ztb (T:Tx K mg w zj zm zg zp):d7 P w K mg base "dating" ["telling","name","year"] 9 (Qm (K:=K) zp):=by
 refine T.OX.lK dS (fun vs H Q E h=>?_) (fun f bX A outer s H vs Q E hr h=>?_)
 ·obtain⟨p,pm,pu,pt,pf,lo,hi,us,av,ts,af,fs,nm,y,f,g,rfl,_⟩:=h;rfl
 ·obtain⟨p,pm,pu,pt,pf,lo,hi,us,av,ts,af,fs,nm,y,f,g,rfl,hF,nr,no,nW,fl,hf,hg,kQ,kE⟩:=h;have hu:=i0 hr;refine⟨_,(zc (ko (pK (ES T) aX (hr.mono (by decide)) (by rfl) (za (pv 0) zf)))
   (zc (sset (i:=3) dS.nd (zw hu (bw (xS T) (za (aR (zo K rfl) (pv 0) zh) (za (aR (zo K rfl) (pv 0) zh) zf))) (pv 1) (fun _ _=>rfl)))
   (zc (fQ (xh (Lb Fq Fq (aR (zo K rfl) (zw hu (bw (AS T) (za (pv 0) zf)) (pv 3) (fun _ _=>rfl)) zh) (pv 2) (aR (zo K rfl) (zw hu (bw (ER T) (za (pv 0) zf)) (pv 3) (fun _ _=>rfl)) zh))) (zi (Ov T.OJ T.ON hr aX (by rfl) T.OI)) fW)
   (zc (sset (i:=4) dS.nd (gf (OA K rfl) (aR (zo K rfl) (pv 0) zh) (fB (za (iz (za ig (za (pv 1) (za (pv 2) (za (pv 2) zf))))) zf))))
   (zc (sset (i:=5) dS.nd (bw (AS T) (za (iz (za (aR (zo K rfl) (pv 0) zh) (za (aR (zo K rfl) (pv 0) zh) (za (aR (zo K rfl) (pv 0) zh) (za (pv 4) zf))))) zf)))
   (zi (zz (r8 (own:=["each"]) (cap:=["chains"]) (ix:=[5]) (kW:=zq (top 42)) rfl ⟨rfl,by decide +kernel,by decide +kernel,by decide +kernel,by decide +kernel⟩ rfl (sV (pv 5)) (fun _ _ _ _=>mS (i:=0) (show List.Nodup (["each","chains"]:List Str) by decide +kernel) rfl (Or.inl rfl)) (fun _ _ _ _=>qo) (fun _ _ _ _=>(iz (za (pv 0) (za (aR (zo K rfl) (zw hu (pv 1) (pv 0) (fun _ _=>rfl)) zh) zf)))))))))))),?_⟩
  have gM:=hF.eU.ends;have iV:=Jd (ts:=ts) gM nW;have lk:=hF.eU.j9;refine⟨_,rfl,p,pm,pu,pt,pf,lo,hi,us,av,ts,af,fs,rfl,hF,fun _ H1 s1 _=>?_,fun d q rs H1 s1 _ _ hn _ R=>(GY nr hn R).elim,fun _ d r c w H1 s1 _ _ ri=>?_⟩
  ·have F1:=hF.same s1;have T1:=F1.eU
   try dsimp only [zx]
   refine⟨_,rfl,p,_,_,_,rfl,rfl,T1.p,rfl,_,rfl,p,_,_,_,rfl,rfl,T1.p,rfl,pu,pt,us,av,ts,rfl,T1.u,T1.t,T1.tt,T1.nd,by have:=T1.ul;lia,gM,fun pn H2 Ay hn s2=>?_⟩;have g1:=cj.k (k:=Sum.inr nm) hn;rw[qw nW] at g1;refine⟨_,rfl,pn,_,rfl,g1,?_⟩;have q2:=s1.trans s2
   try dsimp only [zx]
   refine yu (!(decide (f (aC ts nm)<=y)&&decide (y<=g (aC ts nm)))) (fun Q' hQ=>?_) (fun H5 s5=>?_)
   ·refine⟨_,rfl,p,pm,pu,pt,pf,lo,hi,us,av,ts,af,fs,rfl,hF.same q2,nr,fun pa oa va aa H3 s3 Qh EU xD ua=>?_⟩;obtain⟨la,a1,_⟩:=xD _ iV;have eu:=(hf _ iV).uniq (ua _ iV).2;refine⟨_,rfl,pa,_,rfl,nO EU iV,aa (aC ts nm),_,_,_,rfl,rfl,bu.of a1,rfl,_,rfl,_,_,rfl,rfl,_,rfl,?_⟩;rw[←eu];refine bZ (fun c=>?_) (fun c=>?_)
    ·rw[c,Bool.true_and] at hQ;refine⟨_,rfl,p,pm,pu,pt,pf,lo,hi,us,av,ts,af,fs,rfl,hF.same (q2.trans s3),nr,fun pb ob vb ab H4 s4 EJ ye xE ub=>?_⟩;obtain⟨lb,b1,_⟩:=xE _ iV;have ed:=(hg _ iV).uniq (ub _ iV).2;refine⟨_,rfl,pb,_,rfl,nO ye iV,ab (aC ts nm),_,_,_,rfl,rfl,bu.of b1,rfl,_,_,rfl,rfl,_,rfl,?_⟩;rw[←ed];exact hQ _ (s3.trans s4)
    ·have c:decide (f (aC ts nm)<=y)=false:=by simpa using c
     rw[c,Bool.false_and] at hQ;exact⟨_,rfl,hQ _ s3⟩
   have q5:=q2.trans s5;refine bZ (fun c=>?_) (fun c=>?_)
   ·refine kE (fun z=>?_) _ q5;rw[aO z.1,aO z.2] at c;cases c
   ·have c:f (aC ts nm)<=y/\y<=g (aC ts nm):=by simpa using c
    have F5:=hF.same q5
    try unfold qh
    try dsimp only
    refine⟨_,rfl,p,_,_,_,rfl,rfl,F5.eU.p,rfl,_,rfl,_,rfl,_,rfl,(by show 4<=sizeLine;decide),fun b0 rD=>?_⟩;have t1:=ak.new (o:=.tup (gK ⟨"",nm,y,y⟩)) rD;refine⟨by show 1<=sizeLine;decide,fun l0 uA=>?_⟩;have t2:=ak.new (o:=.lst [.ref b0]) uA;have Qn:=t1.trans t2;have F6:=F5.same Qn;have KL:=t2 _ _ (zb (H:=H5) (a:=b0) (o:=.tup (gK ⟨"",nm,y,y⟩)));have lf:=hF.sX;refine⟨pf,l0,_,_,rfl,rfl,F6.f,aJ.of zb,by rw[ay];exact pH (show _+1<=1000 by lia),fun l1 pq=>?_⟩;have t3:=ak.new (o:=.lst (af.map V.ref++[.ref b0])) pq;have BQ:=Qn.trans t3;have F7:=F5.same BQ
    try dsimp only [zx]
    refine⟨_,rfl,p,_,_,_,rfl,rfl,F7.eU.p,rfl,_,rfl,p,_,_,_,rfl,rfl,F7.eU.p,rfl,_,rfl,p,_,_,_,rfl,rfl,F7.eU.p,rfl,_,rfl,(by show 4<=sizeLine;decide),fun p2 oY=>?_⟩;have t4:=ak.new (o:=.tup [.ref pm,.ref pu,.ref pt,.ref l1]) oY;have Qo:=BQ.trans t4;have F8:=F5.same Qo;have q8:=q5.trans Qo;have G8:fT K (upd (upd (upd (upd H5 b0 (.tup (gK ⟨"",nm,y,y⟩))) l0 (.lst [.ref b0])) l1 (.lst (af.map V.ref++[.ref b0]))) p2 (.tup [.ref pm,.ref pu,.ref pt,.ref l1])) p2 pm pu pt l1 lo hi us av ts (af++[b0]) (fs++[⟨"",nm,y,y⟩]):=by
     refine⟨⟨bu.of zb,F8.eU.u,F8.eU.t,F8.eU.tt,F8.eU.nd,F8.eU.ul,F8.eU.tl,F8.eU.ok⟩,F8.m,aJ.of ?_,?_,fun f hf=>?_,by rw[bL];show _+1<=60;lia⟩
     ·rw[aT];exact t4 _ _ zb
     ·rw[aT];exact cy.snoc F8.ft (t4 _ _ (t3 _ _ KL))
     ·rcases qx hf with z | z
      ·exact hF.fu f z
      ·rw[z];exact nW
    refine⟨p2,pm,pu,pt,l1,lo,hi,us,av,ts,af++[b0],fs++[(⟨"",nm,y,y⟩:c8)],rfl,G8,nr,fun pc oc vc ac H9 s9 EK xG E8 uc=>?_⟩;have q9:=q8.trans s9;have Qp:(af++[b0]).length=(fs++[(⟨"",nm,y,y⟩:c8)]).length:=by rw[bL,bL,lf];rfl
    have Qq:∀k,kh ts (fs++[(⟨"",nm,y,y⟩:c8)]) lo k=if aC ts nm=k then sY (kh ts fs lo k) y else kh ts fs lo k:=fun k=>VT
    have ET:=nr;rw[uv] at ET;have D:Dt (cL ts (ts.zip av)) (zn ts (aL us)) f g (fun k=>(vc k).1) (aC ts nm) y:=uM (yI gM) ET iV hf hg (fun k hk=>(uc k hk).2) (VR gM hf hg no) c (fun k=>Gs lf k) (fun k m hm=>hm.low lf) (fun k=>by rw[←Qq];exact Gs Qp k) (fun k m hm=>by rw[←Qq];exact hm.low Qp);have kQ':=kQ c.1 c.2;clear uc kQ kE;generalize zn ts (aL us)=keys at *
    try dsimp only [zx]
    refine⟨_,rfl,pc,oc,_,rfl,xG,fun D hD=>?_⟩;refine uh (Gm (a:=pc) (ob:=oc) (kvs:=dV keys fun k=>.ref (ac k))) (fun i aK ys H'=>∃(w0:Option V) (as:List ah),aK = [w0,some (.ref pc)]/\ys=as.map V.ref/\Paired (fun a k=>H' a=some (.tup [.str k,.int (vc k).1])) as (keys.take i)/\ak H9 H'/\H' D=some (.lst ys))
     ⟨none,[],rfl,rfl,.nil,ak.new hD,zb⟩ (fun i aK ys H' h=>?_) (by rw[ay,ji];exact pH (by lia)) ?_ ?_
    ·obtain⟨_,as,_,rfl,KG,q,hd⟩:=h;refine⟨q _ _ xG,hd,?_⟩;have:=Paired.length KG;rw[bF] at this;rw[ay];lia
    ·rintro i x aK ys FN hx ⟨w0,as,rfl,rfl,pr,EV,AW⟩;have gI:=iA hx;rw[DG,aM] at hx;cases eu:keys[i]? with
     | none=>rw[eu] at hx;cases hx
     | some u=>
      rw[eu] at hx;cases hx;have dz:u∈keys:=bN eu;obtain⟨lc,h1,_⟩:=(E8 u dz).same EV
      try dsimp only [zx]
      unfold lH;dsimp only;rw[aq rfl];refine⟨_,rfl,_,rfl,_,rfl,pc,_,rfl,nO (EV _ _ xG) dz,ac u,_,_,_,rfl,rfl,bu.of h1,rfl,(by show 2<=sizeLine;decide),fun b1 pC=>?_⟩;have w1:=ak.new (o:=.tup [.str u,.int (vc u).1]) pC;have m9:=w1 _ _ AW;refine⟨m9,pI gI ⟨_,as++[b1],rfl,by rw[aT];rfl,?_,(EV.trans w1).upd hD,zb⟩⟩;rw[aS,eu];exact Paired.snoc (Paired.fV pr fun a z e=>qv m9 _ _ (w1 _ _ e)) (qv m9 _ _ zb)
    rintro aK ys FN ⟨w0,as,rfl,rfl,pr,EV,AW⟩;rw[ay,ji,bG] at pr;exact kQ' D as (fun k=>(vc k).1) _ (q9.trans EV) (q9.free hD) AW pr (by assumption)
  ·obtain⟨kk,m,hk,u,gg,_,hl,_⟩:=ri;have:=no kk hk c m u gg;lia
theorem zrh (T:Tx K mg w zj zm zg zp):d7 P w K mg base "dating" ["telling","name","year"] 9 (GZ (K:=K) zm zg fun r=>∃(a:Str) (y:Int),r = [.str a,.int y]):=by
 refine T.OX.lK dS (fun vs H Q E h=>?_) (fun f bX A outer s H vs Q E hr h=>?_)
 ·obtain⟨p,pm,pu,pt,pf,lo,hi,us,av,ts,af,fs,rest,rfl,⟨a,y,rfl⟩,_⟩:=h;rfl
 ·obtain⟨p,pm,pu,pt,pf,lo,hi,us,av,ts,af,fs,rest,rfl,⟨a,y,rfl⟩,hF,nn,qz,kR⟩:=h;have hu:=i0 hr;refine⟨_,(zc (ko (pK (ES T) aX (hr.mono (by decide)) (by rfl) (za (pv 0) zf)))
   (zc (sset (i:=3) dS.nd (zw hu (bw (xS T) (za (aR (zo K rfl) (pv 0) zh) (za (aR (zo K rfl) (pv 0) zh) zf))) (pv 1) (fun _ _=>rfl)))
   (zc (fQ (xh (Lb Fq Fq (aR (zo K rfl) (zw hu (bw (AS T) (za (pv 0) zf)) (pv 3) (fun _ _=>rfl)) zh) (pv 2) (aR (zo K rfl) (zw hu (bw (ER T) (za (pv 0) zf)) (pv 3) (fun _ _=>rfl)) zh))) (zi (Ov T.OJ T.ON hr aX (by rfl) T.OI)) fW)
   (zc (sset (i:=4) dS.nd (gf (OA K rfl) (aR (zo K rfl) (pv 0) zh) (fB (za (iz (za ig (za (pv 1) (za (pv 2) (za (pv 2) zf))))) zf))))
   (zc (sset (i:=5) dS.nd (bw (AS T) (za (iz (za (aR (zo K rfl) (pv 0) zh) (za (aR (zo K rfl) (pv 0) zh) (za (aR (zo K rfl) (pv 0) zh) (za (pv 4) zf))))) zf)))
   (zi (zz (r8 (own:=["each"]) (cap:=["chains"]) (ix:=[5]) (kW:=zq (top 42)) rfl ⟨rfl,by decide +kernel,by decide +kernel,by decide +kernel,by decide +kernel⟩ rfl (sV (pv 5)) (fun _ _ _ _=>mS (i:=0) (show List.Nodup (["each","chains"]:List Str) by decide +kernel) rfl (Or.inl rfl)) (fun _ _ _ _=>qo) (fun _ _ _ _=>(iz (za (pv 0) (za (aR (zo K rfl) (zw hu (pv 1) (pv 0) (fun _ _=>rfl)) zh) zf)))))))))))),?_⟩
  exact⟨_,rfl,p,pm,pu,pt,pf,lo,hi,us,av,ts,af,fs,rfl,hF,fun nr _ _ no=>absurd ⟨nr,no⟩ nn,qz,kR⟩
theorem ztc (T:Tx K mg w zj zm zg zp):d7 P w K mg base "dating" ["telling","name","year"] 9 (fun vs H Q E=>Qm (K:=K) zp vs H Q E\/GZ (K:=K) zm zg (fun r=>∃(a:Str) (y:Int),r = [.str a,.int y]) vs H Q E):=(ztb T).or (zrh T)
inductive tY (vs:List V) (H:Hp) (Q:VK):Prop
 | mk (p pu pt:ah) (x y:V) (us:List Str) (av:List ah) (ts:List aQ) (_:vs = [.ref p]) (_:mZ K H p pu pt x y us av ts) (_:∀(pd:ah) (H':Hp),ak H H'->H pd=none->H' pd=some (.dK (dN us (aC ts)))->Q (.ref pd) H')
def ztd:Sp:=fun vs H Q _=>tY (K:=K) vs H Q
set_option maxHeartbeats 8000000 in
theorem zk1 (T:Tx K mg w zj zm zg zp):eX P w K mg base "_law_ones" ["_law_telling_here"] 1 (ztd (K:=K)):=by
 refine T.X8.has c9 (fun vs H Q E h=>?_) (fun f bX A outer s H vs Q E hr h=>?_)
 ·obtain⟨p,pu,pt,x,y,us,av,ts,rfl,_⟩:=h;rfl
 ·obtain⟨p,pu,pt,x,y,us,av,ts,rfl,hT,k⟩:=h;have hu:=i0 hr;refine⟨_,(zc (sset (i:=1) c9.nd o4)
   (zc (gQ bH rfl (ir K rfl (aR (zo K rfl) (pv 0) zh)) (fE (i:=2) c9.nd) (zi (lS hu (pv 1) (pv 2) (pv 2) rfl)))
   (zc (gQ bH rfl (zD (by rfl) T.range (za (jf (r9 K rfl) (by rfl) T.len cP (za (aR (zo K rfl) (pv 0) zh) zf)) zf)) (fE (i:=3) c9.nd) (zi (gQ bH rfl (ir K rfl (aR (zo K rfl) (pv 0) zh)) (fE (i:=4) c9.nd) (zi (fQ (e7 jQ (aR (zo K rfl) (pv 4) zh) ig (dW _)) (zc (sset (i:=5) c9.nd (jf (M4 rfl) (by rfl) T.min qM (za (zw hu (pv 1) (aR (zo K rfl) (pv 4) zh) (fun _ _=>rfl)) (za (zw hu (pv 1) (aR (zo K rfl) (pv 4) zh) (fun _ _=>rfl)) zf))))
      (zc (lS hu (pv 1) (aR (zo K rfl) (pv 4) zh) (pv 5) rfl)
      (zi (lS hu (pv 1) (aR (zo K rfl) (pv 4) zh) (pv 5) rfl)))) fW)))))
   (zi (zz (pv 1)))))),?_⟩
  have gM:=hT.ends;have hlen:=hT.len;obtain⟨hp,pZ,lI,tp,nd,hl,tl,_⟩:=hT;refine fun pd fJ=>?_
  have s0:=ak.new (o:=.dK []) fJ;refine⟨_,rfl,p,_,_,_,rfl,rfl,s0.tup hp,rfl,pu,rfl,⟨_,s0.seq pZ⟩,ny (xs:=us.map V.str) (fun i σ H'=>∃v2,σ = [some (.ref p),some (.ref pd),v2,none,none,none]/\ak H H'/\H' pd=some (.dK (dN (us.take i) id)))
   ⟨none,rfl,s0,zb⟩ (fun i σ H' _ h=>by obtain⟨_,_,q,_⟩:=h;exact q.seq pZ) ?_ ?_⟩
  ·rintro i x σ H1 hx ⟨v2,rfl,q,hd⟩;rw[aM] at hx;cases eu:us[i]? with
   | none=>rw[eu] at hx;cases hx
   | some u=>
    rw[eu] at hx;cases hx;have hi:=iA eu;have iT:u ∉ us.take i:=by
     have:=um nd i hi;rw[show us[i]=u from (bV.mp eu).2] at this;exact this
    dsimp only [zx];refine⟨_,rfl,_,rfl,_,rfl,pd,_,rfl,ff.k (k:=Sum.inr u) hd (by rw[DE,bF];exact jx (by lia)),?_⟩;refine⟨_,rfl,q.upd fJ,?_⟩;rw[zb,aS,eu]
    congr 2
    exact MK iT
  ·rintro σ H1 ⟨v2,rfl,q,hd⟩;have lu:(us.map V.str).length=us.length:=ay _;rw[lu,bG] at hd;refine⟨_,rfl,p,_,_,_,rfl,rfl,q.tup hp,rfl,pu,_,rfl,.inl (q.seq pZ),((us.map V.str).length:Int),rfl,by lia,by lia,Cg (lo:=0) (n:=(us.map V.str).length) (fun n σ H'=>∃v3 v4 v5,σ = [some (.ref p),some (.ref pd),v2,v3,v4,v5]/\ak H H'/\H' pd=some (.dK (dN us (fD ts n))))
    ⟨none,none,none,rfl,q,hd⟩ ?_ ?_⟩
   ·rintro n σ H2 hn ⟨v3,v4,v5,rfl,q2,hd2⟩;refine⟨_,rfl,p,_,_,_,rfl,rfl,q2.tup hp,rfl,pt,rfl,⟨_,q2.seq lI⟩,ny (xs:=av.map V.ref) (fun i σ H'=>∃v4 v5,σ = [some (.ref p),some (.ref pd),v2,some (.int (0+(n:Int))),v4,v5]/\ak H H'/\H' pd=some (.dK (dN us (o9 (ts.take i) (fD ts n)))))
     ⟨v4,v5,rfl,q2,hd2⟩ (fun i σ H' _ h=>by obtain⟨_,_,_,q,_⟩:=h;exact q.seq lI) ?_ ?_⟩
    ·rintro i x σ H3 hx ⟨v4,v5,rfl,q3,fK⟩;obtain⟨r,t,rfl,ht,_,hr⟩:=Dv tp hx;have vS:=q3 _ _ hr;have i6:=gM t (bN ht)
     try dsimp only [zx]
     refine⟨_,rfl,r,_,_,_,rfl,rfl,bu.of vS,Dy t,rfl,_,rfl,?_⟩;refine bZ (fun c=>?_) (fun c=>?_)
     ·have c:t.k=dw:=V.str.inj (aP c);have g1:=cj.k (k:=Sum.inr t.a) fK;have g2:=cj.k (k:=Sum.inr t.b) fK;rw[qw i6.1] at g1;rw[qw i6.2] at g2;refine⟨_,rfl,_,rfl,r,_,_,_,rfl,rfl,bu.of vS,Dz t,pd,_,rfl,g1,_,rfl,_,rfl,r,_,_,_,rfl,rfl,bu.of vS,DA t,pd,_,rfl,g2,_,_,rfl,?_⟩
      try dsimp only [zx]
      refine⟨_,rfl,_,rfl,_,rfl,r,_,_,_,rfl,rfl,bu.of vS,Dz t,pd,_,rfl,ff.k (k:=Sum.inr t.a) fK (by rw[DE];exact jx (by lia)),?_⟩;rw[IG i6.1];have nr:r≠pd:=fun z=>by rw[z,fK] at vS;cases vS
      have AD:upd H3 pd (.dK (dN us fun z=>if z=t.a then j7 (o9 (ts.take i) (fD ts n) t.a) (o9 (ts.take i) (fD ts n) t.b) else o9 (ts.take i) (fD ts n) z)) r=some (.tup (cH t)):=by rw[zr nr];exact vS
      refine⟨_,rfl,_,rfl,_,rfl,r,_,_,_,rfl,rfl,bu.of AD,DA t,pd,_,rfl,ff.k (k:=Sum.inr t.b) zb (by rw[DE];exact jx (by lia)),?_⟩;rw[IG i6.2];refine⟨_,_,rfl,(q3.upd fJ).upd fJ,?_⟩;rw[zb,MX ht]
      congr 2
      refine Bm fun z _=>?_
      have el:kY (o9 (ts.take i) (fD ts n)) t z=if z=t.a\/z=t.b then j7 (o9 (ts.take i) (fD ts n) t.a) (o9 (ts.take i) (fD ts n) t.b) else o9 (ts.take i) (fD ts n) z:=by
       unfold kY;rw[aq c]
      rw[el]
      by_cases e1:z=t.b
      ·rw[aq e1,aq (Or.inr e1:z=t.a\/z=t.b)];rfl
      ·rw[ao e1]
       by_cases e2:z=t.a
       ·rw[aq e2,aq (Or.inl e2:z=t.a\/z=t.b)];rfl
       ·rw[ao e2,ao (fun q:z=t.a\/z=t.b=>q.elim e2 e1)]
     ·have c:¬t.k=dw:=fun z=>c (aO (bT V.str z))
      refine⟨_,_,rfl,q3,?_⟩;rw[fK,MX ht];unfold kY;rw[ao c]
    ·rintro σ H3 ⟨v4,v5,rfl,q3,fK⟩;rw[ay,hlen,bG] at fK;exact⟨_,_,_,rfl,q3,fK⟩
   ·rintro σ H2 ⟨v3,v4,v5,rfl,q2,hd2⟩;refine⟨_,rfl,k pd _ q2 fJ ?_⟩;rw[hd2,lu,Bm (Ui gM)]
inductive rQ (vs:List V) (H:Hp) (Q:VK):Prop
 | mk (p pm pu pt pf:ah) (lo hi:Int) (us:List Str) (ts:List aQ) (fs:List c8) (at' af:List ah) (c:Int) (_:vs = [.ref p,.int c]) (_:kX K H p pm pu pt pf lo hi us ts fs at' af) (_:fs.length<=60) (_:∀(p' BB:ah) (j:Int) (af':List ah) (H':Hp),j=0\/j=1->ak H H'->kX K H' p' pm pu pt BB lo hi us ts (fs.map (yJ j)) at' af'->Q (.ref p') H')
def zri:Sp:=fun vs H Q _=>rQ (K:=K) vs H Q
set_option maxHeartbeats 8000000 in
theorem zh1 (T:Tx K mg w zj zm zg zp):eX P w K mg base "_law_narrow" ["_law_telling_here","_law_cell"] 2 (zri (K:=K)):=by
 refine T.Yb.has d8 (fun vs H Q E h=>?_) (fun f bX A outer s H vs Q E hr h=>?_)
 ·obtain⟨p,pm,pu,Qs,pf,lo,hi,us,ts,fs,at',af,c,rfl,_⟩:=h;rfl
 ·obtain⟨p,pm,pu,Qs,pf,lo,hi,us,ts,fs,at',af,c,rfl,hA,Pj,k⟩:=h;refine⟨_,(zc (sset (i:=2) d8.nd (fB zf))
   (zc (gQ bH rfl (ir K rfl (aR (zo K rfl) (pv 0) zh)) (fE (i:=3) d8.nd) (zc (sset (i:=4) d8.nd (aR (gJ K rfl) (fB (za (aR (zo K rfl) (pv 3) zh) (za (aR (zo K rfl) (pv 3) zh) zf))) (bw (zy T) (za (pv 1) (za zh (za zh zf))))))
    (zi (ko (pS K rfl PySem.F.plainAttrs_list PySem.F.slot_list_append PySem.F.type_list_append ql (pv 2) (za (iz (za (aR (zo K rfl) (pv 3) zh) (za (aR (zo K rfl) (pv 3) zh) (za (aR (zo K rfl) (pv 3) zh) (za (pv 4) zf))))) zf))))))
   (zi (zz (iz (za (aR (zo K rfl) (pv 0) zh) (za (aR (zo K rfl) (pv 0) zh) (za (aR (zo K rfl) (pv 0) zh) (za (pv 2) zf))))))))),?_⟩
  have AJ:=hA.at'.ft;have lf:af.length=fs.length:=by have:=AJ.len;rw[ay] at this;exact this
  try dsimp only [zx]
  refine⟨by show 0<=sizeLine;decide,fun D hD=>?_⟩;have s1:=ak.new (o:=.lst []) hD;have EW:=hA.same s1
  try dsimp only [zx]
  refine⟨_,rfl,p,_,_,_,rfl,rfl,EW.p,rfl,pf,rfl,⟨_,EW.at'.f⟩,ny (xs:=af.map V.ref) (fun i σ H'=>∃(v3 v4:Option V) (bs:List ah),σ = [some (.ref p),some (.int c),some (.ref D),v3,v4]/\ak H H'/\H' D=some (.lst (bs.map V.ref))/\cy H' bs (((fs.take i).map (yJ (pt c 92 2))).map gK))
   ⟨none,none,[],rfl,s1,zb,.nil⟩ (fun i σ H' _ h=>by obtain⟨_,_,_,_,q,_⟩:=h;exact (hA.same q).at'.f) ?_ ?_⟩
  ·rintro i x σ H2 hx ⟨v3,v4,bs,rfl,q2,hd2,EX⟩;obtain⟨r,f,rfl,hf,BC,uC⟩:=Dv (hA.same q2).at'.ft hx;have hi:=iA hf;have lb:bs.length<=60:=by have:=EX.len;rw[ay,ay,bF] at this;lia
   have b3:=iB c 92 2 (by decide)
   try dsimp only [zx]
   refine⟨_,rfl,r,_,_,_,rfl,rfl,bu.of uC,Nc f,_,rfl,r,_,_,_,rfl,rfl,bu.of uC,Jb f,(by show 2<=sizeLine;decide),fun l0 uA=>?_⟩;have t0:=ak.new (o:=.lst [.int f.hi,.int f.lo]) uA;have far:kr [V.int f.hi,V.int f.lo] (pt c 92 2)=some (.int (yJ (pt c 92 2) f).hi):=by
    have h3:pt c 92 2=0\/pt c 92 2=1:=by lia
    rcases h3 with h3 | h3<;>rw[h3]<;>rfl
   refine⟨_,rfl,c,92,2,rfl,by decide,l0,_,_,_,rfl,rfl,aJ.of zb,far,?_⟩;have vS:=t0 _ _ uC
   try dsimp only [zx]
   refine⟨_,rfl,.inl ⟨rfl,_,aJ.of (t0 _ _ hd2)⟩,?_⟩;refine⟨_,rfl,r,_,_,_,rfl,rfl,bu.of vS,Ja f,_,rfl,r,_,_,_,rfl,rfl,bu.of vS,Na f,_,rfl,r,_,_,_,rfl,rfl,bu.of vS,Jb f,_,rfl,(by show 4<=sizeLine;decide),fun b hb=>?_⟩;have t1:=ak.new (o:=.tup (gK (yJ (pt c 92 2) f))) hb;have jB:=t1 _ _ (t0 _ _ hd2);refine⟨D,_,_,rfl,rfl,jB,by rw[ay];exact jx (by lia),?_⟩;refine⟨_,_,bs++[b],rfl,(q2.trans (t0.trans t1)).upd hD,by rw[zb,aT];rfl,?_⟩;rw[aS,hf,aT,aT];exact Paired.snoc (Paired.fV EX fun a z e=>qv jB _ _ (t1 _ _ (t0 _ _ e))) (qv jB _ _ zb)
  ·rintro σ H2 ⟨v3,v4,bs,rfl,q2,hd2,EX⟩;rw[ay,lf,bG] at EX;have vU:=hA.same q2;refine⟨_,rfl,p,_,_,_,rfl,rfl,vU.p,rfl,_,rfl,p,_,_,_,rfl,rfl,vU.p,rfl,_,rfl,p,_,_,_,rfl,rfl,vU.p,rfl,_,rfl,(by show 4<=sizeLine;decide),fun p' hp'=>?_⟩;have t3:=ak.new (o:=.tup [.ref pm,.ref pu,.ref Qs,.ref D]) hp';have G0:=vU.same t3;exact k p' D (pt c 92 2) bs _ (by have:=iB c 92 2 (by decide);lia) (q2.trans t3) ⟨bu.of zb,G0.at'.m,G0.at'.u,G0.at'.t,G0.at'.tt,aJ.of (t3 _ _ hd2),EX.same t3⟩
inductive rR (vs:List V) (H:Hp) (Q:VK):Prop
 | mk (p pu pt pf:ah) (x y:V) (us:List Str) (av rs:List ah) (ts:List aQ) (ws:Nat->Str) (_:vs = [.ref p,.ref pf,.int (rs.length:Int)]) (_:mZ K H p pu pt x y us av ts) (_:(∀vs∈ts.map cH,∀v∈vs,Wd v)) (_:H pf=some (.lst (rs.map V.ref))) (_:rs≠[]) (_:rs.length<=1000) (_:Ak ts av rs ws) (_:∀(H':Hp),ak H H'->Q (.bl true) H')
def zrj:Sp:=fun vs H Q _=>rR (K:=K) vs H Q
set_option maxHeartbeats 8000000 in
theorem zgd (T:Tx K mg w zj zm zg zp):eX P w K mg base "_law_is_round" ["_law_telling_here","_law_ring","_law_many"] 2 (zrj (K:=K)):=by
 refine T.Ye.has eS (fun vs H Q E h=>?_) (fun f bX A outer s H vs Q E hr h=>?_)
 ·obtain⟨p,pu,pt,pf,x,y,us,av,rs,ts,ws,rfl,_⟩:=h;rfl
 ·obtain⟨p,pu,pt,pf,x,y,us,av,rs,ts,ws,rfl,hT,hw,hf',mY,lr,R,k⟩:=h;have hu:=i0 hr;refine⟨_,(zc (sset (i:=3) eS.nd (bw (zk1 T) (za (pv 0) zf)))
   (zc (gQ bH rfl (zD (by rfl) T.range (za (jf (r9 K rfl) (by rfl) T.len cP (za (pv 1) zf)) zf)) (fE (i:=4) eS.nd) (zi (fQ (PW.pt (Ca (e7 (Mf K rfl (Dj hr)) (aR (gJ K rfl) (pv 1) (pv 4)) (aR (zo K rfl) (pv 0) zh) (by with_unfolding_all rfl)) (Ca (e7 jQ (aR (zo K rfl) (aR (gJ K rfl) (pv 1) (pv 4)) zh) ig (dW _)) (Fc (e7 Fo (zw hu (pv 3) (aR (zo K rfl) (aR (gJ K rfl) (pv 1) (pv 4)) zh) (fun _ _=>rfl)) (zw hu (pv 3) (aR (zo K rfl) (aR (gJ K rfl) (pv 1) (gf Fj (pv 4) zh)) zh) (fun _ _=>rfl)) (dW _)))))) (zi (zz sH)) fW)))
   (zi (zz (rW jQ (jf (r9 K rfl) (by rfl) T.len cP (za (pv 1) zf)) (pv 2) (dW _)))))),?_⟩
  have hf:aJ K H pf (rs.map V.ref):=aJ.of hf';refine⟨_,rfl,p,pu,pt,x,y,us,av,ts,rfl,hT,fun pd H1 s1 pD hd=>?_⟩;have G1:(rs.map V.ref).length=rs.length:=ay _
  try dsimp only [zx]
  refine⟨_,rfl,pf,_,rfl,.inl (s1.seq hf),((rs.map V.ref).length:Int),rfl,by lia,by lia,Cg (lo:=0) (n:=(rs.map V.ref).length) (fun n σ H'=>∃(v3:Option V),σ = [some (.ref p),some (.ref pf),some (.int (rs.length:Int)),some (.ref pd),v3]/\ak H1 H')
   ⟨none,rfl,(ak.refl _)⟩ ?_ ?_⟩
  ·rintro n σ H2 hn ⟨v3,rfl,q2⟩;have q:=s1.trans q2;have T2:=hT.same q;rw[G1] at hn;have er:rs[n]? = some rs[n]:=bz hn;obtain⟨t,hz,hk,ha,hb⟩:=R.at' n _ er;obtain⟨hr,hrm,rL⟩:=T2.tt.u9 hz;have GK:(if n=0 then rs.length-1 else n-1)<rs.length:=by split<;>lia
   obtain⟨t',hz',gj,ha',Ph⟩:=R.at' (if n=0 then rs.length-1 else n-1) _ (bz GK);obtain⟨uC,aaI,KN⟩:=T2.tt.u9 hz';have elb:aC ts t.a=aC ts t'.b:=by
    rw[ha,Ph]
    by_cases c:n=0
    ·rw[aq c,c,R.cl]
     congr 1
     lia
    ·rw[ao c]
     congr 1
     lia
   have tok:=hT.ok t rL;have KO:=hT.ok t' KN;have g1:=cj.k (k:=Sum.inr t.a) (q2 _ _ hd);have g2:=cj.k (k:=Sum.inr t'.b) (q2 _ _ hd);rw[qw tok.a] at g1;rw[qw KO.b] at g2;have G2:kr (rs.map V.ref) (0+(n:Int))=some (.ref rs[n]):=by
    rw[kM];exact nJ (by rw[aM,er];rfl)
   have at2:kr (rs.map V.ref) (0+(n:Int)-1)=some (.ref rs[if n=0 then rs.length-1 else n-1]):=by
    refine M1 (by rw[G1];exact hn) ?_;rw[G1,aM,bz GK];rfl
   generalize rs[if n=0 then rs.length-1 else n-1]=r' at uC at2;generalize rs[n]=r at hr G2
   try dsimp only [zx]
   refine yu false (fun Q' hQ=>?_) (fun H3 s3=>fR ⟨_,rfl,q2.trans s3⟩);refine⟨_,rfl,_,rfl,pf,_,_,_,rfl,rfl,q.seq hf,G2,_,rfl,p,_,_,_,rfl,rfl,T2.p,rfl,pt,_,_,rfl,.inl T2.t,T2.tt.MB (n:=7) hw hr (hw _ (br.mpr ⟨t,rL,rfl⟩)),_,rfl,?_⟩;rw[aq rfl,T2.tt.Du,aO (br.mpr ⟨t,rL,rfl⟩)];refine fR ?_;refine⟨_,rfl,_,rfl,pf,_,_,_,rfl,rfl,q.seq hf,G2,r,_,_,_,rfl,rfl,bu.of hr,Dy t,rfl,_,rfl,?_⟩;rw[show decide (V.str t.k=V.str (Str.ofString "same"))=false from aV fun z=>hk (V.str.inj z)];refine fR ?_;refine⟨_,rfl,_,rfl,_,rfl,pf,_,_,_,rfl,rfl,q.seq hf,G2,r,_,_,_,rfl,rfl,bu.of hr,Dz t,pd,_,rfl,g1,_,rfl,_,rfl,_,rfl,_,_,rfl,rfl,pf,_,_,_,rfl,rfl,q.seq hf,at2,r',_,_,_,rfl,rfl,bu.of uC,DA t',pd,_,rfl,g2,rfl,_,rfl,?_⟩;rw[elb,aO rfl];exact hQ _ (ak.refl _)
  ·rintro σ H2 ⟨v3,rfl,q2⟩;have q:=s1.trans q2;refine⟨_,rfl,pf,_,rfl,.inl (q.seq hf),_,rfl,rfl,?_⟩;rw[G1,aO rfl];exact k _ q
inductive yh (CR CN CY:ah) (vs:List V) (H:Hp) (Q:VK) (E:XK):Prop
 | mk (p pm pu pt pf:ah) (lo hi:Int) (us:List Str) (av:List ah) (ts:List aQ) (af:List ah) (fs:List c8) (nm ot:Str) (w:Int) (_:vs = [.int w,.ref p,.str nm,.str ot]) (_:fT K H p pm pu pt pf lo hi us av ts af fs) (_:ts.length<=60) (_:nm∈us) (_:ot∈us) (_:fs.length<=59) (_:0<=w) (_:w<=6) (_:(fC (cG ts (ts.zip av)) (zn ts (aL us))->(w<=3\/((w=4\/w=6)/\pW lo hi us av ts af fs))->∀v H',ak H H'->Q v H')) (_:BP CR H E us av ts) (_:(fC (cG ts (ts.zip av)) (zn ts (aL us))->4<=w->Ql CN H E lo hi us av ts af fs)) (_:(fC (cG ts (ts.zip av)) (zn ts (aL us))->pW lo hi us av ts af fs->w=5->∀H',ak H H'->E (.ref CY) none H'))
def zym (CR CN CY:ah):Sp:=fun vs H Q E=>yh (K:=K) CR CN CY vs H Q E
theorem zrk {lo:Int}{av:List ah}{ts:List aQ}{af:List ah}{fs:List c8}{k:Str}{m:Int}(hl:af.length=fs.length) (h:jN (cL ts (ts.zip av)) (nj ts lo (fs.zip af)) k m):lo<=m:=by
 obtain⟨b,hb,e⟩:=Gs (ts:=ts) (lo:=lo) hl k;have h1:=h.2 _ (Up.bare hb);have h2:=(sy (ts:=ts) (fs:=fs) (lo:=lo) (k:=k) (y:=kh ts fs lo k)).mp (dY _);have h3:b.1<=m:=h1;lia
set_option maxHeartbeats 16000000 in
theorem znr (T:Tx K mg w zj zm zg zp):d7 P w K mg base "_law_ask" ["_law_way","_law_telling_here","_law_name","_law_other"] 11 (zym (K:=K) zm zg zp):=by
 refine T.Yc.lK Yp (fun vs H Q E h=>?_) (fun f bX A outer s H vs Q E hr h=>?_)
 ·obtain⟨p,pm,pu,pt,pf,lo,hi,us,av,ts,af,fs,nm,ot,w,rfl,_⟩:=h;rfl
 ·obtain⟨p,pm,pu,pt,pf,lo,hi,us,av,ts,af,fs,nm,ot,w,rfl,hF,wQ,nW,EY,KP,w0,w6,kQ,qz,KQ,kNY⟩:=h;refine⟨_,(zc (fQ (e7 jQ (pv 0) zh (dW _)) (zi (zz (pK (KH T) aX (hr.mono (by decide)) (by rfl) (za (pv 1) zf)))) fW)
   (zc (fQ (e7 jQ (pv 0) zh (dW _)) (zi (zz (pK (Qj T) aX (hr.mono (by decide)) (by rfl) (za (pv 1) zf)))) fW)
   (zc (fQ (e7 jQ (pv 0) zh (dW _)) (zi (zz (pK (zyl T) aX (hr.mono (by decide)) (by rfl) (za (pv 1) (za (pv 2) (za (pv 3) zf)))))) fW)
   (zc (fQ (e7 jQ (pv 0) zh (dW _)) (zi (zz (pK (zta T) aX (hr.mono (by decide)) (by rfl) (za (pv 1) zf)))) fW)
   (zc (fQ (e7 jQ (pv 0) zh (dW _)) (zi (zz (pK (Qg T) aX (hr.mono (by decide)) (by rfl) (za (pv 1) zf)))) fW)
   (zc (fQ (e7 jQ (pv 0) zh (dW _)) (zi (zz (pK (ztc T) aX (hr.mono (by decide)) (by rfl) (za (pv 1) (za (pv 2) (za (gf Fj (aR (zo K rfl) (aR (zo K rfl) (pv 1) zh) zh) zh) zf)))))) fW)
   (zi (zz (pK (zrg T) aX (hr.mono (by decide)) (by rfl) (za (pv 1) (za (pv 2) zf))))))))))),?_⟩
  have hT:=hF.eU;refine mX (decide (V.int w=V.int 0)) (fun Q' q=>⟨_,rfl,rfl,_,rfl,q⟩) ?_;refine bZ (fun c=>?_) (fun c0=>?_)
  ·have c:=V.int.inj (aP c);refine⟨_,rfl,?_⟩
   by_cases nr:fC (cG ts (ts.zip av)) (zn ts (aL us))
   ·exact .inl ⟨p,pu,pt,_,_,us,av,ts,rfl,hT,nr,fun q os H' s _ _ _ _=>kQ nr (.inl (by lia)) _ _ s⟩
   ·exact .inr ⟨p,pu,pt,_,_,us,av,ts,[],rfl,rfl,hT,nr,qz⟩
  try unfold qh
  try dsimp only
  refine mX (decide (V.int w=V.int 1)) (fun Q' q=>⟨_,rfl,rfl,_,rfl,q⟩) ?_;refine bZ (fun c=>?_) (fun c1=>?_)
  ·have c:=V.int.inj (aP c);refine⟨_,rfl,?_⟩
   by_cases nr:fC (cG ts (ts.zip av)) (zn ts (aL us))
   ·exact .inl ⟨p,pu,pt,_,_,us,av,ts,rfl,hT,wQ,nr,fun D bs qs H' s _ _ _ _ _ _=>kQ nr (.inl (by lia)) _ _ s⟩
   ·exact .inr ⟨p,pu,pt,_,_,us,av,ts,[],rfl,rfl,hT,nr,qz⟩
  try unfold qh
  try dsimp only
  refine mX (decide (V.int w=V.int 2)) (fun Q' q=>⟨_,rfl,rfl,_,rfl,q⟩) ?_;refine bZ (fun c=>?_) (fun c2=>?_)
  ·have c:=V.int.inj (aP c);refine⟨_,rfl,_,rfl,_,rfl,?_⟩
   by_cases nr:fC (cG ts (ts.zip av)) (zn ts (aL us))
   ·exact .inl ⟨p,pu,pt,_,_,us,av,ts,nm,ot,rfl,hT,wQ,nr,nW,EY,fun q ws H' s _ _ _ _ _=>kQ nr (.inl (by lia)) _ _ s⟩
   ·exact .inr ⟨p,pu,pt,_,_,us,av,ts,_,rfl,⟨nm,ot,rfl⟩,hT,nr,qz⟩
  try unfold qh
  try dsimp only
  refine mX (decide (V.int w=V.int 3)) (fun Q' q=>⟨_,rfl,rfl,_,rfl,q⟩) ?_;refine bZ (fun c=>?_) (fun c3=>?_)
  ·have c:=V.int.inj (aP c);refine⟨_,rfl,?_⟩
   by_cases nr:fC (cG ts (ts.zip av)) (zn ts (aL us))
   ·exact .inl ⟨p,pu,pt,_,_,us,av,ts,rfl,hT,nr,fun q cs lv H' s _ _ _ _ _ _ _=>kQ nr (.inl (by lia)) _ _ s⟩
   ·exact .inr ⟨p,pu,pt,_,_,us,av,ts,[],rfl,rfl,hT,nr,qz⟩
  try unfold qh
  try dsimp only
  refine mX (decide (V.int w=V.int 4)) (fun Q' q=>⟨_,rfl,rfl,_,rfl,q⟩) ?_;refine bZ (fun c=>?_) (fun c4=>?_)
  ·have c:=V.int.inj (aP c);exact⟨_,rfl,p,pm,pu,pt,pf,lo,hi,us,av,ts,af,fs,rfl,hF,fun nr q f g H' s _ _ _ _ no=>kQ nr (.inr ⟨.inl c,no⟩) _ _ s,qz,fun nr=>KQ nr (by lia)⟩
  try unfold qh
  try dsimp only
  have c0:w≠0:=fun z=>c0 (aO (by rw[z]))
  have c1:w≠1:=fun z=>c1 (aO (by rw[z]))
  have c2:w≠2:=fun z=>c2 (aO (by rw[z]))
  have c3:w≠3:=fun z=>c3 (aO (by rw[z]))
  have c4:w≠4:=fun z=>c4 (aO (by rw[z]))
  refine mX (decide (V.int w=V.int 5)) (fun Q' q=>⟨_,rfl,rfl,_,rfl,q⟩) ?_;refine bZ (fun c=>?_) (fun c5=>?_)
  ·have c:=V.int.inj (aP c);refine⟨_,rfl,_,rfl,_,rfl,p,_,_,_,rfl,rfl,hT.p,rfl,pm,_,_,_,rfl,rfl,hF.m,rfl,_,_,rfl,rfl,?_⟩
   by_cases nr:fC (cG ts (ts.zip av)) (zn ts (aL us))/\pW lo hi us av ts af fs
   ·have hl:=hF.sX;have HU:=fun k (hk:k∈zn ts (aL us))=>VP (lo:=lo) (fs:=fs) (af:=af) (av:=av) hT.ends hl nr.1 hk
    have hhi:=fun k (hk:k∈zn ts (aL us))=>VQ (hi:=hi) (fs:=fs) (af:=af) (av:=av) hT.ends hl nr.1 hk
    have low:=zrk hl (HU _ (Jd (ts:=ts) hT.ends nW));exact .inl ⟨p,pm,pu,pt,pf,lo,hi,us,av,ts,af,fs,nm,lo-1,_,_,rfl,hF,nr.1,nr.2,nW,KP,HU,hhi,fun z=>absurd z (by lia),fun _ H' s=>kNY nr.1 nr.2 c H' s⟩
   ·exact .inr ⟨p,pm,pu,pt,pf,lo,hi,us,av,ts,af,fs,_,rfl,⟨nm,lo-1,rfl⟩,hF,nr,qz,fun nr=>KQ nr (by lia)⟩
  try unfold qh
  try dsimp only
  have c5:w≠5:=fun z=>c5 (aO (by rw[z]))
  refine⟨_,rfl,_,rfl,?_⟩
  by_cases nr:fC (cG ts (ts.zip av)) (zn ts (aL us))/\pW lo hi us av ts af fs
  ·exact .inl ⟨p,pm,pu,pt,pf,lo,hi,us,av,ts,af,fs,nm,rfl,hF,nr.1,nr.2,nW,fun r la lb cu cd H' s _ _ _ _ _=>kQ nr.1 (.inr ⟨.inr (by lia),nr.2⟩) _ _ s⟩
  ·exact .inr ⟨p,pm,pu,pt,pf,lo,hi,us,av,ts,af,fs,_,rfl,⟨nm,rfl⟩,hF,nr,qz,fun nr=>KQ nr (by lia)⟩
def eT (H:Hp) (q:ah) (w:Int) (lo hi:Int) (us:List Str) (av:List ah) (ts:List aQ) (af:List ah) (fs:List c8):Prop:=
 (¬fC (cG ts (ts.zip av)) (zn ts (aL us))/\∃l rs,H q=some (.tup [.str (Str.ofString "round"),.ref l])/\H l=some (.lst (rs.map V.ref))/\rs≠[]/\rs.length<=64/\lV (cG ts (ts.zip av)) (zn ts (aL us)) rs)\/
 (fC (cG ts (ts.zip av)) (zn ts (aL us))/\(w<=3\/((w=4\/w=6)/\pW lo hi us av ts af fs))/\∃v,H q=some (.tup [.str (Str.ofString "told"),v]))\/
 (fC (cG ts (ts.zip av)) (zn ts (aL us))/\4<=w/\∃l c e,H q=some (.tup [.str (Str.ofString "row"),.ref l])/\H l=some (.lst ((c.2.2:List Tr).map fun p=>V.ref p.2))/\uw lo hi us av ts af fs c e)\/
 (fC (cG ts (ts.zip av)) (zn ts (aL us))/\pW lo hi us av ts af fs/\w=5/\∃l,H q=some (.tup [.str (Str.ofString "other"),.ref l]))
theorem eT.same {H H':Hp}{q:ah}{w lo hi:Int}{us:List Str}{av:List ah}{ts:List aQ}{af:List ah}{fs:List c8}(h:eT H q w lo hi us av ts af fs) (s:ak H H'):eT H' q w lo hi us av ts af fs:=by
 rcases h with ⟨a,l,rs,h1,h2,h3⟩ | ⟨a,b,v,h⟩ | ⟨a,b,l,c,e,h1,h2,h3⟩ | ⟨a,b,c,l,h⟩
 ·exact .inl ⟨a,l,rs,s _ _ h1,s _ _ h2,h3⟩
 ·exact .inr (.inl ⟨a,b,v,s _ _ h⟩)
 ·exact .inr (.inr (.inl ⟨a,b,l,c,e,s _ _ h1,s _ _ h2,h3⟩))
 ·exact .inr (.inr (.inr ⟨a,b,c,l,s _ _ h⟩))
inductive vV (vs:List V) (H:Hp) (Q:VK):Prop
 | mk (p pm pu pt pf:ah) (lo hi:Int) (us:List Str) (av:List ah) (ts:List aQ) (af:List ah) (fs:List c8) (nm ot:Str) (w:Int) (_:vs = [.int w,.ref p,.str nm,.str ot]) (_:fT K H p pm pu pt pf lo hi us av ts af fs) (_:ts.length<=60) (_:nm∈us) (_:ot∈us) (_:fs.length<=59) (_:0<=w) (_:w<=6) (_:∀(q:ah) (H':Hp),ak H H'->eT H' q w lo hi us av ts af fs->Q (.ref q) H')
def zwc:Sp:=fun vs H Q _=>vV (K:=K) vs H Q
set_option maxHeartbeats 16000000 in
theorem zk2 (T:Tx K mg w zj zm zg zp):eX P w K mg base "_law_word" ["_law_way","_law_telling_here","_law_name","_law_other"] 12 (zwc (K:=K)):=by
 refine T.Yd.has cK (fun vs H Q E h=>?_) (fun f bX A outer s H vs Q E hr h=>?_)
 ·obtain⟨p,pm,pu,pt,pf,lo,hi,us,av,ts,af,fs,nm,ot,w,rfl,_⟩:=h;rfl
 ·obtain⟨p,pm,pu,pt,pf,lo,hi,us,av,ts,af,fs,nm,ot,w,rfl,hF,wQ,nW,EY,KP,w0,w6,k⟩:=h;refine⟨_,(zc (sset (i:=4) cK.nd (iz zf))
   (zc (Wy ⟨rfl,rfl,rfl⟩ (fun pn xe Es pt=>(zi (sset (i:=4) cK.nd (iz (za ig (za (Wx (znr T) pt (hr.mono (by decide)) (by rfl) (za (pv 0) (za (pv 1) (za (pv 2) (za (pv 3) zf))))) zf)))))) (WC (i:=5) ⟨rfl,rfl,rfl⟩ (by rfl) T.JK T.Xh cK.nd rfl rfl (fun _ _=>(zc (sset (i:=4) cK.nd (iz (za ig (za (fB zf) zf))))
    (zc (fQ (PW.pt (xg (wc (jf (Gz K rfl) (by rfl) T.isinstance n8 (za (pv 5) (za (E9 (v:=.ref zm) (by rfl) T.JL rfl) zf)))) (w9 (xh (wc (jf (Gz K rfl) (by rfl) T.isinstance n8 (za (pv 5) (za (E9 (v:=.ref zg) (by rfl) T.JN rfl) zf)))))))) (zi (sset (i:=4) cK.nd (iz (za ig (za (Ou K rfl (pv 5) rfl) zf))))) fW)
    (zi (fQ (PW.pt (xg (wc (jf (Gz K rfl) (by rfl) T.isinstance n8 (za (pv 5) (za (E9 (v:=.ref zg) (by rfl) T.JN rfl) zf)))) (w9 (xh (wc (jf (Gz K rfl) (by rfl) T.isinstance n8 (za (pv 5) (za (E9 (v:=.ref zm) (by rfl) T.JL rfl) zf)))))))) (zi (sset (i:=4) cK.nd (iz (za ig (za (aR (zo K rfl) (Ou K rfl (pv 5) rfl) zh) zf))))) fW))))) WB))
   (zi (zz (pv 4))))),?_⟩
  refine⟨by show 0<=sizeLine;decide,fun b0 rD=>?_⟩;have t0:=ak.new (o:=.tup []) rD;have F0:=hF.same t0;generalize upd H b0 (.tup [])=H0 at t0 F0;refine⟨_,rfl,_,rfl,_,rfl,_,rfl,p,pm,pu,pt,pf,lo,hi,us,av,ts,af,fs,nm,ot,w,rfl,F0,wQ,nW,EY,KP,w0,w6,fun nr hw v H1 s1=>?_,fun d q rs H1 s1 hd hq mY lr R=>?_,fun nr hw d r c e H1 s1 hd ra ri=>?_,fun nr no hw H1 s1=>?_⟩
  ·refine⟨by show 2<=sizeLine;decide,fun q hq=>?_⟩;exact⟨_,rfl,k q _ (t0.trans (s1.trans (ak.new hq))) (.inr (.inl ⟨nr,hw,v,zb⟩))⟩
  ·refine⟨zm,rfl,true,T.Xm,?_⟩;rw[aq rfl];intro e he;have t2:=ak.new (o:=fZ e zm (some d)) he;have he:upd H1 e (fZ e zm (some d)) e=some (fZ e zm (some d)):=zb;have hd:=t2 _ _ hd;have hq:=t2 _ _ hq;generalize upd H1 e (fZ e zm (some d))=H2 at t2 he hd hq;refine⟨by show 0<=sizeLine;decide,fun l hl=>⟨by show 2<=sizeLine;decide,fun q0 bg=>?_⟩⟩;have t3:=(ak.new (o:=.lst []) hl).trans (ak.new (o:=.tup [.str (Str.ofString "other"),.ref l]) bg);have he:=t3 _ _ he;have hd:=t3 _ _ hd;have hq:=t3 _ _ hq;generalize upd (upd H2 l (.lst [])) q0 (.tup [.str (Str.ofString "other"),.ref l])=H3 at t3 he hd hq
   try dsimp only [zx]
   have S:=t0.trans (s1.trans (t2.trans t3));refine mX true (fun Q' hQ=>⟨_,rfl,e,zm,some d,zm,true,rfl,he,fun d' h=>(by cases h;exact⟨_,hd⟩),T.GA,T.JM,T.Xp,_,rfl,gx ⟨_,rfl,e,zm,some d,zg,false,rfl,he,fun d' h=>(by cases h;exact⟨_,hd⟩),T.GA,T.JM,T.OO,_,rfl,hQ⟩⟩) (gx ?_);refine⟨_,rfl,e,zm,d,_,_,rfl,he,hd,T.GA,T.OF,rfl,by show 2<=sizeLine;decide,fun q2 vz=>?_⟩;have t4:=ak.new (o:=.tup [.str (Str.ofString "round"),.ref q]) vz;have he:=t4 _ _ he;have hd:=t4 _ _ hd
   try dsimp only [zx]
   refine mX false (fun Q' hQ=>⟨_,rfl,e,zm,some d,zg,false,rfl,he,fun d' h=>(by cases h;exact⟨_,hd⟩),T.GA,T.JM,T.OO,_,rfl,fR hQ⟩) (fR ?_);refine⟨_,rfl,k q2 _ (S.trans t4) (.inl ⟨fun nr=>GY nr mY R,q,rs,zb,t4 _ _ hq,mY,lr,R⟩)⟩
  ·refine⟨zg,rfl,true,T.Xn,?_⟩;rw[aq rfl];intro e' he;obtain⟨lr,h1,h2⟩:=ra;have t2:=ak.new (o:=fZ e' zg (some d)) he;have he:upd H1 e' (fZ e' zg (some d)) e'=some (fZ e' zg (some d)):=zb;have hd:=t2 _ _ hd;have h1:=t2 _ _ h1;have h2:=t2 _ _ h2;generalize upd H1 e' (fZ e' zg (some d))=H2 at t2 he hd h1 h2;refine⟨by show 0<=sizeLine;decide,fun l hl=>⟨by show 2<=sizeLine;decide,fun q0 bg=>?_⟩⟩;have t3:=(ak.new (o:=.lst []) hl).trans (ak.new (o:=.tup [.str (Str.ofString "other"),.ref l]) bg);have he:=t3 _ _ he;have hd:=t3 _ _ hd;have h1:=t3 _ _ h1;have h2:=t3 _ _ h2;generalize upd (upd H2 l (.lst [])) q0 (.tup [.str (Str.ofString "other"),.ref l])=H3 at t3 he hd h1 h2
   try dsimp only [zx]
   have S:=t0.trans (s1.trans (t2.trans t3));refine mX false (fun Q' hQ=>⟨_,rfl,e',zg,some d,zm,false,rfl,he,fun d' h=>(by cases h;exact⟨_,hd⟩),T.GB,T.JO,T.OP,_,rfl,fR hQ⟩) (fR ?_)
   try unfold qh
   try dsimp only
   refine mX true (fun Q' hQ=>⟨_,rfl,e',zg,some d,zg,true,rfl,he,fun d' h=>(by cases h;exact⟨_,hd⟩),T.GB,T.JO,T.Xq,_,rfl,gx ⟨_,rfl,e',zg,some d,zm,false,rfl,he,fun d' h=>(by cases h;exact⟨_,hd⟩),T.GB,T.JO,T.OP,_,rfl,hQ⟩⟩) (gx ?_);refine⟨_,rfl,e',zg,d,_,_,rfl,he,hd,T.GB,T.OH,rfl,r,_,_,_,rfl,rfl,bu.of h1,nJ (j:=1) rfl,by show 2<=sizeLine;decide,fun q2 vz=>?_⟩;have t4:=ak.new (o:=.tup [.str (Str.ofString "row"),.ref lr]) vz
   try dsimp only [zx]
   refine⟨_,rfl,k q2 _ (S.trans t4) (.inr (.inr (.inl ⟨nr,hw,lr,c,e,zb,t4 _ _ h2,ri⟩)))⟩
  ·refine⟨zp,rfl,true,T.Xo,?_⟩;rw[aq rfl];intro e he;have t2:=ak.new (o:=fZ e zp none) he;have he:upd H1 e (fZ e zp none) e=some (fZ e zp none):=zb;generalize upd H1 e (fZ e zp none)=H2 at t2 he;refine⟨by show 0<=sizeLine;decide,fun l hl=>⟨by show 2<=sizeLine;decide,fun q0 bg=>?_⟩⟩;have t3:=(ak.new (o:=.lst []) hl).trans (ak.new (o:=.tup [.str (Str.ofString "other"),.ref l]) bg);have he:=t3 _ _ he;have e0:upd (upd H2 l (.lst [])) q0 (.tup [.str (Str.ofString "other"),.ref l]) q0=some (.tup [.str (Str.ofString "other"),.ref l]):=zb;generalize upd (upd H2 l (.lst [])) q0 (.tup [.str (Str.ofString "other"),.ref l])=H3 at t3 he e0
   try dsimp only [zx]
   have S:=t0.trans (s1.trans (t2.trans t3));refine mX false (fun Q' hQ=>⟨_,rfl,e,zp,none,zm,false,rfl,he,(fun d' h=>nomatch h),T.OL,T.OM,T.Xr,_,rfl,fR hQ⟩) (fR ?_)
   try unfold qh
   try dsimp only
   refine mX false (fun Q' hQ=>⟨_,rfl,e,zp,none,zg,false,rfl,he,(fun d' h=>nomatch h),T.OL,T.OM,T.Xs,_,rfl,fR hQ⟩) (fR ?_);exact⟨_,rfl,k q0 _ S (.inr (.inr (.inr ⟨nr,no,hw,l,e0⟩)))⟩
theorem zwd {ln:Ln}:fC ln []:=fun s h=>(cW h).elim
inductive rS (vs:List V) (H:Hp) (Q:VK):Prop
 | mk (p pm pu pt pf:ah) (lo hi:Int) (us:List Str) (av:List ah) (ts:List aQ) (af:List ah) (fs:List c8) (_:vs = [.ref p]) (_:fT K H p pm pu pt pf lo hi us av ts af fs) (_:zn ts (aL us) = []) (_:∀(q:ah) (H':Hp),ak H H'->H' q=some (.lst [])->Q (.ref q) H')
def zrl:Sp:=fun vs H Q _=>rS (K:=K) vs H Q
theorem zwe (T:Tx K mg w zj zm zg zp):eX P w K mg base "spans" ["telling"] 9 (zrl (K:=K)):=(Qg T).good fun vs H Q E h=>by
 obtain⟨p,pm,pu,pt,pf,lo,hi,us,av,ts,af,fs,e,hF,ke,k⟩:=h;refine⟨p,pm,pu,pt,pf,lo,hi,us,av,ts,af,fs,e,hF,fun _ q f g H' s _ sp _ _ _=>?_,fun d q rs H' _ _ _ hn _ R=>?_,fun _ d r c w H' _ _ _ ri=>?_⟩
 ·obtain⟨as,h1,h2⟩:=sp;rw[ke] at h2;cases h2;exact k q H' s h1
 ·rw[ke] at R;exact (R.gh.mp hn).elim fun s h=>(cW h.1).elim
 ·obtain⟨k',m,hk,_⟩:=ri;rw[ke] at hk;exact (cW hk).elim
theorem G3 {H:Hp}{a b:ah}{n:Nat}(ha:H a=some (.lst [])) (hb:H b=some (.lst [])):dH K H (n+1) (.ref a) (.ref b) true:=by
 have:=dH.lst (n:=n) (K:=K) (fun _=>true) (aJ.of ha) (aJ.of hb) rfl (fun i x y h=>by cases h);rw[gF.mpr fun _ _=>rfl] at this;exact this
theorem dH.yS {K:aF}{H:Hp}{n:Nat}{a b:ah}{xs ys:List V}(hx:aJ K H a xs) (hy:aJ K H b ys) (hl:xs.length=ys.length) (h:∀(i:Nat) x y,xs[i]? = some x->ys[i]? = some y->dH K H n x y true):dH K H (n+1) (.ref a) (.ref b) true:=by
 have:=dH.lst (n:=n) (fun _=>true) hx hy hl h;rw[gF.mpr fun _ _=>rfl] at this;exact this
theorem Qt {H:Hp}{n:Nat}{as bs:List ah}{i7:List (List V)}(ta:cy H as i7) (tb:cy H bs i7) (hw:∀vs∈i7,∀v∈vs,Wd v):∀(i:Nat) x y,(as.map V.ref)[i]? = some x->(bs.map V.ref)[i]? = some y->dH K H (n+1) x y true:=by
 intro i x y ex ey;rw[aM] at ex ey;cases ea:as[i]? with
 | none=>rw[ea] at ex;cases ex
 | some a=>
  cases eb:bs[i]? with
  | none=>rw[eb] at ey;cases ey
  | some b=>
   rw[ea] at ex;rw[eb] at ey;cases ex;cases ey;obtain⟨ws,e1,h1⟩:=ta.at ea;obtain⟨ws',e2,h2⟩:=tb.at eb;rw[e1] at e2;cases e2;have fl:∀v∈ws,oX v=true:=fun v hv=>(hw ws (bN e1) v hv).flat
   have:=dH.uT (n:=n) (bu.of (K:=K) h1) (bu.of h2) fl fl
   rwa [Iq fl] at this
theorem zyn {H:Hp}{p pm pu pt pf p' Kg GI qy BB:ah}{lo hi:Int}{us:List Str}{ts:List aQ}{fs:List c8}{at' af bt bf:List ah}(A:kX K H p pm pu pt pf lo hi us ts fs at' af) (B:kX K H p' Kg GI qy BB lo hi us ts fs bt bf) (ht:∀vs∈ts.map cH,∀v∈vs,Wd v) (hf:∀vs∈fs.map gK,∀v∈vs,Wd v):dH K H 8 (.ref p) (.ref p') true:=by
 refine dH.Dh (n:=7) A.p B.p rfl (fun i x y ex ey=>?_)
 match i,ex,ey with
 | 0,ex,ey=>
  cases ex;cases ey;have fl:∀v∈([V.int lo,V.int hi]:List V),oX v=true:=by simp[oX]
  have:=dH.uT (n:=6) A.at'.m B.at'.m fl fl
  rwa [Iq fl] at this
 | 1,ex,ey=>
  cases ex;cases ey;refine dH.uU (n:=6) A.at'.u B.at'.u fun x hx=>?_
  obtain⟨z,_,rfl⟩:=br.mp hx;have:=dH.flat (K:=K) (H:=H) (n:=6) (x:=.str z) (y:=.str z) rfl rfl
  rwa [C8 rfl] at this
 | 2,ex,ey=>
  cases ex;cases ey;exact dH.yS (n:=6) A.at'.t B.at'.t (by rw[ay,ay,A.at'.tt.len,B.at'.tt.len]) (Qt A.at'.tt B.at'.tt ht)
 | 3,ex,ey=>
  cases ex;cases ey;exact dH.yS (n:=6) A.at'.f B.at'.f (by rw[ay,ay,A.at'.ft.len,B.at'.ft.len]) (Qt A.at'.ft B.at'.ft hf)
 | i+4,ex,ey=>cases ex
def EZ:Nat:=14
def vW:Sp:=fun vs H Q _=>∃(a:ah) (ns:List Int),vs = [.ref a]/\aJ K H a (ns.map V.int)/\ns.length<=63/\∀H',Q (.bl true) H'
theorem zte {ts:List aQ}:zn ts (aL []) = []:=rfl
theorem Qu {us:List Str}{i:Int}(h0:0<=i) (h1:i<(us.length:Int)):∃x∈us,kr (us.map V.str) i=some (.str x):=by
 have hi:i.toNat<us.length:=by lia
 refine⟨us[i.toNat],jW hi,?_⟩;have:=nJ (xs:=us.map V.str) (j:=i.toNat) (v:=.str us[i.toNat]) (by simp[hi]);rw[mC h0] at this;exact this
def Words (H:Hp) (qs:List ah) (lo hi:Int) (us:List Str) (av:List ah) (ts:List aQ) (af:List ah) (fs:List c8):Prop:=∀(j:Nat) q,qs[j]? = some q->eT H q (j:Int) lo hi us av ts af fs
theorem Words.same {H H':Hp}{qs:List ah}{lo hi:Int}{us:List Str}{av:List ah}{ts:List aQ}{af:List ah}{fs:List c8}(h:Words H qs lo hi us av ts af fs) (s:ak H H'):Words H' qs lo hi us av ts af fs:=fun j q e=>(h j q e).same s
theorem zyo {us:List Str}{f:c8}{j:Int}(h:uZ us f) (hj:j=0\/j=1):uZ us (yJ j f):=by
 rcases hj with rfl | rfl
 ·exact⟨h.n,h.u,h.le,h.lo,h.hi⟩
 ·exact⟨h.n,h.u,dY _,h.lo,h.lo⟩
theorem Qv {lo hi:Int}{us:List Str}{av:List ah}{ts:List aQ}{af:List ah}{fs:List c8}{c:eE}{w:Str}(no:pW lo hi us av ts af fs) (ri:uw lo hi us av ts af fs c w):False:=by
 obtain⟨k,m,hk,u,g,_,hl,_⟩:=ri;have:=no k hk c m u g;lia
theorem zwf {lo hi:Int}{us:List Str}{av:List ah}{ts:List aQ}{af:List ah}{fs:List c8}{c c':eE}{w w':Str}(h:uw lo hi us av ts af fs c w) (h':uw lo hi us av ts af fs c' w'):c.2.2.length=c'.2.2.length:=by
 obtain⟨k,m,hk,u,g,_,hl,mn⟩:=h;obtain⟨k',m',gj,u',g',_,o5,mn'⟩:=h';rcases kC c.2.2.length c'.2.2.length with z | z | z
 ·have:=mn' k hk c m u g z;lia
 ·exact z
 ·have:=mn k' gj c' m' u' g' z;lia
theorem zzm {R:Rw}{F:Str->IS->Prop}{k:Str}{c:eE}(h:Up R F k c):∀b∈c.2.2,∃k l,(l,b)∈R k:=by
 induction h with
 | bare h=>intro b hb;exact (cW hb).elim
 | up u h ih=>
  intro b hb;rcases bM.mp hb with hb | hb
  ·exact ih b hb
  ·rw[iF.mp hb];exact⟨_,_,h⟩
theorem eT.two {H:Hp}{q:ah}{w lo hi:Int}{us:List Str}{av:List ah}{ts:List aQ}{af:List ah}{fs:List c8}(h:eT H q w lo hi us av ts af fs):∃x v,H q=some (.tup [x,v]):=by
 rcases h with ⟨a,l,rs,h1,h2,h3⟩ | ⟨a,b,v,h⟩ | ⟨a,b,l,c,e,h1,h2,h3⟩ | ⟨a,b,c,l,h⟩
 ·exact⟨_,_,h1⟩
 ·exact⟨_,_,h⟩
 ·exact⟨_,_,h1⟩
 ·exact⟨_,_,h⟩
theorem eT.put {H:Hp}{q D:ah}{qs:List ah}{o:HO}{w lo hi:Int}{us:List Str}{av:List ah}{ts:List aQ}{af:List ah}{fs:List c8}(h:eT H q w lo hi us av ts af fs) (T:cy H av (ts.map cH)) (hD:H D=some (.lst (qs.map V.ref))) (two:∀q∈qs,∃x v,H q=some (.tup [x,v])) (mY:4<=w->qs≠[]):eT (upd H D o) q w lo hi us av ts af fs:=by
 have tup:∀{q:ah}{xs:List V},H q=some (.tup xs)->upd H D o q=some (.tup xs):=fun {q xs} e=>by
  rw[zr (fun z=>by rw[z,hD] at e;cases e)];exact e
 have no:∀{r:ah}{t:aQ},(t,r)∈ts.zip av->r∈qs->False:=fun {r t} hz hr=>by
  obtain⟨x,v,e⟩:=two r hr;rw[(T.u9 hz).1] at e;unfold cH at e;cases e
 rcases h with ⟨a,l,rs,h1,h2,h3,h4,h5⟩ | ⟨a,b,v,h⟩ | ⟨a,b,l,c,e,h1,h2,h3⟩ | ⟨a,b,c,l,h⟩
 ·refine .inl ⟨a,l,rs,tup h1,?_,h3,h4,h5⟩;rw[zr (fun z=>?_)]
  ·exact h2
  ·rw[z,hD] at h2;have e:qs=rs:=by
    have:=HO.lst.inj (cX h2);exact (List.map_inj_right (fun _ _ e=>V.ref.inj e)).mp this
   obtain⟨vs,rt⟩:=h5.xB;cases rs with
   | nil=>exact h3 rfl
   | cons x r=>
    obtain⟨t,hz,_⟩:=rt.at' 0 x rfl;exact no hz (by rw[e];exact iE ..)
 ·exact .inr (.inl ⟨a,b,v,tup h⟩)
 ·refine .inr (.inr (.inl ⟨a,b,l,c,e,tup h1,?_,h3⟩));rw[zr (fun z=>?_)]
  ·exact h2
  ·rw[z,hD] at h2;have e2:qs=c.2.2.map (·.2):=by
    have:=HO.lst.inj (cX h2);rw[show (fun p:Tr=>V.ref p.2)=V.ref ∘ (fun p:Tr=>p.2) from rfl,←fO] at this;exact (List.map_inj_right (fun _ _ e=>V.ref.inj e)).mp this
   obtain⟨k,m,hk,u,_⟩:=h3;cases qs with
   | nil=>exact mY b rfl
   | cons x r=>
    have hx:x∈c.2.2.map (·.2):=by rw[←e2];exact iE ..
    obtain⟨bb,hb,ex⟩:=br.mp hx;obtain⟨k',l',hr⟩:=zzm u bb hb;exact no (t:=bb.1) (r:=bb.2) (ng.mp hr).1 (by rw[ex];exact iE ..)
 ·exact .inr (.inr (.inr ⟨a,b,c,l,tup h⟩))
theorem BR {s t:TS}{D:Ends}{σ:St}{H:Hp}(h:∀N:St->Hp->Prop,(∀aK H',t D aK H'->N aK H')->s { D with nx:=N } σ H):xj s t D σ H:=h _ fun _ _ q=>q
set_option maxHeartbeats 16000000 in
theorem E2 (T:Tx K mg w zj zm zg zp):eX P w K mg base "law" ["_law_script"] EZ (vW (K:=K)):=by
 refine T.Yg.has gY (fun vs H Q E h=>?_) (fun f bX A outer s H vs Q E hr h=>?_)
 ·obtain⟨a,ns,rfl,_⟩:=h;rfl
 ·obtain⟨a,ns,rfl,ha,hl,k⟩:=h;refine⟨_,(zc (sset (i:=1) gY.nd (bw (YN T) (za (pv 0) (za (rW jQ (bw (zy T) (za (bw (wI T) (za (pv 0) (za zh zf))) (za zh (za zh zf)))) zh (dW _)) zf))))
   (zc (sset (i:=1) gY.nd (bw (zh1 T) (za (pv 1) (za (bw (wI T) (za (pv 0) (za zh zf))) zf))))
   (zc (fQ (e7 (Ab K rfl (j5 hr)) (aR (zo K rfl) (pv 1) zh) (fB zf) (dW _)) (zi (zz (y9 (rW (Ab K rfl (j5 hr)) (bw (BG T) (za (pv 1) zf)) (fB zf) (dW _)) (y9 (rW (Ab K rfl (j5 hr)) (bw (zwe T) (za (pv 1) zf)) (fB zf) (dW _)) (y9 (rW (Ab K rfl (j5 hr)) (bw (Kq T) (za (pv 1) zf)) (fB zf) (dW _)) (Fd (rW (Ab K rfl (j5 hr)) (bw (Pp T) (za (pv 1) zf)) (fB zf) (dW _)))))))) fW)
   (zc (sset (i:=2) gY.nd (aR (gJ K rfl) (aR (zo K rfl) (pv 1) zh) (bw (zy T) (za (bw (wI T) (za (pv 0) (za zh zf))) (za zh (za (jf (r9 K rfl) (by rfl) T.len cP (za (aR (zo K rfl) (pv 1) zh) zf)) zf))))))
   (zc (sset (i:=3) gY.nd (aR (gJ K rfl) (aR (zo K rfl) (pv 1) zh) (bw (zy T) (za (bw (wI T) (za (pv 0) (za zh zf))) (za zh (za (jf (r9 K rfl) (by rfl) T.len cP (za (aR (zo K rfl) (pv 1) zh) zf)) zf))))))
   (zc (sset (i:=4) gY.nd (jf (r9 K rfl) (by rfl) T.len cP (za (bw (Ka T) (za (bw (O8 T) (za (pv 1) zf)) zf)) zf)))
   (zc (sset (i:=5) gY.nd (bw (O8 T) (za (pv 1) zf)))
   (zc (sset (i:=6) gY.nd (r8 (own:=["_law_way"]) (cap:=["_law_handed","_law_name","_law_other"]) (ix:=[5,2,3]) (kW:=zq (top 60)) rfl ⟨rfl,by decide +kernel,by decide +kernel,by decide +kernel,by decide +kernel⟩ rfl (zD (by rfl) T.range (za zh zf)) (fun _ _ _ _=>mS (i:=0) (show List.Nodup (["_law_way","_law_handed","_law_name","_law_other"]:List Str) by decide +kernel) rfl (Or.inl rfl)) (fun _ _ _ _=>qo) (fun _ _ _ _=>(bw (zk2 T) (za (pv 0) (za (pv 1) (za (pv 2) (za (pv 3) zf))))))))
   (zc (fQ (e7 (zev K rfl (j5 hr)) (pv 5) (pv 1) (dW _)) (zi (zz sH)) fW)
   (zc (fQ (e7 A7 (pv 4) zh (dW _)) (zi (zz (rW (S9 K rfl) sH (r8 (own:=["_law_one"]) (cap:=["_law_telling_here","_law_many"]) (ix:=[1,4]) (kW:=zq (top 60)) rfl ⟨rfl,by decide +kernel,by decide +kernel,by decide +kernel,by decide +kernel⟩ rfl (ir K rfl (pv 6)) (fun _ _ _ _=>mS (i:=0) (show List.Nodup (["_law_one","_law_telling_here","_law_many"]:List Str) by decide +kernel) rfl (Or.inl rfl)) (fun _ _ _ _=>qo) (fun _ _ _ _=>(y9 (rW jQ (aR (zo K rfl) (pv 0) zh) ig (dW _)) (Fd (bw (zgd T) (za (pv 1) (za (aR (zo K rfl) (pv 0) zh) (za (pv 2) zf)))))))) (by with_unfolding_all rfl)))) fW)
   (zc (fQ (e7 (zev K rfl (j5 hr)) (r8 (own:=["_law_one"]) (cap:=[]) (ix:=[]) (kW:=zq (top 60)) rfl ⟨rfl,by decide +kernel,by decide +kernel,by decide +kernel,by decide +kernel⟩ rfl (ir K rfl (sL (Aa K rfl) (pv 6) uK (qR zh))) (fun _ _ _ _=>mS (i:=0) (show List.Nodup (["_law_one"]:List Str) by decide +kernel) rfl (Or.inl rfl)) (fun _ _ _ _=>qo) (fun _ _ _ _=>(aR (zo K rfl) (pv 0) zh))) (fB (za ig (za ig (za ig (za ig zf))))) (dW _)) (zi (zz sH)) fW)
   (zc (fQ (e7 jQ (aR (zo K rfl) (aR (gJ K rfl) (pv 6) zh) zh) ig (dW _)) (zc (C3 (i:=7) (own:=["_law_one"]) (cap:=["_law_words"]) (ix:=[6]) (kW:=zq (top 60)) rfl gY.nd rfl rfl rfl ⟨rfl,by decide +kernel,by decide +kernel,by decide +kernel,by decide +kernel⟩ rfl (ir K rfl (sL (Aa K rfl) (pv 6) (qR zh) uK)) (fun _ _ _ _=>mS (i:=0) (show List.Nodup (["_law_one","_law_words"]:List Str) by decide +kernel) rfl (Or.inl rfl)) (fun _ _ _ _=>qo) (fun _ _ _ _=>(y9 (rW jQ (aR (zo K rfl) (pv 0) zh) ig (dW _)) (Fd (rW jQ (jf (r9 K rfl) (by rfl) T.len cP (za (aR (zo K rfl) (pv 0) zh) zf)) (jf (r9 K rfl) (by rfl) T.len cP (za (aR (zo K rfl) (aR (gJ K rfl) (pv 1) zh) zh) zf)) (dW _))))))
    (zi (zz (rW (Ab K rfl (j5 hr)) (pv 7) (fB (za sH (za sH zf))) (dW _))))) fW)
   (zi (zz (y9 (rW jQ (aR (zo K rfl) (aR (gJ K rfl) (pv 6) zh) zh) ig (dW _)) (y9 (rW jQ (aR (zo K rfl) (aR (gJ K rfl) (pv 6) zh) zh) ig (dW _)) (Fd (rW jQ (aR (zo K rfl) (aR (gJ K rfl) (pv 6) zh) zh) ig (dW _))))))))))))))))))),?_⟩
  rw[show L2.start (["_law_script","_law_telling_here","_law_name","_law_other","_law_many","_law_handed","_law_words","_law_alike"]:List Str) [V.ref a] = [some (V.ref a),none,none,none,none,none,none,none] from rfl];refine BR fun N kN=>?_
  refine⟨_,rfl,_,rfl,a,ns,_,rfl,ha,by decide,_,_,_,rfl,by decide,?_⟩;refine⟨rfl,a,ns,_,rfl,ha,hl,fun p0 pm pu qy pf0 lo hi us ts G4 at' af0 H1 dat _ hp Qw s1=>?_⟩;refine kN _ _ ?_;clear N kN
  try dsimp only [zx,List.set]
  have f6:=dat.fl;refine BR fun N kN=>?_
  refine⟨_,rfl,_,rfl,a,ns,_,rfl,s1.seq ha,by decide,p0,pm,pu,qy,pf0,lo,hi,us,ts,G4,at',af0,_,rfl,Qw,by lia,fun p pf j af H2 hj s2 hA=>?_⟩;refine kN _ _ ?_;clear N kN
  try dsimp only [zx,List.set]
  have Bp:∀f∈G4.map (yJ j),uZ us f:=fun f hf=>by
   obtain⟨g,hg,rfl⟩:=br.mp hf;exact zyo (dat.Bp g hg) hj
  have fl:(G4.map (yJ j)).length<=6:=by rw[ay];exact f6
  have ha:=(s1.trans s2).seq ha;generalize G4.map (yJ j)=fs at *;have hw:=dat.tw;have hfw:∀vs∈fs.map gK,∀v∈vs,Wd v:=fun vs hv=>by
   obtain⟨f,hf,rfl⟩:=br.mp hv;exact (Bp f hf).words dat.nm
  have tg:∀{H:Hp}{p pu pt pf:ah},kX K H p pm pu pt pf lo hi us ts fs at' af->fT K H p pm pu pt pf lo hi us at' ts af fs:=fun h=>h.Jw dat.nd (by have:=dat.ul;lia) (by have:=dat.tl;lia) dat.tok (fun f hf=>(Bp f hf).u) (by lia)
  have wQ:ts.length<=60:=by have:=dat.tl;lia
  clear hp Qw s2 s1 hj;refine yu (decide (us.map V.str = [])) (fun Q' hQ=>?_) (fun H3 s3=>?_)
  ·refine⟨_,rfl,p,_,_,_,rfl,rfl,hA.p,rfl,by show 0<=sizeLine;decide,fun e he=>?_⟩;exact⟨pu,e,_,rfl,rfl,dH.sO ((ak.new he).seq hA.at'.u) (aJ.of zb),_,rfl,hQ _ (ak.new he)⟩
  have hA:=hA.same s3;have ha:=s3.seq ha;clear s3;refine bZ (fun c=>?_) (fun c=>?_)
  ·have c:=List.map_eq_nil_iff.mp (aP c);subst c;have F:=tg hA;have ke:zn ts (aL []) = []:=zte;have nr:fC (cG ts (ts.zip at')) (zn ts (aL [])):=by rw[ke];exact zwd
   refine⟨_,rfl,p,pu,qy,_,_,[],at',ts,rfl,F.eU,nr,fun q os H4 s4 _ hq _ pr=>?_⟩;rw[ke] at pr;have eo:=pr.eq_nil;subst eo;refine⟨by show 0<=sizeLine;decide,fun e he=>?_⟩;have t4:=ak.new (o:=.lst []) he;refine⟨q,e,true,rfl,rfl,G3 (t4 _ _ hq) zb,_,rfl,gx ?_⟩;have q4:=s4.trans t4;refine⟨_,rfl,p,pm,pu,qy,pf,lo,hi,[],at',ts,af,fs,rfl,F.same q4,ke,fun q2 H5 s5 vz=>?_⟩;refine⟨by show 0<=sizeLine;decide,fun e2 Bv=>?_⟩;have t5:=ak.new (o:=.lst []) Bv;refine⟨q2,e2,true,rfl,rfl,G3 (t5 _ _ vz) zb,_,rfl,gx ?_⟩;have q5:=q4.trans (s5.trans t5);refine⟨_,rfl,p,pu,qy,_,_,[],at',ts,rfl,(F.same q5).eU,wQ,nr,fun D bs qs H6 s6 _ hD pb _ _ dr=>?_⟩;have eq:qs = []:=by
    cases qs with
    | nil=>rfl
    | cons x r=>
     have:=(dr x).mp (iE ..);rw[ke] at this;exact (cW this.1).elim
   subst eq;cases pb;refine⟨by show 0<=sizeLine;decide,fun e3 he3=>?_⟩;have t6:=ak.new (o:=.lst []) he3;refine⟨D,e3,true,rfl,rfl,G3 (t6 _ _ hD) zb,_,rfl,gx ?_⟩;have q6:=q5.trans (s6.trans t6);refine⟨_,rfl,p,pu,qy,_,_,[],at',ts,rfl,(F.same q6).eU,nr,fun q3 cs lv H7 s7 _ hq3 _ _ _ _ L=>?_⟩;have ec:cs = []:=by
    rw[ke] at L;cases cs with
    | nil=>rfl
    | cons x r=>
     obtain⟨y,hy,_⟩:=L.all 0 (by rw[iK];lia);exact (cW hy).elim
   subst ec;refine⟨by show 0<=sizeLine;decide,fun e4 he4=>?_⟩;have t7:=ak.new (o:=.lst []) he4;exact⟨q3,e4,true,rfl,rfl,G3 (t7 _ _ hq3) zb,k _⟩
  have une:us≠[]:=fun z=>c (aO (by rw[z];rfl))
  have tZ:(0:Int)<(us.length:Int):=by have:=jC.mpr une;lia
  try unfold qh
  try dsimp only
  obtain⟨nm,nW,enm⟩:=Qu (us:=us) (iB (lT ns 28) 90 _ tZ).1 (iB (lT ns 28) 90 _ tZ).2;obtain⟨ot,EY,eot⟩:=Qu (us:=us) (iB (lT ns 28) 91 _ tZ).1 (iB (lT ns 28) 91 _ tZ).2;refine BR fun N kN=>?_
  refine⟨_,rfl,p,_,_,_,rfl,rfl,hA.p,rfl,_,rfl,a,ns,_,rfl,ha,by decide,_,rfl,p,_,_,_,rfl,rfl,hA.p,rfl,pu,_,rfl,.inl hA.at'.u,?_⟩;rw[ay];refine⟨_,_,_,rfl,tZ,pu,_,_,_,rfl,rfl,hA.at'.u,enm,?_⟩;refine kN _ _ ?_;clear N kN
  try dsimp only [zx,List.set]
  refine BR fun N kN=>?_
  refine⟨_,rfl,p,_,_,_,rfl,rfl,hA.p,rfl,_,rfl,a,ns,_,rfl,ha,by decide,_,rfl,p,_,_,_,rfl,rfl,hA.p,rfl,pu,_,rfl,.inl hA.at'.u,?_⟩;rw[ay];refine⟨_,_,_,rfl,tZ,pu,_,_,_,rfl,rfl,hA.at'.u,eot,?_⟩;refine kN _ _ ?_;clear N kN
  try dsimp only [zx,List.set]
  refine BR fun N kN=>?_
  refine⟨_,rfl,p,pm,pu,qy,pf,lo,hi,us,ts,fs,at',af,rfl,hA,fun p1 pu1 pt1 pf1 H4 kZ EW s4=>?_⟩;refine⟨p1,pu1,pt1,_,_,us,at',ts,rfl,(tg EW).eU,fun q rs H5 s5 _ hq lr R=>?_⟩;refine⟨q,_,rfl,.inl (aJ.of hq),?_⟩;rw[ay];refine kN _ _ ?_;clear N kN
  try dsimp only [zx,List.set]
  have KR:=hA.same (s4.trans s5);refine BR fun N kN=>?_
  refine⟨_,rfl,p,pm,pu,qy,pf,lo,hi,us,ts,fs,at',af,rfl,KR,fun p2 pu2 Ce pf2 H6 oY vU s6=>?_⟩;refine kN _ _ ?_;clear N kN
  try dsimp only [zx,List.set]
  have Qx:=KR.same s6;clear hq kZ EW KR s4 s5 hA s6 ha oY;refine⟨7,rfl,by decide,by decide,fun D hD=>?_⟩;refine uh (LY (lo:=0) (n:=((7:Int)).toNat)) (fun i aK ys H'=>∃v0 qs,aK = [v0,some (.ref p2),some (.str nm),some (.str ot)]/\ys=List.map V.ref qs/\qs.length=i/\Words H' qs lo hi us at' ts af fs/\ak H6 H'/\H' D=some (.lst ys))
   ⟨none,[],rfl,rfl,rfl,(fun j q e=>by cases e),ak.new hD,zb⟩ (fun i aK ys H' h=>?_) (by show 7<=sizeLine;decide) ?_ ?_
  ·obtain⟨_,qs,_,rfl,l,_,_,hd⟩:=h;exact⟨trivial,hd,by rw[ay,l];exact aH _⟩
  ·rintro i v aK ys H' hx ⟨v0,qs,rfl,rfl,l,ws,q',hd⟩;have gI:=iA hx;rw[ay,ju] at gI;have hx:v = .int (i:Int):=by
    rw[aM,List.getElem?_range gI] at hx;cases hx;show V.int (0+(i:Int))=_;rw[kM]
   subst hx;have hi7:i<7:=gI;unfold zx lH;dsimp only [List.set];refine gx ?_;refine⟨_,rfl,_,rfl,_,rfl,_,rfl,p2,pm,pu2,Ce,pf2,lo,hi,us,at',ts,af,fs,nm,ot,(i:Int),rfl,(tg vU).same q',wQ,nW,EY,by lia,by lia,by lia,fun q1 H7 s7 wi=>?_⟩;have lC:=s7 _ _ hd;refine⟨lC,pI (by rw[ay,ju];exact gI) ⟨_,qs++[q1],rfl,by rw[aT];rfl,by rw[bL,l];rfl,fun j q e=>?_,(q'.trans s7).upd hD,zb⟩⟩;have T7:=((tg vU).same (q'.trans s7)).eU.tt;have two:∀q∈qs,∃x v,H7 q=some (.tup [x,v]):=fun q hq=>by
    obtain⟨j,hj⟩:=g7.mp hq;exact ((ws j q hj).same s7).two
   by_cases hj:j<qs.length
   ·rw[jl hj] at e;exact ((ws j q e).same s7).put T7 lC two (fun _ z=>by rw[z] at hj;cases hj)
   ·have ej:j=qs.length:=by
     have:=iA e;rw[bL] at this;have:j<qs.length+1:=this;lia
    subst ej;rw[k8 (aH _),Nat.sub_self] at e;cases e;rw[l];exact wi.put T7 lC two (fun h4 z=>by rw[z] at l;have:i=0:=l.symm;lia)
  rintro aK ys H7 ⟨v0,qs,rfl,rfl,l7,ws,s7,hd⟩;rw[ay,ju] at l7;have l7:qs.length=7:=l7;have vU:=vU.same s7;have hA:=Qx.same s7;clear Qx s7 hD
  try dsimp only [zx,List.set]
  refine yu false (fun Q' hQ=>⟨_,rfl,_,rfl,p2,p,true,rfl,rfl,zyn vU hA hw hfw,_,rfl,hQ _ (ak.refl _)⟩) (fun H8 s8=>fR ?_);have ws:=ws.same s8;have hd:=s8 _ _ hd;have hA:=hA.same s8;clear s8 vU
  try unfold qh
  try dsimp only
  obtain⟨q0,q1,q2,q3,q4,q5,q6,rfl⟩:∃q0 q1 q2 q3 q4 q5 q6,qs = [q0,q1,q2,q3,q4,q5,q6]:=by
   match qs,l7 with
   | [q0,q1,q2,q3,q4,q5,q6],_=>exact⟨_,_,_,_,_,_,_,rfl⟩
  have w0:=ws 0 _ rfl;have w1:=ws 1 _ rfl;have w2:=ws 2 _ rfl;have w3:=ws 3 _ rfl;have w4:=ws 4 _ rfl;have w5:=ws 5 _ rfl;have w6:=ws 6 _ rfl;refine mX (decide ((0:Int)<(rs.length:Int))) (fun Q' hQ=>⟨_,rfl,_,_,rfl,rfl,_,rfl,hQ⟩) ?_;refine bZ (fun c=>?_) (fun c=>?_)
  ·have c:=aP c;have rne:rs≠[]:=fun z=>by rw[z] at c;exact absurd c (by decide)
   have nn:¬fC (cG ts (ts.zip at')) (zn ts (aL us)):=fun nr=>GY nr rne R
   have rd:∀q∈[q0,q1,q2,q3,q4,q5,q6],∃l xs,H8 q=some (.tup [.str (Str.ofString "round"),.ref l])/\H8 l=some (.lst (xs.map V.ref))/\xs≠[]/\xs.length<=64/\lV (cG ts (ts.zip at')) (zn ts (aL us)) xs:=fun q hq=>by
    obtain⟨j,hj⟩:=g7.mp hq;rcases ws j q hj with ⟨_,z⟩ | ⟨nr,_⟩ | ⟨nr,_⟩ | ⟨nr,_⟩
    ·exact z
    ·exact absurd nr nn
    ·exact absurd nr nn
    ·exact absurd nr nn
   refine⟨_,rfl,D,rfl,⟨_,aJ.of hd⟩,fun E' hE=>?_⟩;refine Ir (wo (K:=K) (a:=D) (xs:=[q0,q1,q2,q3,q4,q5,q6].map V.ref)) (fun _=>.bl true) hE (fun H' s=>aJ.of (s _ _ hd)) (by show 7<=sizeLine;decide) (fun v hv H' Q' s hQ=>?_) (fun H9 s9 h9=>?_)
   ·obtain⟨q,hm,rfl⟩:=br.mp hv;obtain⟨l,xs,h1,h2,h3,h4,h5⟩:=rd q hm;obtain⟨vs,rt⟩:=h5.xB;refine⟨_,rfl,q,_,_,_,rfl,rfl,bu.of (s _ _ h1),sd,rfl,_,rfl,?_⟩;rw[aO rfl];refine gx ⟨_,rfl,_,rfl,q,_,_,_,rfl,rfl,bu.of (s _ _ h1),nJ (j:=1) rfl,_,rfl,p,pu,qy,l,_,_,us,at',xs,ts,vs,?_,((tg hA).same s).eU,hw,s _ _ h2,h3,by lia,rt,fun FQ s'=>hQ _ s'⟩;rw[R.len h5];rfl
   ·refine⟨E',_,rfl,.inl (aJ.of h9),rfl,rfl,?_⟩;exact k _
  have KS:rs = []:=by
   cases rs with
   | nil=>rfl
   | cons x r=>exact absurd (aO (by rw[iK];lia)) c
  have nr:fC (cG ts (ts.zip at')) (zn ts (aL us)):=by
   rcases R with ⟨_,h⟩ | ⟨e,_⟩
   ·exact h
   ·exact absurd KS e
  have told:∀{q:ah}{w:Int},w<=3->eT H8 q w lo hi us at' ts af fs->∃v,H8 q=some (.tup [.str (Str.ofString "told"),v]):=fun {q w} hw h=>by
   rcases h with ⟨nn,_⟩ | ⟨_,_,z⟩ | ⟨_,z,_⟩ | ⟨_,_,z,_⟩
   ·exact absurd nr nn
   ·exact z
   ·lia
   ·lia
  obtain⟨y0,h0⟩:=told (by decide) w0;obtain⟨y1,h1⟩:=told (by decide) w1;obtain⟨y2,h2⟩:=told (by decide) w2;obtain⟨y3,h3⟩:=told (by decide) w3
  try unfold qh
  try dsimp only
  refine yu false (fun Q' hQ=>?_) (fun H9 s9=>fR ?_)
  ·refine⟨_,rfl,_,rfl,D,_,rfl,aJ.of hd,fun p9 KU=>?_⟩;rw[show jg ([q0,q1,q2,q3,q4,q5,q6].map V.ref) none (some 4) = [q0,q1,q2,q3].map V.ref from rfl];have t9:=ak.new (o:=.lst ([q0,q1,q2,q3].map V.ref)) KU;have e9:upd H8 p9 (.lst ([q0,q1,q2,q3].map V.ref)) p9=some (.lst ([q0,q1,q2,q3].map V.ref)):=zb;generalize upd H8 p9 (.lst ([q0,q1,q2,q3].map V.ref))=H9 at t9 e9;refine⟨p9,rfl,⟨_,aJ.of e9⟩,fun E' hE=>?_⟩;refine Ir (wo (K:=K) (a:=p9) (xs:=[q0,q1,q2,q3].map V.ref)) (fun _=>.str (Str.ofString "told")) hE (fun H' s=>aJ.of (s _ _ e9)) (by show 4<=sizeLine;decide) (fun v hv H' Q' s hQ=>?_) (fun Ha sa ea=>?_)
   ·obtain⟨q,hm,rfl⟩:=br.mp hv;have:∃y,H8 q=some (.tup [.str (Str.ofString "told"),y]):=by
     simp only [aN,cW,eZ] at hm;rcases hm with rfl | rfl | rfl | rfl
     ·exact⟨_,h0⟩
     ·exact⟨_,h1⟩
     ·exact⟨_,h2⟩
     ·exact⟨_,h3⟩
    obtain⟨y,hy⟩:=this;exact⟨_,rfl,q,_,_,_,rfl,rfl,bu.of (s _ _ (t9 _ _ hy)),sd,hQ _ (ak.refl _)⟩
   ·refine⟨by show 4<=sizeLine;decide,fun pb ye=>?_⟩;have tb:=ak.new (o:=.lst [.str (Str.ofString "told"),.str (Str.ofString "told"),.str (Str.ofString "told"),.str (Str.ofString "told")]) ye;refine⟨E',pb,true,rfl,rfl,?_,_,rfl,hQ _ (t9.trans (sa.trans tb))⟩;refine dH.uU (n:=7) (aJ.of (tb _ _ ea)) (aJ.of zb) fun x hx=>?_
    simp only [fL,jK,aN,cW,eZ] at hx;have ex:x = .str (Str.ofString "told"):=by rcases hx with rfl | rfl | rfl | rfl<;>rfl
    subst ex;have:=dH.flat (K:=K) (H:=upd Ha pb (.lst [.str (Str.ofString "told"),.str (Str.ofString "told"),.str (Str.ofString "told"),.str (Str.ofString "told")])) (n:=7) (x:=.str (Str.ofString "told")) (y:=.str (Str.ofString "told")) rfl rfl
    rwa [C8 rfl] at this
  try unfold qh
  try dsimp only
  have hd:=s9 _ _ hd;have w4:=w4.same s9;have w5:=w5.same s9;have w6:=w6.same s9
  by_cases no:pW lo hi us at' ts af fs
  ·have Qy:∀{q:ah}{w:Int},w=4\/w=6->eT H9 q w lo hi us at' ts af fs->∃v,H9 q=some (.tup [.str (Str.ofString "told"),v]):=fun {q w} hw h=>by
    rcases h with ⟨nn,_⟩ | ⟨_,_,z⟩ | ⟨_,_,_,_,_,_,_,ri⟩ | ⟨_,_,z,_⟩
    ·exact absurd nr nn
    ·exact z
    ·exact (Qv no ri).elim
    ·lia
   obtain⟨y4,h4⟩:=Qy (.inl rfl) w4;obtain⟨y6,h6⟩:=Qy (.inr rfl) w6;obtain⟨l5,h5⟩:∃l,H9 q5=some (.tup [.str (Str.ofString "other"),.ref l]):=by
    rcases w5 with ⟨nn,_⟩ | ⟨_,z,_⟩ | ⟨_,_,_,_,_,_,_,ri⟩ | ⟨_,_,_,z⟩
    ·exact absurd nr nn
    ·lia
    ·exact (Qv no ri).elim
    ·exact z
   refine mX false (fun Q' hQ=>⟨_,rfl,D,_,_,_,rfl,rfl,aJ.of hd,nJ (j:=4) rfl,q4,_,_,_,rfl,rfl,bu.of h4,sd,rfl,_,rfl,by rw[aV (fun z=>absurd (V.str.inj z) (by decide +kernel))];exact hQ⟩) (fR ?_)
   try unfold qh
   try dsimp only
   refine⟨_,rfl,D,_,_,_,rfl,rfl,aJ.of hd,nJ (j:=4) rfl,q4,_,_,_,rfl,rfl,bu.of h4,sd,rfl,_,rfl,?_⟩;rw[aO rfl];refine gx ⟨_,rfl,D,_,_,_,rfl,rfl,aJ.of hd,nJ (j:=5) rfl,q5,_,_,_,rfl,rfl,bu.of h5,sd,rfl,_,rfl,?_⟩;rw[aO rfl];refine gx ⟨_,rfl,D,_,_,_,rfl,rfl,aJ.of hd,nJ (j:=6) rfl,q6,_,_,_,rfl,rfl,bu.of h6,sd,rfl,?_⟩;rw[aO rfl];exact k _
  ·have iY:∀{q:ah}{w:Int},4<=w->eT H9 q w lo hi us at' ts af fs->∃l c e,H9 q=some (.tup [.str (Str.ofString "row"),.ref l])/\H9 l=some (.lst ((c.2.2:List Tr).map fun p=>V.ref p.2))/\uw lo hi us at' ts af fs c e:=fun {q w} hw h=>by
    rcases h with ⟨nn,_⟩ | ⟨_,z,_⟩ | ⟨_,_,z⟩ | ⟨_,z,_⟩
    ·exact absurd nr nn
    ·rcases z with z | z
     ·lia
     ·exact absurd z.2 no
    ·exact z
    ·exact absurd z no
   obtain⟨l4,c4,x4,a4,b4,r4⟩:=iY (by decide) w4;obtain⟨l5,c5,x5,a5,b5,r5⟩:=iY (by decide) w5;obtain⟨l6,c6,x6,a6,b6,r6⟩:=iY (by decide) w6;refine mX true (fun Q' hQ=>⟨_,rfl,D,_,_,_,rfl,rfl,aJ.of hd,nJ (j:=4) rfl,q4,_,_,_,rfl,rfl,bu.of a4,sd,rfl,_,rfl,by rw[aO rfl];exact hQ⟩) (gx ?_);refine⟨_,rfl,_,rfl,D,_,rfl,aJ.of hd,fun p9 KU=>?_⟩;rw[show jg ([q0,q1,q2,q3,q4,q5,q6].map V.ref) (some 5) none = [q5,q6].map V.ref from rfl];have t9:=ak.new (o:=.lst ([q5,q6].map V.ref)) KU;have e9:upd H9 p9 (.lst ([q5,q6].map V.ref)) p9=some (.lst ([q5,q6].map V.ref)):=zb;generalize upd H9 p9 (.lst ([q5,q6].map V.ref))=Ha at t9 e9;refine⟨p9,rfl,⟨_,aJ.of e9⟩,fun E' hE=>?_⟩;refine Ir (wo (K:=K) (a:=p9) (xs:=[q5,q6].map V.ref)) (fun _=>.bl true) hE (fun H' s=>aJ.of (s _ _ e9)) (by show 2<=sizeLine;decide) (fun v hv H' Q' s hQ=>?_) (fun Hb sb eb=>?_)
   ·obtain⟨q,hm,rfl⟩:=br.mp hv;have s:=t9.trans s;have:∃l c x,H9 q=some (.tup [.str (Str.ofString "row"),.ref l])/\H9 l=some (.lst ((c.2.2:List Tr).map fun p=>V.ref p.2))/\uw lo hi us at' ts af fs c x:=by
     simp only [aN,cW,eZ] at hm;rcases hm with rfl | rfl
     ·exact⟨l5,c5,x5,a5,b5,r5⟩
     ·exact⟨l6,c6,x6,a6,b6,r6⟩
    obtain⟨l,c,x,a,b,r⟩:=this;refine⟨_,rfl,q,_,_,_,rfl,rfl,bu.of (s _ _ a),sd,rfl,_,rfl,?_⟩;rw[aO rfl];refine gx ⟨_,rfl,q,_,_,_,rfl,rfl,bu.of (s _ _ a),nJ (j:=1) rfl,l,_,rfl,.inl (aJ.of (s _ _ b)),_,rfl,D,_,_,_,rfl,rfl,aJ.of (s _ _ hd),nJ (j:=4) rfl,q4,_,_,_,rfl,rfl,bu.of (s _ _ a4),nJ (j:=1) rfl,l4,_,rfl,.inl (aJ.of (s _ _ b4)),rfl,?_⟩;rw[ay,ay,zwf r r4,aO rfl];exact hQ _ (ak.refl _)
   ·try dsimp only [zx,List.set]
    refine⟨_,rfl,by show 2<=sizeLine;decide,fun pb ye=>?_⟩;have tb:=ak.new (o:=.lst [.bl true,.bl true]) ye;refine⟨E',pb,true,rfl,rfl,?_,k _⟩;refine dH.uU (n:=7) (aJ.of (tb _ _ eb)) (aJ.of zb) fun x hx=>?_
    simp only [fL,jK,aN,cW,eZ] at hx;have ex:x = .bl true:=by rcases hx with rfl | rfl<;>rfl
    subst ex;have:=dH.flat (K:=K) (H:=upd Hb pb (.lst [.bl true,.bl true])) (n:=7) (x:=.bl true) (y:=.bl true) rfl rfl
    rwa [C8 rfl] at this
end
end LK48
open PySem PySem.W PyProof.Rows
set_option maxRecDepth 100000 in
set_option maxHeartbeats 0 in
theorem PySem.Challenge.cw_digmatrix_k48_refused_alike_holds : PySem.Challenge.rw_digmatrix_k48_refused_alike.Holds := by
 w_on;o_law;k_head;(case hw=>w_witness2)
 k_fill
 refine L2.uS (l:=PySem.Challenge.rw_digmatrix_k48_refused_alike) (k:=LK48.EZ) (x:="_law_script") (sp:=fun K=>LK48.vW (K:=K)) rfl rfl ⟨rfl,by decide,by decide⟩ (fun w h Y=>PySem.W.kIn_of Y) (fun K H a ns hl hS=>⟨a,ns,rfl,hS,hl,fun _=>rfl⟩) ?F
 case F=>
  intro w mg h KX G
  have T:∃zj,∃zm,∃zg,∃zp,LK48.Tx (L2.LM KX) mg w zj zm zg zp:=by
   dsimp only [L2.LM]
   refine' LK48.Tx.ex ⟨?z0,?z1,?z2,?z3,?z4,?z5,?z6,?z7,?z8,?z9,?z10,?z11,?z12,?z13,?z14,?z15,?z16,?z17,?z18,?z19,?z20,?z21,?z22,?z23,?z24,?z25,?z26,?z27,?z28,?z29,?z30,?z31,?z32,?z33,?z34,?z35,?z36,?z37,?z38,?z39,?z40,?z41,?z42,?z43,?z44,?z45,?z46,?z47,?z48,?z49,?z50,?z51,?z52,?z53,?z54,?z55,?z56,?z57,?z58,?z59,?z60,?z61,?z62,?z63,?z64,?z65,?z66,?z67,?z68,?z69,?z70,?z71,?z72,?z73,?z74,?z75,?z76,?z77,?z78,?z79,?z80,?z81,?z82,?z83,?z84,?z85,?z86,?z87⟩
   case z0=>refine' L2.j4 KX G ?_<;>try k_is
   case z1=>refine' ⟨?_,?_,?_⟩<;>try k_is
   case z2=>refine' ⟨?_,?_,?_⟩<;>try k_is
   case z3=>refine' L2.j4 KX G ?_<;>try k_is
   case z4=>refine' L2.sC ?x4 ?y4 ?u4 ?v4;(case x4=>k_is);(case y4=>rfl);(case u4=>k_is);(case v4=>k_is)
   case z5=>refine' L2.rA ?x5 ?y5;(case x5=>k_is);(case y5=>rfl)
   case z6=>refine' ⟨?_,?_,?_,?_⟩<;>try k_is
   case z7=>refine' ⟨?_,?_,?_,?_⟩<;>try k_is
   case z8=>refine' L2.uV (fun _ _ _ _ _ _=>L2.jh fun _ _=>rfl) ?_ ?_ ?_ ?_ ?_<;>try k_is
   case z9=>(unfold L2.gw;k_is)
   case z10=>refine' L2.j4 KX G ?_<;>try k_is
   case z11=>refine' L2.sC ?x11 ?y11 ?u11 ?v11;(case x11=>k_is);(case y11=>rfl);(case u11=>k_is);(case v11=>k_is)
   case z12=>refine' L2.rA ?x12 ?y12;(case x12=>k_is);(case y12=>rfl)
   case z13=>refine' ⟨?_,?_,?_,?_⟩<;>try k_is
   case z14=>refine' ⟨?_,?_,?_,?_⟩<;>try k_is
   case z15=>refine' L2.uV (fun _ _ _ _ _ _=>L2.jh fun _ _=>rfl) ?_ ?_ ?_ ?_ ?_<;>try k_is
   case z16=>(unfold L2.gw;k_is)
   case z17=>refine' L2.j4 KX G ?_<;>try k_is
   case z18=>refine' L2.rA ?x18 ?y18;(case x18=>k_is);(case y18=>rfl)
   case z19=>refine' ⟨?_,?_,?_,?_⟩<;>try k_is
   case z20=>refine' ⟨?_,?_,?_,?_⟩<;>try k_is
   case z21=>k_is
   case z22=>k_is
   case z23=>k_is
   case z24=>k_is
   case z25=>refine' L2.i9 ?x25 ?y25 ?u25 ?v25;(case x25=>k_is);(case y25=>k_is);(case u25=>k_is);(case v25=>first | exact fun _=>rfl | exact fun h=>absurd h (by decide))
   case z26=>refine' L2.i9 ?x26 ?y26 ?u26 ?v26;(case x26=>k_is);(case y26=>k_is);(case u26=>k_is);(case v26=>first | exact fun _=>rfl | exact fun h=>absurd h (by decide))
   case z27=>refine' L2.i9 ?x27 ?y27 ?u27 ?v27;(case x27=>k_is);(case y27=>k_is);(case u27=>k_is);(case v27=>first | exact fun _=>rfl | exact fun h=>absurd h (by decide))
   case z28=>refine' L2.i9 ?x28 ?y28 ?u28 ?v28;(case x28=>k_is);(case y28=>k_is);(case u28=>k_is);(case v28=>first | exact fun _=>rfl | exact fun h=>absurd h (by decide))
   case z29=>refine' L2.i9 ?x29 ?y29 ?u29 ?v29;(case x29=>k_is);(case y29=>k_is);(case u29=>k_is);(case v29=>first | exact fun _=>rfl | exact fun h=>absurd h (by decide))
   case z30=>refine' L2.i9 ?x30 ?y30 ?u30 ?v30;(case x30=>k_is);(case y30=>k_is);(case u30=>k_is);(case v30=>first | exact fun _=>rfl | exact fun h=>absurd h (by decide))
   case z31=>refine' L2.aY KX G (fun _ _ _ _ _ _=>L2.jh fun _ _=>rfl) ?_ ?_ ?_ ?_<;>try k_is
   case z32=>refine' L2.aY KX G (fun _ _ _ _ _ _=>L2.qX fun _ _ _=>rfl) ?_ ?_ ?_ ?_<;>try k_is
   case z33=>refine' L2.aY KX G (fun _ _ _ _ _ _=>L2.jh fun _ _=>rfl) ?_ ?_ ?_ ?_<;>try k_is
   case z34=>refine' L2.aY KX G (fun _ _ _ _ _ _=>L2.fS fun _=>rfl) ?_ ?_ ?_ ?_<;>try k_is
   case z35=>refine' L2.aY KX G (fun _ _ _ _ _ _=>L2.fS fun _=>rfl) ?_ ?_ ?_ ?_<;>try k_is
   case z36=>refine' L2.aY KX G (fun _ _ _ _ _ _=>L2.jh fun _ _=>rfl) ?_ ?_ ?_ ?_<;>try k_is
   case z37=>refine' L2.aY KX G (fun _ _ _ _ _ _=>L2.fS fun _=>rfl) ?_ ?_ ?_ ?_<;>try k_is
   case z38=>refine' L2.aY KX G (fun _ _ _ _ _ _=>L2.fS fun _=>rfl) ?_ ?_ ?_ ?_<;>try k_is
   case z39=>refine' L2.aY KX G (fun _ _ _ _ _ _=>L2.jh fun _ _=>rfl) ?_ ?_ ?_ ?_<;>try k_is
   case z40=>refine' L2.aY KX G (fun _ _ _ _ _ _=>L2.jh fun _ _=>rfl) ?_ ?_ ?_ ?_<;>try k_is
   case z41=>refine' L2.aY KX G (fun _ _ _ _ _ _=>L2.fS fun _=>rfl) ?_ ?_ ?_ ?_<;>try k_is
   case z42=>refine' L2.aY KX G (fun _ _ _ _ _ _=>L2.fS fun _=>rfl) ?_ ?_ ?_ ?_<;>try k_is
   case z43=>refine' L2.aY KX G (fun _ _ _ _ _ _=>L2.fS fun _=>rfl) ?_ ?_ ?_ ?_<;>try k_is
   case z44=>refine' L2.aY KX G (fun _ _ _ _ _ _=>L2.fS fun _=>rfl) ?_ ?_ ?_ ?_<;>try k_is
   case z45=>refine' L2.aY KX G (fun _ _ _ _ _ _=>L2.fS fun _=>rfl) ?_ ?_ ?_ ?_<;>try k_is
   case z46=>refine' L2.aY KX G (fun _ _ _ _ _ _=>L2.jh fun _ _=>rfl) ?_ ?_ ?_ ?_<;>try k_is
   case z47=>refine' L2.aY KX G (fun _ _ _ _ _ _=>L2.jh fun _ _=>rfl) ?_ ?_ ?_ ?_<;>try k_is
   case z48=>refine' L2.aY KX G (fun _ _ _ _ _ _=>L2.fS fun _=>rfl) ?_ ?_ ?_ ?_<;>try k_is
   case z49=>refine' L2.aY KX G (fun _ _ _ _ _ _=>L2.fS fun _=>rfl) ?_ ?_ ?_ ?_<;>try k_is
   case z50=>refine' L2.aY KX G (fun _ _ _ _ _ _=>L2.fS fun _=>rfl) ?_ ?_ ?_ ?_<;>try k_is
   case z51=>refine' L2.aY KX G (fun _ _ _ _ _ _=>L2.fS fun _=>rfl) ?_ ?_ ?_ ?_<;>try k_is
   case z52=>refine' L2.aY KX G (fun _ _ _ _ _ _=>L2.jh fun _ _=>rfl) ?_ ?_ ?_ ?_<;>try k_is
   case z53=>refine' L2.aY KX G (fun _ _ _ _ _ _=>L2.jh fun _ _=>rfl) ?_ ?_ ?_ ?_<;>try k_is
   case z54=>refine' L2.aY KX G (fun _ _ _ _ _ _=>L2.fS fun _=>rfl) ?_ ?_ ?_ ?_<;>try k_is
   case z55=>refine' L2.aY KX G (fun _ _ _ _ _ _=>L2.fS fun _=>rfl) ?_ ?_ ?_ ?_<;>try k_is
   case z56=>refine' L2.aY KX G (fun _ _ _ _ _ _=>L2.qX fun _ _ _=>rfl) ?_ ?_ ?_ ?_<;>try k_is
   case z57=>refine' L2.aY KX G (fun _ _ _ _ _ _=>L2.qX fun _ _ _=>rfl) ?_ ?_ ?_ ?_<;>try k_is
   case z58=>refine' L2.aY KX G (fun _ _ _ _ _ _=>L2.uR fun _ _ _ _=>rfl) ?_ ?_ ?_ ?_<;>try k_is
   case z59=>refine' L2.aY KX G (fun _ _ _ _ _ _=>L2.fS fun _=>rfl) ?_ ?_ ?_ ?_<;>try k_is
   case z60=>refine' L2.aY KX G (fun _ _ _ _ _ _=>L2.fS fun _=>rfl) ?_ ?_ ?_ ?_<;>try k_is
   case z61=>refine' L2.aY KX G (fun _ _ _ _ _ _=>L2.qX fun _ _ _=>rfl) ?_ ?_ ?_ ?_<;>try k_is
   case z62=>refine' L2.aY KX G (fun _ _ _ _ _ _=>L2.jh fun _ _=>rfl) ?_ ?_ ?_ ?_<;>try k_is
   case z63=>refine' L2.aY KX G (fun _ _ _ _ _ _=>L2.qX fun _ _ _=>rfl) ?_ ?_ ?_ ?_<;>try k_is
   case z64=>refine' L2.aY KX G (fun _ _ _ _ _ _=>L2.jh fun _ _=>rfl) ?_ ?_ ?_ ?_<;>try k_is
   case z65=>refine' L2.aY KX G (fun _ _ _ _ _ _=>L2.fS fun _=>rfl) ?_ ?_ ?_ ?_<;>try k_is
   case z66=>refine' L2.aY KX G (fun _ _ _ _ _ _=>L2.C6 fun _ _ _ _ _=>rfl) ?_ ?_ ?_ ?_<;>try k_is
   case z67=>refine' L2.aY KX G (fun _ _ _ _ _ _=>L2.C6 fun _ _ _ _ _=>rfl) ?_ ?_ ?_ ?_<;>try k_is
   case z68=>refine' L2.aY KX G (fun _ _ _ _ _ _=>L2.fS fun _=>rfl) ?_ ?_ ?_ ?_<;>try k_is
   case z69=>refine' L2.aY KX G (fun _ _ _ _ _ _=>L2.uR fun _ _ _ _=>rfl) ?_ ?_ ?_ ?_<;>try k_is
   case z70=>refine' L2.aY KX G (fun _ _ _ _ _ _=>L2.jh fun _ _=>rfl) ?_ ?_ ?_ ?_<;>try k_is
   case z71=>refine' L2.aY KX G (fun _ _ _ _ _ _=>L2.fS fun _=>rfl) ?_ ?_ ?_ ?_<;>try k_is
   case z72=>refine' L2.aY KX G (fun _ _ _ _ _ _=>L2.fS fun _=>rfl) ?_ ?_ ?_ ?_<;>try k_is
   case z73=>refine' L2.aY KX G (fun _ _ _ _ _ _=>L2.jh fun _ _=>rfl) ?_ ?_ ?_ ?_<;>try k_is
   case z74=>refine' L2.aY KX G (fun _ _ _ _ _ _=>L2.uR fun _ _ _ _=>rfl) ?_ ?_ ?_ ?_<;>try k_is
   case z75=>refine' L2.aY KX G (fun _ _ _ _ _ _=>L2.uR fun _ _ _ _=>rfl) ?_ ?_ ?_ ?_<;>try k_is
   case z76=>refine' L2.aY KX G (fun _ _ _ _ _ _=>L2.qX fun _ _ _=>rfl) ?_ ?_ ?_ ?_<;>try k_is
   case z77=>refine' L2.aY KX G (fun _ _ _ _ _ _=>L2.fS fun _=>rfl) ?_ ?_ ?_ ?_<;>try k_is
   case z78=>refine' L2.gy KX G ?_;k_is
   case z79=>refine' L2.gy KX G ?_;k_is
   case z80=>refine' L2.gy KX G ?_;k_is
   case z81=>refine' L2.gy KX G ?_;k_is
   case z82=>refine' L2.gy KX G ?_;k_is
   case z83=>refine' L2.gy KX G ?_;k_is
   case z84=>refine' L2.gy KX G ?_;k_is
   case z85=>refine' L2.gy KX G ?_;k_is
   case z86=>refine' L2.gy KX G ?_;k_is
   case z87=>refine' L2.gy KX G ?_;k_is
  obtain⟨_,_,_,_,T⟩:=T
  exact fun base _ _=>LK48.E2 T
#print axioms PySem.Challenge.cw_digmatrix_k48_refused_alike_holds
