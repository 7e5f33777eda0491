import PyProof.Rows.All
import Wide.All
import OpenK.AllK
import Wide.FinOn
import Lean
import PyProof.EqAt
import PyProof.EqKinds
import PyProof.TupleCall
import PyProof.ZipIter
import PyProof.DictWalks
import PyProof.StrOps2
import KE.IntTextLaws
import PyProof.StrBlockI
import PyProof.StrLawsIn
import PyProof.AutoSeq1
import PyProof.WalkInts
import PyProof.Rows.SetFrom
import PyProof.SetKind
import PyProof.CollectWalk
import PyProof.MinMaxWalk
import PyProof.TupleKey
import PyProof.FString5
import KE.KDictOf
import PyProof.AttrMissHeap
import KE.KSortTup
import PyProof.MeetsSeq3
import PyProof.DictUpdate
import PyProof.StrLawsChain
import PyProof.StrLawsTight
import PyProof.Rows.StrItems
import PyProof.ExcInit
import PyProof.ExcClass3
import PyProof.ExcBaseAll.ValueError
import PyProof.FString
import PyProof.Rows.FStr
import PyProof.RaisesMany
import PyProof.RulesAs
import PyProof.NsDelKeeps
import PyProof.ExcAttrAll.ValueError
import PyProof.Rows.SumAny
import KE.KEqDict
import PyProof.MeetsIn
import PyProof.LongRange
import PySem.Challenge.RW_digmatrix_k47_whole_small_frames
abbrev ty0q:=PySem.W.Frag
abbrev ty1q:=PySem.Addr
abbrev ty2q:=PySem.Shared
abbrev ty3q:=PySem.Value
abbrev ty4q:=PySem.Program
abbrev ty90q:=PySem.Value->PySem.Shared->Prop
abbrev ty91q:=List (PySem.Addr×PySem.Obj)
abbrev al0q:=@PySem.wpAny_bind
abbrev al1q:=@List.length_map
abbrev al2q:=@PySem.wpAny_pure
abbrev al3q:=@List.getElem?_eq_getElem
abbrev al4q:=@PySem.Heap.get?_push_of_some
abbrev al5q:=@List.mem_cons_of_mem
abbrev al6q:=@List.mem_of_getElem?
abbrev al7q:=@if_neg
abbrev al8q:=@List.getElem?_eq_some_iff
abbrev al9q:=@List.take_add_one
abbrev al10q:=@List.getElem?_map
abbrev al11q:=@if_pos
abbrev al12q:=@PySem.Heap.get?_push_size
abbrev al13q:=@PySem.Heap.lt_size
abbrev al14q:=@List.mem_cons
abbrev al15q:=@decide_eq_true
abbrev al16q:=@List.map_append
abbrev al17q:=@of_decide_eq_true
abbrev al18q:=@Nat.le_refl
abbrev al19q:=@Bool.false_ne_true
abbrev al20q:=@List.length_append
abbrev al21q:=@PySem.PassesOwn.never
abbrev al22q:=@decide_eq_false
abbrev al23q:=@List.take_length
abbrev al24q:=@List.size_toArray
abbrev al25q:=@List.length_take
abbrev al26q:=@Nat.ne_of_lt
abbrev al27q:=@List.mem_map
abbrev al28q:=@List.mem_append
abbrev al29q:=@PySem.Heap.get?_update_other
abbrev al30q:=@List.getD_eq_getElem?_getD
abbrev al31q:=@PySem.Heap.get?_update_self
abbrev al32q:=@List.mem_filter
abbrev al33q:=@Decidable.byContradiction
abbrev al34q:=@Array.length_toList
abbrev al35q:=@Array.getElem?_eq_getElem
abbrev al36q:=@Ne.symm
abbrev al37q:=@List.mem_cons_self
abbrev al38q:=@Array.getElem?_eq_some_iff
abbrev al39q:=@decide_eq_true_iff
abbrev al40q:=@PySem.wpAny_newObj_type
abbrev al41q:=@PySem.Around.under_plainId
abbrev al42q:=@Bool.and_eq_true
abbrev al43q:=@List.not_mem_nil
abbrev al44q:=@Nat.le_trans
abbrev al45q:=@Nat.lt_of_lt_of_le
abbrev al46q:=@Option.some.inj
abbrev al47q:=@PySem.wpAny_holding
abbrev al48q:=@List.length_filter_le
abbrev al49q:=@PySem.wpAny_mono
abbrev al50q:=@PySem.wpAny_call_entry
abbrev al51q:=@PySem.codeAny_builtin
abbrev al52q:=@List.all_eq_true
abbrev al53q:=@List.append_nil
abbrev al54q:=@beq_eq_false_iff_ne
abbrev al55q:=@List.mem_append_left
abbrev al56q:=@List.map_cons
abbrev al57q:=@List.length_cons
abbrev al58q:=@List.length_range
abbrev al59q:=@PySem.Obj.data_mapFields
abbrev al60q:=@List.pairwise_cons
abbrev al61q:=@List.mem_append_right
abbrev al62q:=@PySem.Obj.isFreed_of_fields
abbrev al63q:=@Int.le_refl
abbrev al64q:=@Nat.lt_irrefl
abbrev al65q:=@PySem.Heap.SameBut.update
abbrev al66q:=@PySem.plainId_quiet
abbrev al67q:=@congrArg
abbrev al68q:=@List.mem_iff_getElem?
abbrev al69q:=@List.mem_range
abbrev al70q:=@PySem.wpAny_callSpecial?_slot
abbrev al71q:=@PySem.wpAny_setField
abbrev al72q:=@PySem.wpAny_truthy_bool
abbrev al73q:=@Nat.zero_le
abbrev al74q:=@List.mem_singleton
abbrev al75q:=@List.map_map
abbrev al76q:=@List.nodup_cons
abbrev al77q:=@List.lt_irrefl
abbrev al78q:=@List.getElem_mem
abbrev al79q:=@Nat.lt_succ_of_lt
abbrev al80q:=@List.length_eq_zero_iff
abbrev al81q:=@PySem.Heap.get?_none_of_le
abbrev al82q:=@PySem.Heap.size_push
abbrev al83q:=@PySem.wpAny_updateSeq
abbrev al84q:=@decide_eq_decide
abbrev al85q:=@List.getElem?_zip_eq_some
abbrev al86q:=@List.filterMap_cons
abbrev al87q:=@List.map_congr_left
abbrev al88q:=@PySem.wpAny_seqItems
abbrev al89q:=@PySem.F.slot_dict_keyiterator_next
abbrev al90q:=@List.length_zip
abbrev al91q:=@List.filter_append
abbrev al92q:=@of_decide_eq_false
abbrev al93q:=@PySem.wpAny_isInstance
abbrev al94q:=@PySem.codeAny_call_builtin
abbrev al95q:=@PySem.wpAny_pyNext_list_item
abbrev al96q:=@Array.getElem?_eq_none
abbrev al97q:=@PySem.isSubtype_type
abbrev al98q:=@List.take_of_length_le
abbrev al99q:=@PySem.wpAny_loadPart_at
abbrev al100q:=@List.length_reverse
abbrev al101q:=@Bool.eq_iff_iff
abbrev al102q:=@PySem.wpAny_rule
abbrev al103q:=@List.any_cons
abbrev al104q:=@Nat.le_succ
abbrev al105q:=@PySem.wpAny_typeNameOfWhole_keyiter
abbrev al106q:=@PySem.wpAny_tryCatch
abbrev al107q:=@List.eq_nil_of_length_eq_zero
abbrev al108q:=@List.nodup_append
abbrev al109q:=@List.of_mem_zip
abbrev al110q:=@List.filter_sublist
abbrev al111q:=@PyProof.Rows.F.plain_set_update_loop
abbrev al112q:=@PyProof.Rows.callWith_type1
abbrev al113q:=@PyProof.Rows.boot_list
abbrev al114q:=@PySem.wpAny_standAt
abbrev al115q:=@Nat.lt_succ_self
abbrev al116q:=@List.any_eq_true
abbrev al117q:=@PySem.F.plain_max_loop
abbrev al118q:=@PySem.F.plain_min_loop
abbrev al119q:=@Bool.false_eq_true
abbrev al120q:=@Int.emod_lt_of_pos
abbrev al121q:=@PySem.builtinLookup_eq_fast
abbrev al122q:=@Array.getElem?_toList
abbrev al123q:=@List.getElem?_append_left
abbrev al124q:=@List.mem_take_iff_getElem
abbrev al125q:=@PySem.wpAny_passesOwn
abbrev al126q:=@Int.emod_nonneg
abbrev al127q:=@Nat.le_of_lt
abbrev al128q:=@PySem.wpAny_pyIter_list
abbrev al129q:=@PySem.codeAny_mono
abbrev al130q:=@List.append_assoc
abbrev al131q:=@List.mem_of_mem_take
abbrev al132q:=@PySem.wpAny_setState_of
abbrev al133q:=@PySem.wpAny_attempt
abbrev al134q:=@List.length_erase_of_mem
abbrev al135q:=@PySem.wpAny_setEntries_of
abbrev al136q:=@PySem.wpAny_getItem_str_slice
abbrev al137q:=@Nat.not_lt_of_le
abbrev al138q:=@PySem.wpAny_askSetting
abbrev al139q:=@Array.eq_empty_of_size_eq_zero
abbrev al140q:=@PySem.sizeLine_eq
abbrev al141q:=@PySem.wpAny_letGo
abbrev al142q:=@PySem.wpAny_field
abbrev al143q:=@Nat.ne_of_gt
abbrev al144q:=@PySem.Calls.callWith_builtin
abbrev al145q:=@PySem.wpAny_typeOf
abbrev al146q:=@List.find?_cons
abbrev al147q:=@List.forIn_cons
abbrev al148q:=@PySem.wpAny_pyNext_list_end
abbrev al149q:=@List.getElem?_eq_none
abbrev al150q:=@Int.toNat_natCast
abbrev al151q:=@decide_eq_true_eq
abbrev al152q:=@List.foldl_append
abbrev al153q:=@Bool.false_and
abbrev al154q:=@PySem.wpAny_call
abbrev al155q:=@List.getElem?_append_right
abbrev al156q:=@PySem.Calls.evalArgs_plain
abbrev al157q:=@List.mem_iff_getElem
abbrev al158q:=@PySem.wpAny_fieldsOf
abbrev al159q:=@PySem.wpAny_of_eq
abbrev al160q:=@or_false
abbrev al161q:=@List.mem_erase_of_ne
abbrev al162q:=@PySem.F.slot_list_reversed
abbrev al163q:=@beq_self_eq_true
abbrev al164q:=@Classical.byContradiction
abbrev al165q:=@List.getElem?_range
abbrev al166q:=@Int.toNat_of_nonneg
abbrev al167q:=@List.length_pos_iff
abbrev al168q:=@PySem.wpAny_isSubtype_exc
abbrev al169q:=@PySem.MeetsSeq.plain_contains_loop
abbrev al170q:=@PySem.F.slot_list_getattribute
abbrev al171q:=@PyProof.Rows.boot_sorted
abbrev al172q:=@forall_congr'
abbrev al173q:=@PySem.wpAny_execs_nil
abbrev al174q:=@PySem.typeLookup_type
abbrev al175q:=@List.foldl_cons
abbrev al176q:=@PySem.wpAny_Call_Name_kw
abbrev al177q:=@PySem.tupleKind_room_in1
abbrev al178q:=@Nat.lt_of_le_of_lt
abbrev al179q:=@PySem.Code.quiet_builtin
abbrev al180q:=@PySem.wpAny_tupleItemsOf
abbrev al181q:=@List.pairwise_singleton
abbrev al182q:=@if_false
abbrev al183q:=@PySem.wpAny_pyIter_slot
abbrev al184q:=@PySem.wpAny_dictEntries
abbrev al185q:=@PySem.fits_of_scanBound
abbrev al186q:=@List.take_zero
abbrev al187q:=@PyProof.Rows.boot_dict
abbrev al188q:=@PyProof.Rows.boot_min
abbrev al189q:=@List.lookup_cons
abbrev al190q:=@PySem.entryFor_of_tree
abbrev al191q:=@List.mem_reverse
abbrev al192q:=@List.map_take
abbrev al193q:=@Sum.inr.inj
abbrev al194q:=@PySem.wpAny_specialOf
abbrev al195q:=@PySem.post_val_or_str
abbrev al196q:=@PySem.wpAny_dictEpoch
abbrev al197q:=@PySem.codeAny_of_tree
abbrev al198q:=@PySem.boot_len
set_option Elab.async false
set_option linter.all false
set_option maxRecDepth 100000
set_option maxHeartbeats 16000000
def PySem.W.Fast.tw18361032618290703953:Unit:=()
def PySem.W.Fast.tw8627590385650393014:Unit:=()
def PySem.W.Fast.tw15744764873051244323:Unit:=()
def PySem.W.Fast.tw16427911110522164036:Unit:=()
def PySem.W.Fast.tw13670451001285487308:Unit:=()
def PySem.W.Fast.tw595474368136035473:Unit:=()
def PySem.W.Fast.tw16619785066749612617:Unit:=()
def PySem.W.Fast.tw5659374862153045808:Unit:=()
def PySem.W.Fast.tw15092007395565744263:Unit:=()
def PySem.W.Fast.tw1891591410466175610:Unit:=()
def PySem.W.Fast.tw12211869371700966322:Unit:=()
def PySem.W.Fast.tw7216513160759972535:Unit:=()
def PySem.W.Fast.tw9909403095668338587:Unit:=()
def PySem.W.Fast.tw3289850504825883424:Unit:=()
namespace L2
open PySem PySem.Spec PyProof.Rows
abbrev Key:=Sum Int Str
def ziz:Key->ty3q->Bool
  | .inl k,v=>Value.isInt k v
  | .inr x,v=>Value.isStrOf x v
def keyH (w:World):Key->Int
  | .inl k=>hashInt k
  | .inr x=>hashStr w x
theorem zal:∀{k:Key}{v:ty3q},ziz k v=true->(∃i t,k=Sum.inl i/\v=Value.int i t)\/(∃x t,k=Sum.inr x/\v=Value.str x t)
  | .inl i,v,h=>by
    obtain⟨t,e⟩:=Value.isInt_shape (k:=i) (v:=v) h;exact .inl ⟨i,t,rfl,e⟩
  | .inr x,v,h=>by
    obtain⟨t,e⟩:=Value.isStrOf_shape (x:=x) (v:=v) h;exact .inr ⟨x,t,rfl,e⟩
theorem zms (i:Int) (t:Tok):ziz (.inl i) (.int i t)=true:=by simp[ziz,Value.isInt]
theorem zmt (x:Str) (t:Tok):ziz (.inr x) (.str x t)=true:=by simp[ziz,Value.isStrOf]
theorem zu3 (a b:Int):decide ((Sum.inl a:Key)=Sum.inl b)=(a == b):=by
  by_cases e:a=b
  · subst e;simp
  · have h:¬(Sum.inl a:Key)=Sum.inl b:=fun q=>e (Sum.inl.inj q)
    rw[al22q h];exact (al54q.mpr e).symm
theorem zu4 (a b:Str):decide ((Sum.inr a:Key)=Sum.inr b)=decide (a=b):=by
  by_cases e:a=b
  · subst e;simp
  · have h:¬(Sum.inr a:Key)=Sum.inr b:=fun q=>e (al193q q)
    rw[al22q h,al22q e]
theorem zu5 (a:Int) (b:Str):decide ((Sum.inl a:Key)=Sum.inr b)=false:=al22q (fun q=>nomatch q)
theorem zu6 (a:Str) (b:Int):decide ((Sum.inr a:Key)=Sum.inl b)=false:=al22q (fun q=>nomatch q)
def zam (prog:ty4q) (w:World):PySem.KeyKind prog w Key where
  is:=ziz
  hash:=keyH w
  inj:=fun v a b ha hb=>by
    rcases zal ha with ⟨i,t,rfl,rfl⟩ | ⟨x,t,rfl,rfl⟩
    · rcases zal hb with ⟨j,u,rfl,e⟩ | ⟨y,u,rfl,e⟩
      · injection e with e1 _;rw[e1]
      · exact nomatch e
    · rcases zal hb with ⟨j,u,rfl,e⟩ | ⟨y,u,rfl,e⟩
      · exact nomatch e
      · injection e with e1 _;rw[e1]
  byValue:=fun k v h=>by
    rcases zal h with ⟨i,t,rfl,rfl⟩ | ⟨x,t,rfl,rfl⟩<;>rfl
  pyHash:=fun hv h=>by
    rcases zal hv with ⟨i,t,rfl,rfl⟩ | ⟨x,t,rfl,rfl⟩
    · exact wpAny_pyHash_int h
    · exact wpAny_pyHash_str h
  eqBool:=fun hu hv h=>by
    rcases zal hu with ⟨i,t,rfl,rfl⟩ | ⟨x,t,rfl,rfl⟩
    · rcases zal hv with ⟨j,u,rfl,rfl⟩ | ⟨y,u,rfl,rfl⟩
      · rw[zu3] at h;exact wpAny_eqBool_int h
      · rw[zu5] at h;exact SeqAt.EqAt.int_str i t y u _ _ _ _ h
    · rcases zal hv with ⟨j,u,rfl,rfl⟩ | ⟨y,u,rfl,rfl⟩
      · rw[zu6] at h;exact SeqAt.EqAt.str_int x t j u _ _ _ _ h
      · rw[zu4] at h;exact wpAny_eqBool_str h
  «strs»:=fun k x t v h=>by
    rcases zal h with ⟨i,u,rfl,e⟩ | ⟨y,u,rfl,e⟩
    · exact nomatch e
    · injection e with e1 _
      subst e1;cases v<;>rfl
theorem zi0 (prog:ty4q) (w:World) (i:Int) (t:Tok):(zam prog w).is (.inl i) (.int i t)=true:=zms i t
theorem zi1 (prog:ty4q) (w:World) (x:Str) (t:Tok):(zam prog w).is (.inr x) (.str x t)=true:=zmt x t
inductive V where
  | non | bl (b:Bool) | int (i:Int) | str (x:Str) | byt (b:Array UInt8) | flt (b:UInt64) | ref (a:ty1q) | ty (n:String)
  deriving DecidableEq
def RelV:V->ty3q->Prop
  | .non,u=>u=Value.none
  | .bl b,u=>u=Value.bool b
  | .int i,u=>∃t,u=Value.int i t
  | .str x,u=>∃t,u=Value.str x t
  | .byt b,u=>∃t,u=Value.bytes b t
  | .flt b,u=>∃t,u=Value.float b t
  | .ref a,u=>u=Value.ref a
  | .ty n,u=>u=Value.type n
abbrev Vals:List V->List ty3q->Prop:=Paired RelV
theorem Vals.length {xs:List V}{us:List ty3q}(r:Vals xs us):xs.length=us.length:=Paired.length r
theorem Vals.get:∀{xs:List V}{us:List ty3q}{i:Nat}{x:V},Vals xs us->xs[i]? = some x->∃u,us[i]? = some u/\RelV x u
  | _,_,_,_,.nil,e=>by simp at e
  | _,_,0,_,.cons r _,e=>by simp at e;subst e;exact⟨_,rfl,r⟩
  | _,_,i+1,x,.cons _ t,e=>by
    obtain⟨u,h1,h2⟩:=Vals.get (i:=i) (x:=x) t (by simpa using e);exact⟨u,by simpa using h1,h2⟩
theorem Vals.append:∀{xs ys:List V}{us ws:List ty3q},Vals xs us->Vals ys ws->Vals (xs++ys) (us++ws)
  | _,_,_,_,.nil,s=>s
  | _,_,_,_,.cons r t,s=>.cons r (Vals.append t s)
theorem Vals.take:∀{xs:List V}{us:List ty3q}(n:Nat),Vals xs us->Vals (xs.take n) (us.take n)
  | _,_,0,_=>.nil
  | _,_,_+1,.nil=>.nil
  | _,_,n+1,.cons r t=>.cons r (Vals.take n t)
theorem Vals.drop:∀{xs:List V}{us:List ty3q}(n:Nat),Vals xs us->Vals (xs.drop n) (us.drop n)
  | _,_,0,r=>r
  | _,_,_+1,.nil=>.nil
  | _,_,n+1,.cons _ t=>Vals.drop n t
def RelO:Option V->Option ty3q->Prop
  | some v,some u=>RelV v u
  | none,none=>True
  | _,_=>False
def KV {κ:Type}:List (κ×V)->List (κ×ty3q)->Prop:=Paired fun (p:κ×V) (q:κ×ty3q)=>p.1=q.1/\RelV p.2 q.2
def kV:Key->V
  | .inl i=>.int i
  | .inr x=>.str x
inductive HO where
    | lst (xs:List V)
    | tup (xs:List V)
    | dK (kvs:List (Key×V)) | dT (kvs:List (List Key×V))
    | set (S:Int->Bool) (n:Nat)
    | ins (C dx:ty1q) (fs:List (Str×V))
    | own (x:ty1q)
    | xd (fs:List (Str×V))
    | met (f x:ty1q)
    | rng (lo hi:Int)
    | frz (o:Obj) (u:HO)
    | tbl (ps:Array ty3q)
    | ext (φ:Heap->Prop)
abbrev Hp:=ty1q->Option HO
def upd (H:Hp) (a:ty1q) (o:HO):Hp:=fun b=>if b=a then some o else H b
theorem zb {H:Hp}{a:ty1q}{o:HO}:upd H a o a=some o:=by unfold upd;rw[al11q rfl]
theorem zl {H:Hp}{a b:ty1q}{o:HO}(h:b≠a):upd H a o b=H b:=by unfold upd;rw[al7q h]
theorem zmu {H:Hp}{a:ty1q}{o u:HO}:upd (upd H a o) a u=upd H a u:=by
  funext b;unfold upd;split<;>rfl
theorem zcu {H:Hp}{a b:ty1q}{o u:HO}(h:H a=some o) (h':H b=some u) (d:o≠u):a≠b:=by
  intro e;subst e;rw[h] at h';exact d (al46q h')
theorem zi {H:Hp}{a b:ty1q}{o:HO}(h:H a=some o) (h':H b=none):a≠b:=by
  intro e;subst e;rw[h] at h';cases h'
section
variable (P:ty4q) (w:World)
def ObjOk (H:Hp) (h:Heap) (a:ty1q):HO->Prop
  | .lst xs=>xs.length<=sizeLine/\∃(its:List ty3q) (n:Nat),Vals xs its/\h.get? a=some { cls:=.type "list",data:=.seq its.toArray n }
  | .tup xs=>xs.length<=sizeLine/\∃its:List ty3q,Vals xs its/\IsTup h a its.toArray
  | .dK kvs=>kvs.length<=sizeLine/\(a == sysModules)=false/\∃vs,KV kvs vs/\h.DictOf (zam P w) a vs
  | .dT kvs=>kvs.length<=sizeLine/\(a == sysModules)=false/\∃xs:List (List Key×ty1q×ty3q),
      Paired (fun (p:List Key×V) (q:List Key×ty1q×ty3q)=>p.1=q.1/\H q.2.1=some (.tup (p.1.map kV))/\RelV p.2 q.2.2) kvs xs/\
      ∃o es ep,h.get? a=some o/\o.ExactDict/\o.data = .dict es ep/\es.toList=xs.map (entryOfKey (tupleKind (zam P w)))/\(xs.map (·.1)).Nodup
  | .set S n=>h.SetOf (intKind P w) a S n
  | .ins C dx fs=>H dx=some (.own a)/\fs.length<=1000/\dx≠a/\h.get? a=some (PySem.W.instObj C dx)/\
      ∃mA,h.Ns1 dx mA/\(∀f,RelO (fs.lookup f) (mA f))/\PySem.Within mA (fs.map (·.1))
  | .own _=>∃o,h.get? a=some o
  | .xd fs=>∃mA,h.Ns1 a mA/\∀f,RelO (fs.lookup f) (mA f)
  | .rng lo hi=>∃t u v,h.get? a=some { cls:=.type "range",data:=.fields #[.int lo t,.int hi u,.int 1 v] }
  | .frz o u=>h.get? a=some o/\ObjOk H h a u
  | .tbl ps=>h.get? a=some { cls:=.none,data:=.fields ps }
  | .met f x=>h.get? a=some (PySem.W.methodObj (.ref f) (.ref x))
  | .ext φ=>φ h/\(∃o,h.get? a=some o)/\∀h1 h2:Heap,φ h1->(∀o,h1.get? a=some o->h2.get? a=some o)->φ h2
def HOk (H:Hp) (h:Heap):Prop:=∀a o,H a=some o->ObjOk P w H h a o
end
section
variable {P:ty4q}{w:World}{H H':Hp}{h h':Heap}{a:ty1q}{o:HO}
theorem ObjOk.lt (x:ObjOk P w H h a o):a<h.objs.size:=by
  cases o with
  | lst xs=>obtain⟨_,_,_,_,e⟩:=x;exact al13q e
  | tup xs=>obtain⟨_,_,_,p⟩:=x;exact p.lt
  | dK kvs=>obtain⟨_,_,_,_,o,_,_,e,_⟩:=x;exact al13q e
  | dT kvs=>obtain⟨_,_,_,_,o,_,_,e,_⟩:=x;exact al13q e
  | set S n=>obtain⟨o,_,_,_,e,_⟩:=x;exact al13q e
  | ins C dx fs=>obtain⟨_,_,_,e,_⟩:=x;exact al13q e
  | own y=>obtain⟨_,e⟩:=x;exact al13q e
  | xd fs=>obtain⟨_,⟨_,_,_,e,_⟩,_⟩:=x;exact al13q e
  | rng lo hi=>obtain⟨_,_,_,e⟩:=x;exact al13q e
  | frz ob u=>obtain⟨e,_⟩:=x;exact al13q e
  | tbl ps=>exact al13q (show h.get? a=some _ from x)
  | met f y=>exact al13q (show h.get? a=some _ from x)
  | ext φ=>obtain⟨_,⟨_,e⟩,_⟩:=x;exact al13q e
theorem Paired.mapP {α β:Type}{F G:α->β->Prop}:∀{l₁:List α}{l₂:List β},Paired F l₁ l₂->(∀a b,F a b->G a b)->Paired G l₁ l₂
  | _,_,.nil,_=>.nil
  | _,_,.cons r t,f=>.cons (f _ _ r) (Paired.mapP t f)
theorem ObjOk.stay (x:ObjOk P w H h a o) (k:∀b u,(b=a\/H b=some (.own a))->h.get? b=some u->h'.get? b=some u)
    (ho:∀b,H b=some (.own a)->H' b=some (.own a)) (ht:∀b xs,H b=some (.tup xs)->H' b=some (.tup xs)):ObjOk P w H' h' a o:=by
  induction o with
  | lst xs=>obtain⟨z,its,n,r,e⟩:=x;exact⟨z,its,n,r,k _ _ (.inl rfl) e⟩
  | tup xs=>obtain⟨z,its,r,ob,e,c⟩:=x;exact⟨z,its,r,ob,k _ _ (.inl rfl) e,c⟩
  | dK kvs=>obtain⟨z,y,vs,r,ob,es,ep,e,c⟩:=x;exact⟨z,y,vs,r,ob,es,ep,k _ _ (.inl rfl) e,c⟩
  | dT kvs=>
    obtain⟨z,y,xs,r,ob,es,ep,e,c⟩:=x;exact⟨z,y,xs,Paired.mapP r fun p q z=>⟨z.1,ht _ _ z.2.1,z.2.2⟩,ob,es,ep,k _ _ (.inl rfl) e,c⟩
  | set S n=>obtain⟨ob,es,ep,t,e,c⟩:=x;exact⟨ob,es,ep,t,k _ _ (.inl rfl) e,c⟩
  | ins C dx fs=>
    obtain⟨d,z,ne,e,mA,⟨od,es,ep,e2,c⟩,r⟩:=x;exact⟨ho _ d,z,ne,k _ _ (.inl rfl) e,mA,⟨od,es,ep,k _ _ (.inr d) e2,c⟩,r⟩
  | own y=>obtain⟨ob,e⟩:=x;exact⟨ob,k _ _ (.inl rfl) e⟩
  | xd fs=>obtain⟨mA,⟨od,es,ep,e,c⟩,r⟩:=x;exact⟨mA,⟨od,es,ep,k _ _ (.inl rfl) e,c⟩,r⟩
  | rng lo hi=>obtain⟨t,u,v,e⟩:=x;exact⟨t,u,v,k _ _ (.inl rfl) e⟩
  | frz ob u ih=>obtain⟨e,q⟩:=x;exact⟨k _ _ (.inl rfl) e,ih q⟩
  | tbl ps=>
    have e:h.get? a=some { cls:=.none,data:=.fields ps }:=x;show h'.get? a=some { cls:=.none,data:=.fields ps };exact k a _ (.inl rfl) e
  | met f y=>
    have e:h.get? a=some (PySem.W.methodObj (.ref f) (.ref y)):=x;show h'.get? a=some (PySem.W.methodObj (.ref f) (.ref y));exact k a _ (.inl rfl) e
  | ext φ=>obtain⟨p,⟨o,e⟩,st⟩:=x;exact⟨st _ _ p fun o q=>k _ _ (.inl rfl) q,⟨o,k _ _ (.inl rfl) e⟩,st⟩
theorem HOk.lt (x:HOk P w H h) (e:H a=some o):a<h.objs.size:=(x a o e).lt
theorem HOk.fresh (x:HOk P w H h) (e:h.objs.size<=a):H a=none:=by
  cases q:H a with
  | none=>rfl
  | some u=>exact absurd (al45q (x.lt q) e) (al64q _)
theorem HOk.kept (x:HOk P w H h) (k:∀b u,h.get? b=some u->h'.get? b=some u):HOk P w H h':=fun a o e=>
  (x a o e).stay (fun b u _ q=>k b u q) (fun _ q=>q) fun _ _ q=>q
theorem HOk.laid (x:HOk P w H h) (k:∀b u,h.get? b=some u->h'.get? b=some u) (hp:h.objs.size<=a) (new:ObjOk P w (upd H a o) h' a o):HOk P w (upd H a o) h':=fun b u e=>by
  have hn:=x.fresh hp
  by_cases hb:b=a
  · subst hb;rw[zb] at e;cases e;exact new
  · rw[zl hb] at e;exact (x b u e).stay (fun c v _ q=>k c v q) (fun c q=>by rw[zl (zi q hn)];exact q) fun c xs q=>by rw[zl (zi q hn)];exact q
end
def Rd (H:Hp) (a:ty1q) (u:HO):Prop:=H a=some u\/∃o,H a=some (.frz o u)
theorem Rd.ok {P:ty4q}{w:World}{H:Hp}{h:Heap}{a:ty1q}{u:HO}(r:Rd H a u) (x:HOk P w H h):ObjOk P w H h a u:=by
  rcases r with r | ⟨o,r⟩
  · exact x a u r
  · obtain⟨_,q⟩:=x a _ r;exact q
def Mut:Option HO->Prop
  | some (.lst _)=>True
  | some (.dK _)=>True
  | some (.dT _)=>True
  | some (.set _ _)=>True
  | some (.ins _ _ _)=>True
  | some (.ext _)=>True
  | _=>False
section
variable {P:ty4q}{w:World}{H:Hp}{h h':Heap}{x e:ty1q}{o':HO}
theorem HOk.write (ok:HOk P w H h) (mu:Mut (H x)) (he:e=x\/H e=some (.own x)) (k:∀b u,b≠e->h.get? b=some u->h'.get? b=some u) (heo:∃u,h'.get? e=some u)
    (new:ObjOk P w (upd H x o') h' x o'):HOk P w (upd H x o') h':=fun b u q=>by
  have nown:∀c y,H c=some (.own y)->c≠x:=fun c y r z=>by subst z;rw[r] at mu;exact mu
  have ntup:∀c xs,H c=some (.tup xs)->c≠x:=fun c xs r z=>by subst z;rw[r] at mu;exact mu
  by_cases hb:b=x
  · subst hb;rw[zb] at q;cases q;exact new
  · rw[zl hb] at q
    by_cases hbe:b=e
    · have q':H b=some (.own x):=by
        rcases he with z | z
        · exact absurd (hbe.trans z) hb
        · rw[hbe];exact z
      rw[q] at q';cases q';obtain⟨v,hv⟩:=heo;exact⟨v,by rw[hbe];exact hv⟩
    · refine (ok b u q).stay (fun c v hc r=>k c v ?_ r) (fun c r=>by rw[zl (nown c b r)];exact r) fun c xs r=>by rw[zl (ntup c xs r)];exact r
      rcases hc with rfl | hc
      · exact hbe
      · rintro rfl;rcases he with z | z
        · exact nown c b hc z
        · rw[hc] at z;cases z;exact hb rfl
end
structure Un (fs ex:List ty1q) (H H':Hp) (h h':Heap):Prop where
  keep:∀b o,h.get? b=some o->H b=none->b ∉ fs->b ∉ ex->h'.get? b=some o
  slot:∀b o,h.get? b=some o->H b=none->b∈fs->b ∉ ex->∃sl,h'.get? b=some { o with slots:=sl }
  free:∀b o,h.get? b=some o->H b=none->b ∉ ex->H' b=none
  there:∀b o,h.get? b=some o->b ∉ ex->∃o',h'.get? b=some o'
  tups:∀b xs,H b=some (.tup xs)->H' b=some (.tup xs)
  frzs:∀b o u,H b=some (.frz o u)->H' b=some (.frz o u)
  tbls:∀b ps,H b=some (.tbl ps)->∃more,H' b=some (.tbl (ps++more))
section
variable {fs fs' ex ex':List ty1q}{H H1 H2:Hp}{h h1 h2 h':Heap}{a x e:ty1q}{o:HO}
theorem Un.any (u:Un fs ex H H1 h h1) {b:ty1q}{ob:Obj}(q:h.get? b=some ob) (n:H b=none) (hx:b ∉ ex):∃sl,h1.get? b=some { ob with slots:=sl }:=by
  by_cases hb:b∈fs
  · exact u.slot b ob q n hb hx
  · exact⟨ob.slots,u.keep b ob q n hb hx⟩
theorem Un.kept (k:∀b u,h.get? b=some u->h'.get? b=some u):Un fs ex H H h h':=
  ⟨fun b ob q _ _ _=>k b ob q,fun b ob q _ _ _=>⟨ob.slots,k b ob q⟩,fun _ _ _ n _=>n,fun b ob q _=>⟨ob,k b ob q⟩,fun _ _ q=>q,fun _ _ _ q=>q,fun _ ps q=>⟨#[],by rw[q];simp⟩⟩
theorem Un.refl:Un fs ex H H h h:=Un.kept fun _ _ q=>q
theorem Un.laid (k:∀b u,h.get? b=some u->h'.get? b=some u) (hp:h.objs.size<=a) (hn:H a=none):Un fs ex H (upd H a o) h h' where
  keep:=fun b u q _ _ _=>k b u q
  slot:=fun b u q _ _ _=>⟨u.slots,k b u q⟩
  free:=fun b u q n _=>by rw[zl (al26q (al45q (al13q q) hp))];exact n
  there:=fun b u q _=>⟨u,k b u q⟩
  tups:=fun b xs q=>by rw[zl (zi q hn)];exact q
  frzs:=fun b u xs q=>by rw[zl (zi q hn)];exact q
  tbls:=fun b ps q=>⟨#[],by rw[zl (zi q hn),q];simp⟩
theorem Un.write (mu:Mut (H x)) (he:e=x\/H e=some (.own x)) (k:∀b u,b≠e->h.get? b=some u->h'.get? b=some u) (heo:∃u,h'.get? e=some u):Un fs ex H (upd H x o) h h':=by
  have hx:∀b,H b=none->b≠x:=fun b n z=>by subst z;rw[n] at mu;exact mu
  have hb:∀b,H b=none->b≠e:=fun b n z=>by
    subst z;rcases he with r | r
    · exact hx b n r
    · rw[n] at r;cases r
  have hm:∀b u,H b=some u->¬Mut (some u)->b≠x:=fun b u q nm z=>by subst z;rw[q] at mu;exact nm mu
  refine⟨fun b u q n _ _=>k b u (hb b n) q,fun b u q n _ _=>⟨u.slots,k b u (hb b n) q⟩,fun b u q n _=>by rw[zl (hx b n)];exact n,fun b u q _=>?_,
    fun b xs q=>by rw[zl (hm b _ q fun z=>z)];exact q,fun b u xs q=>by rw[zl (hm b _ q fun z=>z)];exact q,fun b ps q=>⟨#[],by rw[zl (hm b _ q fun z=>z),q];simp⟩⟩
  by_cases hbe:b=e
  · subst hbe;exact heo
  · exact⟨u,k b u hbe q⟩
end
def trk (h:Heap) (H:Hp):List ty1q:=(List.range h.objs.size).filter fun a=>(H a).isSome
def hidT (h:Heap) (H:Hp):Heap:=PySem.W.hideAll h (trk h H)
theorem zmv (h:Heap) (H:Hp):(hidT h H).objs.size=h.objs.size:=PySem.W.hideAll_size _ _
theorem zqb {h:Heap}{H:Hp}{b:ty1q}{o:Obj}(e:h.get? b=some o) (n:H b=none):(hidT h H).get? b=some o:=
  PySem.W.hideAll_get _ e fun hm=>by
    have q:(H b).isSome=true:=(al32q.mp hm).2;rw[n] at q;simp at q
theorem zs6 {h:Heap}{H:Hp}{b:ty1q}{o:Obj}(e:(hidT h H).get? b=some o):h.get? b=some o/\H b=none:=by
  have e':h.get? b=some o:=PySem.W.of_hideAll (trk h H) e;refine⟨e',?_⟩;cases q:H b with
  | none=>rfl
  | some x=>
    have hm:b∈trk h H:=al32q.mpr ⟨al69q.mpr (al13q e'),by simp[q]⟩;have z:(hidT h H).get? b=none:=PySem.W.hideAll_none (trk h H) hm;rw[z] at e;cases e
def zs7 (g h:Heap) (L:ty1q):ty91q:=(List.range h.objs.size).filterMap fun a=>if a=L\/(g.get? a).isSome=true then none else (h.get? a).map fun o=>(a,o)
def rest (g h:Heap) (L d:ty1q):ty91q:=(zs7 g h L).filter fun p=>decide (p.1≠d)
structure Mod (K:ty0q) (mg:Str->Option ty3q) (base:Heap):Prop where
  kin:K.In base
  glob:base.Ns mainGlobals mg
  blt:∃mb,base.Ns builtinsNs mb/\∀x:Str,x≠"__name__"->mb x=bootBuiltins x
  nolimit:base.NoLimit
structure Cx where
  prog:ty4q
  w:World
  K:ty0q
  mg:Str->Option ty3q
  base:Heap
  A:Around
  N:List Str
  s₀:ty2q
  H₀:Hp
  env:Env
  outer:List Env
  stack:List Env
  ex:List ty1q
  fn:Str->Bool
  calm:Bool
  pn:ty91q
  xe:ty90q
def frs (l:List Env):List ty1q:=l.filterMap (·.frame)
abbrev Cx.fs (X:Cx):List ty1q:=frs X.outer
def Vis (sc:Scope) (x:Str):Prop:=sc.names.lookup x=some .local\/sc.names.lookup x=some .cell\/sc.names.lookup x=some .free
def Loc (sc:Scope) (x:Str):Prop:=sc.names.lookup x=some .local\/sc.names.lookup x=some .cell
def Look (env:Env) (h:Heap) (m:Str->Option ty3q) (x:Str) (u:ty3q):Prop:=
  (env.kindOf x=some .local/\m x=some u)\/((env.kindOf x=some .cell\/env.kindOf x=some .free)/\∃c,env.cells.lookup x=some c/\h.IsCell c (some u))
structure Cx.Ok (X:Cx):Prop where
  mod:Mod X.K X.mg X.base
  kind:X.env.scope.kind = .function
  glob:X.env.globals=mainGlobals
  blt:X.env.builtins=builtinsNs
  above:X.s₀.heap.objs.size<=X.env.locals
  inj:∀x y c,X.env.cells.lookup x=some c->X.env.cells.lookup y=some c->x=y
  has:∀x,(X.env.kindOf x=some .cell\/X.env.kindOf x=some .free)->∃c,X.env.cells.lookup x=some c
  cab:∀x c,X.fn x=true->X.env.cells.lookup x=some c->X.s₀.heap.objs.size<=c
  hd:X.calm=true->X.A.handled=none
  frames:X.A.frames=some X.stack
  stk:X.stack=X.outer\/(X.stack=X.env::X.outer/\X.env.frame=some X.env.locals)
  exf:∀b∈X.ex,b≠X.env.locals/\∀x c,X.env.cells.lookup x=some c->c≠b
  bs:∀b o,X.base.get? b=some o->X.s₀.heap.get? b=some o/\X.H₀ b=none
  bsz:X.base.objs.size<=X.s₀.heap.objs.size
  noex:∀b o,X.base.get? b=some o->b ∉ X.ex
  exfs:∀b∈X.ex,b ∉ X.fs
  funs:X.s₀.heap.FunFrames X.base X.outer
  frf:∀b∈X.fs,X.H₀ b=none
structure Inv (X:Cx) (pins:ty91q) (σ:List (Option V)) (H:Hp) (s:ty2q):Prop where
  ok:X.Ok
  os:s.os=X.s₀.os
  bare:AllBare s.gens
  base:Un X.fs X.ex X.H₀ H X.s₀.heap s.heap
  loc:∃m,s.heap.Ns X.env.locals m/\∀(i:Nat) (x:Str) (v:V),X.N[i]? = some x->σ[i]? = some (some v)->Vis X.env.scope x->∃u,RelV v u/\Look X.env s.heap m x u
  cell:∀x c,X.env.cells.lookup x=some c->∃v,s.heap.IsCell c v
  free:H X.env.locals=none
  freeC:∀x c,X.env.cells.lookup x=some c->H c=none
  pin:∀p∈X.pn++pins,s.heap.get? p.1=some p.2/\H p.1=none/\p.1≠X.env.locals/\p.1 ∉ X.fs/\∀v,p.2.data≠.cell v
  hok:HOk X.prog X.w H s.heap
  len:σ.length=X.N.length
section
variable {X:Cx}{pins:ty91q}{σ:List (Option V)}{H H':Hp}{s:ty2q}{h':Heap}
theorem Cx.Ok.nofr (ok:X.Ok) {b:ty1q}{o:Obj}(e:X.base.get? b=some o):b ∉ X.fs:=fun hb=>by
  have:=(ok.funs.mem hb).1;rw[e] at this;cases this
theorem Inv.bs (I:Inv X pins σ H s):∀b o,X.base.get? b=some o->s.heap.get? b=some o/\H b=none:=fun b o e=>
  ⟨I.base.keep b o (I.ok.bs b o e).1 (I.ok.bs b o e).2 (I.ok.nofr e) (I.ok.noex b o e),I.base.free b o (I.ok.bs b o e).1 (I.ok.bs b o e).2 (I.ok.noex b o e)⟩
theorem Inv.bk (I:Inv X pins σ H s):∀b o,X.base.get? b=some o->s.heap.get? b=some o:=fun b o e=>(I.bs b o e).1
theorem Inv.mod (I:Inv X pins σ H s):Mod X.K X.mg X.base:=I.ok.mod
theorem Inv.kIn (I:Inv X pins σ H s):X.K.In s.heap:=I.ok.mod.kin.keeps I.bk
theorem Inv.lt (I:Inv X pins σ H s):X.env.locals<s.heap.objs.size:=let ⟨_,hn,_⟩:=I.loc;hn.lt
theorem Inv.sz (I:Inv X pins σ H s):X.s₀.heap.objs.size<=s.heap.objs.size:=al44q I.ok.above (al127q I.lt)
theorem Inv.nofs (I:Inv X pins σ H s) {a:ty1q}(h:s.heap.objs.size<=a):a ∉ X.fs:=fun hb=>by
  obtain⟨_,o,ho,_⟩:=I.ok.funs.mem hb;exact absurd (al45q (al13q ho) (al44q I.sz h)) (al64q _)
theorem Inv.cne (I:Inv X pins σ H s):∀x c,X.env.cells.lookup x=some c->c≠X.env.locals:=fun x c e z=>by
  obtain⟨v,o,ho,hd⟩:=I.cell x c e;obtain⟨m,⟨o',es,ep,ho',hd',_⟩,_⟩:=I.loc;rw[z,ho'] at ho;cases ho;rw[hd'] at hd;cases hd
theorem Inv.funs (I:Inv X pins σ H s):s.heap.FunFrames X.base X.outer:=by
  have all:∀(l:List Env),(∀b∈frs l,b∈X.fs)->X.s₀.heap.FunFrames X.base l->s.heap.FunFrames X.base l:=by
    intro l
    induction l with
    | nil=>intro _ _;trivial
    | cons env r ih=>
      intro hs hl;obtain⟨hk,⟨L,o,hf,hn,ho,hd⟩,hr⟩:=hl;have hL:L∈X.fs:=hs L (by unfold frs;rw[al86q,hf];exact al37q);obtain⟨sl,e⟩:=I.base.slot L o ho (I.ok.frf L hL) hL fun z=>I.ok.exfs L z hL
      exact⟨hk,⟨L,_,hf,hn,e,hd⟩,ih (fun b hb=>hs b (by unfold frs;rw[al86q,hf];exact al5q _ hb)) hr⟩
  exact all X.outer (fun _ hb=>hb) I.ok.funs
theorem Inv.stack (I:Inv X pins σ H s):s.heap.FunFrames X.base X.stack:=by
  rcases I.ok.stk with e | ⟨e,hf⟩
  · rw[e];exact I.funs
  · rw[e];obtain⟨m,hn,_⟩:=I.loc;refine .cons (by rw[I.ok.kind];decide) hf hn ?_ I.funs;exact al81q (al44q I.ok.bsz I.ok.above)
theorem Inv.stkSub (I:Inv X pins σ H s):∀b∈frs X.stack,b∈X.env.locals::X.fs:=fun b hb=>by
  rcases I.ok.stk with e | ⟨e,hf⟩
  · rw[e] at hb;exact al5q _ hb
  · rw[e] at hb;unfold frs at hb;rw[al86q,hf] at hb;exact hb
theorem Inv.stkFree (I:Inv X pins σ H s):∀b∈frs X.stack,H b=none:=fun b hb=>by
  rcases al14q.mp (I.stkSub b hb) with e | hb
  · rw[e];exact I.free
  · obtain⟨_,o,ho,_⟩:=I.ok.funs.mem hb;exact I.base.free b o ho (I.ok.frf b hb) fun z=>I.ok.exfs b z hb
theorem Inv.step {g':Array GenState}{t':Nat}{d':Drawn}{ch:List ty1q}(I:Inv X pins σ H s)
    (hch:∀b∈ch,(b∈X.ex\/X.s₀.heap.objs.size<=b)/\b≠X.env.locals/\(∀x c,X.env.cells.lookup x=some c->c≠b)/\∀p∈X.pn++pins,p.1≠b)
    (keep:∀b o,b≠X.env.locals->b ∉ X.fs->b ∉ ch->s.heap.get? b=some o->H b=none->h'.get? b=some o)
    (slot:∀b o,b≠X.env.locals->b∈X.fs->b ∉ ch->s.heap.get? b=some o->H b=none->∃sl,h'.get? b=some { o with slots:=sl }) (free:∀b o,b ∉ ch->s.heap.get? b=some o->H b=none->H' b=none)
    (there:∀b o,b ∉ ch->s.heap.get? b=some o->∃o',h'.get? b=some o')
    (tups:∀b xs,H b=some (.tup xs)->H' b=some (.tup xs)) (frzs:∀b o u,H b=some (.frz o u)->H' b=some (.frz o u)) (tbls:∀b ps,H b=some (.tbl ps)->∃more,H' b=some (.tbl (ps++more)))
    (ns:∀m,s.heap.Ns X.env.locals m->h'.Ns X.env.locals m) (hok:HOk X.prog X.w H' h') (hg:AllBare g') :
    Inv X pins σ H' { s with heap:=h',gens:=g',drawn:=d',toks:=t' }:=by
  have neL:∀b o,X.s₀.heap.get? b=some o->b≠X.env.locals:=fun b o e=>al26q (al45q (al13q e) I.ok.above)
  have neC:∀b o,X.s₀.heap.get? b=some o->b ∉ X.ex->b ∉ ch:=fun b o e hx hb=>by
    rcases (hch b hb).1 with z | z
    · exact hx z
    · exact absurd (al45q (al13q e) z) (al64q _)
  have cellK:∀x c,X.env.cells.lookup x=some c->∀v,s.heap.IsCell c v->h'.IsCell c v:=fun x c e v ⟨o,ho,hd⟩=>by
    have nch:c ∉ ch:=fun z=>(hch c z).2.2.1 x c e rfl
    by_cases hc:c∈X.fs
    · obtain⟨sl,q⟩:=slot c o (I.cne x c e) hc nch ho (I.freeC x c e);exact⟨_,q,hd⟩
    · exact⟨o,keep c o (I.cne x c e) hc nch ho (I.freeC x c e),hd⟩
  refine⟨I.ok,I.os,hg,⟨fun b o e n hb hx=>?_,fun b o e n hb hx=>?_,fun b o e n hx=>?_,fun b o e hx=>?_,fun b xs e=>tups b xs (I.base.tups b xs e),fun b o xs e=>frzs b o xs (I.base.frzs b o xs e),fun b ps e=>?_⟩,?_,fun x c e=>?_,?_,fun x c e=>?_,fun p hp=>?_,hok,I.len⟩
  · exact keep b o (neL b o e) hb (neC b o e hx) (I.base.keep b o e n hb hx) (I.base.free b o e n hx)
  · obtain⟨sl,e1⟩:=I.base.slot b o e n hb hx;obtain⟨sl',e2⟩:=slot b _ (neL b o e) hb (neC b o e hx) e1 (I.base.free b o e n hx);exact⟨sl',e2⟩
  · obtain⟨o',e1⟩:=I.base.there b o e hx;exact free b o' (neC b o e hx) e1 (I.base.free b o e n hx)
  · obtain⟨o',e1⟩:=I.base.there b o e hx;exact there b o' (neC b o e hx) e1
  · obtain⟨m1,e1⟩:=I.base.tbls b ps e;obtain⟨m2,e2⟩:=tbls b _ e1;exact⟨m1++m2,by rw[e2,Array.append_assoc]⟩
  · obtain⟨m,hn,hl⟩:=I.loc;refine⟨m,ns m hn,fun i x v e1 e2 e3=>?_⟩;obtain⟨u,r,l⟩:=hl i x v e1 e2 e3;refine⟨u,r,?_⟩;rcases l with l | ⟨k,c,e,z⟩
    · exact .inl l
    · exact .inr ⟨k,c,e,cellK x c e _ z⟩
  · obtain⟨v,z⟩:=I.cell x c e;exact⟨v,cellK x c e v z⟩
  · obtain⟨m,⟨o,_,_,ho,_⟩,_⟩:=I.loc;exact free _ o (fun z=>(hch _ z).2.1 rfl) ho I.free
  · obtain⟨v,o,ho,hd⟩:=I.cell x c e;exact free c o (fun z=>(hch c z).2.2.1 x c e rfl) ho (I.freeC x c e)
  · obtain⟨e,n,ne,nf,d⟩:=I.pin p hp;have nch:p.1 ∉ ch:=fun z=>(hch p.1 z).2.2.2 p hp rfl
    exact⟨keep p.1 p.2 ne nf nch e n,free p.1 p.2 nch e n,ne,nf,d⟩
theorem Inv.un {t':Nat}(I:Inv X pins σ H s) (u:Un X.fs [] H H' s.heap h') (hok:HOk X.prog X.w H' h'):Inv X pins σ H' { s with heap:=h',toks:=t' }:=by
  obtain⟨m,⟨o,es,ep,ho,r⟩,_⟩:=id I.loc;obtain⟨sl,hL⟩:=u.any ho I.free (by simp);exact I.step (g':=s.gens) (d':=s.drawn) (ch:=[]) (fun _ z=>nomatch z) (fun b o _ hb _ e n=>u.keep b o e n hb (by simp)) (fun b o _ hb _ e n=>u.slot b o e n hb (by simp)) (fun b o _ e n=>u.free b o e n (by simp)) (fun b o _ e=>u.there b o e (by simp)) u.tups u.frzs u.tbls (fun m' hm=>by
    obtain⟨o',es',ep',ho',r'⟩:=hm;rw[ho] at ho';cases ho';exact⟨_,es',ep',hL,r'⟩) hok I.bare
theorem Inv.call {g':Array GenState}{t':Nat}{d':Drawn}{ch:List ty1q}(I:Inv X pins σ H s) (u:Un (frs X.stack) ch H H' s.heap h') (hok:HOk X.prog X.w H' h') (hg:AllBare g')
    (hch:∀b∈ch,(b∈X.ex\/X.s₀.heap.objs.size<=b)/\b≠X.env.locals/\(∀x c,X.env.cells.lookup x=some c->c≠b)/\∀p∈X.pn++pins,p.1≠b) :
    Inv X pins σ H' { s with heap:=h',gens:=g',drawn:=d',toks:=t' }:=by
  obtain⟨m,⟨o,es,ep,ho,r⟩,_⟩:=id I.loc;obtain⟨sl,hL⟩:=u.any ho I.free fun z=>(hch _ z).2.1 rfl
  exact I.step (ch:=ch) hch (fun b o hL hb hc e n=>u.keep b o e n (fun z=>(al14q.mp (I.stkSub b z)).elim hL hb) hc) (fun b o _ _ hc e n=>u.any e n hc) (fun b o hc e n=>u.free b o e n hc) (fun b o hc e=>u.there b o e hc) u.tups u.frzs u.tbls (fun m' hm=>by
    obtain⟨o',es',ep',ho',r'⟩:=hm;rw[ho] at ho';cases ho';exact⟨_,es',ep',hL,r'⟩) hok hg
theorem Inv.turned {t':Nat}{it:ty1q}(I:Inv X pins σ H s) (k:∀b o,b≠it->s.heap.get? b=some o->h'.get? b=some o) (hn:H it=none) (hL:it≠X.env.locals)
    (h1:it∈X.ex\/X.s₀.heap.objs.size<=it) (h2:∀x c,X.env.cells.lookup x=some c->c≠it) (h3:∀p∈X.pn++pins,p.1≠it):Inv X pins σ H { s with heap:=h',toks:=t' }:=by
  have nit:∀b u,H b=some u->b≠it:=fun b u e z=>by rw[z,hn] at e;cases e
  refine I.step (g':=s.gens) (d':=s.drawn) (ch:=[it]) (fun b hb=>?_) (fun b o _ _ hc e _=>k b o (fun z=>hc (by simp[z])) e) (fun b o _ _ hc e _=>⟨o.slots,k b o (fun z=>hc (by simp[z])) e⟩) (fun _ _ _ _ n=>n)
    (fun b o hc e=>⟨o,k b o (fun z=>hc (by simp[z])) e⟩) (fun _ _ e=>e) (fun _ _ _ e=>e) (fun b ps e=>⟨#[],by rw[e];simp⟩) (fun m hm=>?_) (fun b u e=>?_) I.bare
  · have e:b=it:=by simpa using hb
    subst e;exact⟨h1,hL,h2,h3⟩
  · obtain⟨o,es,ep,ho,r⟩:=hm;exact⟨o,es,ep,k _ o (al36q hL) ho,r⟩
  · refine (I.hok b u e).stay (fun c v hc q=>k c v ?_ q) (fun _ q=>q) fun _ _ q=>q
    rcases hc with z | z
    · rw[z];exact nit b u e
    · exact nit c _ z
theorem Inv.tok (I:Inv X pins σ H s) (t:Nat):Inv X pins σ H { s with toks:=t }:=I.un (h':=s.heap) (t':=t) Un.refl I.hok
theorem Inv.kept {t':Nat}(I:Inv X pins σ H s) (k:∀b u,s.heap.get? b=some u->h'.get? b=some u):Inv X pins σ H { s with heap:=h',toks:=t' }:=I.un (Un.kept k) (I.hok.kept k)
theorem Inv.laid {a:ty1q}{o:HO}{t':Nat}(I:Inv X pins σ H s) (k:∀b u,s.heap.get? b=some u->h'.get? b=some u) (hp:s.heap.objs.size<=a) (new:ObjOk X.prog X.w (upd H a o) h' a o) :
    Inv X pins σ (upd H a o) { s with heap:=h',toks:=t' }:=I.un (Un.laid k hp (I.hok.fresh hp)) (I.hok.laid k hp new)
theorem Inv.write {x e:ty1q}{o:HO}{t':Nat}(I:Inv X pins σ H s) (mu:Mut (H x)) (he:e=x\/H e=some (.own x)) (k:∀b u,b≠e->s.heap.get? b=some u->h'.get? b=some u) (heo:∃u,h'.get? e=some u)
    (new:ObjOk X.prog X.w (upd H x o) h' x o):Inv X pins σ (upd H x o) { s with heap:=h',toks:=t' }:=I.un (Un.write mu he k heo) (I.hok.write mu he k heo new)
theorem Inv.pins_of {pins':ty91q}(I:Inv X pins σ H s) (h:∀p∈pins',s.heap.get? p.1=some p.2/\H p.1=none/\p.1≠X.env.locals/\p.1 ∉ X.fs/\∀v,p.2.data≠.cell v):Inv X pins' σ H s:=
  ⟨I.ok,I.os,I.bare,I.base,I.loc,I.cell,I.free,I.freeC,fun p hp=>(al28q.mp hp).elim (fun z=>I.pin p (al55q _ z)) (h p),I.hok,I.len⟩
theorem zkg {N:List Str}(hN:N.Nodup) {i j:Nat}{x:Str}(a:N[i]? = some x) (b:N[j]? = some x):i=j:=by
  obtain⟨h1,e1⟩:=al8q.mp a;obtain⟨h2,e2⟩:=al8q.mp b;exact (List.getElem_inj hN).mp (e1.trans e2.symm)
theorem zg9 {M:Model}{A:Around}{E:ty90q}{i:Nat}{x:Str}{v:V}{u:ty3q}{Q:Unit->ty2q->Prop}(I:Inv X pins σ H s) (hN:X.N.Nodup) (hi:X.N[i]? = some x) (hx:Loc X.env.scope x) (r:RelV v u)
    (h:∀s',Inv X pins (σ.set i (some v)) H s'->(∃a,Heap.SameBut a s.heap s'.heap/\(a=X.env.locals\/X.env.cells.lookup x=some a))->Q () s') (hf:X.fn x=true\/X.env.scope.names.lookup x=some .local:=by first | exact .inl rfl | exact .inr rfl | assumption):wpAny M A (storeName X.env x u) Q E s:=by
  obtain⟨m,hn,hl⟩:=id I.loc;have hcls:(X.env.scope.kind == .class||(X.env.scope.kind == .module&&X.env.locals != X.env.globals))=false:=by rw[I.ok.kind];rfl
  have hiσ:i<σ.length:=by rw[I.len];exact (al8q.mp hi).1
  have cne:=I.cne;have tracked:∀{a:ty1q}{h':Heap},(∃o,s.heap.get? a=some o/\H a=none)->Heap.SameBut a s.heap h'->HOk X.prog X.w H h':=fun {a h'} ha hs b ob e=>by
    obtain⟨_,_,hfree⟩:=ha;refine (I.hok b ob e).stay (fun c w' hc q=>(hs.2 c ?_).trans q) (fun _ q=>q) fun _ _ q=>q
    rintro rfl;rcases hc with rfl | hc
    · rw[hfree] at e;cases e
    · rw[hfree] at hc;cases hc
  rcases hx with hk | hk
  · refine wpAny_storeName_local hk hn (fun h' hn' hs=>?_) hcls;obtain⟨oL,_,_,hoL,_⟩:=id hn;refine h _ ⟨I.ok,I.os,I.bare,⟨fun b o e n hb hx=>?_,fun b o e n hb hx=>?_,I.base.free,fun b o e hx=>?_,I.base.tups,I.base.frzs,I.base.tbls⟩,⟨_,hn',fun j y v' e1 e2 e3=>?_⟩,fun y c e=>?_,I.free,I.freeC,fun p hp=>?_,tracked ⟨oL,hoL,I.free⟩ hs,by simpa using I.len⟩ ⟨_,hs,.inl rfl⟩
    · exact (hs.2 b (al26q (al45q (al13q e) I.ok.above))).trans (I.base.keep b o e n hb hx)
    · obtain⟨sl,e1⟩:=I.base.slot b o e n hb hx;exact⟨sl,(hs.2 b (al26q (al45q (al13q e) I.ok.above))).trans e1⟩
    · obtain⟨o',e1⟩:=I.base.there b o e hx;exact⟨o',(hs.2 b (al26q (al45q (al13q e) I.ok.above))).trans e1⟩
    · by_cases hj:j=i
      · subst hj;rw[hi] at e1;cases e1;rw[List.getElem?_set_self hiσ] at e2;cases e2;exact⟨u,r,.inl ⟨hk,by simp⟩⟩
      · rw[List.getElem?_set_ne (al36q hj)] at e2;obtain⟨u',r',q⟩:=hl j y v' e1 e2 e3;refine⟨u',r',?_⟩;rcases q with ⟨k,e⟩ | ⟨k,c,e,z⟩
        · refine .inl ⟨k,?_⟩;have:y≠x:=fun e=>hj (zkg hN e1 (e▸hi))
          simp[this,e]
        · exact .inr ⟨k,c,e,z.sameBut hs (cne y c e)⟩
    · obtain⟨w',z⟩:=I.cell y c e;exact⟨w',z.sameBut hs (cne y c e)⟩
    · obtain⟨e,n,ne,nf,d⟩:=I.pin p hp;exact⟨(hs.2 p.1 ne).trans e,n,ne,nf,d⟩
  · have hfn:X.fn x=true:=by
      rcases hf with z | z
      · exact z
      · rw[z] at hk;cases hk
    obtain⟨c,hc⟩:=I.ok.has x (.inl hk);obtain⟨w',z⟩:=I.cell x c hc;refine wpAny_storeName_cell I.ok.kind hk hc z (fun h' hc' hs=>?_);obtain⟨oc,hoc,hocd⟩:=id z;refine h { s with heap:=h' } ⟨I.ok,I.os,I.bare,⟨fun b o e n hb hx=>?_,fun b o e n hb hx=>?_,I.base.free,fun b o e hx=>?_,I.base.tups,I.base.frzs,I.base.tbls⟩,⟨m,hn.sameBut hs (al36q (cne x c hc)),fun j y v' e1 e2 e3=>?_⟩,fun y c' e=>?_,I.free,I.freeC,fun p hp=>?_,tracked ⟨oc,hoc,I.freeC x c hc⟩ hs,by simpa using I.len⟩ ⟨c,hs,.inr hc⟩
    · exact (hs.2 b (al26q (al45q (al13q e) (I.ok.cab x c hfn hc)))).trans (I.base.keep b o e n hb hx)
    · obtain⟨sl,e1⟩:=I.base.slot b o e n hb hx;exact⟨sl,(hs.2 b (al26q (al45q (al13q e) (I.ok.cab x c hfn hc)))).trans e1⟩
    · obtain⟨o',e1⟩:=I.base.there b o e hx;exact⟨o',(hs.2 b (al26q (al45q (al13q e) (I.ok.cab x c hfn hc)))).trans e1⟩
    · by_cases hj:j=i
      · subst hj;rw[hi] at e1;cases e1;rw[List.getElem?_set_self hiσ] at e2;cases e2;exact⟨u,r,.inr ⟨.inl hk,c,hc,hc'⟩⟩
      · rw[List.getElem?_set_ne (al36q hj)] at e2;obtain⟨u',r',q⟩:=hl j y v' e1 e2 e3;refine⟨u',r',?_⟩;rcases q with q | ⟨k,c',e,z'⟩
        · exact .inl q
        · refine .inr ⟨k,c',e,z'.sameBut hs ?_⟩;rintro rfl;exact hj (zkg hN e1 (I.ok.inj _ _ _ e hc▸hi))
    · by_cases hcc:c'=c
      · subst hcc;exact⟨_,hc'⟩
      · obtain⟨w2,z2⟩:=I.cell y c' e;exact⟨w2,z2.sameBut hs hcc⟩
    · obtain⟨e,n,ne,nf,d⟩:=I.pin p hp;refine⟨(hs.2 p.1 ?_).trans e,n,ne,nf,d⟩;intro q;rw[q,hoc] at e;have q':oc=p.2:=al46q e;exact d w' (by rw[←q'];exact hocd)
theorem zeo {M:Model}{A:Around}{E:ty90q}{i:Nat}{x:Str}{v:V}{u:ty3q}{Q:Unit->ty2q->Prop}(I:Inv X pins σ H s) (hN:X.N.Nodup) (hi:X.N[i]? = some x) (hx:Loc X.env.scope x) (r:RelV v u)
    (h:∀s',Inv X pins (σ.set i (some v)) H s'->Q () s') (hf:X.fn x=true\/X.env.scope.names.lookup x=some .local:=by first | exact .inl rfl | exact .inr rfl | assumption):wpAny M A (storeName X.env x u) Q E s:=
  zg9 I hN hi hx r (fun s' I' _=>h s' I') hf
theorem Inv.call' {s':ty2q}{ch:List ty1q}(I:Inv X pins σ H s) (ho:s'.os=s.os) (u:Un (frs X.stack) ch H H' s.heap s'.heap) (hok:HOk X.prog X.w H' s'.heap) (hg:AllBare s'.gens)
    (hch:∀b∈ch,(b∈X.ex\/X.s₀.heap.objs.size<=b)/\b≠X.env.locals/\(∀x c,X.env.cells.lookup x=some c->c≠b)/\∀p∈X.pn++pins,p.1≠b):Inv X pins σ H' s':=by
  obtain⟨h',g',d',t',o'⟩:=s';have e:o'=s.os:=ho;subst e;exact I.call (g':=g') (t':=t') (d':=d') u hok hg hch
end
abbrev XK:=ty3q->Option ty1q->Hp->Prop
abbrev St:=List (Option V)
abbrev VK:=V->Hp->Prop
abbrev TE:=St->Hp->VK->Prop
abbrev TT:=St->Hp->(Bool->Hp->Prop)->Prop
abbrev TA:=St->Hp->(List V->Hp->Prop)->Prop
structure Ends where
  nx:St->Hp->Prop
  rt:VK
  bk:St->Hp->Prop:=fun _ _=>False
  ct:St->Hp->Prop:=fun _ _=>False
abbrev TS:=Ends->St->Hp->Prop
def EP (X:Cx) (pins:ty91q) (σ:St) (Q:VK) (u:ty3q) (s':ty2q):Prop:=∃v H',Inv X pins σ H' s'/\RelV v u/\Q v H'
def TP (X:Cx) (pins:ty91q) (σ:St) (Q:Bool->Hp->Prop) (b:Bool) (s':ty2q):Prop:=∃H',Inv X pins σ H' s'/\Q b H'
def AP (X:Cx) (pins:ty91q) (σ:St) (Q:List V->Hp->Prop) (us:List ty3q) (s':ty2q):Prop:=∃vs H',Inv X pins σ H' s'/\Vals vs us/\Q vs H'
def SP (X:Cx) (pins:ty91q) (D:Ends) (f:Flow) (s':ty2q):Prop:=
  match f with
  | .next=>∃σ' H',Inv X pins σ' H' s'/\D.nx σ' H'
  | .brk=>∃σ' H',Inv X pins σ' H' s'/\D.bk σ' H'
  | .cont=>∃σ' H',Inv X pins σ' H' s'/\D.ct σ' H'
  | .ret u=>∃v σ' H',Inv X pins σ' H' s'/\RelV v u/\D.rt v H'
def PE (X:Cx) (e:Expr) (t:TE):Prop:=
  ∀(pins:ty91q) (s:ty2q) (σ:St) (H:Hp) (Q:VK),Inv X pins σ H s->t σ H Q->wpAny (model X.prog X.w) X.A (eval e X.env) (EP X pins σ Q) X.xe s
def PT (X:Cx) (e:Expr) (t:TT):Prop:=
  ∀(pins:ty91q) (s:ty2q) (σ:St) (H:Hp) (Q:Bool->Hp->Prop),Inv X pins σ H s->t σ H Q->wpAny (model X.prog X.w) X.A (isTrue e X.env (eval e X.env)) (TP X pins σ Q) X.xe s
def PW (X:Cx) (e:Expr) (t:TT):Prop:=
  ∀(whole:Sem ty3q) (pins:ty91q) (s:ty2q) (σ:St) (H:Hp) (Q:Bool->Hp->Prop),Inv X pins σ H s->t σ H Q->wpAny (model X.prog X.w) X.A (isTrue e X.env whole) (TP X pins σ Q) X.xe s
theorem PW.pt {X:Cx}{e:Expr}{t:TT}(h:PW X e t):PT X e t:=h _
def PA (X:Cx) (es:List Expr) (t:TA):Prop:=
  ∀(pos:Pos) (pins:ty91q) (s:ty2q) (σ:St) (H:Hp) (Q:List V->Hp->Prop),Inv X pins σ H s->t σ H Q->wpAny (model X.prog X.w) X.A (spliced (backTo pos (starEach es X.env))) (AP X pins σ Q) X.xe s
def PS (X:Cx) (st:Stmt) (t:TS):Prop:=
  ∀(pins:ty91q) (s:ty2q) (σ:St) (H:Hp) (D:Ends),Inv X pins σ H s->t D σ H->wpAny (model X.prog X.w) X.A (exec st X.env) (SP X pins D) X.xe s
def PSs (X:Cx) (st:List Stmt) (t:TS):Prop:=
  ∀(pins:ty91q) (s:ty2q) (σ:St) (H:Hp) (D:Ends),Inv X pins σ H s->t D σ H->wpAny (model X.prog X.w) X.A (execs st X.env) (SP X pins D) X.xe s
theorem thn {α:Type}{t:Sem α}{Q Q':α->ty2q->Prop}{M:Model}{A:Around}{E:ty90q}{s:ty2q}(h:wpAny M A t Q E s) (hQ:∀a s,Q a s->Q' a s):wpAny M A t Q' E s:=al49q h hQ fun _ _ x=>x
section
variable {X:Cx}
theorem bin {a b:Expr}{ta tb:TE}(ha:PE X a ta) (hb:PE X b tb) {pins:ty91q}{s:ty2q}{σ:St}{H:Hp}{R:V->V->Hp->Prop}(I:Inv X pins σ H s) (h:ta σ H fun x H1=>tb σ H1 fun y H2=>R x y H2)
    {α:Type}{Q:α->ty2q->Prop}{f:ty3q->ty3q->Sem α}
    (hf:∀v u s2 x y H2,Inv X pins σ H2 s2->RelV x v->RelV y u->R x y H2->wpAny (model X.prog X.w) X.A (f v u) Q X.xe s2) :
    wpAny (model X.prog X.w) X.A (eval a X.env) (fun v s₁=>wpAny (model X.prog X.w) X.A (eval b X.env) (fun u s₂=>wpAny (model X.prog X.w) X.A (f v u) Q X.xe s₂) X.xe s₁) X.xe s:=by
  refine thn (ha pins s σ H _ I h) fun v s1 hq0=>?_
  obtain⟨x,H1,I1,r1,q1⟩:=hq0;refine thn (hb pins s1 σ H1 _ I1 q1) fun u s2 hq0=>?_
  obtain⟨y,H2,I2,r2,q2⟩:=hq0;exact hf v u s2 x y H2 I2 r1 r2 q2
inductive tVarI (i:Nat) (σ:St) (H:Hp) (Q:VK):Prop
  | mk (v:V) (_:σ[i]? = some (some v)) (_:Q v H)
def tVar (i:Nat):TE:=fun σ H Q=>tVarI i σ H Q
def tC (v:V):TE:=fun _ H Q=>Q v H
theorem zu7 {i:Nat}{x:Str}{pos:Pos}(hN:X.N[i]? = some x) (hv:Vis X.env.scope x) (hd:(x == ("__debug__" : Str))=false:=by decide) (hcd:(x == ("__classdict__" : Str))=false:=by decide):PE X (.Name x pos) (tVar i):=by
  intro pins s σ H Q I h;obtain⟨v,e,h⟩:=h;obtain⟨m,hn,hl⟩:=I.loc;obtain⟨u,r,l⟩:=hl i x v hN e hv;have fin:EP X pins σ Q u s:=⟨v,H,I,r,h⟩;rcases l with ⟨hk,hm⟩ | ⟨hk,c,hc,hcell⟩
  · exact wpAny_Name (wpAny_loadName_local I.ok.kind hk hn hm fin) hd
  · rcases hk with hk | hk
    · exact wpAny_Name (wpAny_loadName_cell I.ok.kind hk hc hcell fin) hd
    · exact wpAny_Name (wpAny_loadName_free I.ok.kind hk hc hcell fin hcd) hd
theorem ze {i j pos}:PE X (.Constant (.int i) j pos) (tC (.int i)):=fun _ _ _ H _ I h=>wpAny_Constant_int ⟨.int i,H,I.tok _,⟨_,rfl⟩,h⟩
theorem zec {b j pos}:PE X (.Constant (.bool b) j pos) (tC (.bl b)):=fun _ _ _ H _ I h=>Constant_bool ⟨.bl b,H,I,rfl,h⟩
theorem zha {j pos}:PE X (.Constant .none j pos) (tC .non):=fun _ _ _ H _ I h=>Constant_none ⟨.non,H,I,rfl,h⟩
theorem zaw {x j pos}:PE X (.Constant (.str x) j pos) (tC (.str x)):=fun _ _ _ H _ I h=>Calls.Constant_str ⟨.str x,H,I.tok _,⟨_,rfl⟩,h⟩
def Gl (X:Cx) (x:Str):Prop:=X.env.kindOf x=some .globalImplicit
theorem zds {E:ty90q}{pins:ty91q}{s:ty2q}{σ:St}{H:Hp}{x:Str}{u:ty3q}{pos:Pos}{Q:ty90q}(I:Inv X pins σ H s) (hg:Gl X x) (hm:X.mg x=some u) (h:Q u s)
    (hd:(x == ("__debug__" : Str))=false:=by decide):wpAny (model X.prog X.w) X.A (eval (.Name x pos) X.env) Q E s:=
  Calls.Name_function_global I.ok.kind hg (Calls.loadGlobal_global (by rw[I.ok.glob];exact I.mod.glob.keeps I.bk) hm h) hd
theorem zhb {E:ty90q}{pins:ty91q}{s:ty2q}{σ:St}{H:Hp}{x:Str}{u:ty3q}{pos:Pos}{Q:ty90q}(I:Inv X pins σ H s) (hg:Gl X x) (hm:X.mg x=none) (hv:bootBuiltins x=some u) (h:Q u s)
    (hn:x≠"__name__":=by decide) (hd:(x == ("__debug__" : Str))=false:=by decide):wpAny (model X.prog X.w) X.A (eval (.Name x pos) X.env) Q E s:=by
  obtain⟨mb,h1,h2⟩:=I.mod.blt;exact Calls.Name_function_global I.ok.kind hg (Calls.loadGlobal_builtin (by rw[I.ok.glob];exact I.mod.glob.keeps I.bk) hm (by rw[I.ok.blt];exact h1.keeps I.bk) ((h2 x hn).trans hv) h) hd
variable {a b:Expr}{ta tb:TE}{pos:Pos}
def PC (X:Cx) (op:CmpOp) (a b:Expr) (t:TE):Prop:=
  ∀(pins:ty91q) (s:ty2q) (σ:St) (H:Hp) (Q:VK),Inv X pins σ H s->t σ H Q->
    wpAny (model X.prog X.w) X.A (eval a X.env) (fun v s₁=>wpAny (model X.prog X.w) X.A (eval b X.env) (fun u s₂=>wpAny (model X.prog X.w) X.A (compareOp op v u) (EP X pins σ Q) X.xe s₂) X.xe s₁) X.xe s
theorem zkh (b:Expr) {op:CmpOp}(h:op≠.In) (h2:op≠.NotIn):behindInMarks op b=false:=by
  have e1:(op == CmpOp.In)=false:=by cases op<;>first | rfl | exact absurd rfl h
  have e2:(op == CmpOp.NotIn)=false:=by cases op<;>first | rfl | exact absurd rfl h2
  cases b<;>simp[behindInMarks,e1,e2]
def tIsN (ta:TE):TE:=fun σ H Q=>ta σ H fun x H1=>Q (.bl (decide (x = .non))) H1
def zw1 (ta:TE):TE:=fun σ H Q=>ta σ H fun x H1=>Q (.bl (!decide (x = .non))) H1
theorem RelV.none_iff {x:V}{v:ty3q}(r:RelV x v):(v == Value.none)=decide (x = .non):=by
  cases x with
  | non=>cases r;rfl
  | bl _=>cases r;rfl
  | int _=>obtain⟨t,rfl⟩:=r;rfl
  | str _=>obtain⟨t,rfl⟩:=r;rfl
  | byt _=>obtain⟨t,rfl⟩:=r;rfl
  | flt _=>obtain⟨t,rfl⟩:=r;rfl
  | ref _=>cases r;rfl
  | ty _=>cases r;rfl
theorem zu8 {j pos'}(ha:PE X a ta):PC X .Is a (.Constant .none j pos') (tIsN ta):=by
  intro pins s σ H Q I h;refine thn (ha pins s σ H _ I h) fun v s1 hq0=>?_
  obtain⟨x,H1,I1,r1,q1⟩:=hq0;exact Constant_none (is_none_gen ⟨.bl _,H1,I1,by rw[r1.none_iff];rfl,q1⟩)
theorem zi2 {j pos'}(ha:PE X a ta):PC X .IsNot a (.Constant .none j pos') (zw1 ta):=by
  intro pins s σ H Q I h;refine thn (ha pins s σ H _ I h) fun v s1 hq0=>?_
  obtain⟨x,H1,I1,r1,q1⟩:=hq0;exact Constant_none (isnot_none_gen ⟨.bl _,H1,I1,by rw[r1.none_iff];rfl,q1⟩)
def tB (t:TE):TT:=fun σ H Q=>t σ H fun x H1=>∃c,x = .bl c/\Q c H1
theorem zmw {op:CmpOp}{t:TE}(h:PC X op a b t) (h1:behindInMarks op b=false:=by first | exact zkh _ (by decide) (by decide) | rfl):PE X (.Compare a [op] [b] pos) t:=fun pins s σ H Q I hw=>wpAny_Compare1 (h pins s σ H Q I hw) h1
theorem zfu {op:CmpOp}{t:TE}(h:PC X op a b t) (h1:behindInMarks op b=false:=by first | exact zkh _ (by decide) (by decide) | rfl):PT X (.Compare a [op] [b] pos) (tB t):=by
  intro pins s σ H Q I hw;refine wpAny_isTrue_Compare1 (thn (h pins s σ H _ I hw) fun v s1 h1=>thn h1 fun u s2 h2=>thn h2 fun c s3 hq0=>?_) h1;obtain⟨x,H1,I1,r1,q1⟩:=hq0;obtain⟨d,rfl,q⟩:=q1;cases r1;exact al72q ⟨H1,I1,q⟩
theorem zhc {e:Expr}{t:TE}(h:PE X e t) (he:∀whole,isTrue e X.env whole=(do let v ←whole;standAt e.pos;holding [v] (truthy v)):=by intro _;rfl):PT X e (tB t):=by
  intro pins s σ H Q I hw;refine isTrue_plain (thn (h pins s σ H _ I hw) fun v s1 hq0=>?_) (he _);obtain⟨x,H1,I1,r1,q1⟩:=hq0;obtain⟨d,rfl,q⟩:=q1;cases r1;exact al72q ⟨H1,I1,q⟩
variable {tA tB':TT}{rest:List Expr}
def tAnd (t u:TT):TT:=fun σ H Q=>t σ H fun c H1=>if c=true then u σ H1 Q else Q false H1
def tOr (t u:TT):TT:=fun σ H Q=>t σ H fun c H1=>if c=true then Q true H1 else u σ H1 Q
def tNot (t:TT):TT:=fun σ H Q=>t σ H fun c H1=>Q (!c) H1
theorem zc3 (ha:PT X a tA):PW X (.BoolOp .And [a] pos) tA:=by
  intro wh pins s σ H Q I h;refine isTrue_and (thn (ha pins s σ H Q I h) fun c s1 e=>?_);cases c with
  | true=>exact isTrue_and_nil e
  | false=>exact e
theorem zmx (ha:PT X a tA):PW X (.BoolOp .Or [a] pos) tA:=by
  intro wh pins s σ H Q I h;refine isTrue_or (thn (ha pins s σ H Q I h) fun c s1 e=>?_);cases c with
  | false=>exact isTrue_or_nil e
  | true=>exact e
theorem zeq (ha:PT X a tA) (hb:PW X (.BoolOp .And (b::rest) pos) tB'):PW X (.BoolOp .And (a::b::rest) pos) (tAnd tA tB'):=by
  intro wh pins s σ H Q I h;refine isTrue_and (thn (ha pins s σ H _ I h) fun c s1 hq0=>?_);obtain⟨H1,I1,q1⟩:=hq0;cases c with
  | true=>exact hb wh pins s1 σ H1 Q I1 q1
  | false=>exact⟨H1,I1,q1⟩
theorem zs8 (ha:PT X a tA) (hb:PW X (.BoolOp .Or (b::rest) pos) tB'):PW X (.BoolOp .Or (a::b::rest) pos) (tOr tA tB'):=by
  intro wh pins s σ H Q I h;refine isTrue_or (thn (ha pins s σ H _ I h) fun c s1 hq0=>?_);obtain⟨H1,I1,q1⟩:=hq0;cases c with
  | true=>exact⟨H1,I1,q1⟩
  | false=>exact hb wh pins s1 σ H1 Q I1 q1
theorem zfv (ha:PT X a tA):PT X (.UnaryOp .Not a pos) (tNot tA):=by
  intro pins s σ H Q I h;exact isTrue_not (ha pins s σ H (fun c H1=>Q (!c) H1) I h)
def zw2 (ta tb:TE):TE:=fun σ H Q=>ta σ H fun x H1=>∃c,x = .bl c/\if c=true then tb σ H1 Q else Q (.bl false) H1
theorem zu9 {op}{t:TE}(h:PE X a t):PE X (.BoolOp op [a] pos) t:=fun pins s σ H Q I hw=>BoolOp_one (h pins s σ H Q I hw)
theorem zva (ha:PE X a ta) (hb:PE X (.BoolOp .And (b::rest) pos) tb):PE X (.BoolOp .And (a::b::rest) pos) (zw2 ta tb):=by
  intro pins s σ H Q I h;refine BoolOp_and (thn (ha pins s σ H _ I h) fun v s1 hq0=>?_);obtain⟨x,H1,I1,r1,q1⟩:=hq0;obtain⟨c,rfl,q1⟩:=q1;cases r1;refine al72q ?_;cases c with
  | true=>exact hb pins s1 σ H1 Q I1 q1
  | false=>exact⟨.bl false,H1,I1,rfl,q1⟩
def tIf (t:TT) (ta tb:TE):TE:=fun σ H Q=>t σ H fun c H1=>if c=true then ta σ H1 Q else tb σ H1 Q
theorem zqc {c:Expr}(hc:PT X c tA) (ha:PE X a ta) (hb:PE X b tb):PE X (.IfExp c a b pos) (tIf tA ta tb):=by
  intro pins s σ H Q I h;refine wpAny_IfExp (thn (hc pins s σ H _ I h) fun d s1 hq0=>?_);obtain⟨H1,I1,q1⟩:=hq0;cases d with
  | true=>exact ha pins s1 σ H1 Q I1 q1
  | false=>exact hb pins s1 σ H1 Q I1 q1
end
def SqL (K:ty0q) (H:Hp) (a:ty1q) (xs:List V):Prop:=
  Rd H a (.lst xs)\/
    ∃(o:Obj) (its:Array ty3q) (n:Nat),K.lookup a=some o/\o.cls = .type "list"/\o.dict=none/\o.data = .seq its n/\its.size<=sizeLine/\Vals xs its.toList
def SqT (K:ty0q) (H:Hp) (a:ty1q) (xs:List V):Prop:=
  Rd H a (.tup xs)\/
    ∃(o:Obj) (its:Array ty3q) (n:Nat),K.lookup a=some o/\o.cls = .type "tuple"/\o.data = .seq its n/\its.size<=sizeLine/\Vals xs its.toList
def absV:ty3q->Option V
  | .none=>some .non
  | .bool b=>some (.bl b)
  | .int i _=>some (.int i)
  | .str x _=>some (.str x)
  | .bytes b _=>some (.byt b)
  | .float b _=>some (.flt b)
  | .ref a=>some (.ref a)
  | .type n=>some (.ty n)
  | _=>none
theorem RelV.abs {x:V}{u:ty3q}(r:RelV x u):absV u=some x:=by
  cases x with
  | non=>cases r;rfl
  | bl _=>cases r;rfl
  | int _=>obtain⟨t,rfl⟩:=r;rfl
  | str _=>obtain⟨t,rfl⟩:=r;rfl
  | byt _=>obtain⟨t,rfl⟩:=r;rfl
  | flt _=>obtain⟨t,rfl⟩:=r;rfl
  | ref _=>cases r;rfl
  | ty _=>cases r;rfl
theorem RelV.inj {x y:V}{u:ty3q}(r:RelV x u) (q:RelV y u):x=y:=al46q (r.abs.symm.trans q.abs)
theorem Vals.inj:∀{xs ys:List V}{us:List ty3q},Vals xs us->Vals ys us->xs=ys
  | _,_,_,.nil,.nil=>rfl
  | _,_,_,.cons r t,.cons r' t'=>by rw[r.inj r',Vals.inj t t']
section
variable {X:Cx}{pins:ty91q}{σ:St}{H:Hp}{s:ty2q}{a:ty1q}{xs ys:List V}
theorem SqL.of {K:ty0q}(h:H a=some (.lst xs)):SqL K H a xs:=.inl (.inl h)
theorem SqT.of {K:ty0q}(h:H a=some (.tup xs)):SqT K H a xs:=.inl (.inl h)
theorem Inv.list (I:Inv X pins σ H s) (h:SqL X.K H a xs):∃its:List ty3q,Vals xs its/\PlainL s.heap a its.toArray/\xs.length<=sizeLine:=by
  rcases h with h | ⟨o,its,n,hk,hc,hd,hs,hz,r⟩
  · obtain⟨z,its,n,r,e⟩:=h.ok I.hok;exact⟨its,r,⟨_,n,e,rfl,rfl,rfl⟩,z⟩
  · refine⟨its.toList,r,⟨o,n,I.kIn a o hk,hc,hd,by simpa using hs⟩,?_⟩;have e:=r.length;simp only [al34q] at e;lia
theorem Inv.tuple (I:Inv X pins σ H s) (h:SqT X.K H a xs):∃its:List ty3q,Vals xs its/\IsTup s.heap a its.toArray/\xs.length<=sizeLine:=by
  rcases h with h | ⟨o,its,n,hk,hc,hs,hz,r⟩
  · obtain⟨z,its,r,p⟩:=h.ok I.hok;exact⟨its,r,p,z⟩
  · refine⟨its.toList,r,⟨o,I.kIn a o hk,hc,n,by simpa using hs⟩,?_⟩;have e:=r.length;simp only [al34q] at e;lia
theorem Inv.list_inj (I:Inv X pins σ H s) (h:SqL X.K H a xs) (h':SqL X.K H a ys):xs=ys:=by
  obtain⟨its,r,⟨o,n,e,_,_,d⟩,_⟩:=I.list h;obtain⟨its',r',⟨o',n',e',_,_,d'⟩,_⟩:=I.list h';rw[e] at e';cases e';rw[d] at d';injection d' with d1 _
  have:its=its':=by simpa using al67q Array.toList d1
  subst this;exact r.inj r'
theorem Inv.tuple_inj (I:Inv X pins σ H s) (h:SqT X.K H a xs) (h':SqT X.K H a ys):xs=ys:=by
  obtain⟨its,r,⟨o,e,_,n,d⟩,_⟩:=I.tuple h;obtain⟨its',r',⟨o',e',_,n',d'⟩,_⟩:=I.tuple h';rw[e] at e';cases e';rw[d] at d';injection d' with d1 _
  have:its=its':=by simpa using al67q Array.toList d1
  subst this;exact r.inj r'
end
abbrev Cx.wish (X:Cx) (E:ty90q):Cx:={ X with xe:=E }
abbrev Cx.nox (X:Cx):Cx:=X.wish fun _ _=>False
theorem Cx.Ok.wish {X:Cx}(ok:X.Ok) (E:ty90q):(X.wish E).Ok:=
  ⟨ok.mod,ok.kind,ok.glob,ok.blt,ok.above,ok.inj,ok.has,ok.cab,ok.hd,ok.frames,ok.stk,ok.exf,ok.bs,ok.bsz,ok.noex,ok.exfs,ok.funs,ok.frf⟩
theorem Cx.Ok.unwish {X:Cx}{E:ty90q}(ok:(X.wish E).Ok):X.Ok:=
  ⟨ok.mod,ok.kind,ok.glob,ok.blt,ok.above,ok.inj,ok.has,ok.cab,ok.hd,ok.frames,ok.stk,ok.exf,ok.bs,ok.bsz,ok.noex,ok.exfs,ok.funs,ok.frf⟩
section
variable {X:Cx}{pins:ty91q}{σ:St}{H:Hp}{s:ty2q}{E:ty90q}
theorem Inv.wish (I:Inv X pins σ H s) (E:ty90q):Inv (X.wish E) pins σ H s:=⟨I.ok.wish E,I.os,I.bare,I.base,I.loc,I.cell,I.free,I.freeC,I.pin,I.hok,I.len⟩
theorem Inv.unwish (I:Inv (X.wish E) pins σ H s):Inv X pins σ H s:=⟨I.ok.unwish,I.os,I.bare,I.base,I.loc,I.cell,I.free,I.freeC,I.pin,I.hok,I.len⟩
theorem SP.unwish {D:Ends}{f:Flow}{s':ty2q}(h:SP (X.wish E) pins D f s'):SP X pins D f s':=by
  cases f with
  | next=>obtain⟨σ',H',I,q⟩:=h;exact⟨σ',H',I.unwish,q⟩
  | brk=>obtain⟨σ',H',I,q⟩:=h;exact⟨σ',H',I.unwish,q⟩
  | cont=>obtain⟨σ',H',I,q⟩:=h;exact⟨σ',H',I.unwish,q⟩
  | ret u=>obtain⟨v,σ',H',I,r,q⟩:=h;exact⟨v,σ',H',I.unwish,r,q⟩
theorem PSs.nox {st:List Stmt}{t:TS}(h:PSs X.nox st t):PSs X st t:=fun pins s σ H D I hw=>
  al49q (h pins s σ H D (I.wish _) hw) (fun _ _ q=>q.unwish) fun _ _ z=>False.elim z
end
section
variable {X:Cx}{st:Stmt}{rest:List Stmt}{t u:TS}{e:Expr}{te:TE}{pos:Pos}
def zfj:TS:=fun D σ H=>D.nx σ H
def tSeq (t u:TS):TS:=fun D σ H=>t { D with nx:=u D } σ H
theorem zz:PSs X [] zfj:=fun _ _ σ H _ I h=>al173q ⟨σ,H,I,h⟩
theorem zc (h1:PS X st t) (h2:PSs X rest u):PSs X (st::rest) (tSeq t u):=by
  intro pins s σ H D I h;refine wpAny_execs_cons (thn (h1 pins s σ H { D with nx:=u D } I h) fun f s1 q=>?_);cases f with
  | next=>
    obtain⟨σ',H',I',q⟩:=q;exact h2 pins s1 σ' H' D I' q
  | ret v=>exact q
  | brk=>exact q
  | cont=>exact q
theorem zf (h1:PS X st t):PSs X [st] t:=by
  intro pins s σ H D I h;refine wpAny_execs_cons (thn (h1 pins s σ H D I h) fun f s1 q=>?_);cases f with
  | next=>exact al173q q
  | ret v=>exact q
  | brk=>exact q
  | cont=>exact q
theorem Inv.quiet {pins:ty91q}{σ:St}{H:Hp}{s:ty2q}(I:Inv X pins σ H s):interactive X.env=false:=by simp[interactive,I.ok.kind]
def zw3 (te:TE):TS:=fun D σ H=>te σ H fun _ H1=>D.nx σ H1
theorem zat (he:PE X e te) (hs:swapsWith e none pos.line X.env=pure false:=by rfl):PS X (.Expr e pos) (zw3 te):=by
  intro pins s σ H D I h;exact wpAny_Expr_any (thn (he pins s σ H _ I h) fun v s1 ⟨x,H1,I1,r1,q1⟩=>⟨σ,H1,I1,q1⟩) I.quiet hs
def tRet (te:TE):TS:=fun D σ H=>te σ H D.rt
theorem zy (he:PE X e te):PS X (.Return (some e) pos) (tRet te):=by
  intro pins s σ H D I h;exact wpAny_Return_some (thn (he pins s σ H _ I h) fun v s1 ⟨x,H1,I1,r1,q1⟩=>⟨x,σ,H1,I1,r1,q1⟩)
def tIfS (c:TT) (t u:TS):TS:=fun D σ H=>c σ H fun b H1=>if b=true then t D σ H1 else u D σ H1
theorem zaz {c:Expr}{a b:List Stmt}{tc:TT}(hc:PT X c tc) (ha:PSs X a t) (hb:PSs X b u):PS X (.If c a b pos) (tIfS tc t u):=by
  intro pins s σ H D I h;refine wpAny_If (thn (hc pins s σ H _ I h) fun d s1 hq0=>?_);obtain⟨H1,I1,q1⟩:=hq0;cases d with
  | true=>exact ha pins s1 σ H1 D I1 q1
  | false=>exact hb pins s1 σ H1 D I1 q1
def zvb:TS:=fun _ _ _=>False
theorem zqd:PS X st zvb:=fun _ _ _ _ _ _ h=>h.elim
end
abbrev TG:=V->St->Hp->(St->Hp->Prop)->Prop
abbrev TGs:=List V->St->Hp->(St->Hp->Prop)->Prop
def PG (X:Cx) (target:Expr) (t:TG):Prop:=
  ∀(pins:ty91q) (s:ty2q) (σ:St) (H:Hp) (v:V) (u:ty3q) (Q:St->Hp->Prop),Inv X pins σ H s->RelV v u->t v σ H Q->
    wpAny (model X.prog X.w) X.A (assign target X.env u) (fun _ s'=>∃σ' H',Inv X pins σ' H' s'/\Q σ' H') X.xe s
def PGs (X:Cx) (ts:List Expr) (t:TGs):Prop:=
  ∀(pins:ty91q) (s:ty2q) (σ:St) (H:Hp) (vs:List V) (us:List ty3q) (Q:St->Hp->Prop),Inv X pins σ H s->Vals vs us->t vs σ H Q->
    wpAny (model X.prog X.w) X.A (assignInOrder ((assignEach ts X.env).map (·.2)) us) (fun _ s'=>∃σ' H',Inv X pins σ' H' s'/\Q σ' H') X.xe s
section
variable {X:Cx}{pos:Pos}
def zn (i:Nat):TG:=fun v σ H Q=>Q (σ.set i (some v)) H
theorem zbg {i:Nat}{x:Str}(hN:X.N.Nodup) (hi:X.N[i]? = some x) (hx:Loc X.env.scope x) (hf:X.fn x=true\/X.env.scope.names.lookup x=some .local:=by first | exact .inl rfl | exact .inr rfl | assumption):PG X (.Name x pos) (zn i):=by
  intro pins s σ H v u Q I r h;exact wpAny_assign_Name (zeo I hN hi hx r (fun s' I'=>⟨_,H,I',h⟩) hf)
def gNil:TGs:=fun vs σ H Q=>vs = []/\Q σ H
def zw4 (t:TG) (u:TGs):TGs:=fun vs σ H Q=>∃v r,vs=v::r/\t v σ H fun σ' H'=>u r σ' H' Q
theorem zdt:PGs X [] gNil:=by
  intro pins s σ H vs us Q I r h;obtain⟨e,h⟩:=h;subst e;cases r;exact assignInOrder_nil ⟨σ,H,I,h⟩
theorem za6 {e:Expr}{es:List Expr}{t:TG}{u:TGs}(h1:PG X e t) (h2:PGs X es u)
    (hs:(assignEach (e::es) X.env).map (·.2)=assign e X.env::(assignEach es X.env).map (·.2):=by rfl):PGs X (e::es) (zw4 t u):=by
  intro pins s σ H vs us Q I r h;obtain⟨v,vr,e1,h⟩:=h;subst e1;cases r with
  | cons r rr=>
    rw[hs];refine assignInOrder_cons (thn (h1 pins s σ H _ _ _ I r h) fun _ s1 hq0=>?_);obtain⟨σ1,H1,I1,q1⟩:=hq0;exact h2 pins s1 σ1 H1 _ _ Q I1 rr q1
def gTup (K:ty0q) (n:Nat) (t:TGs):TG:=fun v σ H Q=>∃a xs,v = .ref a/\SqT K H a xs/\xs.length=n/\t xs σ H Q
theorem zvc {es:List Expr}{k:Nat}{t:TGs}{n:Nat}(hc:X.calm=true) (h:PGs X es t)
    (hn:(assignEach es X.env).length=n:=by rfl) (hst:(assignEach es X.env).findIdx? (·.1)=none:=by rfl):PG X (.Tuple es k pos) (gTup X.K n t):=by
  intro pins s σ H v u Q I r hw;obtain⟨a,xs,e1,hq,hl,hw⟩:=hw;subst e1;cases r;obtain⟨its,rv,ht,hz⟩:=I.tuple hq;refine assign_Tuple_tuple (I.ok.hd hc) ht (by simp[hn,←hl,rv.length]) hst fun h' hx=>?_
  have I1:Inv X pins σ H { s with heap:=h' }:=I.kept (t':=s.toks) fun b o e=>hx b o (al26q (al13q e)) e
  exact h pins _ σ H xs _ Q I1 (by simpa using rv) hw
def tAsg (te:TE) (g:TG):TS:=fun D σ H=>te σ H fun x H1=>g x σ H1 D.nx
theorem zvd {i:Nat}{x:Str}{e:Expr}{te:TE}{pos':Pos}(hN:X.N.Nodup) (hi:X.N[i]? = some x) (hx:Loc X.env.scope x) (he:PE X e te) (hs:swapsWith e (some (.Name x pos')) pos.line X.env=pure false:=by rfl) (hf:X.fn x=true\/X.env.scope.names.lookup x=some .local:=by first | exact .inl rfl | exact .inr rfl | assumption) :
    PS X (.Assign [.Name x pos'] e pos) (tAsg te (zn i)):=by
  intro pins s σ H D I h;refine wpAny_Assign_Name (thn (he pins s σ H _ I h) fun v s1 hq0=>?_) hs;obtain⟨y,H1,I1,r1,q1⟩:=hq0;exact zeo I1 hN hi hx r1 (fun s2 I2=>⟨_,H1,I2,q1⟩) hf
def tPar (i j:Nat) (ta:TA):TS:=fun D σ H=>ta σ H fun vs H1=>∃v w,vs = [v,w]/\D.nx ((σ.set i (some v)).set j (some w)) H1
theorem zve {i j:Nat}{x y:Str}{a b:Expr}{ta:TA}{px py pt:Pos} {kt k2 pt2}(hc:X.calm=true) (hN:X.N.Nodup) (hi:X.N[i]? = some x) (hj:X.N[j]? = some y) (hij:i≠j)
    (hx:X.env.scope.names.lookup x=some .local) (hy:X.env.scope.names.lookup y=some .local) (ha:PA X [a,b] ta)
    (hw:swappedStores [.Tuple [.Name x px,.Name y py] kt pt] (.Tuple [a,b] k2 pt2) X.env=pure (some [x,y]))
    (hs:swapsWithSole [.Tuple [.Name x px,.Name y py] kt pt] (.Tuple [a,b] k2 pt2) pos.line X.env=pure false:=by rfl) :
    PS X (.Assign [.Tuple [.Name x px,.Name y py] kt pt] (.Tuple [a,b] k2 pt2) pos) (tPar i j ta):=by
  intro pins s σ H D I h;rw[exec_Assign_arm];refine al0q (al114q ?_);rw[hs];refine al0q (al2q ?_);rw[al7q (by decide)];refine al0q (Tuple_ (thn (ha _ pins s σ H _ I h) fun us s1 hq0=>?_));obtain⟨vs,H1,I1,r1,q1⟩:=hq0;obtain⟨v,w,e1,q1⟩:=q1;subst e1;obtain⟨u1,u2,rfl,rv,rw'⟩:∃u1 u2,us = [u1,u2]/\RelV v u1/\RelV w u2:=by
    cases r1 with
    | cons p q=>
      cases q with
      | cons p' q'=>
        cases q';exact⟨_,_,rfl,p,p'⟩
  refine al40q ?_ (by show 2<=sizeLine;decide);have I2:Inv X pins σ H1 { s1 with heap:=s1.heap.push { cls:=.type "tuple",data:=.seq [u1,u2].toArray } }:=I1.kept (t':=s1.toks) fun b o e=>al4q _ e
  rw[hw];refine al0q (al2q ?_);show wpAny (model X.prog X.w) X.A (do rule "assign.swapped-stores";let items ←unpackItems (.ref s1.heap.objs.size) 2 none;assignInOrder [fun v=>bindName X.env y v,fun v=>bindName X.env x v] items.reverse;pure Flow.next) _ _ _;refine al0q (al102q (al0q (unpackItems_tuple (items:=#[u1,u2]) (I.ok.hd hc) (IsTup.new s1.heap _) fun h' hx'=>?_)));have I3:=I2.kept (h':=h') (t':=s1.toks) fun b o e=>hx' b o (al26q (al13q e)) e
  show wpAny _ _ (assignInOrder [fun v=>bindName X.env y v,fun v=>bindName X.env x v] [u2,u1] >>= fun _=>pure Flow.next) _ _ _;refine al0q (assignInOrder_cons (wpAny_bindName (zeo I3 hN hj (.inl hy) rw' (fun s2 I4=>?_) (.inr hy))));refine assignInOrder_cons (wpAny_bindName (zeo I4 hN hi (.inl hx) rv (fun s3 I5=>assignInOrder_nil (al2q ?_)) (.inr hx)));rw[List.set_comm _ _ (al36q hij)] at I5;exact⟨_,H1,I5,q1⟩
end
section
variable {X:Cx}{pos:Pos}
def zvf (c:TT) (tb:TS):TS:=fun D σ H=>∃W:Nat->St->Hp->Prop,(∃m,W m σ H)/\∀m σ H,W m σ H->
  c σ H fun b H1=>if b=true then ∃N:St->Hp->Prop,(∀σ' H',N σ' H'->∃m',m'<m/\W m' σ' H')/\tb { D with nx:=N,ct:=N,bk:=D.nx } σ H1 else D.nx σ H1
theorem zgm {c:Expr}{body:List Stmt}{tc:TT}{tb:TS}(hp:PassesOwn (model X.prog X.w) X.A X.env X.xe) (hc:PT X c tc) (hb:PSs X body tb):PS X (.While c body [] pos) (zvf tc tb):=by
  intro pins s σ H D I h;obtain⟨W,⟨m0,w0⟩,turn⟩:=h;refine wpAny_While (codeAny_whileLoop (fun n s'=>∃σ' H',Inv X pins σ' H' s'/\W n σ' H') ?_ m0 ⟨σ,H,I,w0⟩);rintro n s1 ⟨σ1,H1,I1,w1⟩;refine al125q hp (thn (hc pins s1 σ1 H1 _ I1 (turn n σ1 H1 w1)) fun b s2 hq0=>?_);obtain⟨H2,I2,q2⟩:=hq0;cases b with
  | true=>
    obtain⟨N,hN,q2⟩:=q2;rw[al11q rfl];refine al125q hp (thn (hb pins s2 σ1 H2 _ I2 q2) fun f s3 q3=>?_);cases f with
    | next=>
      obtain⟨σ3,H3,I3,n3⟩:=q3;obtain⟨m',hm,w3⟩:=hN σ3 H3 n3;exact⟨m',hm,σ3,H3,I3,w3⟩
    | cont=>
      obtain⟨σ3,H3,I3,n3⟩:=q3;obtain⟨m',hm,w3⟩:=hN σ3 H3 n3;exact⟨m',hm,σ3,H3,I3,w3⟩
    | brk=>exact q3
    | ret v=>exact q3
  | false=>
    rw[al7q al19q];exact al173q ⟨σ1,H2,I2,q2⟩
end
structure It where
  go:Nat->Hp->Prop
  yld:Nat->Hp->V->Hp->Prop
  stop:Nat->Hp->Prop
def FpOk (X:Cx) (pins:ty91q) (H:Hp) (b:ty1q):Prop:=
  H b=none/\b≠X.env.locals/\b ∉ X.fs/\(b∈X.ex\/X.s₀.heap.objs.size<=b)/\(∀x c,X.env.cells.lookup x=some c->c≠b)/\∀p∈X.pn++pins,p.1≠b
theorem Inv.fpOk {X:Cx}{pins:ty91q}{σ:St}{H H':Hp}{s:ty2q}{b:ty1q}(I:Inv X pins σ H s) (hb:s.heap.objs.size<=b) (hn:H' b=none):FpOk X pins H' b:=by
  refine⟨hn,al143q (al45q I.lt hb),I.nofs hb,.inr (al44q I.sz hb),fun x c e z=>?_,fun p hp z=>?_⟩
  · obtain⟨v,q⟩:=I.cell x c e;exact absurd (al45q q.lt (by rw[z];exact hb)) (al64q _)
  · exact absurd (al45q (al13q (I.pin p hp).1) (by rw[z];exact hb)) (al64q _)
structure Turn (P:ty4q) (w:World) (K:ty0q) (tg:Expr) (J:It) (fp:List ty1q) (it:ty1q) (tn:Nat->Heap->Prop):Prop where
  mem:it∈fp
  obj:∀i h,tn i h->∀b∈fp,∃o,h.get? b=some o/\∀v,o.data≠.cell v
  keep:∀i h h',tn i h->(∀b∈fp,∀o,h.get? b=some o->h'.get? b=some o)->tn i h'
  item:∀(X:Cx),X.prog=P->X.w=w->X.K=K->X.calm=true->∀(i:Nat) (pins:ty91q) (s:ty2q) (σ:St) (H:Hp) (E:ty90q),Inv X pins σ H s->(∀b∈fp,FpOk X pins H b)->tn i s.heap->J.go i H->
    wpAny (model P w) X.A (pyNext (.ref it)) (fun r s1=>∃u,r=some u/\
      wpAny (model P w) X.A (letOwnedTupleGo tg (.ref it) u) (fun _ s2=>∃x H',Inv X pins σ H' s2/\RelV x u/\J.yld i H x H'/\tn (i+1) s2.heap/\∀b∈fp,H' b=none) E s1) E s
  done:∀(X:Cx),X.prog=P->X.w=w->X.K=K->X.calm=true->∀(i:Nat) (pins:ty91q) (s:ty2q) (σ:St) (H:Hp) (E:ty90q),Inv X pins σ H s->(∀b∈fp,FpOk X pins H b)->tn i s.heap->J.stop i H->
    wpAny (model P w) X.A (pyNext (.ref it)) (fun r s1=>r=none/\Inv X pins σ H s1) E s
  self:∀(A:Around) (i:Nat) (s:ty2q) (Q:ty90q) (E:ty90q),tn i s.heap->Q (.ref it) s->wpAny (model P w) A (pyIter (.ref it)) Q E s
abbrev TI:=St->Hp->(It->Hp->Prop)->Prop
def PIE (X:Cx) (pins:ty91q) (σ:St) (tg:Expr) (R:It->Hp->Prop) (itv:ty3q) (s2:ty2q):Prop:=
  ∃(it:ty1q) (fp:List ty1q) (tn:Nat->Heap->Prop) (J:It) (H':Hp),itv = .ref it/\Inv X pins σ H' s2/\Turn X.prog X.w X.K tg J fp it tn/\tn 0 s2.heap/\(∀b∈fp,FpOk X pins H' b)/\R J H'
def PI (X:Cx) (tg iter:Expr) (wi:TI):Prop:=
  ∀(pins:ty91q) (s:ty2q) (σ:St) (H:Hp) (R:It->Hp->Prop),Inv X pins σ H s->wi σ H R->
    wpAny (model X.prog X.w) X.A (eval iter X.env) (fun v s1=>wpAny (model X.prog X.w) X.A (pyIter v) (PIE X pins σ tg R) X.xe s1) X.xe s
theorem zmy {M:Model}{A:Around}{E:ty90q}{s:ty2q}{tg:Expr}{it:ty1q}{u:ty3q}{o:Obj}{n:String}{vs:Array ty3q}{Q:Unit->ty2q->Prop}(ho:s.heap.get? it=some o) (hc:o.cls = .type n) (hd:o.data = .fields vs)
    (hn : ["enumerate","zip","dict_itemiterator","dict_reverseitemiterator","odict_iterator","itertools.zip_longest","itertools.pairwise"].contains n=false) (hQ:Q () s):wpAny M A (letOwnedTupleGo tg (.ref it) u) Q E s:=by
  unfold letOwnedTupleGo;cases tg<;>first
    | exact al2q hQ
    | (cases u<;>first
        | exact al2q hQ
        | (refine al0q (wpAny_load ho ?_)
           rw[hc,hd];show wpAny M A (if (["enumerate","zip","dict_itemiterator","dict_reverseitemiterator","odict_iterator","itertools.zip_longest","itertools.pairwise"].contains n&&vs[0]? == some (rawInt _))=true then _ else _) Q E s;rw[al7q (by intro h;rw[hn,al153q] at h;cases h)];exact al2q hQ))
def Itl (K:ty0q) (a:ty1q):It:=
  ⟨fun i H=>∃xs x,SqL K H a xs/\xs[i]? = some x,fun i H x H'=>H'=H/\∀xs,SqL K H a xs->xs[i]? = some x,fun i H=>∃xs,SqL K H a xs/\xs.length<=i⟩
def Itr (lo:Int) (n:Nat):It:=⟨fun i _=>i<n,fun i H x H'=>H'=H/\x = .int (lo+i),fun i _=>n<=i⟩
theorem zmz {P:ty4q}{w:World}{K:ty0q}{tg:Expr}(a it:ty1q):Turn P w K tg (Itl K a) [it] it (fun i h=>h.IsListIter it a i) where
  mem:=by simp
  obj:=fun i h st b hb=>by
    have e:b=it:=by simpa using hb
    subst e;obtain⟨o,e,c,d⟩:=st;exact⟨o,e,fun v z=>by rw[d] at z;cases z⟩
  keep:=fun i h h' st k=>st.at fun o e=>k it (by simp) o e
  item:=by
    intro X hP hw hK hc i pins s σ H E I hf st hg;subst hP hw hK;obtain⟨xs,x,hq,hx⟩:=hg;obtain⟨its,rv,p,hz⟩:=I.list hq;obtain⟨u,hu,ru⟩:=rv.get hx;obtain⟨f0,f1,f2,f3,f4,f5⟩:=hf it (by simp);refine al95q st p.isList (x:=u) (by simpa using hu) fun h' st' sb=>?_
    have I1:Inv X pins σ H { s with heap:=h' }:=I.turned (t':=s.toks) (fun b o hb e=>(sb.2 b hb).trans e) f0 f1 f3 f4 f5;obtain⟨o,e,c,d⟩:=id st';exact⟨u,rfl,zmy (s:={ s with heap:=h' }) e c d (by decide) ⟨x,H,I1,ru,⟨rfl,fun ys hy=>by rw[I.list_inj hy hq];exact hx⟩,st',fun b hb=>(hf b hb).1⟩⟩
  done:=by
    intro X hP hw hK hc i pins s σ H E I hf st hg;subst hP hw hK;obtain⟨xs,hq,hx⟩:=hg;obtain⟨its,rv,p,hz⟩:=I.list hq;obtain⟨f0,f1,f2,f3,f4,f5⟩:=hf it (by simp);have hl:=rv.length;exact al148q (I.ok.hd hc) st p.isList (by simp;lia) fun h' eb=>⟨rfl,I.turned (t':=s.toks) (fun b o hb e=>eb b o hb e) f0 f1 f3 f4 f5⟩
  self:=fun _ _ _ _ _ st h=>wpAny_pyIter_listiter st h
theorem zfw {P:ty4q}{w:World}{K:ty0q}{tg:Expr}(it:ty1q) (lo:Int) (n:Nat):Turn P w K tg (Itr lo n) [it] it (fun i h=>IsRangeIter h it (lo+(i:Nat) * 1) ((n:Int)-(i:Nat)) 1) where
  mem:=by simp
  obj:=fun i h st b hb=>by
    have e:b=it:=by simpa using hb
    subst e;exact⟨_,st,fun v z=>by
      have z':Data.fields _=Data.cell v:=z;cases z'⟩
  keep:=fun i h h' st k=>k it (by simp) _ st
  item:=by
    intro X hP hw hK hc i pins s σ H E I hf st hg;subst hP hw hK;obtain⟨f0,f1,f2,f3,f4,f5⟩:=hf it (by simp);have W:=Walks.range (prog:=X.prog) (w:=X.w) (I.ok.hd hc) it lo 1 n;refine W.item i s _ _ hg st fun v h' tk hv st' kk=>?_
    obtain⟨t,rfl⟩:=hv;have I1:Inv X pins σ H { s with heap:=h',toks:=tk }:=I.turned (fun b o hb e=>kk b o (by simpa using hb) e) f0 f1 f3 f4 f5;refine⟨_,rfl,zmy (s:={ s with heap:=h',toks:=tk }) (n:="range_iterator") st' rfl rfl (by decide) ⟨.int (lo+i),H,I1,⟨t,?_⟩,⟨rfl,rfl⟩,st',fun b hb=>(hf b hb).1⟩⟩;rw[Int.mul_one]
  done:=by
    intro X hP hw hK hc i pins s σ H E I hf st hg;subst hP hw hK;obtain⟨f0,f1,f2,f3,f4,f5⟩:=hf it (by simp);exact wpAny_pyNext_range_end (I.ok.hd hc) st (by have:n<=i:=hg;lia) fun h' eb=>⟨rfl,I.turned (t':=s.toks) (fun b o hb e=>eb b o hb e) f0 f1 f3 f4 f5⟩
  self:=fun _ _ _ _ _ st h=>wpAny_pyIter_rangeiter st h
section
variable {X:Cx}{tg:Expr}
def zvg (K:ty0q) (tl:TE):TI:=fun σ H R=>tl σ H fun x H1=>∃a,x = .ref a/\(∃xs,SqL K H1 a xs)/\R (Itl K a) H1
theorem zs9 {l:Expr}{tl:TE}(hl:PE X l tl):PI X tg l (zvg X.K tl):=by
  intro pins s σ H R I h;refine thn (hl pins s σ H _ I h) fun v s1 hq0=>?_
  obtain⟨x,H1,I1,r1,q1⟩:=hq0;obtain⟨a,e,⟨xs,hq⟩,q⟩:=q1;subst e;cases r1;obtain⟨its,rv,p,hz⟩:=I1.list hq;refine al128q p.isList ?_;refine⟨s1.heap.objs.size,[s1.heap.objs.size],_,_,H1,rfl,I1.kept (t':=s1.toks) fun b o e=>al4q _ e,zmz a _,⟨_,al12q _ rfl,rfl,rfl⟩,fun b hb=>?_,q⟩;have e:b=s1.heap.objs.size:=by simpa using hb
  subst e;exact I1.fpOk (al18q _) (I1.hok.fresh (al18q _))
theorem zqe {pins:ty91q}{σ:St}{H:Hp}{s:ty2q}{R:It->Hp->Prop}{E:ty90q}{lo hi:Int}{t u v:Tok}{tk:Nat}(I:Inv X pins σ H s) (h1 : -(2 ^ 62)<=lo) (h2:lo<2 ^ 62) (h3 : -(2 ^ 62)<=hi) (h4:hi<2 ^ 62)
    (q:R (Itr lo (hi-lo).toNat) H):wpAny (model X.prog X.w) X.A (pyIter (.ref s.heap.objs.size)) (PIE X pins σ tg R) E { s with heap:=s.heap.push { cls:=.type "range",data:=.fields #[.int lo t,.int hi u,.int 1 v] },toks:=tk }:=by
  refine wpAny_pyIter_range (IsRange.new ..) (small_one h1 h2 h3 h4) ?_;have I1:Inv X pins σ H { s with heap:=s.heap.push { cls:=.type "range",data:=.fields #[.int lo t,.int hi u,.int 1 v] },toks:=tk }:=I.kept fun b o e=>al4q _ e
  refine⟨(s.heap.push { cls:=.type "range",data:=.fields #[.int lo t,.int hi u,.int 1 v] }).objs.size,[(s.heap.push { cls:=.type "range",data:=.fields #[.int lo t,.int hi u,.int 1 v] }).objs.size],_,_,H,rfl,
    I1.kept (t':=tk) fun b o e=>al4q _ e,zfw _ lo (hi-lo).toNat,?_,fun b hb=>?_,q⟩
  · have e1:lo+((0:Nat):Int) * 1=lo:=by simp
    have e2:(((hi-lo).toNat:Nat):Int)-((0:Nat):Int)=Builtin.Range.rangeSize lo hi 1:=by rw[rangeSize_one];split<;>lia
    show IsRangeIter _ _ (lo+((0:Nat):Int) * 1) ((((hi-lo).toNat:Nat):Int)-((0:Nat):Int)) 1;rw[e1,e2];exact al12q _ rfl
  · have e:b=(s.heap.push { cls:=.type "range",data:=.fields #[.int lo t,.int hi u,.int 1 v] }).objs.size:=by simpa using hb
    subst e;exact I1.fpOk (al18q _) (I1.hok.fresh (al18q _))
def zw5 (ta:TA):TI:=fun σ H R=>ta σ H fun vs H1=>∃j:Int,vs = [.int j]/\-(2 ^ 62)<=j/\j<2 ^ 62/\R (Itr 0 j.toNat) H1
theorem zcj {a:Expr}{ta:TA}{p pos:Pos}(hg:Gl X "range") (hm:X.mg "range" = none) (ha:PA X [a] ta) (hs:starEach [a] X.env = [(false,eval a X.env)]:=by rfl):PI X tg (.Call (.Name "range" p) [a] [] pos) (zw5 ta):=by
  intro pins s σ H R I h;refine Call_ (zhb I hg hm boot_range (al112q (thn (ha pos pins s σ H _ I h) fun us s1 hq0=>?_) hs rfl));obtain⟨vs,H1,I1,r1,q1⟩:=hq0;obtain⟨j,e,q1,q2,q⟩:=q1;subst e;cases r1 with
  | cons r rr=>
    cases rr;obtain⟨t,rfl⟩:=r;exact call_range_1 (zqe I1 (by lia) (by lia) q1 q2 (by simpa using q))
def tFor (wi:TI) (g:TG) (tb:TS):TS:=fun D σ H=>wi σ H fun J H1=>∃W:Nat->Nat->St->Hp->Prop,(∃m,W 0 m σ H1)/\∀i m σ H,W i m σ H->
  (J.stop i H/\D.nx σ H)\/(J.go i H/\∃N:St->Hp->Prop,(∀σ' H',N σ' H'->∃m',m'<m/\W (i+1) m' σ' H')/\∀x H',J.yld i H x H'->g x σ H' fun σ2 H2=>tb { D with nx:=N,ct:=N,bk:=D.nx } σ2 H2)
def zhd (fp:List ty1q) (h:Heap):ty91q:=fp.filterMap fun b=>(h.get? b).map fun o=>(b,o)
theorem zcr {fp:List ty1q}{h:Heap}{b:ty1q}{o:Obj}(hb:b∈fp) (e:h.get? b=some o):(b,o)∈zhd fp h:=List.mem_filterMap.mpr ⟨b,hb,by rw[e];rfl⟩
theorem zm0 {fp:List ty1q}{h:Heap}{p:ty1q×Obj}(hp:p∈zhd fp h):p.1∈fp/\h.get? p.1=some p.2:=by
  obtain⟨b,hb,e⟩:=List.mem_filterMap.mp hp;cases q:h.get? b with
  | none=>rw[q] at e;cases e
  | some o=>
    rw[q] at e;have e':(b,o)=p:=al46q e;subst e';exact⟨hb,q⟩
theorem Inv.pinned {pins:ty91q}{σ:St}{H:Hp}{s:ty2q}{fp:List ty1q}(I:Inv X pins σ H s) (hf:∀b∈fp,FpOk X pins H b) (ho:∀b∈fp,∃o,s.heap.get? b=some o/\∀v,o.data≠.cell v):Inv X (pins++zhd fp s.heap) σ H s:=
  I.pins_of fun p hp=>(al28q.mp hp).elim (fun z=>I.pin p (al61q _ z)) fun z=>by
    obtain⟨hb,e⟩:=zm0 z;obtain⟨f0,f1,f2,_⟩:=hf p.1 hb;obtain⟨o,e',d⟩:=ho p.1 hb;rw[e] at e';cases e';exact⟨e,f0,f1,f2,d⟩
theorem Inv.unpinned {pins pl:ty91q}{σ:St}{H:Hp}{s:ty2q}(I:Inv X (pins++pl) σ H s):Inv X pins σ H s:=I.pins_of fun p hp=>I.pin p (al61q _ (al55q _ hp))
theorem zac {iter:Expr}{body:List Stmt}{wi:TI}{g:TG}{tb:TS}{pos:Pos}(hp:PassesOwn (model X.prog X.w) X.A X.env X.xe) (hc:X.calm=true) (hi:PI X tg iter wi) (hg:PG X tg g) (hb:PSs X body tb)
    (hs:∀x,foldedSetIterable iter X.env x=pure x:=by intro _;rfl):PS X (.For tg iter body [] pos) (tFor wi g tb):=by
  intro pins s σ H D I h;refine wpAny_For (thn (hi pins s σ H _ I h) fun v s1 h1=>thn h1 fun itv s2 h2=>?_) hs;obtain⟨it,fp,tn,J,H2,e,I2,T,st2,f2,W,⟨m0,w0⟩,turn⟩:=h2;subst e;have stat:∀{H':Hp},(∀b∈fp,H' b=none)->∀b∈fp,FpOk X pins H' b:=fun hn b hb=>⟨hn b hb,(f2 b hb).2⟩
  refine codeAny_forLoop_any (fun n s'=>∃i σ' H',Inv X pins σ' H' s'/\tn i s'.heap/\(∀b∈fp,H' b=none)/\W i n σ' H') ?_ m0 ⟨0,σ,H2,I2,st2,fun b hb=>(f2 b hb).1,w0⟩;rintro n s3 ⟨i,σ3,H3,I3,st3,fr3,w3⟩;rcases turn i n σ3 H3 w3 with ⟨stop,qn⟩ | ⟨go,N,hN,step⟩
  · refine al125q hp (thn (T.done X rfl rfl rfl hc i pins s3 σ3 H3 X.xe I3 (stat fr3) st3 stop) fun r s4 hq0=>?_);obtain⟨hr,I4⟩:=hq0;subst hr;exact al173q ⟨σ3,H3,I4,qn⟩
  · refine al125q hp (thn (T.item X rfl rfl rfl hc i pins s3 σ3 H3 X.xe I3 (stat fr3) st3 go) fun r s4 hq0=>?_);obtain⟨u,hr,h4⟩:=hq0;subst hr;refine al125q hp (thn h4 fun _ s5 hq0=>?_);obtain⟨x,H5,I5,r5,y5,st5,fr5⟩:=hq0;have I5':=I5.pinned (stat fr5) (T.obj _ _ st5);refine al125q hp (thn (hg _ s5 σ3 H5 x u _ I5' r5 (step x H5 y5)) fun _ s6 hq0=>?_);obtain⟨σ6,H6,I6,q6⟩:=hq0;refine al125q hp (thn (hb _ s6 σ6 H6 _ I6 q6) fun f s7 q7=>?_);have again:∀{σ7:St}{H7:Hp},Inv X (pins++zhd fp s5.heap) σ7 H7 s7->N σ7 H7->∃m,m<n/\∃i σ' H',Inv X pins σ' H' s7/\tn i s7.heap/\(∀b∈fp,H' b=none)/\W i m σ' H':=fun {σ7 H7} I7 n7=>by
      obtain⟨m',hm,w7⟩:=hN σ7 H7 n7;refine⟨m',hm,i+1,σ7,H7,I7.unpinned,T.keep _ _ _ st5 fun b hb o e=>(I7.pin (b,o) (al61q _ (al61q _ (zcr hb e)))).1,fun b hb=>?_,w7⟩;obtain⟨o,e,d⟩:=T.obj _ _ st5 b hb;exact (I7.pin (b,o) (al61q _ (al61q _ (zcr hb e)))).2.1
    cases f with
    | next=>obtain⟨σ7,H7,I7,n7⟩:=q7;exact again I7 n7
    | cont=>obtain⟨σ7,H7,I7,n7⟩:=q7;exact again I7 n7
    | brk=>obtain⟨σ7,H7,I7,q7⟩:=q7;exact⟨σ7,H7,I7.unpinned,q7⟩
    | ret v=>obtain⟨x7,σ7,H7,I7,r7,q7⟩:=q7;exact⟨x7,σ7,H7,I7.unpinned,r7,q7⟩
end
theorem zaa {K:ty0q}{a:ty1q}{xs:List V}{g:TG}{tb:TS}{D:Ends}{σ:St}{H:Hp}(Pv:Nat->St->Hp->Prop) (h0:Pv 0 σ H) (hl:∀i σ H,i<=xs.length->Pv i σ H->SqL K H a xs)
    (hs:∀i x σ H,xs[i]? = some x->Pv i σ H->g x σ H fun σ2 H2=>tb { D with nx:=Pv (i+1),ct:=Pv (i+1),bk:=D.nx } σ2 H2) (hd:∀σ H,Pv xs.length σ H->D.nx σ H) :
    ∃W:Nat->Nat->St->Hp->Prop,(∃m,W 0 m σ H)/\∀i m σ H,W i m σ H->
      ((Itl K a).stop i H/\D.nx σ H)\/((Itl K a).go i H/\∃N:St->Hp->Prop,(∀σ' H',N σ' H'->∃m',m'<m/\W (i+1) m' σ' H')/\∀x H',(Itl K a).yld i H x H'->g x σ H' fun σ2 H2=>tb { D with nx:=N,ct:=N,bk:=D.nx } σ2 H2):=by
  refine⟨fun i m σ H=>m=xs.length-i/\i<=xs.length/\Pv i σ H,⟨xs.length,by simp,al73q _,h0⟩,?_⟩;rintro i m σ H ⟨rfl,hi,p⟩;have q:=hl i σ H hi p
  by_cases hlt:i<xs.length
  · refine .inr ⟨⟨xs,xs[i],q,by simp[hlt]⟩,Pv (i+1),fun σ' H' p'=>⟨xs.length-(i+1),by lia,rfl,hlt,p'⟩,fun x H' y=>?_⟩;obtain⟨e,y⟩:=y;subst e;exact hs i x σ _ (y xs q) p
  · have e:i=xs.length:=by lia
    subst e;exact .inl ⟨⟨xs,q,al18q _⟩,hd σ H p⟩
theorem zck {lo:Int}{n:Nat}{g:TG}{tb:TS}{D:Ends}{σ:St}{H:Hp}(Pv:Nat->St->Hp->Prop) (h0:Pv 0 σ H)
    (hs:∀i σ H,i<n->Pv i σ H->g (.int (lo+i)) σ H fun σ2 H2=>tb { D with nx:=Pv (i+1),ct:=Pv (i+1),bk:=D.nx } σ2 H2) (hd:∀σ H,Pv n σ H->D.nx σ H) :
    ∃W:Nat->Nat->St->Hp->Prop,(∃m,W 0 m σ H)/\∀i m σ H,W i m σ H->
      ((Itr lo n).stop i H/\D.nx σ H)\/((Itr lo n).go i H/\∃N:St->Hp->Prop,(∀σ' H',N σ' H'->∃m',m'<m/\W (i+1) m' σ' H')/\∀x H',(Itr lo n).yld i H x H'->g x σ H' fun σ2 H2=>tb { D with nx:=N,ct:=N,bk:=D.nx } σ2 H2):=by
  refine⟨fun i m σ H=>m=n-i/\i<=n/\Pv i σ H,⟨n,by simp,al73q _,h0⟩,?_⟩;rintro i m σ H ⟨rfl,hi,p⟩
  by_cases hlt:i<n
  · refine .inr ⟨hlt,Pv (i+1),fun σ' H' p'=>⟨n-(i+1),by lia,rfl,hlt,p'⟩,fun x H' y=>?_⟩;obtain⟨e,y⟩:=y;subst e y;exact hs i σ _ hlt p
  · have e:i=n:=by lia
    subst e;exact .inl ⟨al18q _,hd σ H p⟩
abbrev R2:=V->V->Hp->VK->Prop
def OpR (X:Cx) (f:ty3q->ty3q->Sem ty3q) (r:R2):Prop:=
  ∀(pins:ty91q) (s:ty2q) (σ:St) (H:Hp) (x y:V) (v u:ty3q) (Q:VK),Inv X pins σ H s->RelV x v->RelV y u->r x y H Q->
    wpAny (model X.prog X.w) X.A (f v u) (EP X pins σ Q) X.xe s
def UnR (X:Cx) (f:ty3q->Sem ty3q) (r:V->Hp->VK->Prop):Prop:=
  ∀(pins:ty91q) (s:ty2q) (σ:St) (H:Hp) (x:V) (v:ty3q) (Q:VK),Inv X pins σ H s->RelV x v->r x H Q->
    wpAny (model X.prog X.w) X.A (f v) (EP X pins σ Q) X.xe s
def zbr (X:Cx) (f:ty3q) (r:List V->Hp->VK->Prop):Prop:=
  ∀(pins:ty91q) (s:ty2q) (σ:St) (H:Hp) (xs:List V) (us:List ty3q) (Q:VK),Inv X pins σ H s->Vals xs us->r xs H Q->
    wpAny (model X.prog X.w) X.A (call f us) (EP X pins σ Q) X.xe s
def tOp (r:R2) (ta tb:TE):TE:=fun σ H Q=>ta σ H fun x H1=>tb σ H1 fun y H2=>r x y H2 Q
def tUn (r:V->Hp->VK->Prop) (ta:TE):TE:=fun σ H Q=>ta σ H fun x H1=>r x H1 Q
def rI (C:Int->Int->Prop) (g:Int->Int->V):R2:=fun x y H Q=>∃i j,x = .int i/\y = .int j/\C i j/\Q (g i j) H
inductive rI0I (g:Int->Int->V) (x y:V) (H:Hp) (Q:VK):Prop
  | mk (i j:Int) (_:x = .int i) (_:y = .int j) (_:Q (g i j) H)
def rI0 (g:Int->Int->V):R2:=fun x y H Q=>rI0I g x y H Q
def rU (g:Int->V):V->Hp->VK->Prop:=fun x H Q=>∃i,x = .int i/\Q (g i) H
section
variable {X:Cx}{a b c:Expr}{ta tb tc:TE}{pos:Pos}
theorem binT (ha:PE X a ta) (hb:PE X b tb) {pins:ty91q}{s:ty2q}{σ:St}{H:Hp}{R:V->V->Hp->Prop}(I:Inv X pins σ H s)
    (h:ta σ H fun x H1=>tb σ H1 fun y H2=>R x y H2) {Q:ty90q}{f:ty3q->ty3q->Sem ty3q}
    (hf:∀v u s2 x y H2,Inv X pins σ H2 s2->RelV x v->RelV y u->R x y H2->wpAny (model X.prog X.w) X.A (f v u) Q X.xe s2) :
    wpAny (model X.prog X.w) X.A (eval a X.env) (fun v s₁=>wpAny (model X.prog X.w) X.A (eval b X.env) (fun u s₂=>wpAny (model X.prog X.w) X.A (f v u) Q X.xe s₂) X.xe s₁) X.xe s:=by
  refine thn (ha pins s σ H _ I h) fun v s1 hq0=>?_
  obtain⟨x,H1,I1,r1,q1⟩:=hq0;refine thn (hb pins s1 σ H1 _ I1 q1) fun u s2 hq0=>?_
  obtain⟨y,H2,I2,r2,q2⟩:=hq0;exact hf v u s2 x y H2 I2 r1 r2 q2
theorem zah {op:Operator}{r:R2}(ho:OpR X (binaryOp op) r) (ha:PE X a ta) (hb:PE X b tb):PE X (.BinOp a op b pos) (tOp r ta tb):=by
  intro pins s σ H Q I h;exact wpAny_BinOp (binT ha hb I h fun v u s2 x y H2 I2 rx ry q=>ho pins s2 σ H2 x y v u Q I2 rx ry q)
theorem zta {op:UnaryOp}{r:V->Hp->VK->Prop}(ho:UnR X (unaryOp op) r) (ha:PE X a ta):PE X (.UnaryOp op a pos) (tUn r ta):=by
  intro pins s σ H Q I h;exact UnaryOp_ (thn (ha pins s σ H _ I h) fun v s1 ⟨x,H1,I1,r1,q1⟩=>ho pins s1 σ H1 x v Q I1 r1 q1)
theorem opI {f:ty3q->ty3q->Sem ty3q}{C:Int->Int->Prop}{g:Int->Int->Int}
    (rule:∀(i j:Int) (t u:Tok) (s:ty2q) (Q:ty90q) (E:ty90q),C i j->Q (.int (g i j) s.toks) { s with toks:=s.toks+1 }->wpAny (model X.prog X.w) X.A (f (.int i t) (.int j u)) Q E s) :
    OpR X f (rI C fun i j=>.int (g i j)):=by
  intro pins s σ H x y v u Q I rx ry h;obtain⟨i,j,rfl,rfl,hc,q⟩:=h;obtain⟨t,rfl⟩:=rx;obtain⟨t',rfl⟩:=ry;exact rule i j t t' s _ _ hc ⟨.int (g i j),H,I.tok _,⟨_,rfl⟩,q⟩
theorem opI0 {f:ty3q->ty3q->Sem ty3q}{g:Int->Int->Int}
    (rule:∀(i j:Int) (t u:Tok) (s:ty2q) (Q:ty90q) (E:ty90q),Q (.int (g i j) s.toks) { s with toks:=s.toks+1 }->wpAny (model X.prog X.w) X.A (f (.int i t) (.int j u)) Q E s) :
    OpR X f (rI0 fun i j=>.int (g i j)):=by
  intro pins s σ H x y v u Q I rx ry h;obtain⟨i,j,rfl,rfl,q⟩:=h;obtain⟨t,rfl⟩:=rx;obtain⟨t',rfl⟩:=ry;exact rule i j t t' s _ _ ⟨.int (g i j),H,I.tok _,⟨_,rfl⟩,q⟩
theorem opB0 {f:ty3q->ty3q->Sem ty3q}{g:Int->Int->Bool}
    (rule:∀(i j:Int) (t u:Tok) (s:ty2q) (Q:ty90q) (E:ty90q),Q (.bool (g i j)) s->wpAny (model X.prog X.w) X.A (f (.int i t) (.int j u)) Q E s) :
    OpR X f (rI0 fun i j=>.bl (g i j)):=by
  intro pins s σ H x y v u Q I rx ry h;obtain⟨i,j,rfl,rfl,q⟩:=h;obtain⟨t,rfl⟩:=rx;obtain⟨t',rfl⟩:=ry;exact rule i j t t' s _ _ ⟨.bl (g i j),H,I,rfl,q⟩
def CPow (i j:Int):Prop:=0<=j/\j<=1000000/\i.natAbs<2 ^ 64
def CMul (i j:Int):Prop:=(-(2 ^ 64)<i/\i<2 ^ 64)\/(-(2 ^ 64)<j/\j<2 ^ 64)
theorem CMul.ok {i j:Int}(h:CMul i j):IntMulOk i j:=by
  rcases h with ⟨h1,h2⟩ | ⟨h1,h2⟩
  · exact .of_left (intBits_le_64 h1 h2)
  · exact .of_right (intBits_le_64 h1 h2)
theorem zbb:OpR X (binaryOp .Add) (rI0 fun i j=>.int (i+j)):=opI0 fun _ _ _ _ _ _ _ q=>add_int q
theorem zki:OpR X (binaryOp .Sub) (rI0 fun i j=>.int (i-j)):=opI0 fun _ _ _ _ _ _ _ q=>sub_int q
theorem zkj:OpR X (binaryOp .Mult) (rI CMul fun i j=>.int (i * j)):=opI fun _ _ _ _ _ _ _ hc q=>mul_int q hc.ok
theorem zdd:OpR X (binaryOp .Mod) (rI (fun _ j=>0<j) fun i j=>.int (i%j)):=opI fun i j _ _ _ _ _ hc q=>by
  have h1:(0:Int)<j:=hc;exact mod_int' (by lia) (by rw[Int.fmod_eq_emod_of_nonneg i (by lia)];exact q)
theorem zr9:OpR X (binaryOp .Pow) (rI CPow fun i j=>.int (i ^ j.toNat)):=opI fun _ _ _ _ _ _ _ hc q=>pow_int_small hc.1 hc.2.1 hc.2.2 q
theorem unI {f:ty3q->Sem ty3q}{g:Int->Int}
    (rule:∀(i:Int) (t:Tok) (s:ty2q) (Q:ty90q) (E:ty90q),Q (.int (g i) s.toks) { s with toks:=s.toks+1 }->wpAny (model X.prog X.w) X.A (f (.int i t)) Q E s) :
    UnR X f (rU fun i=>.int (g i)):=by
  intro pins s σ H x v Q I rx h;obtain⟨i,rfl,q⟩:=h;obtain⟨t,rfl⟩:=rx;exact rule i t s _ _ ⟨.int (g i),H,I.tok _,⟨_,rfl⟩,q⟩
theorem zm1:UnR X (unaryOp .USub) (rU fun i=>.int (-i)):=unI fun _ _ _ _ _ q=>neg_int q
end
def scal:V->V->Bool
  | .non,.non=>true | .non,.int _=>true | .int _,.non=>true | .non,.bl _=>true | .bl _,.non=>true | .non,.str _=>true | .str _,.non=>true
  | .int _,.int _=>true | .bl _,.bl _=>true | .str _,.str _=>true | .byt _,.byt _=>true
  | .int _,.str _=>true | .str _,.int _=>true | .bl _,.str _=>true | .str _,.bl _=>true
  | _,_=>false
def rEq:R2:=fun x y H Q=>scal x y=true/\Q (.bl (decide (x=y))) H
def rNe:R2:=fun x y H Q=>scal x y=true/\Q (.bl (!decide (x=y))) H
theorem zm2 {i j:Int}:decide (V.int i=V.int j)=(i == j):=by
  rw[al101q];simp
theorem zsa {i j:Bool}:decide (V.bl i=V.bl j)=(i == j):=by
  rw[al101q];simp
theorem zm3 {i j:Str}:decide (V.str i=V.str j)=(i == j):=by
  rw[al101q];simp
theorem zm4 {i j:Array UInt8}:decide (V.byt i=V.byt j)=(i.toList == j.toList):=by
  rw[al101q];cases i;cases j;simp
section
variable {X:Cx}{a b c:Expr}{ta tb tc:TE}{pos:Pos}
theorem zai {pins:ty91q}{σ:St}{H:Hp}{s:ty2q}{Q:VK}{k k':Bool}(I:Inv X pins σ H s) (q:Q (.bl k) H) (e:k=k'):EP X pins σ Q (.bool k') s:=by
  subst e;exact⟨.bl k,H,I,rfl,q⟩
theorem zdu:OpR X (compareOp .Eq) rEq:=by
  intro pins s σ H x y v u Q I rx ry h;obtain⟨hs,q⟩:=h;cases x with
  | non=>
    cases rx;cases y with
    | non=>cases ry;exact PySem.EqNone.eq_none_none (zai I q (by simp))
    | bl j=>cases ry;exact PySem.EqNone.eq_none_bool (zai I q (by simp))
    | int j=>obtain⟨t',rfl⟩:=ry;exact PySem.EqNone.eq_none_int (zai I q (by simp))
    | str j=>obtain⟨t',rfl⟩:=ry;exact PySem.EqNone.eq_none_str (zai I q (by simp))
    | _=>exact absurd (show false=true from hs) al19q
  | bl i=>
    cases rx;cases y with
    | non=>cases ry;exact PySem.EqNone.eq_bool_none (zai I q (by simp))
    | bl j=>cases ry;exact eq_bool (zai I q zsa)
    | str j=>obtain⟨t',rfl⟩:=ry;exact PySem.EqMixed.eq_bool_str (zai I q (by simp))
    | _=>exact absurd (show false=true from hs) al19q
  | int i=>
    obtain⟨t,rfl⟩:=rx;cases y with
    | non=>cases ry;exact PySem.EqNone.eq_int_none (zai I q (by simp))
    | int j=>obtain⟨t',rfl⟩:=ry;exact eq_int (zai I q zm2)
    | str j=>obtain⟨t',rfl⟩:=ry;exact PySem.EqMixed.eq_int_str (zai I q (by simp))
    | _=>exact absurd (show false=true from hs) al19q
  | str i=>
    obtain⟨t,rfl⟩:=rx;cases y with
    | non=>cases ry;exact PySem.EqNone.eq_str_none (zai I q (by simp))
    | bl j=>cases ry;exact PySem.EqMixed.eq_str_bool (zai I q (by simp))
    | int j=>obtain⟨t',rfl⟩:=ry;exact PySem.EqMixed.eq_str_int (zai I q (by simp))
    | str j=>obtain⟨t',rfl⟩:=ry;exact eq_str (zai I q zm3)
    | _=>exact absurd (show false=true from hs) al19q
  | byt i=>
    obtain⟨t,rfl⟩:=rx;cases y with
    | byt j=>obtain⟨t',rfl⟩:=ry;exact PySem.W.eq_bytes (zai I q zm4)
    | _=>exact absurd (show false=true from hs) al19q
  | _=>cases y<;>exact absurd (show false=true from hs) al19q
theorem zqf:OpR X (compareOp .NotEq) rNe:=by
  intro pins s σ H x y v u Q I rx ry h;obtain⟨hs,q⟩:=h;cases x with
  | non=>
    cases rx;cases y with
    | non=>cases ry;exact PySem.EqNone.ne_none_none (zai I q (by simp))
    | bl j=>cases ry;exact PySem.EqNone.ne_none_bool (zai I q (by simp))
    | int j=>obtain⟨t',rfl⟩:=ry;exact PySem.EqNone.ne_none_int (zai I q (by simp))
    | str j=>obtain⟨t',rfl⟩:=ry;exact PySem.EqNone.ne_none_str (zai I q (by simp))
    | _=>exact absurd (show false=true from hs) al19q
  | bl i=>
    cases rx;cases y with
    | non=>cases ry;exact PySem.EqNone.ne_bool_none (zai I q (by simp))
    | bl j=>cases ry;exact ne_bool (zai I q (al67q not zsa))
    | str j=>obtain⟨t',rfl⟩:=ry;exact PySem.EqMixed.ne_bool_str (zai I q (by simp))
    | _=>exact absurd (show false=true from hs) al19q
  | int i=>
    obtain⟨t,rfl⟩:=rx;cases y with
    | non=>cases ry;exact PySem.EqNone.ne_int_none (zai I q (by simp))
    | int j=>obtain⟨t',rfl⟩:=ry;exact ne_int (zai I q (al67q not zm2))
    | str j=>obtain⟨t',rfl⟩:=ry;exact PySem.EqMixed.ne_int_str (zai I q (by simp))
    | _=>exact absurd (show false=true from hs) al19q
  | str i=>
    obtain⟨t,rfl⟩:=rx;cases y with
    | non=>cases ry;exact PySem.EqNone.ne_str_none (zai I q (by simp))
    | bl j=>cases ry;exact PySem.EqMixed.ne_str_bool (zai I q (by simp))
    | int j=>obtain⟨t',rfl⟩:=ry;exact PySem.EqMixed.ne_str_int (zai I q (by simp))
    | str j=>obtain⟨t',rfl⟩:=ry;exact ne_str (zai I q (al67q not zm3))
    | _=>exact absurd (show false=true from hs) al19q
  | byt i=>
    obtain⟨t,rfl⟩:=rx;cases y with
    | byt j=>obtain⟨t',rfl⟩:=ry;exact PySem.W.ne_bytes (zai I q (al67q not zm4))
    | _=>exact absurd (show false=true from hs) al19q
  | _=>cases y<;>exact absurd (show false=true from hs) al19q
theorem zll:OpR X (compareOp .Lt) (rI0 fun i j=>.bl (decide (i<j))):=opB0 fun _ _ _ _ _ _ _ q=>lt_int q
theorem zlm:OpR X (compareOp .LtE) (rI0 fun i j=>.bl (decide (i<=j))):=opB0 fun _ _ _ _ _ _ _ q=>le_int q
theorem zqg:OpR X (compareOp .Gt) (rI0 fun i j=>.bl (decide (j<i))):=opB0 fun _ _ _ _ _ _ _ q=>gt_int q
theorem zae (b:Expr) {op:CmpOp}(h:op≠.In:=by decide) (h2:op≠.NotIn:=by decide):behindInMarks op b=false:=by
  have e1:(op == CmpOp.In)=false:=by cases op<;>first | rfl | exact absurd rfl h
  have e2:(op == CmpOp.NotIn)=false:=by cases op<;>first | rfl | exact absurd rfl h2
  cases b<;>simp[behindInMarks,e1,e2]
theorem zi3 {op:CmpOp}{r:R2}(ho:OpR X (compareOp op) r) (ha:PE X a ta) (hb:PE X b tb) (hm:behindInMarks op b=false):PE X (.Compare a [op] [b] pos) (tOp r ta tb):=by
  intro pins s σ H Q I h;exact wpAny_Compare1 (binT ha hb I h fun v u s2 x y H2 I2 rx ry q=>ho pins s2 σ H2 x y v u Q I2 rx ry q) hm
def ztb (t:TE):TT:=fun σ H Q=>t σ H fun x H'=>∃k,x = .bl k/\Q k H'
theorem zw {op:CmpOp}{r:R2}(ho:OpR X (compareOp op) r) (ha:PE X a ta) (hb:PE X b tb) (hm:behindInMarks op b=false):PT X (.Compare a [op] [b] pos) (ztb (tOp r ta tb)):=by
  intro pins s σ H Q I h;refine wpAny_isTrue_Compare1 (thn (ha pins s σ H _ I h) fun v s1 ⟨x,H1,I1,r1,q1⟩=>thn (hb pins s1 σ H1 _ I1 q1) fun u s2 ⟨y,H2,I2,r2,q2⟩=>
    thn (ho pins s2 σ H2 x y v u _ I2 r1 r2 q2) fun c s3 ⟨z,H3,I3,r3,k,e,q3⟩=>?_) hm
  subst e;cases r3;exact al72q ⟨H3,I3,q3⟩
def zvh (r r':R2) (ta tb tc:TE):TE:=fun σ H Q=>ta σ H fun x H1=>tb σ H1 fun y H2=>r x y H2 fun z H3=>∃k,z = .bl k/\
  (if k=true then tc σ H3 fun w' H4=>r' y w' H4 Q else Q (.bl false) H3)
theorem zgn {op op':CmpOp}{r r':R2}(ho:OpR X (compareOp op) r) (ho':OpR X (compareOp op') r') (ha:PE X a ta) (hb:PE X b tb) (hc:PE X c tc)
    (hm:lastMarks [op,op'] [b,c]=false:=by with_unfolding_all rfl):PT X (.Compare a [op,op'] [b,c] pos) (ztb (zvh r r' ta tb tc)):=by
  intro pins s σ H Q I h;refine isTrue_chain (thn (ha pins s σ H _ I h) fun v s1 ⟨x,H1,I1,r1,q1⟩=>test_link (thn (hb pins s1 σ H1 _ I1 q1) fun u s2 ⟨y,H2,I2,r2,q2⟩=>
    thn (ho pins s2 σ H2 x y v u _ I2 r1 r2 q2) fun d s3 ⟨z,H3,I3,r3,k,e,q3⟩=>?_)) hm
  subst e;cases r3;refine al72q ?_;cases k with
  | false=>
    obtain⟨k',e',q'⟩:=q3;cases e';exact ite_ff ⟨H3,I3,q'⟩
  | true=>
    refine ite_tt (test_last (thn (hc pins s3 σ H3 _ I3 q3) fun w' s4 ⟨z',H4,I4,r4,q4⟩=>thn (ho' pins s4 σ H4 y z' u w' _ I4 r2 r4 q4) fun d' s5 hq0=>?_));obtain⟨z2,H5,I5,r5,k2,e2,q5⟩:=hq0;subst e2;cases r5;exact al72q ⟨H5,I5,q5⟩
theorem zkk:(sizeLine:Nat)<2 ^ 63:=by rw[al140q];decide
theorem zln:OpR X (binaryOp .Add) (fun x y H Q=>∃i j,x = .str i/\y = .str j/\i.length+j.length<=sizeLine/\Q (.str (i++j)) H):=by
  intro pins s σ H x y v u Q I rx ry h;obtain⟨i,j,rfl,rfl,hz,q⟩:=h;obtain⟨t,rfl⟩:=rx;obtain⟨t',rfl⟩:=ry;exact add_str (fun t' tk=>⟨.str (i++j),H,I.tok _,⟨_,rfl⟩,q⟩) hz
theorem zc4 {x:V}{us:List ty3q}(r:Vals [x] us):∃u,us = [u]/\RelV x u:=by
  cases r with
  | cons r1 r2=>cases r2;exact⟨_,rfl,r1⟩
theorem zqh {x y:V}{us:List ty3q}(r:Vals [x,y] us):∃u w',us = [u,w']/\RelV x u/\RelV y w':=by
  cases r with
  | cons r1 r2=>
    cases r2 with
    | cons r3 r4=>cases r4;exact⟨_,_,rfl,r1,r3⟩
end
theorem RelO.some_of {v:V}{o:Option ty3q}(r:RelO (some v) o):∃u,o=some u/\RelV v u:=by
  cases o with
  | none=>exact (show False from r).elim
  | some u=>exact⟨u,rfl,r⟩
theorem RelO.none_of {o:Option ty3q}(r:RelO none o):o=none:=by
  cases o with
  | none=>rfl
  | some u=>exact (show False from r).elim
def NoAttr (K:ty0q) (C:ty1q) (f:Str):Prop:=PySem.W.findIn K (.ref C) f=some none
theorem NoAttr.taker {K:ty0q}{C:ty1q}{f:Str}(n:NoAttr K C f):PySem.W.takerIn K C f=some none:=by
  unfold PySem.W.takerIn;rw[show PySem.W.findIn K (.ref C) f=some none from n];rfl
structure Meth (K:ty0q) (C:ty1q) (m:Str) (f:ty1q):Prop where
  at_:PySem.W.findIn K (.ref C) m=some (some (.ref f))
  fn:PySem.W.isFn K (.ref f)=true
  kp:PySem.W.keepIn K (.ref f)=true
structure Room (k:Nat) (A:Around):Prop where
  hd:A.handled=none
  dp:A.depth+3 * k+5<recursionLimit
  un:A.units+16 * k+200<cLine
theorem Room.mono {j k:Nat}{A:Around}(r:Room k A) (h:j<=k):Room j A:=⟨r.hd,by have:=r.dp;lia,by have:=r.un;lia⟩
theorem Room.deeper {k:Nat}{A:Around}(r:Room (k+1) A) (env:Env):Room k (A.deeper env):=
  ⟨r.hd,by have:=r.dp;show A.depth+1+3 * k+5<_;lia,by have:=r.un;show A.units+3+16 * k+200<_;lia⟩
theorem zlo {A:Around}{C:ty1q}{us:List ty3q}{kw:List (Str×ty3q)}:(A.under (.builtin "type.__call__" ⟨.ref C::us,kw⟩)).depth=A.depth+1:=by
  first | rfl | simp[Around.under,Code.weight,Code.isCreation,Code.isGuard,Code.isCaller,Code.frames,Code.isFrame,guardIds]
theorem zlp {A:Around}{C:ty1q}{us:List ty3q}{kw:List (Str×ty3q)}:(A.under (.builtin "type.__call__" ⟨.ref C::us,kw⟩)).units=A.units+1:=by
  first | rfl | simp[Around.under,Code.cUnits,Code.frames,Code.isFrame]
theorem Room.make {k:Nat}{A:Around}(r:Room (k+1) A) (C:ty1q) (us:List ty3q) (kw:List (Str×ty3q)):Room k (A.under (.builtin "type.__call__" ⟨.ref C::us,kw⟩)):=
  ⟨r.hd,by have:=r.dp;rw[zlo];lia,by have:=r.un;rw[zlp];lia⟩
theorem Room.depth {k:Nat}{A:Around}(r:Room k A):A.depth<recursionLimit:=by have:=r.dp;lia
theorem Room.units {k:Nat}{A:Around}(r:Room k A):A.units+64<cLine:=by have:=r.un;lia
def tNil:TA:=fun _ H Q=>Q [] H
def zw6 (ta:TE) (tr:TA):TA:=fun σ H Q=>ta σ H fun x H1=>tr σ H1 fun xs H2=>Q (x::xs) H2
section
variable {X:Cx}{e:Expr}{es:List Expr}{te:TE}{t:TA}{pos:Pos}
theorem zd:PA X [] tNil:=fun _ _ _ _ H Q I h=>Calls.spliced_nil ⟨[],H,I,.nil,h⟩
theorem za (ha:PE X e te) (hr:PA X es t) (hs:starEach (e::es) X.env=(false,eval e X.env)::starEach es X.env:=by rfl):PA X (e::es) (zw6 te t):=by
  intro pos pins s σ H Q I h;rw[hs];show wpAny _ _ (spliced ((false,eval e X.env)::backTo pos (starEach es X.env))) _ _ s;refine Calls.spliced_cons (thn (ha pins s σ H _ I h) fun u s1 hq0=>?_);obtain⟨x,H1,I1,r1,q1⟩:=hq0;exact thn (hr pos pins s1 σ H1 _ I1 q1) fun us s2 ⟨xs,H2,I2,r2,q2⟩=>⟨x::xs,H2,I2,.cons r1 r2,q2⟩
def tTup (t:TA):TE:=fun σ H Q=>t σ H fun xs H1=>xs.length<=sizeLine/\∀p,H1 p=none->Q (.ref p) (upd H1 p (.tup xs))
def tLst (t:TA):TE:=fun σ H Q=>t σ H fun xs H1=>xs.length<=sizeLine/\∀p,H1 p=none->Q (.ref p) (upd H1 p (.lst xs))
theorem zao {x1}(h:PA X es t):PE X (.Tuple es x1 pos) (tTup t):=by
  intro pins s σ H Q I hq;refine wpAny_Tuple_spliced (thn (h pos pins s σ H _ I hq) fun us s1 ⟨xs,H1,I1,r,z,q⟩=>⟨by rw[←r.length];exact z,?_⟩);have hf:H1 s1.heap.objs.size=none:=I1.hok.fresh (al18q _);refine⟨.ref s1.heap.objs.size,upd H1 s1.heap.objs.size (.tup xs),I1.laid (t':=s1.toks) (fun b u e=>al4q _ e) (al18q _) ?_,rfl,q _ hf⟩;exact⟨z,us,r,⟨_,al12q _ rfl,rfl,_,rfl⟩⟩
theorem zad (h:PA X es t):PE X (.List es pos) (tLst t):=by
  intro pins s σ H Q I hq;refine wpAny_List_spliced (thn (h pos pins s σ H _ I hq) fun us s1 ⟨xs,H1,I1,r,z,q⟩=>⟨by rw[←r.length];exact z,?_⟩);have hf:H1 s1.heap.objs.size=none:=I1.hok.fresh (al18q _);refine⟨.ref s1.heap.objs.size,upd H1 s1.heap.objs.size (.lst xs),I1.laid (t':=s1.toks) (fun b u e=>al4q _ e) (al18q _) ?_,rfl,q _ hf⟩;exact⟨z,us,0,r,al12q _ rfl⟩
end
abbrev Sp:=List V->Hp->VK->XK->Prop
abbrev CXT:=List Env->Hp->ty2q->XK->ty90q
structure Env0 (P:ty4q) (w:World) (K:ty0q) (mg:Str->Option ty3q) (base:Heap) (A:Around) (outer:List Env) (s:ty2q) (H:Hp):Prop where
  frames:A.frames=some outer
  mod:Mod K mg base
  bs:∀b o,base.get? b=some o->s.heap.get? b=some o/\H b=none
  bsz:base.objs.size<=s.heap.objs.size
  funs:s.heap.FunFrames base outer
  frf:∀b∈frs outer,H b=none
  hok:HOk P w H s.heap
  bare:AllBare s.gens
def CE (outer:List Env) (P:ty4q) (w:World) (H:Hp) (s:ty2q) (Q:VK) (u:ty3q) (s':ty2q):Prop:=
  ∃v H',s'.os=s.os/\AllBare s'.gens/\Un (frs outer) [] H H' s.heap s'.heap/\HOk P w H' s'.heap/\RelV v u/\Q v H'
def CR (CX:CXT) (outer:List Env) (P:ty4q) (w:World) (H:Hp) (s:ty2q) (Q:VK) (E:XK) (r:Result) (s':ty2q):Prop:=
  match r with
  | .ok (.ret u)=>CE outer P w H s Q u s'
  | .ok _=>False
  | .error e=>CX outer H s E e s'
structure FnOk (P:ty4q) (w:World) (K:ty0q) (mg:Str->Option ty3q) (base:Heap) (CX:CXT) (k:Nat) (f:ty1q) (fd:FuncData) (ps:List Str) (sp:Sp):Prop where
  len:∀vs H Q E,sp vs H Q E->vs.length=ps.length
  run:∀(A:Around) (outer:List Env) (s:ty2q) (H:Hp) (args:Args) (us:List ty3q) (vs:List V) (Q:VK) (E:XK),Room k A->Env0 P w K mg base A outer s H->BindsTo s fd args (ps.zip us)->Vals vs us->sp vs H Q E->
    codeAny (model P w) A (.call (.ref f) args) (CR CX outer P w H s Q E) s
theorem Env0.make {P:ty4q}{w:World}{K:ty0q}{mg:Str->Option ty3q}{base:Heap}{A:Around}{outer:List Env}{s:ty2q}{H:Hp}(e:Env0 P w K mg base A outer s H) (C:ty1q) (us:List ty3q) (kw:List (Str×ty3q)) :
    Env0 P w K mg base (A.under (.builtin "type.__call__" ⟨.ref C::us,kw⟩)) outer s H:=⟨by first | exact e.frames | (simpa[Around.under,Code.envs,Code.isFrame,pushEnvs] using e.frames),e.mod,e.bs,e.bsz,e.funs,e.frf,e.hok,e.bare⟩
section
variable {X:Cx}{pins:ty91q}{σ:St}{H:Hp}{s s':ty2q}
theorem Inv.env0 (I:Inv X pins σ H s):Env0 X.prog X.w X.K X.mg X.base X.A X.stack s H:=
  ⟨I.ok.frames,I.ok.mod,I.bs,al44q I.ok.bsz I.sz,I.stack,I.stkFree,I.hok,I.bare⟩
theorem Inv.after {Q:VK}{u:ty3q}(I:Inv X pins σ H s) (h:CE X.stack X.prog X.w H s Q u s'):EP X pins σ Q u s':=by
  obtain⟨v,H',os,bare,un,hok,r,q⟩:=h;obtain⟨hh,g,d,t,os'⟩:=s';obtain rfl:os'=s.os:=os;exact⟨v,H',I.call (h':=hh) (g':=g) (d':=d) (t':=t) (ch:=[]) un hok bare (fun b z=>absurd z (by simp)),r,q⟩
end
def zqi (sp:Sp) (dvs:List V) (E:XK) (t:TA):TE:=fun σ H Q=>t σ H fun vs H1=>sp (vs++dvs) H1 Q E
def Binds (K:ty0q) (fd:FuncData) (ps:List Str) (ds:List ty3q):Prop:=
  ∀(s:ty2q) (us:List ty3q),K.In s.heap->(us++ds).length=ps.length->BindsTo s fd ⟨us,[]⟩ (ps.zip (us++ds))
theorem Binds.all {K:ty0q}{fd:FuncData}{ps:List Str}(h:∀us:List ty3q,us.length=ps.length->bindArgs fd ⟨us,[]⟩=pure (ps.zip us)):Binds K fd ps []:=fun s us _ hl=>by
  rw[al53q] at hl ⊢;exact .of_eq (h us hl)
def zhe (CX:CXT) (X:Cx) (E:XK):Prop:=∀(pins:ty91q) (σ:St) (H:Hp) (s:ty2q) (e:ty3q) (s':ty2q),Inv X pins σ H s->CX X.stack H s E e s'->X.xe e s'
section
variable {X:Cx}{CX:CXT}{k:Nat}{f C:ty1q}{fd:FuncData}{ps:List Str}{sp:Sp}{dvs:List V}{ds:List ty3q}{E:XK}{x m:Str}{p pos apos:Pos}{e o:Expr}{es:List Expr}{ta:TE}{t:TA}
theorem zvi {pins:ty91q}{σ:St}{H:Hp}{s:ty2q}{Q:VK}{us:List ty3q}{vs:List V}(F:FnOk X.prog X.w X.K X.mg X.base CX k f fd ps sp) (hr:Room k X.A) (hb:Binds X.K fd ps ds) (hd:Vals dvs ds) (hx:zhe CX X E)
    (I:Inv X pins σ H s) (r:Vals vs us) (h:sp (vs++dvs) H Q E):wpAny (model X.prog X.w) X.A (call (.ref f) us) (EP X pins σ Q) X.xe s:=by
  have r2:Vals (vs++dvs) (us++ds):=r.append hd;have hl:(us++ds).length=ps.length:=by rw[←r2.length];exact F.len _ _ _ _ h
  refine al154q (al129q (F.run X.A X.stack s H ⟨us,[]⟩ (us++ds) (vs++dvs) Q E hr I.env0 (hb s us I.kIn hl) r2 h) fun r s' hq=>?_);cases r with
  | error e=>exact hx pins σ H s e s' I hq
  | ok fl=>
    cases fl with
    | ret u=>exact I.after hq
    | next=>exact False.elim hq
    | brk=>exact False.elim hq
    | cont=>exact False.elim hq
theorem zm5 (F:FnOk X.prog X.w X.K X.mg X.base CX k f fd ps sp) (hr:Room k X.A) (hg:Gl X x) (hm:X.mg x=some (.ref f)) (hk:PySem.W.keepIn X.K (.ref f)=true) (hb:Binds X.K fd ps ds) (hd:Vals dvs ds) (hx:zhe CX X E)
    (ha:PA X (e::es) t) (hdb:(x == ("__debug__" : Str))=false:=by decide) (he:starEach (e::es) X.env=(false,eval e X.env)::starEach es X.env:=by rfl) (hpl:(backTo pos (starEach es X.env)).any (·.1)=false:=by rfl) :
    PE X (.Call (.Name x p) (e::es) [] pos) (zqi sp dvs E t):=by
  intro pins s σ H Q I h;refine al176q (zds I hg hm ?_ hdb);refine PySem.W.callWith_K (h₀:=X.base) I.ok.mod.kin hk (thn (ha pos pins s σ H _ I h) fun us s1 ⟨vs,H1,I1,r,q⟩=>⟨I1.kIn,?_⟩) he hpl;exact zvi F hr hb hd hx I1 r q
end
structure FnScope (N P:List Str) (sc:Scope):Prop where
  kind:sc.kind = .function
  co:sc.isCoroutine=false
  gen:sc.isGenerator=false
  nd:N.Nodup
  pre:N.take P.length=P
  par:∀x∈P,sc.names.lookup x=some .local\/sc.names.lookup x=some .cell
  nofree:∀y∈sc.names,y.2≠.free
theorem zhf {kindOf:Str->Option NameKind}{x:Str}:∀{binds:List (Str×ty3q)}{m:Str->Option ty3q},(∀v,(x,v) ∉ binds)->bindL kindOf binds m x=m x
  | [],_,_=>rfl
  | (n,v)::r,m,h=>by
    unfold bindL;rw[zhf fun w hw=>h w (al5q _ hw)];split
    · have:x≠n:=by rintro rfl;exact h v al37q
      simp[this]
    · rfl
theorem zhg {kindOf:Str->Option NameKind}{x:Str}:∀{binds:List (Str×ty3q)}{m:Str->Option ty3q},(∀v,(x,v) ∉ binds)->bindC kindOf binds m x=m x
  | [],_,_=>rfl
  | (n,v)::r,m,h=>by
    unfold bindC;rw[zhg fun w hw=>h w (al5q _ hw)];split
    · rfl
    · have:x≠n:=by rintro rfl;exact h v al37q
      simp[this]
theorem zhh {kindOf:Str->Option NameKind}{x:Str}{v:ty3q}:∀{P:List Str}{vs:List ty3q}{i:Nat}{m:Str->Option ty3q},P.Nodup->P[i]? = some x->vs[i]? = some v->kindOf x=some .local->
    bindL kindOf (P.zip vs) m x=some v
  | [],_,_,_,_,h,_,_=>by simp at h
  | _::_,[],_,_,_,_,h,_=>by simp at h
  | p::P,w::vs,0,m,nd,h1,h2,hk=>by
    simp at h1 h2;subst h1;subst h2;show bindL kindOf ((p,w)::P.zip vs) m p=_;unfold bindL;rw[zhf fun v hv=>(al76q.mp nd).1 (al109q hv).1,al11q hk];simp
  | p::P,w::vs,i+1,m,nd,h1,h2,hk=>by
    show bindL kindOf ((p,w)::P.zip vs) m x=_;unfold bindL;exact zhh (i:=i) (al76q.mp nd).2 (by simpa using h1) (by simpa using h2) hk
theorem zhi {kindOf:Str->Option NameKind}{x:Str}{v:ty3q}:∀{P:List Str}{vs:List ty3q}{i:Nat}{m:Str->Option ty3q},P.Nodup->P[i]? = some x->vs[i]? = some v->kindOf x≠some .local->
    bindC kindOf (P.zip vs) m x=some v
  | [],_,_,_,_,h,_,_=>by simp at h
  | _::_,[],_,_,_,_,h,_=>by simp at h
  | p::P,w::vs,0,m,nd,h1,h2,hk=>by
    simp at h1 h2;subst h1;subst h2;show bindC kindOf ((p,w)::P.zip vs) m p=_;unfold bindC;rw[zhg fun v hv=>(al76q.mp nd).1 (al109q hv).1,al7q hk];simp
  | p::P,w::vs,i+1,m,nd,h1,h2,hk=>by
    show bindC kindOf ((p,w)::P.zip vs) m x=_;unfold bindC;exact zhi (i:=i) (al76q.mp nd).2 (by simpa using h1) (by simpa using h2) hk
def start (N:List Str) (vs:List V):St:=vs.map some++List.replicate (N.length-vs.length) none
def cxOf (CX:CXT) (P:ty4q) (w:World) (K:ty0q) (mg:Str->Option ty3q) (base:Heap) (N:List Str) (qual:Str) (scope:Scope) (f:ty1q) (cd:ty3q) (A:Around) (outer:List Env) (s:ty2q) (H:Hp) (E:XK):Cx where
  prog:=P
  w:=w
  K:=K
  mg:=mg
  base:=base
  A:=A.deeper (envOfC qual scope s.heap.objs.size f cd)
  N:=N
  s₀:=s
  H₀:=H
  env:=envOfC qual scope s.heap.objs.size f cd
  outer:=outer
  stack:=envOfC qual scope s.heap.objs.size f cd::outer
  ex:=[]
  calm:=true
  fn:=fun _=>true
  pn:=[]
  xe:=fun e s'=>wpAny (model P w) (A.deeper (envOfC qual scope s.heap.objs.size f cd)) (leaving (envOfC qual scope s.heap.objs.size f cd) e) (fun _ s''=>CX outer H s E e s'') (fun e' s''=>CX outer H s E e' s'') s'
theorem zkl {sc:Scope}{n:Nat}{x:Str}(h:sc.names.lookup x=some .cell):∃c,(cellsFrom n sc.names []).lookup x=some c:=by
  have q:=PySem.W.cellsFrom_some sc.names n [] (.inl h);exact Option.isSome_iff_exists.mp q
theorem zm6 {CX:CXT}{P:ty4q}{w:World}{K:ty0q}{mg:Str->Option ty3q}{base:Heap}{N ps:List Str}{qual:Str}{scope:Scope}{f:ty1q}{cd:ty3q}{A:Around}{outer:List Env}{s s1:ty2q}{H:Hp}{E:XK}{us:List ty3q}{vs:List V}
    (S:FnScope N ps scope) (hd:A.handled=none) (e0:Env0 P w K mg base A outer s H) (hl:vs.length=ps.length) (r:Vals vs us)
    (x:InCallC s s.heap.objs.size (bindL (envOfC qual scope s.heap.objs.size f cd).kindOf (ps.zip us) fun _=>none) (cellsFrom (s.heap.objs.size+1) scope.names []) (bindC (envOfC qual scope s.heap.objs.size f cd).kindOf (ps.zip us) fun _=>none) s1) :
    Inv (cxOf CX P w K mg base N qual scope f cd A outer s H E) [] (start N vs) H s1:=by
  have hpl:ps.length<=N.length:=by have:=al67q List.length S.pre;rw[al25q] at this;lia
  obtain⟨h1,tk,rfl,hk⟩:=x.done;have noA:∀b:ty1q,b ∉ (cxOf CX P w K mg base N qual scope f cd A outer s H E).ex:=fun b z=>absurd (show b∈([]:List ty1q) from z) (by simp)
  refine⟨⟨e0.mod,S.kind,rfl,rfl,al18q _,fun y z c h1 h2=>?_,fun y hy=>?_,fun y c _ h=>?_,fun _=>hd,Around.frames_deeper e0.frames,.inr ⟨rfl,rfl⟩,fun b z=>absurd z (noA b),e0.bs,e0.bsz,fun b _ _=>noA b,fun b z=>absurd z (noA b),e0.funs,e0.frf⟩,
    rfl,e0.bare,Un.kept hk,⟨_,x.toInCall.ns,fun i y v h1 h2 h3=>?_⟩,fun y c h=>⟨_,x.cell y c h⟩,e0.hok.fresh (al18q _),fun y c h=>?_,fun p hp=>absurd (show p∈([]:ty91q) from hp) (by simp),e0.hok.kept hk,?_⟩
  · exact name_of_addr x.apart (PySem.mem_of_lookup h1) (PySem.mem_of_lookup h2)
  · have hy:scope.names.lookup y=some .cell\/scope.names.lookup y=some .free:=hy;rcases hy with hy | hy
    · exact zkl hy
    · exact absurd rfl (S.nofree _ (PySem.mem_of_lookup hy))
  · exact al127q (x.above y c (PySem.mem_of_lookup h))
  · have hi:i<vs.length:=by
      unfold start at h2
      by_cases hi:i<vs.length
      · exact hi
      · rw[al155q (by simpa using hi)] at h2;rw[List.getElem?_replicate] at h2;split at h2<;>cases h2
    have ha:vs[i]? = some v:=by
      unfold start at h2;rw[al123q (by simpa using hi),al10q] at h2;cases e:vs[i]? with
      | none=>rw[e] at h2;cases h2
      | some a=>rw[e] at h2;cases h2;rfl
    obtain⟨u,hu,rv⟩:=r.get ha;have hp:ps[i]? = some y:=by
      rw[←S.pre,List.getElem?_take_of_lt (by lia)];exact h1
    have ndP:ps.Nodup:=by rw[←S.pre];exact S.nd.sublist (List.take_sublist _ _)
    refine⟨u,rv,?_⟩;rcases S.par y (al6q hp) with k | k
    · exact .inl ⟨k,zhh ndP hp hu k⟩
    · obtain⟨c,e⟩:=zkl (n:=s.heap.objs.size+1) k;refine .inr ⟨.inl k,c,e,?_⟩;have q:=x.cell y c e;rw[zhi ndP hp hu (by show scope.names.lookup y≠_;rw[k];decide)] at q;exact q
  · exact e0.hok.fresh (al127q (x.above y c (PySem.mem_of_lookup h)))
  · unfold start;show _=N.length;rw[al20q,al1q,List.length_replicate];lia
theorem zvj {CX:CXT}{P:ty4q}{w:World}{K:ty0q}{mg:Str->Option ty3q}{base:Heap}{k:Nat}{f:ty1q}{name qual:Str}{params:Arguments}{body:List Stmt}{scope:Scope}{dV kV doc pm cdv ct oc:ty3q}{an od:Option ty1q}
    {osl:Array (Option ty3q)}{N ps:List Str}{sp:Sp}(lk:K.lookup f=some ⟨oc,od,.func (PySem.W.fnOf name qual params body scope dV kV doc pm an cdv ct),osl⟩) (hcd:PySem.W.codeIn K cdv qual=true) (S:FnScope N ps scope)
    (len:∀vs H Q E,sp vs H Q E->vs.length=ps.length)
    (hbody:∀(A:Around) (outer:List Env) (s:ty2q) (H:Hp) (vs:List V) (Q:VK) (E:XK),Room k (A.deeper (envOfC qual scope s.heap.objs.size f cdv))->sp vs H Q E->
      ∃t,PSs (cxOf CX P w K mg base N qual scope f cdv A outer s H E) body t/\t { nx:=fun _ H'=>Q .non H',rt:=Q } (start N vs) H) :
    FnOk P w K mg base CX (k+1) f (PySem.W.fnOf name qual params body scope dV kV doc pm an cdv ct) ps sp:=by
  refine⟨len,fun A outer s H args us vs Q E hr e0 hb r hsp=>?_⟩;have hl:=len _ _ _ _ hsp;have KX:K.In s.heap:=e0.mod.kin.keeps fun b o e=>(e0.bs b o e).1
  have lim:s.heap.NoLimit:=e0.mod.nolimit.keeps fun b o e=>(e0.bs b o e).1
  have hkind:∀y∈ps.zip us,scope.names.lookup y.1=some .local\/(scope.names.lookup y.1=some .cell/\((cellsFrom (s.heap.objs.size+1) scope.names []).lookup y.1).isSome=true):=fun ⟨n,v⟩ hy=>by
    rcases S.par n (al109q hy).1 with q | q
    · exact .inl q
    · exact .inr ⟨q,PySem.W.cellsFrom_some _ _ _ (.inl q)⟩
  refine codeAny_call_function hr.depth (KX _ _ lk) rfl S.co S.gen rfl (PySem.W.codeRec_of KX hcd) (hb _ _ _ _ ?_);refine wpAny_newFunctionEnv_cells S.kind hkind fun env he s1 x=>?_
  subst he;refine⟨lim.keeps x.toInCall.keep,codeAny_func ?_⟩;obtain⟨t,ht,hq⟩:=hbody A outer s H vs Q E (hr.deeper _) hsp;have I:Inv (cxOf CX P w K mg base N qual scope f cdv A outer s H E) [] (start N vs) H s1:=zm6 S hr.hd e0 hl r x;refine al49q (ht [] s1 (start N vs) H _ I hq) (fun fl s' hs=>?_) fun e s' hs=>hs
  have fin:∀{σ':St}{H':Hp}{v:V}{u:ty3q},Inv (cxOf CX P w K mg base N qual scope f cdv A outer s H E) [] σ' H' s'->RelV v u->Q v H'->CE outer P w H s Q u s':=
    fun {σ' H' v u} J rv q=>⟨v,H',J.os,J.bare,J.base,J.hok,rv,q⟩
  cases fl with
  | ret u=>
    obtain⟨v,σ',H',J,rv,q⟩:=hs;exact fin J rv q
  | next=>
    obtain⟨σ',H',J,q⟩:=hs;exact fin (v:=V.non) (u:=Value.none) J rfl q
  | brk=>
    obtain⟨_,_,_,q⟩:=hs;exact False.elim q
  | cont=>
    obtain⟨_,_,_,q⟩:=hs;exact False.elim q
section
variable {X:Cx}{x:Str}{p pos:Pos}{e:Expr}{es:List Expr}{t:TA}{id T:String}{r:List V->Hp->VK->Prop}
def tCB (r:List V->Hp->VK->Prop) (t:TA):TE:=fun σ H Q=>t σ H fun vs H1=>r vs H1 Q
theorem zap (hc:zbr X (.builtin id) r) (hg:Gl X x) (hm:X.mg x=none) (hv:bootBuiltins x=some (.builtin id)) (ha:PA X (e::es) t) (hn:x≠"__name__":=by decide) (hdb:(x == ("__debug__" : Str))=false:=by decide)
    (he:starEach (e::es) X.env=(false,eval e X.env)::starEach es X.env:=by rfl) (hpl:(backTo pos (starEach es X.env)).any (·.1)=false:=by rfl):PE X (.Call (.Name x p) (e::es) [] pos) (tCB r t):=by
  intro pins s σ H Q I h;refine al176q (zhb I hg hm hv ?_ hn hdb);exact PyProof.Rows.callWith_builtin1 (thn (ha pos pins s σ H _ I h) fun us s1 ⟨vs,H1,I1,r1,q1⟩=>hc pins s1 σ H1 vs us Q I1 r1 q1) he hpl
theorem za2 (hc:zbr X (.type T) r) (hg:Gl X x) (hm:X.mg x=none) (hv:bootBuiltins x=some (.type T)) (ha:PA X (e::es) t) (hn:x≠"__name__":=by decide) (hdb:(x == ("__debug__" : Str))=false:=by decide)
    (he:starEach (e::es) X.env=(false,eval e X.env)::starEach es X.env:=by rfl) (hpl:(backTo pos (starEach es X.env)).any (·.1)=false:=by rfl):PE X (.Call (.Name x p) (e::es) [] pos) (tCB r t):=by
  intro pins s σ H Q I h;refine al176q (zhb I hg hm hv ?_ hn hdb);exact al112q (thn (ha pos pins s σ H _ I h) fun us s1 ⟨vs,H1,I1,r1,q1⟩=>hc pins s1 σ H1 vs us Q I1 r1 q1) he hpl
end
end L2
namespace HT
open PySem PyProof.Rows
section
open PySem.SeqAt
open PySem.AutoSeq1 (wpAny_loadPart')
open PySem.MeetsSeq PySem.MeetsSeq2 PySem.MeetsSeq3
end
section
variable {prog:ty4q}{w:World}{A:Around}{E:ty90q}{s:ty2q}
theorem cat_tup {t b:ty1q}{vs ws:List ty3q}{Q:ty90q}(ht:IsTup s.heap t vs.toArray) (hb:IsTup s.heap b ws.toArray) (hv:vs≠[])
    (h1:ws = []->Q (.ref t) s) (h2:ws≠[]->Q (.ref s.heap.objs.size) { s with heap:=s.heap.push { cls:=.type "tuple",data:=.seq (vs++ws).toArray } })
    (hsz:vs.length+ws.length<=sizeLine):wpAny (model prog w) A (binaryOp .Add (.ref t) (.ref b)) Q E s:=by
  obtain⟨⟨cls,dd,data,sl⟩,ho,hc,n,hd⟩:=id ht;obtain⟨⟨cls2,dd2,data2,sl2⟩,ho2,hc2,n2,hd2⟩:=id hb;simp only at hc hd hc2 hd2;subst hc hd hc2 hd2;have e:vs.toArray++ws.toArray=(vs++ws).toArray:=by simp
  by_cases hw:ws = []
  · exact concat_meets ⟨_,ho,rfl⟩ ⟨_,ho2,rfl⟩ noFill_tuple_add seq_tuple_add PySem.F.slot_tuple_add PySem.F.entry_tuple_add (PySem.F.args_tuple_add_2 _ _)
      (tuple_addW1 t b vs.toArray ws.toArray n n2 dd dd2 sl sl2 (by simpa using hv) (by simp[hw])) ⟨ho,ho2,h1 hw⟩
  · refine concat_meets ⟨_,ho,rfl⟩ ⟨_,ho2,rfl⟩ noFill_tuple_add seq_tuple_add PySem.F.slot_tuple_add PySem.F.entry_tuple_add (PySem.F.args_tuple_add_2 _ _)
      (tuple_addW2 t b vs.toArray ws.toArray n n2 dd dd2 sl sl2 (by simpa using hv) (by simpa using hw) (by rw[al24q,al24q];exact hsz)) ⟨ho,ho2,?_⟩
    rw[e];exact h2 hw
def sIx (n d:Nat):Option Int->Nat
  | none=>d
  | some v=>if v<0 then (v+(n:Int)).toNat else min v.toNat n
end
end HT
namespace L2
open PySem PySem.Spec PyProof.Rows
abbrev TO:=St->Hp->(Option Int->Hp->Prop)->Prop
def PO (X:Cx) (e:Option Expr) (t:TO):Prop:=
  ∀(pins:ty91q) (s:ty2q) (σ:St) (H:Hp) (Q:Option Int->Hp->Prop),Inv X pins σ H s->t σ H Q->
    wpAny (model X.prog X.w) X.A (evalPart e X.env) (fun u s'=>∃o H',Inv X pins σ H' s'/\IsPart u o/\Q o H') X.xe s
def ztc:TO:=fun _ H Q=>Q none H
def zw7 (t:TE):TO:=fun σ H Q=>t σ H fun x H1=>∃i,x = .int i/\Q (some i) H1
section
variable {X:Cx}{e:Expr}{te:TE}{lo hi:Option Expr}{tl th:TO}{pos p2:Pos}
theorem zi4:PO X none ztc:=by
  intro pins s σ H Q I h;rw[evalPart_none];exact al2q ⟨none,H,I,.none,h⟩
theorem zc5 (h:PE X e te):PO X (some e) (zw7 te):=by
  intro pins s σ H Q I hw;rw[evalPart_some];refine thn (h pins s σ H _ I hw) fun u s1 hq0=>?_
  obtain⟨x,H1,I1,r1,q1⟩:=hq0;obtain⟨i,rfl,q⟩:=q1;obtain⟨t,rfl⟩:=r1;exact⟨some i,H1,I1,.int i t,q⟩
def SlR (X:Cx) (r:V->Option Int->Option Int->Hp->VK->Prop):Prop:=
  ∀(pins:ty91q) (s:ty2q) (σ:St) (H:Hp) (x:V) (v vl vu:ty3q) (lo hi:Option Int) (sl:ty1q) (Q:VK),Inv X pins σ H s->RelV x v->s.heap.IsSliceOf sl vl vu .none->IsPart vl lo->IsPart vu hi->r x lo hi H Q->
    ∃T id,typeLookup (.type T) "__getitem__" = pure (some (.builtin id))/\s.TypeIs v T/\wpAny (model X.prog X.w) X.A (getItem v (.ref sl)) (EP X pins σ Q) X.xe s
def tSl (r:V->Option Int->Option Int->Hp->VK->Prop) (te:TE) (tl th:TO):TE:=fun σ H Q=>te σ H fun x H1=>tl σ H1 fun l H2=>th σ H2 fun u H3=>r x l u H3 Q
theorem zde {r:V->Option Int->Option Int->Hp->VK->Prop}(hr:SlR X r) (he:PE X e te) (hl:PO X lo tl) (hu:PO X hi th):PE X (.Subscript e (.Slice lo hi none p2) pos) (tSl r te tl th):=by
  intro pins s σ H Q I h;refine Subscript_ (thn (he pins s σ H _ I h) fun v s1 hq0=>?_);obtain⟨x,H1,I1,r1,q1⟩:=hq0;refine wpAny_Slice (thn (hl pins s1 σ H1 _ I1 q1) fun vl s2 ⟨l,H2,I2,pl,q2⟩=>thn (hu pins s2 σ H2 _ I2 q2) fun vu s3 hq0=>?_);obtain⟨u,H3,I3,pu,q3⟩:=hq0;rw[evalPart_none];refine al2q ?_;have I4:Inv X pins σ H3 { s3 with heap:=s3.heap.push { cls:=.type "slice",data:=.fields #[vl,vu,.none] } }:=I3.kept (t':=s3.toks) fun b ob q=>al4q _ q
  obtain⟨T,id,hT,ht,hg⟩:=hr pins { s3 with heap:=s3.heap.push { cls:=.type "slice",data:=.fields #[vl,vu,.none] } } σ H3 x v vl vu l u s3.heap.objs.size Q I4 r1 (Heap.IsSliceOf.new ..) pl pu q3;show wpAny (model X.prog X.w) X.A (subscriptTail e (.Slice lo hi none p2) v (.ref s3.heap.objs.size)) (EP X pins σ Q) X.xe { s3 with heap:=s3.heap.push { cls:=.type "slice",data:=.fields #[vl,vu,.none] } };exact tail_any (ops:=[.ref s3.heap.objs.size,v]) ht hT hg (by with_unfolding_all rfl)
def cutV (xs:List V) (lo hi:Option Int):List V:=(xs.drop (HT.sIx xs.length 0 lo)).take (HT.sIx xs.length xs.length hi-HT.sIx xs.length 0 lo)
theorem zi5 (xs:List V) (lo hi:Option Int):(cutV xs lo hi).length<=xs.length:=by
  unfold cutV;rw[al25q,List.length_drop];lia
def zvk (K:ty0q):R2:=fun x y H Q=>∃a b xs ys,x = .ref a/\y = .ref b/\SqT K H a xs/\SqT K H b ys/\xs≠[]/\xs.length+ys.length<=sizeLine/\
  (ys = []->Q (.ref a) H)/\(ys≠[]->∀p,H p=none->Q (.ref p) (upd H p (.tup (xs++ys))))
theorem Vals.nil_iff {xs:List V}{us:List ty3q}(r:Vals xs us):us = []↔xs = []:=by
  cases r with
  | nil=>simp
  | cons _ _=>simp
theorem ztd:OpR X (binaryOp .Add) (zvk X.K):=by
  intro pins s σ H x y v u Q I rx ry h;obtain⟨a,b,xs,ys,rfl,rfl,ha,hb,hx,hz,q1,q2⟩:=h;cases rx;cases ry;obtain⟨its,r1,p1,_⟩:=I.tuple ha;obtain⟨its2,r2,p2,_⟩:=I.tuple hb;refine HT.cat_tup p1 p2 (fun z=>hx (r1.nil_iff.mp z)) (fun z=>⟨.ref a,H,I,rfl,q1 (r2.nil_iff.mp z)⟩) (fun z=>?_) (by rw[←r1.length,←r2.length];exact hz);refine⟨.ref s.heap.objs.size,_,I.laid (t':=s.toks) (o:=.tup (xs++ys)) (fun b ob q=>al4q _ q) (al18q _) ?_,rfl,q2 (fun w=>z (r2.nil_iff.mpr w)) _ (I.hok.fresh (al18q _))⟩;exact⟨by rw[al20q];exact hz,_,r1.append r2,IsTup.new _ _⟩
end
def ixN (n:Nat) (i:Int):Option Nat:=if 0<=i then (if i<n then some i.toNat else none) else if -(n:Int)<=i then some (i+n).toNat else none
def atI {α:Type}(xs:List α) (i:Int):Option α:=(ixN xs.length i).bind fun j=>xs[j]?
theorem zte {n:Nat}{i:Int}{j:Nat}(h:ixN n i=some j):seqIndex? i n=some j/\j<n/\-(n:Int)<=i/\i<n:=by
  unfold ixN at h
  by_cases h0:0<=i
  · rw[al11q h0] at h
    by_cases h1:i<n
    · rw[al11q h1] at h;have e:i.toNat=j:=al46q h;exact⟨by rw[seqIndex_of h0 h1,e],by lia,by lia,h1⟩
    · rw[al7q h1] at h;cases h
  · rw[al7q h0] at h
    by_cases h1 : -(n:Int)<=i
    · rw[al11q h1] at h;have e:(i+n).toNat=j:=al46q h;exact⟨by rw[seqIndex_neg (by lia) h1,e],by lia,h1,by lia⟩
    · rw[al7q h1] at h;cases h
theorem zi6 {α:Type}{xs:List α}{i:Int}{v:α}(h:atI xs i=some v):∃j,seqIndex? i xs.length=some j/\xs[j]? = some v/\j<xs.length/\-(xs.length:Int)<=i/\i<xs.length:=by
  unfold atI at h;cases e:ixN xs.length i with
  | none=>rw[e] at h;cases h
  | some j=>
    rw[e] at h;obtain⟨h1,h2,h3,h4⟩:=zte e;exact⟨j,h1,h,h2,h3,h4⟩
theorem zbk {α:Type}{xs:List α}{j:Nat}{v:α}(h:xs[j]? = some v):atI xs (j:Int)=some v:=by
  have hj:j<xs.length:=(al8q.mp h).1;have e:ixN xs.length (j:Int)=some j:=by
    unfold ixN;rw[al11q (by lia),al11q (by lia)];simp
  unfold atI;rw[e];exact h
theorem zqj {α:Type}(xs:List α) (v:α):atI (xs++[v]) (-1)=some v:=by
  have hl:(xs++[v]).length=xs.length+1:=by simp
  have e:ixN (xs++[v]).length (-1)=some xs.length:=by
    unfold ixN;rw[hl,al7q (by decide),al11q (by lia)]
    congr 1
    lia
  unfold atI;rw[e];show (xs++[v])[xs.length]? = some v;simp
def zm7 (b:Expr):Prop:=∀o i,subscripted b false o i=operate [o,i] (getItem o i)
def IxR (X:Cx) (r:R2):Prop:=
  ∀(value slice:Expr) (pins:ty91q) (s:ty2q) (σ:St) (H:Hp) (x y:V) (v u:ty3q) (Q:VK),Inv X pins σ H s->RelV x v->RelV y u->r x y H Q->
    subscripted slice false v u=operate [v,u] (getItem v u)->wpAny (model X.prog X.w) X.A (subscriptTail value slice v u) (EP X pins σ Q) X.xe s
def MtR (X:Cx) (id:String) (r:V->List V->Hp->VK->Prop):Prop:=
  ∀(pins:ty91q) (s:ty2q) (σ:St) (H:Hp) (x:V) (xs:List V) (v:ty3q) (us:List ty3q) (Q:VK),Inv X pins σ H s->RelV x v->Vals xs us->r x xs H Q->
    wpAny (model X.prog X.w) X.A (call (.builtin id) (v::us)) (EP X pins σ Q) X.xe s
section
variable {X:Cx}{a b:Expr}{ta tb:TE}{pos:Pos}
theorem zw8 {r:R2}(hr:IxR X r) (ha:PE X a ta) (hb:PE X b tb) (hs:zm7 b):PE X (.Subscript a b pos) (tOp r ta tb):=by
  intro pins s σ H Q I h;exact Subscript_ (binT ha hb I h fun v u s2 x y H2 I2 rx ry q=>hr a b pins s2 σ H2 x y v u Q I2 rx ry q (hs _ _))
inductive rIxLI (K:ty0q) (x y:V) (H:Hp) (Q:VK):Prop
  | mk (p:ty1q) (xs:List V) (i:Int) (v:V) (_:x = .ref p) (_:y = .int i) (_:SqL K H p xs) (_:atI xs i=some v) (_:Q v H)
def rIxL (K:ty0q):R2:=fun x y H Q=>rIxLI K x y H Q
inductive rIxTI (K:ty0q) (x y:V) (H:Hp) (Q:VK):Prop
  | mk (p:ty1q) (xs:List V) (i:Int) (v:V) (_:x = .ref p) (_:y = .int i) (_:SqT K H p xs) (_:atI xs i=some v) (_:Q v H)
def rIxT (K:ty0q):R2:=fun x y H Q=>rIxTI K x y H Q
def rIxS:R2:=fun x y H Q=>∃z i c,x = .str z/\y = .int i/\z.length<=sizeLine/\atI z.cps.toList i=some c/\Q (.str ⟨#[c]⟩) H
theorem ztf:IxR X (rIxL X.K):=by
  intro value slice pins s σ H x y v u Q I rx ry h hs;obtain⟨p,xs,i,z,rfl,rfl,hq,he,q⟩:=h;cases rx;obtain⟨t,rfl⟩:=ry;obtain⟨its,r,pl,hz⟩:=I.list hq;obtain⟨j,h1,h2,h3,h4,h5⟩:=zi6 he;obtain⟨w,ew,rw'⟩:=r.get h2;have hl:=r.length;have hn:=zkk;have fin:EP X pins σ Q w s:=⟨z,H,I,rw',q⟩
  by_cases h0:0<=i
  · have hj:i.toNat=j:=by
      rw[seqIndex_of h0 h5] at h1;exact al46q h1
    exact item_listR pl.isList h0 (by lia) (by rw[hj];simpa using ew) fin hs
  · have hj:(i+(its.toArray.size:Int)).toNat=j:=by
      rw[seqIndex_neg (by lia) h4] at h1;rw[al24q,←hl];exact al46q h1
    exact subscriptTail_builtinR (x:=w) pl.isList.typeIs slot_list_getitem.lookup
      (wpAny_getItem_list_neg (Q:=fun r s'=>r=w/\EP X pins σ Q r s') pl.isList (by lia) (by rw[al24q]<;>lia) (by lia) (by rw[hj];simpa using ew) ⟨rfl,fin⟩) hs
theorem zvl:IxR X (rIxT X.K):=by
  intro value slice pins s σ H x y v u Q I rx ry h hs;obtain⟨p,xs,i,z,rfl,rfl,hq,he,q⟩:=h;cases rx;obtain⟨t,rfl⟩:=ry;obtain⟨its,r,pl,hz⟩:=I.tuple hq;obtain⟨j,h1,h2,h3,h4,h5⟩:=zi6 he;obtain⟨w,ew,rw'⟩:=r.get h2;have hl:=r.length;have hn:=zkk;have fin:EP X pins σ Q w s:=⟨z,H,I,rw',q⟩;exact subscriptTail_builtinR (x:=w) pl.typeIs slot_tuple_getitem.lookup
    (getItem_tuple (j:=j) (Q:=fun r s'=>r=w/\EP X pins σ Q r s') pl (by lia) (by lia) (by rw[al24q,←hl];exact h1) (by simpa using ew) ⟨rfl,fin⟩) hs
theorem zvm:IxR X rIxS:=by
  intro value slice pins s σ H x y v u Q I rx ry h hs;obtain⟨z,i,c,rfl,rfl,hz,he,q⟩:=h;obtain⟨t,rfl⟩:=rx;obtain⟨t',rfl⟩:=ry;obtain⟨j,h1,h2,h3,h4,h5⟩:=zi6 he;have hl:z.cps.toList.length=z.length:=by simp[Str.length]
  rw[hl] at h1 h4 h5;have hn:=zkk;exact tail_any (typeIs_str s z t) slot_str_getitem.lookup (getItem_str (c:=c) (by
    have e1:decide (i < -(2 ^ 63:Int))=false:=al22q (by lia);have e2:decide (i≥2 ^ 63)=false:=al22q (by lia);rw[e1,e2,Bool.or_false]) (by rw[h1];simpa using h2) ⟨.str ⟨#[c]⟩,H,I.tok _,⟨_,rfl⟩,q⟩) hs
theorem zhj (lo hi:Option Int) (n:Nat):(sliceBounds lo hi none n).1=((HT.sIx n 0 lo:Nat):Int)/\(sliceBounds lo hi none n).2.1=((HT.sIx n n hi:Nat):Int)/\(sliceBounds lo hi none n).2.2=1:=by
  refine⟨?_,?_,rfl⟩
  · cases lo with
    | none=>simp[sliceBounds,HT.sIx]
    | some i=>
      simp only [sliceBounds,HT.sIx,Option.getD_none,show (1:Int) > 0 by decide,if_true]
      by_cases h:i<0
      · simp only [h,if_true]<;>lia
      · simp only [h,al182q]<;>lia
  · cases hi with
    | none=>simp[sliceBounds,HT.sIx]
    | some i=>
      simp only [sliceBounds,HT.sIx,Option.getD_none,show (1:Int) > 0 by decide,if_true]
      by_cases h:i<0
      · simp only [h,if_true]<;>lia
      · simp only [h,al182q]<;>lia
theorem zgo (its:List ty3q) (lo hi:Option Int):slicePick its.toArray lo hi none=((its.drop (HT.sIx its.length 0 lo)).take (HT.sIx its.length its.length hi-HT.sIx its.length 0 lo)).toArray:=by
  obtain⟨h1,h2,h3⟩:=zhj lo hi its.toArray.size;unfold slicePick;rw[h1,h2,h3];simp only [sliceRange_one,pick_run,al24q]<;>rfl
def rSlL (K:ty0q):V->Option Int->Option Int->Hp->VK->Prop:=fun x lo hi H Q=>∃a xs,x = .ref a/\SqL K H a xs/\∀p,H p=none->Q (.ref p) (upd H p (.lst (cutV xs lo hi)))
theorem ztg:SlR X (rSlL X.K):=by
  intro pins s σ H x v vl vu lo hi sl Q I rx hs pl pu h;obtain⟨a,xs,rfl,hx,q⟩:=h;cases rx;obtain⟨its,r,ht,hz⟩:=I.list hx;have hlen:=r.length;refine⟨"list",_,slot_list_getitem.lookup,ht.isList.typeIs,?_⟩;refine wpAny_getItem_list_slice ht.isList hs pl pu .none (by simp) ?_ (by rw[al24q]<;>lia);rw[zgo,←hlen];refine⟨.ref s.heap.objs.size,_,I.laid (t':=s.toks) (o:=.lst (cutV xs lo hi)) (fun b ob q=>al4q _ q) (al18q _) ?_,rfl,q _ (I.hok.fresh (al18q _))⟩;exact⟨al44q (zi5 xs lo hi) hz,_,0,(r.drop (HT.sIx xs.length 0 lo)).take (HT.sIx xs.length xs.length hi-HT.sIx xs.length 0 lo),al12q _ rfl⟩
def zch:V->Bool
  | .non=>true
  | .bl _=>true
  | .int _=>true
  | .str _=>true
  | _=>false
def eqV:V->V->Bool
  | .non,.non=>true
  | .bl a,.bl b=>a == b
  | .bl a,.int b=>(if a then 1 else 0) == b
  | .int a,.bl b=>a == (if b then 1 else 0)
  | .int a,.int b=>a == b
  | .str a,.str b=>a == b
  | _,_=>false
theorem zm8 {A:Around}{s:ty2q}{y x:V}{u v:ty3q}(ry:RelV y u) (rx:RelV x v) (fy:zch y=true) (fx:zch x=true):SeqAt.EqAt A s u v (eqV y x):=by
  cases y with
  | non=>
    cases ry;cases x with
    | non=>cases rx;exact SeqAt.EqAt.same _
    | bl b=>cases rx;exact SeqAt.EqAt.none_bool b
    | int b=>obtain⟨t,rfl⟩:=rx;exact SeqAt.EqAt.none_int b t
    | str b=>obtain⟨t,rfl⟩:=rx;exact SeqAt.EqAt.none_str b t
    | _=>exact absurd (show false=true from fx) al19q
  | bl a=>
    cases ry;cases x with
    | non=>cases rx;exact SeqAt.EqAt.bool_none a
    | bl b=>cases rx;exact SeqAt.EqAt.bool_bool a b
    | int b=>obtain⟨t,rfl⟩:=rx;exact SeqAt.EqAt.bool_int a b t
    | str b=>obtain⟨t,rfl⟩:=rx;exact SeqAt.EqAt.bool_str a b t
    | _=>exact absurd (show false=true from fx) al19q
  | int a=>
    obtain⟨t',rfl⟩:=ry;cases x with
    | non=>cases rx;exact SeqAt.EqAt.int_none a t'
    | bl b=>cases rx;exact SeqAt.EqAt.int_bool a t' b
    | int b=>obtain⟨t,rfl⟩:=rx;exact SeqAt.EqAt.int_int a t' b t
    | str b=>obtain⟨t,rfl⟩:=rx;exact SeqAt.EqAt.int_str a t' b t
    | _=>exact absurd (show false=true from fx) al19q
  | str a=>
    obtain⟨t',rfl⟩:=ry;cases x with
    | non=>cases rx;exact SeqAt.EqAt.str_none a t'
    | bl b=>cases rx;exact SeqAt.EqAt.str_bool a t' b
    | int b=>obtain⟨t,rfl⟩:=rx;exact SeqAt.EqAt.str_int a t' b t
    | str b=>obtain⟨t,rfl⟩:=rx;exact SeqAt.EqAt.str_str a t' b t
    | _=>exact absurd (show false=true from fx) al19q
  | _=>exact absurd (show false=true from fy) al19q
def eqU (x:V) (u:ty3q):Bool:=match u with
  | .none=>eqV .non x
  | .bool b=>eqV (.bl b) x
  | .int i _=>eqV (.int i) x
  | .str z _=>eqV (.str z) x
  | _=>false
theorem zsb {x y:V}{u:ty3q}(r:RelV y u) (f:zch y=true):eqU x u=eqV y x:=by
  cases y with
  | non=>cases r;rfl
  | bl b=>cases r;rfl
  | int i=>obtain⟨t,rfl⟩:=r;rfl
  | str z=>obtain⟨t,rfl⟩:=r;rfl
  | _=>exact absurd (show false=true from f) al19q
theorem zi7 {x:V}:∀{xs:List V}{us:List ty3q},Vals xs us->xs.all zch=true->us.any (eqU x)=xs.any fun y=>eqV y x
  | _,_,.nil,_=>rfl
  | y::xs,u::us,.cons r t,f=>by
    rw[List.all_cons,al42q] at f;rw[al103q,al103q,zsb r f.1,zi7 t f.2]
theorem zgp {A:Around}{s:ty2q}{x:V}{v:ty3q}(rx:RelV x v) (fx:zch x=true):∀{xs:List V}{us:List ty3q},Vals xs us->xs.all zch=true->∀u∈us,SeqAt.EqAt A s u v (eqU x u)
  | _,_,.nil,_=>fun u hu=>by cases hu
  | y::xs,u::us,.cons r t,f=>fun u' hu=>by
    rw[List.all_cons,al42q] at f;rcases al14q.mp hu with rfl | hu
    · rw[zsb r f.1];exact zm8 r rx f.1 fx
    · exact zgp rx fx t f.2 u' hu
def inV (x:V) (xs:List V):Bool:=xs.any fun y=>eqV y x
def rIn (K:ty0q) (neg:Bool):R2:=fun x y H Q=>∃p xs,y = .ref p/\(SqL K H p xs\/SqT K H p xs)/\zch x=true/\xs.all zch=true/\Q (.bl (if neg then !inV x xs else inV x xs)) H
theorem zm9:OpR X (compareOp .In) (rIn X.K false):=by
  intro pins s σ H x y v u Q I rx ry h;obtain⟨p,xs,rfl,hq,fx,fs,q⟩:=h;cases ry;rcases hq with hq | hq
  · obtain⟨its,r,pl,hz⟩:=I.list hq;refine SeqAt.in_listAt (eqU x) pl.isList (fun w hw=>zgp rx fx r fs w (by simpa using hw)) ⟨.bl _,H,I,rfl,?_⟩;rw[show its.toArray.any (eqU x)=its.any (eqU x) by simp,zi7 r fs];exact q
  · obtain⟨its,r,pl,hz⟩:=I.tuple hq;refine SeqAt.in_tupleAt (eqU x) pl (fun w hw=>zgp rx fx r fs w (by simpa using hw)) ⟨.bl _,H,I,rfl,?_⟩;rw[show its.toArray.any (eqU x)=its.any (eqU x) by simp,zi7 r fs];exact q
theorem zhk:zbr X (.builtin "len") (fun xs H Q=>∃p ys,xs = [.ref p]/\(SqL X.K H p ys\/SqT X.K H p ys)/\Q (.int ys.length) H):=by
  intro pins s σ H xs us Q I r h;obtain⟨p,ys,rfl,hq,q⟩:=h;obtain⟨u,rfl,rx⟩:=zc4 r;cases rx;have hn:=zkk;rcases hq with hq | hq
  · obtain⟨its,r',pl,hz⟩:=I.list hq;have hlen:=r'.length;exact Calls.call_len_list pl.isList (by simp only [al24q]<;>lia) ⟨.int ys.length,H,I.tok _,⟨s.toks+1,by rw[al24q,hlen]⟩,q⟩
  · obtain⟨its,r',pl,hz⟩:=I.tuple hq;have hlen:=r'.length;exact len_tuple pl (by simp only [al24q]<;>lia) ⟨.int ys.length,H,I.tok _,⟨s.toks+1,by rw[al24q,hlen]⟩,q⟩
theorem zhl:zbr X (.type "list") (fun xs H Q=>∃p ys,xs = [.ref p]/\(SqL X.K H p ys\/SqT X.K H p ys)/\∀l,H l=none->Q (.ref l) (upd H l (.lst ys))):=by
  intro pins s σ H xs us Q I r h;obtain⟨p,ys,rfl,hq,q⟩:=h;obtain⟨u,rfl,rx⟩:=zc4 r;cases rx;have fin:∀(its:List ty3q),Vals ys its->ys.length<=sizeLine->∀(h':Heap) (c':Nat),(∀b o',s.heap.get? b=some o'->h'.get? b=some o')->
      h'.get? s.heap.objs.size=some { cls:=.type "list",dict:=none,data:=.seq its.toArray c',slots:=#[] }->EP X pins σ Q (.ref s.heap.objs.size) { s with heap:=h' }:=fun its r' hz h' c' kp e=>
    ⟨.ref s.heap.objs.size,_,I.laid (t':=s.toks) kp (al18q _) (show ObjOk X.prog X.w _ h' _ (.lst ys) from ⟨hz,its,c',r',e⟩),rfl,q _ (I.hok.fresh (al18q _))⟩
  rcases hq with hq | hq
  · obtain⟨its,r',pl,hz⟩:=I.list hq;have hlen:=r'.length;obtain⟨o,ho,hc,n,hd⟩:=pl.isList;exact call_list_seq p (.inl rfl) ho hc hd (fun h' c' kp e=>fin its r' hz h' c' kp e) (by simp only [al24q]<;>lia)
  · obtain⟨its,r',pl,hz⟩:=I.tuple hq;have hlen:=r'.length;obtain⟨o,ho,hc,n,hd⟩:=pl;exact call_list_seq p (.inr rfl) ho hc hd (fun h' c' kp e=>fin its r' hz h' c' kp e) (by simp only [al24q]<;>lia)
def tyV (K:ty0q) (T:String) (x:V) (H:Hp):Prop:=match x with
  | .str _=>T = "str"
  | .int _=>T = "int"
  | .ref p=>(T = "list"/\∃xs,SqL K H p xs)\/(T = "tuple"/\∃o,K.lookup p=some o/\o.cls = .type "tuple"/\o.dict=none)\/
      (T = "dict"/\((∃kvs,H p=some (.dK kvs))\/∃kvs,H p=some (.dT kvs)))\/(T = "set"/\∃S n,H p=some (.set S n))
  | _=>False
theorem zsc {pins:ty91q}{σ:St}{H:Hp}{s:ty2q}{T:String}{x:V}{v:ty3q}(I:Inv X pins σ H s) (r:RelV x v) (ty:tyV X.K T x H) :
    s.TypeIs v T/\∀a,v = .ref a->∃ob,s.heap.get? a=some ob/\ob.dict=none:=by
  cases x with
  | str z=>
    obtain⟨t,rfl⟩:=r;cases (show T = "str" from ty);exact⟨typeIs_str s z t,fun _ e=>nomatch e⟩
  | int i=>
    obtain⟨t,rfl⟩:=r;cases (show T = "int" from ty);exact⟨typeIs_int s i t,fun _ e=>nomatch e⟩
  | ref p=>
    cases r;rcases ty with ⟨rfl,xs,hq⟩ | ⟨rfl,o,hk,hc,hd⟩ | ⟨rfl,hk⟩ | ⟨rfl,S,n,hk⟩
    · obtain⟨its,_,pl,_⟩:=I.list hq;refine⟨pl.isList.typeIs,fun a e=>?_⟩;cases e;obtain⟨o,n,e,c,hd,_⟩:=pl;exact⟨o,e,hd⟩
    · refine⟨⟨o,I.kIn p o hk,hc⟩,fun a e=>?_⟩;cases e;exact⟨o,I.kIn _ o hk,hd⟩
    · have z:∃o,s.heap.get? p=some o/\o.ExactDict:=by
        rcases hk with ⟨kvs,hk⟩ | ⟨kvs,hk⟩
        · obtain⟨_,_,_,_,o,_,_,e,ex,_⟩:=I.hok p _ hk;exact⟨o,e,ex⟩
        · obtain⟨_,_,_,_,o,_,_,e,ex,_⟩:=I.hok p _ hk;exact⟨o,e,ex⟩
      obtain⟨o,e,ex⟩:=z;refine⟨⟨o,e,ex.1⟩,fun a e2=>?_⟩;cases e2;exact⟨o,e,ex.2.1⟩
    · obtain⟨o,_,_,_,e,ex,_⟩:=I.hok p _ hk;refine⟨⟨o,e,ex.1⟩,fun a e2=>?_⟩;cases e2;exact⟨o,e,ex.2.1⟩
  | _=>exact False.elim ty
def tBM0 (K:ty0q) (T:String) (r:V->List V->Hp->VK->Prop) (to:TE):TE:=fun σ H Q=>to σ H fun x H1=>tyV K T x H1/\r x [] H1 Q
def tBM (K:ty0q) (T:String) (r:V->List V->Hp->VK->Prop) (to:TE) (t:TA):TE:=fun σ H Q=>to σ H fun x H1=>tyV K T x H1/\t σ H1 fun xs H2=>r x xs H2 Q
variable {o e:Expr}{es:List Expr}{to:TE}{t:TA}{name:Str}{apos cpos:Pos}{T id:String}{r:V->List V->Hp->VK->Prop}
theorem zvn (pa:PlainAttrs T) (slot:Slot T name id) (hty:typeOf (.builtin id)=pure (.type "method_descriptor")) (hm:MtR X id r) (ho:PE X o to)
    (hbase:attributeBase o name X.env (eval o X.env)=eval o X.env:=by rfl) (hline:(apos.endLine == cpos.line)=true:=by rfl):PE X (.Call (.Attribute o name apos) [] [] cpos) (tBM0 X.K T r to):=by
  intro pins s σ H Q I h;refine wpAny_Call_method0_late hbase hline (thn (ho pins s σ H _ I h) fun v s1 hq0=>?_);obtain⟨x,H1,I1,r1,ty,q1⟩:=hq0;obtain⟨h1,h2⟩:=zsc I1 r1 ty;exact⟨T,id,pa,slot,hty,h1,h2,al144q rfl (PySem.evalArgs_none (hm pins s1 σ H1 x [] v [] Q I1 r1 .nil q1))⟩
theorem zw9 (pa:PlainAttrs T) (slot:Slot T name id) (hty:typeOf (.builtin id)=pure (.type "method_descriptor")) (hm:MtR X id r) (ho:PE X o to) (ha:PA X (e::es) t)
    (hbase:attributeBase o name X.env (eval o X.env)=eval o X.env:=by rfl)
    (hfew:((backTo cpos (starEach (e::es) X.env)).all (fun x=>!x.1)&&(backToKw cpos (keywordEach [] X.env)).all (fun x=>x.1.isSome)
      && decide ((e::es).length+([]:List Keyword).length+(if ([]:List Keyword).isEmpty then 0 else 1)<30))=true:=by rfl)
    (hline:(apos.endLine == cpos.line)=true:=by rfl) (hs:starEach (e::es) X.env=(false,eval e X.env)::starEach es X.env:=by rfl) (hplain:(backTo cpos (starEach es X.env)).any (·.1)=false:=by rfl) :
    PE X (.Call (.Attribute o name apos) (e::es) [] cpos) (tBM X.K T r to t):=by
  intro pins s σ H Q I h;refine wpAny_Call_method_late hbase hfew hline rfl (thn (ho pins s σ H _ I h) fun v s1 hq0=>?_);obtain⟨x,H1,I1,r1,ty,q1⟩:=hq0;obtain⟨h1,h2⟩:=zsc I1 r1 ty;refine⟨T,id,pa,slot,hty,h1,h2,?_⟩;have hA:=ha cpos pins s1 σ H1 _ I1 q1;rw[hs] at hA ⊢;refine al144q (by show (false||(backTo cpos (starEach es X.env)).any (·.1))=false;rw[hplain]<;>rfl) (al156q ?_);exact thn hA fun us s2 ⟨vs,H2,I2,r2,q2⟩=>hm pins s2 σ H2 x vs v us Q I2 r1 r2 q2
end
def MtM (X:Cx) (id:String) (r:V->List V->Hp->VK->Prop):Prop:=
  ∀(pins:ty91q) (s:ty2q) (σ:St) (H:Hp) (x:V) (xs:List V) (v:ty3q) (us:List ty3q) (Q:VK),Inv X pins σ H s->RelV x v->Vals xs us->r x xs H Q->
    wpAny (model X.prog X.w) X.A (call (.builtin id) (v::us)) (EP X pins σ Q) X.xe s
theorem Vals.one:∀{x:V}{us:List ty3q},Vals [x] us->∃u,us = [u]/\RelV x u
  | _,_,.cons r .nil=>⟨_,rfl,r⟩
section
variable {X:Cx}{pins:ty91q}{σ:St}{H:Hp}{s:ty2q}{l b:ty1q}{xs ys zs:List V}
theorem Inv.lset {its its':List ty3q}{n:Nat}{f:Array ty3q->Array ty3q}{t':Nat}(I:Inv X pins σ H s) (hH:H l=some (.lst xs))
    (e:s.heap.get? l=some { cls:=.type "list",data:=.seq its.toArray n }) (hf:f its.toArray=its'.toArray) (hv:Vals ys its') (hz:ys.length<=sizeLine) :
    Inv X pins σ (upd H l (.lst ys)) { s with heap:=s.heap.update l (Obj.mapSeq f),toks:=t' }:=by
  have q:=PySem.IsL.update e f;rw[hf] at q;refine I.write (x:=l) (e:=l) (by rw[hH];exact trivial) (.inl rfl) (fun b' u hb hu=>(al29q s.heap (Obj.mapSeq f) (al36q hb)).trans hu) ⟨_,q⟩ ?_;exact⟨hz,its',_,hv,q⟩
theorem Inv.lnew {its:List ty3q}{t':Nat}(I:Inv X pins σ H s) (hv:Vals ys its) (hz:ys.length<=sizeLine) :
    Inv X pins σ (upd H s.heap.objs.size (.lst ys)) { s with heap:=s.heap.push { cls:=.type "list",data:=.seq its.toArray },toks:=t' }:=
  I.laid (fun _ _ q=>al4q _ q) (al18q _) ⟨hz,its,0,hv,al12q _ rfl⟩
theorem Inv.fresh (I:Inv X pins σ H s):H s.heap.objs.size=none:=I.hok.fresh (al18q _)
theorem Inv.lstM (I:Inv X pins σ H s) (hH:H l=some (.lst xs)):xs.length<=sizeLine/\∃(its:List ty3q) (n:Nat),Vals xs its/\xs.length=its.length/\s.heap.get? l=some { cls:=.type "list",data:=.seq its.toArray n }:=by
  obtain⟨z,its,n,r,e⟩:=I.hok l _ hH;exact⟨z,its,n,r,r.length,e⟩
theorem zqk {n:Nat}(h:n<=sizeLine):Builtin.List.listTooLong n=false:=by
  unfold Builtin.List.listTooLong;exact al22q (by lia)
end
section
variable {X:Cx}
inductive rAppendI (x:V) (vs:List V) (H:Hp) (Q:VK):Prop
  | mk (l:ty1q) (xs:List V) (y:V) (_:x = .ref l) (_:vs = [y]) (_:H l=some (.lst xs)) (_:xs.length<sizeLine) (_:Q .non (upd H l (.lst (xs++[y]))))
def zth:V->List V->Hp->VK->Prop:=fun x vs H Q=>rAppendI x vs H Q
theorem zar:MtM X "list.append" zth:=by
  intro pins s σ H x vs v us Q I rx rv h;obtain⟨l,xs,y,rfl,rfl,hH,hz,q⟩:=h;cases rx;obtain⟨u,rfl,ru⟩:=rv.one;obtain⟨z,its,n,r,hl,e⟩:=I.lstM hH;refine call_meets F.slot_list_append ⟨_,e,rfl⟩ F.entry_list_append (F.args_list_append_2 _ _) (PySem.list_append l its.toArray n u (by rw[al24q];lia)) ⟨e,?_⟩;refine⟨.non,_,I.lset (its':=its++[u]) hH e (by simp) (r.append (.cons ru .nil)) ?_,rfl,q⟩;rw[al20q,List.length_singleton];lia
def zti:V->List V->Hp->VK->Prop:=fun x vs H Q=>∃l b xs zs,x = .ref l/\vs = [.ref b]/\H l=some (.lst xs)/\H b=some (.lst zs)/\xs.length+zs.length<=sizeLine/\Q .non (upd H l (.lst (xs++zs)))
theorem zna:MtM X "list.extend" zti:=by
  intro pins s σ H x vs v us Q I rx rv h;obtain⟨l,b,xs,zs,rfl,rfl,hH,hB,hz,q⟩:=h;cases rx;obtain⟨u,rfl,ru⟩:=rv.one;cases ru;obtain⟨z,its,n,r,hl,e⟩:=I.lstM hH;obtain⟨z2,its2,n2,r2,hl2,e2⟩:=I.lstM hB;have hsz:its.toArray.size+its2.toArray.size<=sizeLine:=by rw[al24q,al24q];lia
  have hlong:¬(!its.toArray.isEmpty&&Builtin.List.listTooLong (its.toArray.size+its2.toArray.size))=true:=by
    rw[zqk hsz,Bool.and_false];exact al19q
  refine call_meets F.slot_list_extend ⟨_,e,rfl⟩ F.entry_list_extend (F.args_list_extend_2 _ _)
    (AutoSeq1.list_extend_list_list_0 l its.toArray n b its2.toArray n2 hlong (by rw[al24q];lia) (by lia)) ⟨e,e2,?_⟩
  refine⟨.non,_,I.lset (its':=its++its2) hH e (by simp) (r.append r2) ?_,rfl,q⟩;rw[al20q];lia
def rCat:R2:=fun x y H Q=>∃l b xs zs,x = .ref l/\y = .ref b/\H l=some (.lst xs)/\H b=some (.lst zs)/\xs.length+zs.length<=sizeLine/\∀p,H p=none->Q (.ref p) (upd H p (.lst (xs++zs)))
theorem zfx:OpR X (binaryOp .Add) rCat:=by
  intro pins s σ H x y v u Q I rx ry h;obtain⟨l,b,xs,zs,rfl,rfl,hH,hB,hz,q⟩:=h;cases rx;cases ry;obtain⟨z,its,n,r,hl,e⟩:=I.lstM hH;obtain⟨z2,its2,n2,r2,hl2,e2⟩:=I.lstM hB;refine PySem.P.add_list e e2 ?_ (by rw[al24q,al24q];lia);have ea:its.toArray++its2.toArray=(its++its2).toArray:=by simp
  rw[ea];exact⟨.ref _,_,I.lnew (t':=s.toks) (r.append r2) (by rw[al20q];lia),rfl,q _ I.fresh⟩
end
section
variable {κ:Type} [DecidableEq κ]
def valV (kvs:List (κ×V)) (k:κ):Option V:=(kvs.find? fun kv=>decide (kv.1=k)).map (·.2)
def putK (kvs:List (κ×V)) (k:κ) (v:V):List (κ×V):=
  if (kvs.any fun kv=>decide (kv.1=k))=true then kvs.map (fun kv=>if kv.1=k then (kv.1,v) else kv) else kvs++[(k,v)]
theorem zdf {p:κ×V}{r:List (κ×V)}{k:κ}(e:p.1=k):valV (p::r) k=some p.2:=by simp[valV,al146q,e]
theorem zgq {p:κ×V}{r:List (κ×V)}{k:κ}(e:¬p.1=k):valV (p::r) k=valV r k:=by simp[valV,al146q,e]
theorem zkm (k:κ):∀kvs:List (κ×V),(kvs.any fun kv=>decide (kv.1=k))=(valV kvs k).isSome
  | []=>rfl
  | p::r=>by
    rw[al103q]
    by_cases e:p.1=k
    · simp only [zdf e,al15q e,Bool.true_or,Option.isSome_some]
    · rw[zgq e,al22q e,Bool.false_or];exact zkm k r
theorem zc6 (kvs:List (κ×V)) (k:κ) (v:V):(putK kvs k v).length<=kvs.length+1:=by
  unfold putK;split
  · rw[al1q];lia
  · rw[al20q,al57q,List.length_nil];lia
theorem RelO.isSome_eq {o:Option V}{u:Option ty3q}(r:RelO o u):o.isSome=u.isSome:=by
  cases o with
  | none=>cases u with
    | none=>rfl
    | some _=>exact (show False from r).elim
  | some _=>cases u with
    | none=>exact (show False from r).elim
    | some _=>rfl
theorem KV.val {kvs:List (κ×V)}{vs:List (κ×ty3q)}(r:KV kvs vs) (k:κ):RelO (valV kvs k) (valueAt vs k):=by
  unfold KV at r
  induction r with
  | nil=>exact True.intro
  | @cons p q ps qs h t ih=>
    obtain⟨h1,h2⟩:=h
    by_cases e:p.1=k
    · have e':q.1=k:=h1.symm.trans e;have b:valueAt (q::qs) k=some q.2:=by simp[valueAt,al146q,e']
      rw[zdf e,b];exact h2
    · have e':¬q.1=k:=fun z=>e (h1.trans z)
      have b:valueAt (q::qs) k=valueAt qs k:=by simp[valueAt,al146q,e']
      rw[zgq e,b];exact ih
theorem KV.any {kvs:List (κ×V)}{vs:List (κ×ty3q)}(r:KV kvs vs) (k:κ):(kvs.any fun kv=>decide (kv.1=k))=vs.any fun kv=>decide (kv.1=k):=by
  unfold KV at r
  induction r with
  | nil=>rfl
  | cons h t ih=>rw[al103q,al103q,ih,h.1]
theorem KV.repl {kvs:List (κ×V)}{vs:List (κ×ty3q)}(r:KV kvs vs) (k:κ) {y:V}{u:ty3q}(ry:RelV y u) :
    KV (kvs.map fun kv=>if kv.1=k then (kv.1,y) else kv) (vs.map fun kv=>if kv.1=k then (kv.1,u) else kv):=by
  unfold KV at r ⊢
  induction r with
  | nil=>exact .nil
  | @cons p q ps qs h t ih=>
    rw[al56q,al56q];refine .cons ?_ ih;obtain⟨h1,h2⟩:=h
    by_cases e:p.1=k
    · rw[al11q e,al11q (h1.symm.trans e)];exact⟨h1,ry⟩
    · rw[al7q e,al7q (fun z=>e (h1.trans z))];exact⟨h1,h2⟩
theorem KV.put {kvs:List (κ×V)}{vs:List (κ×ty3q)}(r:KV kvs vs) (k:κ) {y:V}{u:ty3q}(ry:RelV y u):KV (putK kvs k y) (stored vs k u):=by
  unfold putK stored;rw[r.any k]
  by_cases e:(vs.any fun kv=>decide (kv.1=k))=true
  · rw[al11q e,al11q e];exact r.repl k ry
  · rw[al7q e,al7q e];exact Paired.snoc r ⟨rfl,ry⟩
theorem KV.length {kvs:List (κ×V)}{vs:List (κ×ty3q)}(r:KV kvs vs):kvs.length=vs.length:=Paired.length r
end
theorem zi8 {P:ty4q}{w:World}{k:Key}{u:ty3q}(r:RelV (kV k) u):(zam P w).is k u=true:=by
  cases k with
  | inl i=>obtain⟨t,e⟩:=(show ∃t,u=Value.int i t from r);subst e;exact zi0 P w i t
  | inr x=>obtain⟨t,e⟩:=(show ∃t,u=Value.str x t from r);subst e;exact zi1 P w x t
theorem zhm {P:ty4q}{w:World}:∀{ks:List Key}{us:List ty3q},Vals (ks.map kV) us->ItemsAre (zam P w) ks us
  | [],_,r=>by rw[List.map_nil] at r;cases r;exact .nil
  | k::ks,_,r=>by
    rw[al56q] at r;cases r with
    | cons h t=>exact .cons (zi8 h) (zhm t)
abbrev KT (H:Hp):List (List Key×V)->List (List Key×ty1q×ty3q)->Prop:=Paired fun p q=>p.1=q.1/\H q.2.1=some (.tup (p.1.map kV))/\RelV p.2 q.2.2
theorem KT.val {H:Hp}{kvs:List (List Key×V)}{xs:List (List Key×ty1q×ty3q)}(r:KT H kvs xs) (k:List Key):RelO (valV kvs k) ((atKey xs k).map (·.2)):=by
  induction r with
  | nil=>exact True.intro
  | @cons p q ps qs h t ih=>
    obtain⟨h1,_,h2⟩:=h
    by_cases e:p.1=k
    · have e':q.1=k:=h1.symm.trans e;have b:atKey (q::qs) k=some q.2:=by simp[atKey,al146q,e']
      rw[zdf e,b];exact h2
    · have e':¬q.1=k:=fun z=>e (h1.trans z)
      have b:atKey (q::qs) k=atKey qs k:=by simp[atKey,al146q,e']
      rw[zgq e,b];exact ih
theorem KT.repl {H:Hp}{kvs:List (List Key×V)}{xs:List (List Key×ty1q×ty3q)}(r:KT H kvs xs) (k:List Key) {y:V}{u:ty3q}(ry:RelV y u) :
    KT H (kvs.map fun kv=>if kv.1=k then (kv.1,y) else kv) (xs.map (putAt k u)):=by
  induction r with
  | nil=>exact .nil
  | @cons p q ps qs h t ih=>
    rw[al56q,al56q];refine .cons ?_ ih;obtain⟨h1,h2,h3⟩:=h;unfold putAt
    by_cases e:p.1=k
    · rw[al11q e,al11q (h1.symm.trans e)];exact⟨h1,h2,ry⟩
    · rw[al7q e,al7q (fun z=>e (h1.trans z))];exact⟨h1,h2,h3⟩
theorem KT.put {H:Hp}{kvs:List (List Key×V)}{xs:List (List Key×ty1q×ty3q)}(r:KT H kvs xs) (k:List Key) {b:ty1q}{y:V}{u:ty3q}(hb:H b=some (.tup (k.map kV))) (ry:RelV y u) :
    KT H (putK kvs k y) (storedH xs k b u):=by
  have e:(kvs.any fun kv=>decide (kv.1=k))=(atKey xs k).isSome:=by
    rw[zkm,(r.val k).isSome_eq,Option.isSome_map]
  unfold putK storedH;rw[e]
  by_cases q:(atKey xs k).isSome=true
  · rw[al11q q,al11q q];exact r.repl k ry
  · rw[al7q q,al7q q];exact Paired.snoc r ⟨rfl,hb,ry⟩
theorem KT.keeps {H H':Hp}{kvs:List (List Key×V)}{xs:List (List Key×ty1q×ty3q)}(r:KT H kvs xs) (ht:∀b ys,H b=some (.tup ys)->H' b=some (.tup ys)):KT H' kvs xs:=
  Paired.mapP r fun _ _ z=>⟨z.1,ht _ _ z.2.1,z.2.2⟩
section
variable {P:ty4q}{w:World}{H:Hp}{h:Heap}{a:ty1q}
theorem zvo {u:HO}(ok:HOk P w H h) (e:Rd H a u):ObjOk P w H h a u:=e.ok ok
theorem zer {kvs:List (Key×V)}(ok:HOk P w H h) (e:Rd H a (.dK kvs)):kvs.length<=sizeLine/\(a == sysModules)=false/\∃vs,KV kvs vs/\h.DictOf (zam P w) a vs:=
  show ObjOk P w H h a (.dK kvs) from zvo ok e
theorem zvp {kvs:List (Key×V)}(ok:HOk P w H h) (e:H a=some (.dK kvs)):kvs.length<=sizeLine/\(a == sysModules)=false/\∃vs,KV kvs vs/\h.DictOf (zam P w) a vs:=zer ok (.inl e)
theorem zhn {ks:List Key}(ok:HOk P w H h) (e:H a=some (.tup (ks.map kV))):(tupleKind (zam P w)).is h ks a:=by
  obtain⟨_,its,r,o,h1,h2,n,h3⟩:=(show ObjOk P w H h a (.tup (ks.map kV)) from ok a _ e);exact⟨o,its.toArray,n,h1,h2,h3,by simpa using zhm r⟩
theorem zlq {kvs:List (List Key×V)}(ok:HOk P w H h) (e:Rd H a (.dT kvs)):kvs.length<=sizeLine/\(a == sysModules)=false/\
    ∃xs,KT H kvs xs/\h.DictOfH (tupleKind (zam P w)) a xs:=by
  obtain⟨z,y,xs,r,o,es,ep,h1,h2,h3,h4,h5⟩:=(show ObjOk P w H h a (.dT kvs) from zvo ok e);refine⟨z,y,xs,r,o,es,ep,h1,h2,h3,h4,fun x hx=>?_,h5⟩;have all:∀{l:List (List Key×V)}{m:List (List Key×ty1q×ty3q)},KT H l m->∀x∈m,(tupleKind (zam P w)).is h x.1 x.2.1:=by
    intro l m q
    induction q with
    | nil=>intro x hx;exact nomatch hx
    | @cons p q ps qs hq t ih=>
      intro x hx;rcases al14q.mp hx with e | hx
      · subst e;exact zhn ok (by rw[←hq.1];exact hq.2.1)
      · exact ih x hx
  exact all r x hx
theorem dt_of {kvs:List (List Key×V)}(ok:HOk P w H h) (e:H a=some (.dT kvs)):kvs.length<=sizeLine/\(a == sysModules)=false/\
    ∃xs,KT H kvs xs/\h.DictOfH (tupleKind (zam P w)) a xs:=zlq ok (.inl e)
end
def DGet (H:Hp) (a:ty1q) (y:V) (r:Option V):Prop:=
  (∃kvs k,Rd H a (.dK kvs)/\y=kV k/\r=valV kvs k)\/∃kvs k b,Rd H a (.dT kvs)/\y = .ref b/\H b=some (.tup (k.map kV))/\r=valV kvs k
def DPut (H:Hp) (a:ty1q) (y v:V) (H':Hp):Prop:=
  (∃kvs k,H a=some (.dK kvs)/\y=kV k/\kvs.length<sizeLine/\H'=upd H a (.dK (putK kvs k v)))\/
  ∃kvs k b,H a=some (.dT kvs)/\y = .ref b/\H b=some (.tup (k.map kV))/\kvs.length<sizeLine/\H'=upd H a (.dT (putK kvs k v))
theorem DGet.k {H:Hp}{a:ty1q}{kvs:List (Key×V)}{k:Key}(e:H a=some (.dK kvs)):DGet H a (kV k) (valV kvs k):=.inl ⟨kvs,k,.inl e,rfl,rfl⟩
theorem DPut.k {H:Hp}{a:ty1q}{kvs:List (Key×V)}{k:Key}{v:V}(e:H a=some (.dK kvs)) (hl:kvs.length<sizeLine):DPut H a (kV k) v (upd H a (.dK (putK kvs k v))):=.inl ⟨kvs,k,e,rfl,hl,rfl⟩
section
variable {X:Cx}{pins:ty91q}{σ:St}{H:Hp}{s:ty2q}{a:ty1q}{y v:V}{u r:ty3q}{o:Option V}{A:Around}{E:ty90q}
theorem Inv.big (I:Inv X pins σ H s):sysModules<s.heap.objs.size:=by
  have h:mainGlobals<s.heap.objs.size:=(I.mod.glob.keeps I.bk).lt;exact Nat.lt_trans (by decide) h
theorem znb {Q:ty90q}(hu:A.units+1<cLine) (I:Inv X pins σ H s) (g:DGet H a y (some v)) (ry:RelV y u) (h:∀w' s',Inv X pins σ H s'->RelV v w'->Q w' s') :
    wpAny (model X.prog X.w) A (getItem (.ref a) u) Q E s:=by
  rcases g with ⟨kvs,k,e,ey,l⟩ | ⟨kvs,k,b,e,ey,eb,l⟩
  · subst ey;obtain⟨z,hd,vs,rel,dd⟩:=zer I.hok e;obtain⟨w',hw,rw'⟩:=RelO.some_of (v:=v) (o:=valueAt vs k) (by rw[l];exact rel.val k);exact wpAny_getItem_of (zi8 ry) dd.mapOf hw (h w' _ (I.tok _) rw')
  · subst ey;cases (show u=Value.ref b from ry);obtain⟨z,hd,xs,rel,dd⟩:=zlq I.hok e;obtain⟨w',hw,rw'⟩:=RelO.some_of (v:=v) (o:=(atKey xs k).map (·.2)) (by rw[l];exact rel.val k);obtain⟨p,hp,hp2⟩:=Option.map_eq_some_iff.mp hw;refine wpAny_getItem_heap (al177q hu) (zhn I.hok eb) dd hp ?_;rw[hp2];exact h w' _ (I.tok _) rw'
theorem d_in {Q:ty90q}(hu:A.units+1<cLine) (I:Inv X pins σ H s) (g:DGet H a y o) (ry:RelV y u) (h:∀s',Inv X pins σ H s'->Q (.bool o.isSome) s') :
    wpAny (model X.prog X.w) A (compareOp .In u (.ref a)) Q E s:=by
  rcases g with ⟨kvs,k,e,ey,l⟩ | ⟨kvs,k,b,e,ey,eb,l⟩
  · subst ey;obtain⟨z,hd,vs,rel,dd⟩:=zer I.hok e;refine wpAny_in_of (zi8 ry) hd dd.mapOf ?_;rw[←(rel.val k).isSome_eq,←l];exact h _ (I.tok _)
  · subst ey;cases (show u=Value.ref b from ry);obtain⟨z,hd,xs,rel,dd⟩:=zlq I.hok e;refine wpAny_in_heap (al177q hu) (zhn I.hok eb) hd dd ?_;have q:=(rel.val k).isSome_eq;rw[Option.isSome_map] at q;rw[←q,←l];exact h _ (I.tok _)
theorem ztj {Q:ty90q}(hu:A.units+1<cLine) (I:Inv X pins σ H s) (g:DGet H a y o) (ry:RelV y u) (h:∀s',Inv X pins σ H s'->Q (.bool (!o.isSome)) s') :
    wpAny (model X.prog X.w) A (compareOp .NotIn u (.ref a)) Q E s:=by
  rcases g with ⟨kvs,k,e,ey,l⟩ | ⟨kvs,k,b,e,ey,eb,l⟩
  · subst ey;obtain⟨z,hd,vs,rel,dd⟩:=zer I.hok e;refine wpAny_notIn_of (zi8 ry) hd dd.mapOf ?_;rw[←(rel.val k).isSome_eq,←l];exact h _ (I.tok _)
  · subst ey;cases (show u=Value.ref b from ry);obtain⟨z,hd,xs,rel,dd⟩:=zlq I.hok e;refine wpAny_notIn_heap (al177q hu) (zhn I.hok eb) hd dd ?_;have q:=(rel.val k).isSome_eq;rw[Option.isSome_map] at q;rw[←q,←l];exact h _ (I.tok _)
theorem zi9 {h':Heap}{t':Nat}{ob:HO}(I:Inv X pins σ H s) (mu:Mut (H a)) (hs:Heap.SameBut a s.heap h') (he:∃q,h'.get? a=some q) (new:ObjOk X.prog X.w (upd H a ob) h' a ob) :
    Inv X pins σ (upd H a ob) { s with heap:=h',toks:=t' }:=
  I.write (x:=a) (e:=a) mu (.inl rfl) (fun b q hb z=>(hs.2 b hb).trans z) he new
theorem znc {P:ty4q}{w:World}{H':Hp}{h':Heap}{kvs:List (Key×V)}{vs:List (Key×ty3q)}(z:kvs.length<=sizeLine) (hd:(a == sysModules)=false) (rel:KV kvs vs) (dd:h'.DictOf (zam P w) a vs) :
    ObjOk P w H' h' a (.dK kvs):=⟨z,hd,vs,rel,dd⟩
theorem znd {H':Hp}{Q:Unit->ty2q->Prop}(hu:A.units+1<cLine) (I:Inv X pins σ H s) (g:DPut H a y v H') (ry:RelV y u) (rv:RelV v r) (h:∀s',Inv X pins σ H' s'->Q () s') :
    wpAny (model X.prog X.w) A (setItem (.ref a) u r) Q E s:=by
  rcases g with ⟨kvs,k,e,ey,l,eH⟩ | ⟨kvs,k,b,e,ey,eb,l,eH⟩
  · subst ey eH;obtain⟨z,hd,vs,rel,dd⟩:=zvp I.hok e;have hz:vs.length<=sizeLine:=by rw[←rel.length];exact z
    have hl:(putK kvs k v).length<=sizeLine:=by have:=zc6 kvs k v;lia
    refine wpAny_setItem_pairs (hsz:=hz) (zi8 ry) dd fun h' dd' hs=>h _ ?_
    have he:∃q,h'.get? a=some q:=let ⟨q,_,_,hq,_⟩:=dd';⟨q,hq⟩
    exact zi9 I (by rw[e];exact True.intro) hs he (znc hl hd (rel.put k rv) dd')
  · subst ey eH;cases (show u=Value.ref b from ry);obtain⟨z,hd,xs,rel,dd⟩:=dt_of I.hok e;have hz:xs.length<=sizeLine:=by rw[←Paired.length rel];exact z
    have hl:(putK kvs k v).length<=sizeLine:=by have:=zc6 kvs k v;lia
    refine wpAny_setItem_heap (hsz:=hz) (al177q hu) (zhn I.hok eb) dd fun h' dd' hs=>h _ ?_
    obtain⟨q,es,ep,hq,h2,h3,h4,_,h5⟩:=dd';refine zi9 I (by rw[e];exact True.intro) hs ⟨q,hq⟩ ⟨hl,hd,_,(rel.put k eb rv).keeps fun c ys ec=>?_,q,es,ep,hq,h2,h3,h4,h5⟩;rw[zl (zcu ec e (fun z=>nomatch z))];exact ec
end
section
variable {X:Cx}{pins:ty91q}{σ:St}{H:Hp}{s:ty2q}{a:ty1q}{kvs:List (Key×V)}{k:Key}{u:ty3q}{A:Around}{E:ty90q}
theorem zvq {Q:ty90q}(I:Inv X pins σ H s) (e:Rd H a (.dK kvs)) (h:∀t s',Inv X pins σ H s'->Q (.int kvs.length t) s'):wpAny (model X.prog X.w) A (call (.builtin "len") [.ref a]) Q E s:=by
  obtain⟨z,hd,vs,rel,dd⟩:=zer I.hok e;refine call_len_dict hd dd (by rw[←rel.length];rw[al140q] at z;lia) ?_;rw[←rel.length];exact h _ _ (I.tok _)
end
def NoSl (i:Expr):Prop:=∀ov iv,subscripted i false ov iv=operate [ov,iv] (getItem ov iv)
theorem ztk {prog:ty4q}{w:World}{A:Around}{E:ty90q}{s:ty2q}{env:Env}{value slice:Expr}{pos:Pos}{T id:String}{Q:ty90q}
    (hl:typeLookup (.type T) "__getitem__" = pure (some (.builtin id))) (hs:NoSl slice)
    (h:wpAny (model prog w) A (eval value env) (fun o s₁=>wpAny (model prog w) A (eval slice env) (fun i s₂=>s₂.TypeIs o T/\wpAny (model prog w) A (getItem o i) Q E s₂) E s₁) E s) :
    wpAny (model prog w) A (eval (.Subscript value slice pos) env) Q E s:=by
  refine Subscript_ (al49q h (fun o s₁ h₁=>al49q h₁ (fun i s₂ h₂=>?_) fun _ _ x=>x) fun _ _ x=>x);obtain⟨hT,h₂⟩:=h₂;unfold subscriptTail;refine al0q ?_;rw[getitemInPython_of_ne hT.not_modules];refine al0q (al194q hT hl ?_);have fin:wpAny (model prog w) A (subscripted slice false o i) (fun r s₃=>wpAny (model prog w) A (letTemporaryGo value o r >>= fun _=>pure r) Q E s₃) E s₂:=by
    rw[hs o i];exact wpAny_operating (al49q h₂ (fun r s₃ h₃=>al0q (wpAny_letTemporaryGo (al2q h₃))) fun _ _ x=>x)
  first
    | exact al2q (al0q fin)
    | exact al0q (al2q (al0q fin))
    | exact al0q fin
theorem zja {X:Cx}{pins:ty91q}{σ:St}{H:Hp}{s:ty2q}{a:ty1q}{y:V}{o:Option V}(I:Inv X pins σ H s) (g:DGet H a y o):s.TypeIs (.ref a) "dict":=by
  rcases g with ⟨kvs,k,e,_,_⟩ | ⟨kvs,k,b,e,_,_,_⟩
  · obtain⟨_,_,vs,_,dd⟩:=zer I.hok e;exact dd.typeIs
  · obtain⟨_,_,xs,_,dd⟩:=zlq I.hok e;exact dd.typeIs
def zxa (td ty:TE):TE:=fun σ H Q=>td σ H fun x H1=>ty σ H1 fun y H2=>∃a v,x = .ref a/\DGet H2 a y (some v)/\Q v H2
def tDIn (ty td:TE):TE:=fun σ H Q=>ty σ H fun y H1=>td σ H1 fun x H2=>∃a o,x = .ref a/\DGet H2 a y o/\Q (.bl o.isSome) H2
def ztl (ty td:TE):TE:=fun σ H Q=>ty σ H fun y H1=>td σ H1 fun x H2=>∃a o,x = .ref a/\DGet H2 a y o/\Q (.bl (!o.isSome)) H2
def zxb (td ty tv:TE):TS:=fun D σ H=>tv σ H fun v H1=>td σ H1 fun x H2=>ty σ H2 fun y H3=>∃a H4,x = .ref a/\DPut H3 a y v H4/\D.nx σ H4
section
variable {X:Cx}{o i e value:Expr}{pos pos' tpos:Pos}{td ty tv:TE}
theorem zp (hu:X.A.units+1<cLine) (ho:PE X o td) (hi:PE X i ty) (hs:NoSl i):PE X (.Subscript o i pos) (zxa td ty):=by
  intro pins s σ H Q I h;refine ztk PySem.F.slot_dict_getitem.lookup hs (thn (ho pins s σ H _ I h) fun u s1 ⟨x,H1,I1,rx,q1⟩=>thn (hi pins s1 σ H1 _ I1 q1) fun iv s2 hq0=>?_);obtain⟨y,H2,I2,ry,a,v,ex,g,q2⟩:=hq0;subst ex;obtain rfl:u=Value.ref a:=rx;exact⟨zja I2 g,znb hu I2 g ry fun w' s3 I3 rw'=>⟨v,H2,I3,rw',q2⟩⟩
theorem zsd (hu:X.A.units+1<cLine) (hi:PE X i ty) (ho:PE X o td):PC X .In i o (tDIn ty td):=by
  intro pins s σ H Q I h;refine thn (hi pins s σ H _ I h) fun iv s1 ⟨y,H1,I1,ry,q1⟩=>thn (ho pins s1 σ H1 _ I1 q1) fun u s2 hq0=>?_
  obtain⟨x,H2,I2,rx,a,ov,ex,g,q2⟩:=hq0;subst ex;obtain rfl:u=Value.ref a:=rx;exact d_in hu I2 g ry fun s3 I3=>⟨.bl ov.isSome,H2,I3,rfl,q2⟩
theorem zes (hu:X.A.units+1<cLine) (hi:PE X i ty) (ho:PE X o td):PC X .NotIn i o (ztl ty td):=by
  intro pins s σ H Q I h;refine thn (hi pins s σ H _ I h) fun iv s1 ⟨y,H1,I1,ry,q1⟩=>thn (ho pins s1 σ H1 _ I1 q1) fun u s2 hq0=>?_
  obtain⟨x,H2,I2,rx,a,ov,ex,g,q2⟩:=hq0;subst ex;obtain rfl:u=Value.ref a:=rx;exact ztj hu I2 g ry fun s3 I3=>⟨.bl (!ov.isSome),H2,I3,rfl,q2⟩
theorem za8 (hu:X.A.units+1<cLine) (ho:PE X o td) (hi:PE X i ty) (hv:PE X value tv) (hs:swapsWith value (some (.Subscript o i pos')) pos.line X.env=pure false) :
    PS X (.Assign [.Subscript o i pos'] value pos) (zxb td ty tv):=by
  intro pins s σ H D I h;refine wpAny_Assign_Subscript (thn (hv pins s σ H _ I h) fun r s1 ⟨v,H1,I1,rv,q1⟩=>thn (ho pins s1 σ H1 _ I1 q1) fun u s2 ⟨x,H2,I2,rx,q2⟩=>thn (hi pins s2 σ H2 _ I2 q2) fun iv s3 hq0=>?_) hs;obtain⟨y,H3,I3,ry,a,H4,ex,g,q3⟩:=hq0;subst ex;obtain rfl:u=Value.ref a:=rx;exact znd hu I3 g ry rv fun s4 I4=>⟨σ,H4,I4,q3⟩
end
theorem zql {P:ty4q}{w:World}{H:Hp}(h:Heap) (hb:sysModules<h.objs.size):ObjOk P w H (h.push { cls:=.type "dict",data:=.dict #[] }) h.objs.size (.dK []):=
  ⟨al73q _,al54q.mpr (al36q (al26q hb)),[],.nil,Heap.DictOf.new h⟩
def zvr:TE:=fun _ H Q=>∀p,H p=none->Q (.ref p) (upd H p (.dK []))
section
variable {X:Cx}{pos:Pos}
theorem za7:PE X (.Dict [] [] pos) zvr:=fun pins s σ H Q I h=>
  wpAny_Dict_empty ⟨.ref s.heap.objs.size,_,I.laid (a:=s.heap.objs.size) (o:=.dK []) (t':=s.toks) (fun _ _ q=>al4q _ q) (al18q _) (zql s.heap I.big),rfl,h _ (I.hok.fresh (al18q _))⟩
end
structure M2 (X:Cx) (o:Expr) (m:Str) (apos:Pos) (e f:Expr) (cpos:Pos):Prop where
  base:attributeBase o m X.env (eval o X.env)=eval o X.env
  few:((backTo cpos (starEach [e,f] X.env)).all (fun x=>!x.1)&&(backToKw cpos (keywordEach [] X.env)).all (fun x=>x.1.isSome)
    && decide (([e,f]:List Expr).length+([]:List Keyword).length+(if ([]:List Keyword).isEmpty then 0 else 1)<30))=true
  line:(apos.endLine == cpos.line)=true
  trees:backTo cpos (starEach [e,f] X.env) = [(false,eval e X.env),(false,eval f X.env)]
def IsD (H:Hp) (a:ty1q):Prop:=(∃kvs,Rd H a (.dK kvs))\/∃kvs,Rd H a (.dT kvs)
theorem zvs {X:Cx}{pins:ty91q}{σ:St}{H:Hp}{s:ty2q}{a:ty1q}(I:Inv X pins σ H s) (d:IsD H a) :
    s.TypeIs (.ref a) "dict"/\(∀b,Value.ref a = .ref b->∃ob,s.heap.get? b=some ob/\ob.dict=none)/\(a == sysModules)=false:=by
  rcases d with ⟨kvs,e⟩ | ⟨kvs,e⟩
  · obtain⟨_,hd,vs,_,dd⟩:=zer I.hok e;refine⟨dd.typeIs,fun b q=>?_,hd⟩;cases q;obtain⟨ob,_,_,h1,h2,_⟩:=dd;exact⟨ob,h1,h2.2.1⟩
  · obtain⟨_,hd,xs,_,dd⟩:=zlq I.hok e;refine⟨dd.typeIs,fun b q=>?_,hd⟩;cases q;obtain⟨ob,_,_,h1,h2,_⟩:=dd;exact⟨ob,h1,h2.2.1⟩
end L2
namespace Att
open PySem PySem.W PySem.Calls PyProof.Rows
theorem zet {P:Params}{h:Heap}:∀(ns:List Int) (vs:List ty3q),WellAll P h vs (ns.map WData.int)->IntsAre vs ns:=by
  intro ns
  induction ns with
  | nil=>
    intro vs w;rw[List.map_nil] at w;cases w;exact .nil
  | cons n ns ih=>
    intro vs w;rw[al56q] at w;cases w with
    | cons a b=>
      cases a;exact .cons _ _ (ih _ b)
theorem zne {l:OpenLaw}{n:Nat}(hn:l.most=some n) {P:Params}{h:Heap}{args:List WData}{vals:List ty3q}
    (hpre:l.row.toRowW.claim.pre args=true) (hwl:WellAll P h vals args) :
    ∃a vs ns,vals = [Value.ref a]/\args = [WData.list (ns.map WData.int)]/\h.get? a=some { cls:=.type "list",data:=.seq vs.toArray }/\IntsAre vs ns/\ns.length<=n:=by
  have hsh:WShape.hasAll [] args [.list .int]=true:=(pre_splitW hpre).1;have hc:l.pre.holds [] { args:=args } = true:=(pre_splitW hpre).2;obtain⟨d,r,rfl,h1,h2⟩:=hasAllW_cons hsh;obtain rfl:=hasAllW_nil h2;obtain⟨xs,rfl,h3⟩:=hasW_list h1;obtain⟨ns,rfl⟩:=items_int h3;have hlen:ns.length<=n:=by
    unfold OpenLaw.pre at hc;have h4:(WTm.not (.lt (.lit (.int (n:Int))) (.len (.arg 0)))).holds [] { args:=[.list (ns.map .int)] } = true:=by
      have h4:=(holds_andW hc).1;rw[hn] at h4;exact h4
    have h5:=condW_of h4 (w_not (w_lt w_lit (w_len_list (w_arg rfl))));rw[al1q] at h5;refine Nat.le_of_not_lt fun q=>?_
    have q':(n:Int)<((ns.length:Nat):Int):=by lia
    first
      | (rw[al15q q'] at h5;exact absurd h5 (by decide))
      | (simp at h5;lia)
  cases hwl with
  | cons w1 w2=>
    cases w2;cases w1 with
    | list ho hall=>exact⟨_,_,ns,rfl,rfl,ho,zet ns _ hall,hlen⟩
theorem znf (l:OpenLaw) (args:List WData):l.row.toRowW.claim.post args (.bool true) args=true:=
  postW_of (r:=l.row.toRowW) (X:=(true == true))
    (show WShape.has [] (.bool true) .bool=true by first | rfl | decide | simp[WShape.has,WShape.arms,WShape.armsAll])
    (show (WTm.eq .res (.lit (.bool true))).value [] { args:=args,res:=some (.bool true),after:=args } = some (.bool (true == true)) from w_eq_bool (w_res rfl) w_lit) rfl
theorem attach_call {l:OpenLaw}{n:Nat}{q:ty4q}{loose:List Str}{XP:(Str->Option ty3q)->Heap->Prop}{YP:World->Heap->Prop}{d:DefRec}
    (hn:l.most=some n) (hdf:d.params.defaults = [])
    (call:∀(w:World) (s₀ s₁:ty2q) (mg mb:Str->Option ty3q) (fa:ty1q) (o:Obj) (pm cd doc:ty3q) (a:ty1q) (vs:List ty3q) (ns:List Int),
      Ground q loose [] XP w s₀ mg mb s₁.heap->YP w s₁.heap->
      s₁.heap.get? fa=some o->o.data = .func (docDef d.name d.params d.body d.scope pm cd doc)->s₁.heap.CodeRec cd d.name->mg d.name=some (.ref fa)->
      s₁.heap.get? a=some { cls:=.type "list",data:=.seq vs.toArray }->IntsAre vs ns->ns.length<=n->s₁.gens = #[]->
      codeAny (model l.prog w) callerA (.call (.ref fa) ⟨[.ref a],[]⟩) (fun r s'=>r = .ok (.ret (.bool true))/\OldK s₁.heap s'.heap/\s'.os=s₁.os/\AllBare s'.gens) s₁) :
    WalkO q loose XP YP l.row.toRowW d [] (fun f vs=>PySem.call f vs):=by
  intro w s₀ s₁ mg mb G Y fa o pm cd doc dV kV ho hd hcd hD hmg hg args vals as hpre hlay hrd hwl hlo;obtain rfl:dV = .none:=Dflts.none hD hdf;obtain rfl:kV = .none:=Dflts.noKw hD;obtain⟨a,vs,ns,rfl,rfl,hobj,hints,hlen⟩:=zne hn hpre hwl;refine enter_call (al129q (call w s₀ s₁ mg mb fa o pm cd doc a vs ns G Y ho (fd_plain hd) hcd hmg hobj hints hlen hg) fun r s' hq=>?_);obtain⟨rfl,h2,h3,h4⟩:=hq;exact⟨.inl ⟨.bool true,.bool true,[],rfl,fun _=>rfl,.bool true,znf l _,fun _=>⟨List.Pairwise.nil,fun _ hm=>(nomatch hm)⟩⟩,h2,h3,h4⟩
end Att
namespace L2
open PySem PySem.Spec PyProof.Rows
theorem zeu:∀{vs:List ty3q}{ns:List Int},IntsAre vs ns->Vals (ns.map V.int) vs
  | _,_,.nil=>.nil
  | _,_,.cons n t h=>.cons ⟨t,rfl⟩ (zeu h)
def Only (H:Hp):Prop:=∀b,H b=none\/∃o xs,H b=some (.frz o (.lst xs))
theorem zqm {P:ty4q}{w:World}{K:ty0q}{mg mb:Str->Option ty3q}{CX:CXT}{k:Nat}{fa a:ty1q}{fd:FuncData}{x:Str}{sp:Sp}{s₁:ty2q}{vs:List ty3q}{ns:List Int}
    (KX:K.In s₁.heap) (hns:s₁.heap.Ns mainGlobals mg) (hb:s₁.heap.Ns builtinsNs mb) (hbb:∀x:Str,x≠"__name__"->mb x=bootBuiltins x) (hlim:s₁.heap.NoLimit) (hg:s₁.gens = #[])
    (ha:s₁.heap.get? a=some { cls:=.type "list",data:=.seq vs.toArray }) (hi:IntsAre vs ns) (hl:ns.length<=sizeLine) (hr:Room k callerA)
    (F:∀base:Heap,K.In base->base.Ns mainGlobals mg->FnOk P w K mg base CX k fa fd [x] sp) (hbind:∀(s:ty2q) (u:ty3q),BindsTo s fd ⟨[u],[]⟩ [(x,u)])
    (hsp:∀H:Hp,Only H->SqL K H a (ns.map V.int)->sp [.ref a] H (fun v _=>v = .bl true) fun _ _ _=>False)
    (hCX:∀H e s',CX [] H s₁ (fun _ _ _=>False) e s'->False) :
    codeAny (model P w) callerA (.call (.ref fa) ⟨[.ref a],[]⟩) (fun r s'=>r = .ok (.ret (.bool true))/\OldK s₁.heap s'.heap/\s'.os=s₁.os/\AllBare s'.gens) s₁:=by
  have rv:=zeu hi;have lenV:=hi.length;have core:∀H:Hp,Only H->SqL K H a (ns.map V.int)->HOk P w H s₁.heap->(∀b,H b≠none->b=a)->(H a≠none->K.lookup a=none)->
      codeAny (model P w) callerA (.call (.ref fa) ⟨[.ref a],[]⟩) (fun r s'=>r = .ok (.ret (.bool true))/\OldK s₁.heap s'.heap/\s'.os=s₁.os/\AllBare s'.gens) s₁:=by
    intro H hO hS hok hA hK;have base_of:∀{b:ty1q}{o:Obj},s₁.heap.get? b=some o->H b=none->(hidT s₁.heap H).get? b=some o:=fun e n=>zqb e n
    have noA:∀{b:ty1q}{o:Obj}{es:Array DictEntry}{ep:Nat},s₁.heap.get? b=some o->o.data = .dict es ep->H b=none:=fun {b o es ep} e d=>by
      cases q:H b with
      | none=>rfl
      | some u=>
        have e':b=a:=hA b (by rw[q];simp);subst e';rw[ha] at e;cases e;have d':Data.seq vs.toArray _=Data.dict es ep:=d;cases d'
    have nsK:∀{b:ty1q}{m:Str->Option ty3q},s₁.heap.Ns b m->(hidT s₁.heap H).Ns b m:=fun {b m} ⟨o,es,ep,e,d,r⟩=>⟨o,es,ep,base_of e (noA e d),d,r⟩
    have hKb:K.In (hidT s₁.heap H):=fun b o e=>base_of (KX b o e) (by
      cases q:H b with
      | none=>rfl
      | some u=>
        have e':b=a:=hA b (by rw[q];simp);subst e';rw[hK (by rw[q];simp)] at e;cases e)
    have hM:Mod K mg (hidT s₁.heap H):=⟨hKb,nsK hns,⟨mb,nsK hb,hbb⟩,let ⟨mc,h1,h2⟩:=hlim;⟨mc,nsK h1,h2⟩⟩;have e0:Env0 P w K mg (hidT s₁.heap H) callerA [] s₁ H:=⟨rfl,hM,fun b o e=>zs6 e,Nat.le_of_eq (zmv _ _),trivial,fun b hb=>absurd (show b∈([]:List ty1q) from hb) (by simp),hok,.of_eq hg⟩;refine al129q ((F _ hKb (nsK hns)).run callerA [] s₁ H ⟨[.ref a],[]⟩ [.ref a] [.ref a] _ _ hr e0 (hbind s₁ (.ref a)) (.cons rfl .nil) (hsp H hO hS)) fun r s' h=>?_
    cases r with
    | error e=>exact (hCX H e s' h).elim
    | ok fl=>
      cases fl with
      | next=>exact False.elim h
      | brk=>exact False.elim h
      | cont=>exact False.elim h
      | ret u=>
        obtain⟨v,H',os,bare,un,hok',r',q⟩:=h;have q':v = .bl true:=q;subst q';obtain rfl:u=Value.bool true:=r';refine⟨rfl,OldK.of_keep fun b o e=>?_,os,bare⟩;cases q:H b with
        | none=>exact un.keep b o e q (by intro z;exact absurd (show b∈([]:List ty1q) from z) (by simp)) (by simp)
        | some u=>
          rcases hO b with z | ⟨ob,xs,z⟩
          · rw[q] at z;cases z
          · have z2:=un.frzs b ob _ z;obtain⟨e1,_⟩:=hok b _ z;obtain⟨e2,_⟩:=hok' b _ z2;rw[e] at e1;cases e1;exact e2
  cases hk:K.lookup a with
  | some o=>
    have e:=KX a o hk;rw[ha] at e;cases e;refine core (fun _=>none) (fun _=>.inl rfl) (.inr ⟨_,vs.toArray,_,hk,rfl,rfl,rfl,by rw[al24q,lenV];exact hl,by simpa using rv⟩) (fun b u z=>by have z':(none:Option HO)=some u:=z;cases z') (fun b z=>absurd rfl z) fun z=>absurd rfl z
  | none=>
    refine core (fun b=>if b=a then some (.frz { cls:=.type "list",data:=.seq vs.toArray } (.lst (ns.map V.int))) else none) (fun b=>?_) (.inl (.inr ⟨{ cls:=.type "list",data:=.seq vs.toArray },al11q rfl⟩)) (fun b u z=>?_) (fun b z=>?_) fun _=>hk
    · by_cases hb:b=a
      · exact .inr ⟨_,_,al11q hb⟩
      · exact .inl (al7q hb)
    · by_cases hb:b=a
      · have z':=(al11q hb).symm.trans z;cases z';subst hb;exact⟨ha,by rw[al1q];exact hl,vs,_,rv,ha⟩
      · have z':=(al7q hb).symm.trans z;cases z'
    · by_cases hb:b=a
      · exact hb
      · exact absurd (al7q hb) z
abbrev KOf {K:ty0q}{h:Heap}(_:K.In h):ty0q:=K
theorem ztm {l:PySem.W.OpenLaw}{n k:Nat}{q:ty4q}{loose:List Str}{XP:(Str->Option ty3q)->Heap->Prop}{YP:World->Heap->Prop}{d:DefRec}{K:Params->ty0q}{CX:World->CXT}{sp:World->Sp}{x:Str}
    (hn:l.most=some n) (hn2:n<=sizeLine) (hdf:d.params.defaults = []) (hr:Room k callerA)
    (hY:∀(w:World) (h:Heap),YP w h->(K w.params).In h)
    (F:∀(w:World) (mg:Str->Option ty3q) (fa:ty1q) (h:Heap),(K w.params).In h->h.Ns mainGlobals mg->mg d.name=some (.ref fa)->
      ∃fd:FuncData,(∀(s:ty2q) (u:ty3q),BindsTo s fd ⟨[u],[]⟩ [(x,u)])/\
        ∀base:Heap,(K w.params).In base->base.Ns mainGlobals mg->FnOk l.prog w (K w.params) mg base (CX w) k fa fd [x] (sp w))
    (hsp:∀(w:World) (H:Hp) (a:ty1q) (ns:List Int),ns.length<=n->Only H->SqL (K w.params) H a (ns.map V.int)->sp w [.ref a] H (fun v _=>v = .bl true) fun _ _ _=>False)
    (hCX:∀(w:World) (H:Hp) (s:ty2q) (e:ty3q) (s':ty2q),CX w [] H s (fun _ _ _=>False) e s'->False) :
    PySem.W.WalkO q loose XP YP l.row.toRowW d [] (fun f vs=>PySem.call f vs):=by
  refine Att.attach_call hn hdf fun w s₀ s₁ mg mb fa o pm cd doc a vs ns G Y ho hd hcd hmg hobj hints hlen hg=>?_
  have KX:=hY w _ Y;obtain⟨fd,hb,hF⟩:=F w mg fa _ KX G.T.g hmg;exact zqm KX G.T.g G.T.b G.T.builtins G.T.nolimit hg hobj hints (al44q hlen hn2) hr hF hb (fun H hO hS=>hsp w H a ns hlen hO hS) fun H e s'=>hCX w H s₁ e s'
theorem walk_ofK {l:PySem.W.OpenLaw}{n k:Nat}{q:ty4q}{loose:List Str}{XP:(Str->Option ty3q)->Heap->Prop}{YP:World->Heap->Prop}{d:DefRec}{K:Params->ty0q}{CX:CXT}{sp:ty0q->Sp}{x:Str}
    (hn:l.most=some n) (hn2:n<=sizeLine) (hdf:d.params.defaults = []) (hr:Room k callerA)
    (hY:∀(w:World) (h:Heap),YP w h->(K w.params).In h)
    (F:∀(w:World) (mg:Str->Option ty3q) (fa:ty1q) (h:Heap),(K w.params).In h->h.Ns mainGlobals mg->mg d.name=some (.ref fa)->
      ∃fd:FuncData,(∀(s:ty2q) (u:ty3q),BindsTo s fd ⟨[u],[]⟩ [(x,u)])/\
        ∀base:Heap,(K w.params).In base->base.Ns mainGlobals mg->FnOk l.prog w (K w.params) mg base CX k fa fd [x] (sp (K w.params)))
    (hsp:∀(K:ty0q) (H:Hp) (a:ty1q) (ns:List Int),ns.length<=n->Only H->SqL K H a (ns.map V.int)->sp K [.ref a] H (fun v _=>v = .bl true) fun _ _ _=>False)
    (hCX:∀(H:Hp) (s:ty2q) (e:ty3q) (s':ty2q),CX [] H s (fun _ _ _=>False) e s'->False) :
    PySem.W.WalkO q loose XP YP l.row.toRowW d [] (fun f vs=>PySem.call f vs):=
  ztm (K:=K) (CX:=fun _=>CX) (sp:=fun w=>sp (K w.params)) hn hn2 hdf hr hY F (fun w H a ns h1 h2 h3=>hsp (K w.params) H a ns h1 h2 h3) fun _ H s e s'=>hCX H s e s'
def zjb (s:Stmt) (j:Nat):Stmt:=match s with
  | .ClassDef _ _ _ body _ _ _ _ _ _ _=>body.getD j (.Pass ⟨0,0,0,0⟩)
  | _=>.Pass ⟨0,0,0,0⟩
def zc7 (s:Stmt):Arguments:=match s with
  | .FunctionDef _ a _ _ _ _ _ _ _ _=>a
  | _=>{ posonlyargs:=[],args:=[],vararg:=none,kwonlyargs:=[],kw_defaults:=[],kwarg:=none,defaults:=[] }
def zbo (s:Stmt):List Stmt:=match s with
  | .FunctionDef _ _ b _ _ _ _ _ _ _=>b
  | _=>[]
def zj (s:Stmt):Scope:=match s with
  | .FunctionDef _ _ _ _ _ _ sc _ _ _=>sc
  | _=>{ kind:=.function,names:=[],isGenerator:=false,isCoroutine:=false }
abbrev CX0:CXT:=fun _ _ _ _ _ _=>False
abbrev E0:XK:=fun _ _ _=>False
theorem zxc {X:Cx}:zhe CX0 X E0:=fun _ _ _ _ _ _ _ h=>h.elim
structure Fun (K:ty0q) (x qual:Str) (st:Stmt) (f:ty1q) (fd:FuncData):Prop where
  ex:∃(oc:ty3q) (od:Option ty1q) (kV doc pm:ty3q) (an:Option ty1q) (cdv ct:ty3q) (osl:Array (Option ty3q)),
    fd=PySem.W.fnOf x qual (zc7 st) (zbo st) (zj st) .none kV doc pm an cdv ct/\K.lookup f=some ⟨oc,od,.func fd,osl⟩/\PySem.W.codeIn K cdv qual=true
  kp:PySem.W.keepIn K (.ref f)=true
section
variable {P:ty4q}{w:World}{K:ty0q}{mg:Str->Option ty3q}{base:Heap}
theorem Fun.ok {x qual:Str}{st:Stmt}{f:ty1q}{fd:FuncData}{N ps:List Str}{k:Nat}{sp:Sp}(F:Fun K x qual st f fd) (S:FnScope N ps (zj st)) (len:∀vs H Q E,sp vs H Q E->vs.length=ps.length)
    (hbody:∀(cdv:ty3q) (A:Around) (outer:List Env) (s:ty2q) (H:Hp) (vs:List V) (Q:VK) (E:XK),Room k (A.deeper (envOfC qual (zj st) s.heap.objs.size f cdv))->sp vs H Q E->
      ∃t,PSs (cxOf CX0 P w K mg base N qual (zj st) f cdv A outer s H E).nox (zbo st) t/\t { nx:=fun _ H'=>Q .non H',rt:=Q } (start N vs) H):FnOk P w K mg base CX0 (k+1) f fd ps sp:=by
  obtain⟨oc,od,kV,doc,pm,an,cdv,ct,osl,rfl,lk,hcd⟩:=F.ex;refine zvj lk hcd S len fun A outer s H vs Q E hr hsp=>?_
  obtain⟨t,h,q⟩:=hbody cdv A outer s H vs Q E hr hsp;exact⟨t,h.nox,q⟩
theorem zse {x qual:Str}{st:Stmt}{f:ty1q}{oc:ty3q}{od an:Option ty1q}{osl:Array (Option ty3q)}{kV doc pm cdv ct:ty3q}(l:K.lookup f=some ⟨oc,od,.func (PySem.W.fnOf x qual (zc7 st) (zbo st) (zj st) .none kV doc pm an cdv ct),osl⟩)
    (c:PySem.W.codeIn K cdv qual=true) (k:PySem.W.keepIn K (.ref f)=true):Fun K x qual st f (PySem.W.fnOf x qual (zc7 st) (zbo st) (zj st) .none kV doc pm an cdv ct):=⟨⟨oc,od,kV,doc,pm,an,cdv,ct,osl,rfl,l,c⟩,k⟩
end
theorem zbp {A:Around}{k:Nat}(hr:Room k A):A.units+1<cLine:=al178q (Nat.add_le_add_left (by decide:1<=64) _) hr.units
theorem zq {n:Nat}(h:n<=1000):n<sizeLine:=al178q h (by decide)
section
variable {X:Cx}
theorem pv (i:Nat) {x:Str}{pos:Pos}(hN:X.N[i]? = some x:=by rfl) (hv:Vis X.env.scope x:=by first | exact Or.inl rfl | exact Or.inr (Or.inl rfl) | exact Or.inr (Or.inr rfl)) (hd:(x == ("__debug__" : Str))=false:=by decide)
    (hcd:(x == ("__classdict__" : Str))=false:=by decide):PE X (.Name x pos) (tVar i):=zu7 hN hv hd hcd
end
theorem iteF {A B:Prop}(h:B):if false=true then A else B:=by
  rw[al7q al19q];exact h
theorem iteT {A B:Prop}(h:A):if true=true then A else B:=by
  rw[al11q rfl];exact h
theorem ite2 {c A B:Prop} [Decidable c] (h1:c->A) (h2:¬c->B):if c then A else B:=by
  by_cases h:c
  · rw[al11q h];exact h1 h
  · rw[al7q h];exact h2 h
def Same (H H':Hp):Prop:=∀b o,H b=some o->H' b=some o
theorem Same.refl (H:Hp):Same H H:=fun _ _ h=>h
theorem Same.trans {H H1 H2:Hp}(a:Same H H1) (b:Same H1 H2):Same H H2:=fun c o h=>b c o (a c o h)
theorem Same.free {H H':Hp}(e:Same H H') {l:ty1q}(h:H' l=Option.none):H l=Option.none:=by
  cases q:H l with
  | none=>rfl
  | some o=>
    rw[e l o q] at h;cases h
theorem Same.seq {K:ty0q}{H H':Hp}{a:ty1q}{xs:List V}(e:Same H H') (h:SqL K H a xs):SqL K H' a xs:=by
  rcases h with (h | ⟨o,h⟩) | h
  · exact .inl (.inl (e _ _ h))
  · exact .inl (.inr ⟨o,e _ _ h⟩)
  · exact .inr h
section
variable {X:Cx}
theorem zng:zbr X (.builtin "len") (fun xs H Q=>∃a kvs,xs = [V.ref a]/\H a=some (.dK kvs)/\Q (.int kvs.length) H):=by
  intro pins s σ H xs us Q I r h;obtain⟨a,kvs,rfl,ha,q⟩:=h;obtain⟨u,rfl,ru⟩:=zc4 r;cases ru;exact zvq I (.inl ha) fun t s' I'=>⟨.int kvs.length,H,I',⟨t,rfl⟩,q⟩
end
def zby (cells:List (Str×ty1q)):List (Str×NameKind)->List (Str×ty1q)->List (Str×ty1q)
  | [],cs=>cs
  | (n,k)::r,cs=>zby cells r (if (k == NameKind.free)=true then (match cells.lookup n with | some c=>(n,c)::cs | none=>cs) else cs)
theorem zed {scope:Scope}{env:Env}(h:∀x∈scope.names,x.2 = .free->∃c,env.cells.lookup x.1=some c):closureFor scope env=pure (zby env.cells scope.names []):=by
  unfold closureFor;have go:∀(names:List (Str×NameKind)) (cs:List (Str×ty1q)),(∀x∈names,x.2 = .free->∃c,env.cells.lookup x.1=some c)->
      (forIn names cs (fun (x:Str×NameKind) (r:List (Str×ty1q))=>if (x.2 == NameKind.free)=true then (do let a ←cellOf env x.1;pure (ForInStep.yield ((x.1,a)::r))) else pure (ForInStep.yield r)):Sem (List (Str×ty1q)))=pure (zby env.cells names cs):=by
    intro names
    induction names with
    | nil=>intro cs _;rfl
    | cons x r ih=>
      intro cs hc;obtain⟨n,k⟩:=x;have hr:∀y∈r,y.2 = .free->∃c,env.cells.lookup y.1=some c:=fun y hy=>hc y (al5q _ hy)
      rw[al147q];cases e:(k == NameKind.free) with
      | true=>
        obtain⟨c,hl⟩:=hc (n,k) al37q (by simpa using e);have hl':env.cells.lookup n=some c:=hl;have ec:cellOf env n=pure c:=by unfold cellOf;rw[hl']
        show (_ >>= _)=pure (zby env.cells r (if (k == NameKind.free)=true then _ else _));rw[e,hl'];simp only [if_true,ec,pure_bind];exact ih _ hr
      | false=>
        show (_ >>= _)=pure (zby env.cells r (if (k == NameKind.free)=true then _ else _));rw[e];simp only [al119q,al182q,pure_bind];exact ih _ hr
  exact (al67q (· >>= fun r=>pure r) (go scope.names [] h)).trans (pure_bind _ _)
theorem zax {α:Type}{y n:Str}{c:α}{r:List (Str×α)}(h:y=n):((n,c)::r).lookup y=some c:=by
  subst h;simp
theorem za3 {α:Type}{y n:Str}{c:α}{r:List (Str×α)}(h:¬y=n):((n,c)::r).lookup y=r.lookup y:=by
  rw[al189q,al54q.mpr h]
theorem zev {cells:List (Str×ty1q)}{n:Str}{k:NameKind}{cs:List (Str×ty1q)}(hs:∀y d,cs.lookup y=some d->cells.lookup y=some d) :
    ∀y d,(if (k == NameKind.free)=true then (match cells.lookup n with | some c=>(n,c)::cs | none=>cs) else cs).lookup y=some d->cells.lookup y=some d:=by
  intro y d h;split at h
  · split at h
    · rename_i c hc
      by_cases hy:y=n
      · rw[zax hy] at h;rw[hy,hc];exact h
      · rw[za3 hy] at h;exact hs y d h
    · exact hs y d h
  · exact hs y d h
theorem zdv (cells:List (Str×ty1q)):∀(names:List (Str×NameKind)) (cs:List (Str×ty1q)),(∀y d,cs.lookup y=some d->cells.lookup y=some d)->
    ∀y d,(zby cells names cs).lookup y=some d->cells.lookup y=some d
  | [],_,hs,y,d,h=>hs y d h
  | (n,k)::r,cs,hs,y,d,h=>zdv cells r _ (zev hs) y d h
theorem zfy (cells:List (Str×ty1q)) {x:Str}{c:ty1q}(hc:cells.lookup x=some c):∀(names:List (Str×NameKind)) (cs:List (Str×ty1q)),(∀y d,cs.lookup y=some d->cells.lookup y=some d)->
    ((x,NameKind.free)∈names\/cs.lookup x=some c)->(zby cells names cs).lookup x=some c
  | [],_,_,h=>by
    rcases h with h | h
    · cases h
    · exact h
  | (n,k)::r,cs,hs,h=>by
    refine zfy cells hc r _ (zev hs) ?_
    by_cases hx:(x,NameKind.free)=(n,k)
    · cases hx
      right
      rw[al11q (by rfl),hc];exact zax rfl
    · rcases h with h | h
      · rcases al14q.mp h with h | h
        · exact absurd h hx
        · exact .inl h
      · right
        split
        · split
          · rename_i c' hc'
            by_cases hn:x=n
            · rw[zax hn];rw[hn,hc'] at hc;exact hc
            · rw[za3 hn];exact h
          · exact h
        · exact h
theorem zbw (env:Env) (x:Str):∀names:List (Str×NameKind),
    (names.map fun (n,k)=>if (k == NameKind.free&&env.scope.kind == .function&&env.kindOf n == some .cell) then (n,NameKind.cell) else (n,k)).lookup x =
      (names.lookup x).map fun k=>if (k == NameKind.free&&env.scope.kind == .function&&env.kindOf x == some .cell) then NameKind.cell else k
  | []=>rfl
  | (n,k)::r=>by
    have ih:=zbw env x r;rw[al56q]
    by_cases hx:x=n
    · subst hx;rw[zax rfl];show List.lookup x ((if (k == NameKind.free&&env.scope.kind == .function&&env.kindOf x == some .cell)=true then (x,NameKind.cell) else (x,k))::_)=some (if (k == NameKind.free&&env.scope.kind == .function&&env.kindOf x == some .cell)=true then NameKind.cell else k)
      by_cases hc:(k == NameKind.free&&env.scope.kind == .function&&env.kindOf x == some .cell)=true
      · rw[al11q hc,al11q hc];exact zax rfl
      · rw[al7q hc,al7q hc];exact zax rfl
    · rw[za3 hx,←ih];show List.lookup x ((if (k == NameKind.free&&env.scope.kind == .function&&env.kindOf n == some .cell)=true then (n,NameKind.cell) else (n,k))::_)=_
      by_cases hc:(k == NameKind.free&&env.scope.kind == .function&&env.kindOf n == some .cell)=true
      · rw[al11q hc];exact za3 hx
      · rw[al7q hc];exact za3 hx
theorem zho {scope:Scope}{env:Env}{x:Str}(h:scope.names.lookup x=some .free):(relabel scope env).names.lookup x=some .cell\/(relabel scope env).names.lookup x=some .free:=by
  have e:=zbw env x scope.names;rw[h] at e;have e':(relabel scope env).names.lookup x=some (if (NameKind.free == NameKind.free&&env.scope.kind == .function&&env.kindOf x == some .cell)=true then NameKind.cell else NameKind.free):=e;rw[e'];split
  · exact .inl rfl
  · exact .inr rfl
theorem zhp {scope:Scope}{env:Env}{x:Str}(nc:∀y∈scope.names,y.2≠.cell) (h:(relabel scope env).names.lookup x=some .cell\/(relabel scope env).names.lookup x=some .free):(x,NameKind.free)∈scope.names:=by
  have e:=zbw env x scope.names;have e':(relabel scope env).names.lookup x=_:=e;cases q:scope.names.lookup x with
  | none=>
    rw[q] at e';rw[e'] at h;rcases h with h | h<;>cases h
  | some k=>
    rw[q] at e';have m:=PySem.mem_of_lookup q;cases k with
    | free=>exact m
    | cell=>exact absurd rfl (nc _ m)
    | _=>
      rw[e'] at h;rcases h with h | h<;>cases h
structure CompScope (scope osc:Scope) (cap:List Str):Prop where
  kind:scope.kind = .function
  nocell:∀y∈scope.names,y.2≠.cell
  loc:∀y∈scope.names,y.2 = .local->scope.names.lookup y.1=some .local
  free:∀y∈scope.names,y.2 = .free->osc.names.lookup y.1=some .cell\/osc.names.lookup y.1=some .free
  cap:∀x∈cap,scope.names.lookup x=some .free
def cxC (X:Cx) (N:List Str) (scope:Scope) (C:ty1q) (s:ty2q) (H:Hp) (ex:List ty1q):Cx where
  prog:=X.prog
  w:=X.w
  K:=X.K
  mg:=X.mg
  base:=X.base
  A:=X.A
  N:=N
  s₀:=s
  H₀:=H
  env:=compEnvC scope (zby X.env.cells scope.names []) C X.env
  outer:=X.stack
  stack:=X.stack
  ex:=ex
  fn:=fun _=>false
  calm:=X.calm
  pn:=[]
  xe:=fun _ _=>False
def st0 (own:List Str) (ix:List Nat) (σ:St):St:=own.map (fun _=>none)++ix.map fun i=>(σ[i]?).join
theorem zfz {X:Cx}{pins:ty91q}{σ:St}{H:Hp}{s:ty2q}{scope:Scope}{cap:List Str}(I:Inv X pins σ H s) (S:CompScope scope X.env.scope cap) :
    closureFor scope X.env=pure (zby X.env.cells scope.names []):=
  zed fun x hx hf=>I.ok.has x.1 (S.free x hx hf)
theorem zqn {X:Cx}{pins:ty91q}{σ:St}{H:Hp}{s:ty2q}{scope:Scope}{own cap:List Str}{ix:List Nat}{fp:List ty1q}{h₁:Heap}{m:Str->Option ty3q}{tk:Nat}
    (I:Inv X pins σ H s) (S:CompScope scope X.env.scope cap) (hix:ix.map (fun i=>X.N[i]?)=cap.map some) (hf:∀b∈fp,FpOk X pins H b) (hlt:∀b∈fp,b<s.heap.objs.size)
    (hn:h₁.Ns s.heap.objs.size m) (hk:∀b o,s.heap.get? b=some o->h₁.get? b=some o) :
    Inv (cxC X (own++cap) scope s.heap.objs.size s H fp) [] (st0 own ix σ) H { s with heap:=h₁,toks:=tk }:=by
  have sub:∀y d,(zby X.env.cells scope.names []).lookup y=some d->X.env.cells.lookup y=some d:=zdv _ _ _ (fun y d h=>by cases h);have has:∀y c,(y,NameKind.free)∈scope.names->X.env.cells.lookup y=some c->(zby X.env.cells scope.names []).lookup y=some c:=fun y c hy hc=>zfy _ hc _ _ (fun y d h=>by cases h) (.inl hy)
  have hlen:ix.length=cap.length:=by
    have:=al67q List.length hix;simpa using this
  refine⟨⟨I.mod,S.kind,I.ok.glob,I.ok.blt,al18q _,fun x y c e1 e2=>I.ok.inj x y c (sub _ _ e1) (sub _ _ e2),fun x hx=>?_,fun x c z=>(by cases z),I.ok.hd,I.ok.frames,.inl rfl,fun b hb=>⟨al26q (hlt b hb),fun x c e=>(hf b hb).2.2.2.2.1 x c (sub _ _ e)⟩,I.bs,
      al44q I.ok.bsz I.sz,fun b o e hb=>?_,fun b hb z=>?_,I.stack,I.stkFree⟩,rfl,I.bare,Un.kept hk,⟨m,hn,fun i x v e1 e2 e3=>?_⟩,fun x c e=>?_,I.hok.fresh (al18q _),fun x c e=>I.freeC x c (sub _ _ e),fun p hp=>absurd (show p∈([]:ty91q) from hp) (by simp),I.hok.kept hk,?_⟩
  · have m':=zhp (env:=X.env) S.nocell hx;obtain⟨c,hc⟩:=I.ok.has x (S.free _ m' rfl);exact⟨c,has x c m' hc⟩
  · obtain⟨f0,f1,f2,f3,f4,f5⟩:=hf b hb;rcases f3 with z | z
    · exact I.ok.noex b o e z
    · exact absurd (al45q (al45q (al13q e) I.ok.bsz) z) (al64q _)
  · obtain⟨f0,f1,f2,f3,f4,f5⟩:=hf b hb;rcases al14q.mp (I.stkSub b z) with z | z
    · exact f1 z
    · exact f2 z
  · have e1:(own++cap)[i]? = some x:=e1;unfold st0 at e2
    by_cases hi:i<own.length
    · rw[al123q (by simpa using hi),al10q] at e2;cases q:own[i]? with
      | none=>rw[q] at e2;cases e2
      | some y=>rw[q] at e2;cases e2
    · rw[al155q (by simpa using hi)] at e1;rw[al155q (by simpa using hi),al1q,al10q] at e2;generalize i-own.length=j at e1 e2;cases q:ix[j]? with
      | none=>rw[q] at e2;cases e2
      | some k=>
        rw[q] at e2;have e2:(σ[k]?).join=some v:=al46q e2;have eσ:σ[k]? = some (some v):=by
          cases q2:σ[k]? with
          | none=>rw[q2] at e2;cases e2
          | some o=>rw[q2] at e2;exact al67q some e2
        have eN:X.N[k]? = some x:=by
          have:=al67q (fun l=>l[j]?) hix;simp only [al10q,q,e1,Option.map_some] at this;exact al46q this
        have hfr:=S.cap x (al6q e1);have hmem:=PySem.mem_of_lookup hfr;have hout:=S.free _ hmem rfl;obtain⟨m0,hn0,hl⟩:=I.loc;obtain⟨u,r,l⟩:=hl k x v eN eσ (.inr hout);rcases l with ⟨kd,_⟩ | ⟨kd,c,e,z⟩
        · have kd:X.env.scope.names.lookup x=some .local:=kd;rcases hout with ho | ho<;>(have ho:X.env.scope.names.lookup x=_:=ho;rw[kd] at ho;cases ho)
        · exact⟨u,r,.inr ⟨zho hfr,c,has x c hmem e,z.keeps hk⟩⟩
  · obtain⟨v,q⟩:=I.cell x c (sub _ _ e);exact⟨v,q.keeps hk⟩
  · show (st0 own ix σ).length=(own++cap).length;unfold st0;simp[hlen]
theorem zqo {X:Cx}{pins:ty91q}{σ σ':St}{H H':Hp}{s s':ty2q}{scope:Scope}{N:List Str}{fp:List ty1q}{h':Heap}
    (I:Inv X pins σ H s) (hf:∀b∈fp,FpOk X pins H b) (J:Inv (cxC X N scope s.heap.objs.size s H fp) [] σ' H' s') (hs:Heap.SameBut s.heap.objs.size s'.heap h'):Inv X pins σ H' { s' with heap:=h' }:=by
  have ne:∀b o,s.heap.get? b=some o->b≠s.heap.objs.size:=fun b o e=>al26q (al13q e)
  have B:Un (frs X.stack) fp H H' s.heap s'.heap:=J.base;refine I.call' (s':={ s' with heap:=h' }) (ch:=fp) J.os ⟨fun b o e n hb hx=>?_,fun b o e n hb hx=>?_,B.free,fun b o e hx=>?_,B.tups,B.frzs,B.tbls⟩ (fun b ob e=>?_) J.bare fun b hb=>?_
  · exact (hs.2 b (ne b o e)).trans (B.keep b o e n hb hx)
  · obtain⟨sl,e1⟩:=B.slot b o e n hb hx;exact⟨sl,(hs.2 b (ne b o e)).trans e1⟩
  · obtain⟨o',e1⟩:=B.there b o e hx;exact⟨o',(hs.2 b (ne b o e)).trans e1⟩
  · have fr:H' s.heap.objs.size=none:=J.free;refine (J.hok b ob e).stay (fun c w' hc q=>(hs.2 c ?_).trans q) (fun _ q=>q) fun _ _ q=>q
    rintro rfl;rcases hc with hc | hc
    · rw[←hc,fr] at e;cases e
    · rw[fr] at hc;cases hc
  · obtain⟨f0,f1,f2,f3,f4,f5⟩:=hf b hb;exact⟨f3,f1,f4,f5⟩
def PIf (X:Cx) (ifs:List Expr) (t:TT):Prop:=
  ∀(pins:ty91q) (s:ty2q) (σ:St) (H:Hp) (Q:Bool->Hp->Prop),Inv X pins σ H s->t σ H Q->
    wpAny (model X.prog X.w) X.A (forIn ifs true fun c r=>if r=true then do let ok ←isTrue c X.env (eval c X.env);pure (ForInStep.yield ok) else pure (ForInStep.yield r)) (TP X pins σ Q) X.xe s
def tYes:TT:=fun _ H Q=>Q true H
theorem zb3 {X:Cx}:PIf X [] tYes:=fun _ s σ H Q I h=>wpAny_tests_nil ⟨H,I,h⟩
theorem znh {X:Cx}{c:Expr}{t:TT}(h:PT X c t):PIf X [c] t:=fun pins s σ H Q I hw=>wpAny_tests_one (h pins s σ H Q I hw)
theorem zcv {prog:ty4q}{w:World}{A:Around}{R:Result->ty2q->Prop}{s:ty2q}{elt target iter:Expr}{ifs:List Expr}{scope:Scope}{pos:Pos}{it acc:ty3q}{env:Env}(I:Nat->ty2q->Prop)
    (turn:∀n s,I n s->wpAny (model prog w) A (pyNext it) (fun r s₁=>match r with
      | none=>R (.ok .next) s₁
      | some v=>wpAny (model prog w) A (letOwnedTupleGo target it v) (fun _ s₁'=>wpAny (model prog w) A (assign target env v) (fun _ s₂=>
          wpAny (model prog w) A (forIn ifs true fun c r=>if r=true then do let ok ←isTrue c env (eval c env);pure (ForInStep.yield ok) else pure (ForInStep.yield r)) (fun ok s₃=>
            if ok=true then wpAny (model prog w) A (eval elt env) (fun x s₄=>
              wpAny (model prog w) A (call (.builtin "list.append") [acc,x]) (fun _ s₅=>∃m,m<n/\I m s₅) (notedBy (model prog w) A env fun e s'=>R (.error e) s') s₄) (notedBy (model prog w) A env fun e s'=>R (.error e) s') s₃
            else ∃m,m<n/\I m s₃) (notedBy (model prog w) A env fun e s'=>R (.error e) s') s₂) (notedBy (model prog w) A env fun e s'=>R (.error e) s') s₁') (notedBy (model prog w) A env fun e s'=>R (.error e) s') s₁) (notedBy (model prog w) A env fun e s'=>R (.error e) s') s)
    (n:Nat) (h:I n s):codeAny (model prog w) A (.compLoop (.ListComp elt [⟨target,iter,ifs,0⟩] scope pos) 0 it acc env) R s:=by
  refine codeAny_loop rfl I (fun n s hI=>?_) n h;show wpAny _ A ((compTurn (.ListComp elt [⟨target,iter,ifs,0⟩] scope pos) 0 it acc env).onRaise (fun x=>do noteFrame x env;theTreesLotGoes x)) _ _ s;refine wpAny_noted ?_;rw[compTurn_list];refine al0q (al114q (al0q (al49q (turn n s hI) (fun r s₁ h₁=>?_) fun _ _ h'=>h')));cases r with
  | none=>exact al2q h₁
  | some v=>
    refine al0q (al49q h₁ (fun _ s₁' h₁'=>?_) fun _ _ h'=>h');refine al0q (al49q h₁' (fun _ s₂ h₂=>al0q (al49q h₂ (fun ok s₃ h₃=>?_) fun _ _ h'=>h')) fun _ _ h'=>h');cases ok with
    | false=>exact al2q ⟨rfl,h₃⟩
    | true=>
      exact al0q (al0q (al49q h₃ (fun x s₄ h₄=>al0q (al49q h₄ (fun _ s₅ h₅=>al2q (al2q ⟨rfl,h₅⟩)) fun _ _ h'=>h')) fun _ _ h'=>h'))
def zqp (own:List Str) (ix:List Nat) (J:It) (g:TG) (tc:TT) (te:TE) (σ:St) (H1:Hp) (D:ty1q) (Q:VK):Prop:=
  ∃W:Nat->Nat->St->List V->Hp->Prop,(∃m,W 0 m (st0 own ix σ) [] (upd H1 D (.lst [])))/\∀i m σ' ys H',W i m σ' ys H'->H' D=some (.lst ys)/\
    ((J.stop i H'/\Q (.ref D) H')\/(J.go i H'/\ys.length<sizeLine/\∀x H2,J.yld i H' x H2->g x σ' H2 fun σ3 H3=>tc σ3 H3 fun b H4=>
      if b=true then te σ3 H4 fun y H5=>H5 D=some (.lst ys)/\∃m',m'<m/\W (i+1) m' σ3 (ys++[y]) (upd H5 D (.lst (ys++[y]))) else H4 D=some (.lst ys)/\∃m',m'<m/\W (i+1) m' σ3 ys H4))
def zvt (own:List Str) (ix:List Nat) (wi:TI) (g:TG) (tc:TT) (te:TE):TE:=fun σ H Q=>wi σ H fun J H1=>∀D,H1 D=none->zqp own ix J g tc te σ H1 D Q
section
variable {X:Cx}{tg iter elt:Expr}{ifs:List Expr}{scope:Scope}{pos:Pos}{own cap:List Str}{ix:List Nat}{wi:TI}{g:TG}{tc:TT}{te:TE}
theorem zkn {pins:ty91q}{σ:St}{s:ty2q}{E:ty90q}{RR:ty3q->ty1q->Result->ty2q->Prop}{Q:VK}
    (hc:X.calm=true) (S:CompScope scope X.env.scope cap) (hix:ix.map (fun i=>X.N[i]?)=cap.map some)
    (hg:∀C s H ex,PG (cxC X (own++cap) scope C s H ex) tg g) (ht:∀C s H ex,PIf (cxC X (own++cap) scope C s H ex) ifs tc) (he:∀C s H ex,PE (cxC X (own++cap) scope C s H ex) elt te)
    {itv:ty3q}(h:PIE X pins σ tg (fun J H1=>∀D,H1 D=none->zqp own ix J g tc te σ H1 D Q) itv s)
    (hR:∀(D C:ty1q) (s':ty2q) (H':Hp) (m:Str->Option ty3q),s'.heap.Ns C m->FpOk X pins H' C->(∀h',Heap.SameBut C s'.heap h'->Inv X pins σ H' { s' with heap:=h' })->Q (.ref D) H'->RR (.ref D) C (.ok .next) s') :
    wpAny (model X.prog X.w) X.A (newList []) (fun acc s₃=>wpAny (model X.prog X.w) X.A (newFunctionEnv scope X.env.globals (zby X.env.cells scope.names []) [] X.env.qual none .none (some X.env)) (fun cenv s₄=>
      codeAny (model X.prog X.w) X.A (.compStart (.ListComp elt [⟨tg,iter,ifs,0⟩] scope pos) 0 itv acc { cenv with scope:=relabel scope X.env }) (RR acc cenv.locals) s₄) E s₃) E s:=by
  obtain⟨it,fp,tn,J,H2,rfl,I2,T,st2,f2,q2⟩:=h;refine al40q (wpAny_newFunctionEnv S.nocell (by intro y hy;simp at hy) (fun h₁ hns₁ hsb₁=>?_) S.kind);dsimp only at hns₁ hsb₁ ⊢;have hD:H2 s.heap.objs.size=none:=I2.hok.fresh (al18q _);obtain⟨W,⟨m0,w0⟩,turn⟩:=q2 s.heap.objs.size hD;have I3:Inv X pins σ (upd H2 s.heap.objs.size (.lst [])) { s with heap:=s.heap.push { cls:=.type "list",data:=.seq ([]:List ty3q).toArray } }:=I2.lnew (t':=s.toks) (its:=[]) .nil (al73q _);have ltD:∀b∈fp,b<s.heap.objs.size:=fun b hb=>by
    obtain⟨o,e,_⟩:=T.obj 0 _ st2 b hb;exact al13q e
  have f3:∀b∈fp,FpOk X pins (upd H2 s.heap.objs.size (.lst [])) b:=fun b hb=>⟨by rw[zl (al26q (ltD b hb))];exact (f2 b hb).1,(f2 b hb).2⟩
  generalize hH:s.heap.push { cls:=.type "list",data:=.seq ([]:List ty3q).toArray } = H3 at I3 hns₁ hsb₁ ⊢;have sz:H3.objs.size=s.heap.objs.size+1:=by rw[←hH,al82q]
  have up:∀b o,H3.get? b=some o->h₁.get? b=some o:=fun b o e=>hsb₁.extBut b o (al26q (al13q e)) (al4q _ e)
  have old:∀b o,s.heap.get? b=some o->h₁.get? b=some o:=fun b o e=>up b o (by rw[←hH];exact al4q _ e)
  have lt3:∀b∈fp,b<({ s with heap:=H3 }:ty2q).heap.objs.size:=fun b hb=>by show b<H3.objs.size;rw[sz];exact al79q (ltD b hb)
  have st4:tn 0 h₁:=T.keep _ _ _ st2 fun b _ o e=>old b o e
  have stat:∀{H':Hp},(∀b∈fp,H' b=none)->∀b∈fp,FpOk (cxC X (own++cap) scope H3.objs.size { s with heap:=H3 } (upd H2 s.heap.objs.size (.lst [])) fp) [] H' b:=fun hn b hb=>
    ⟨hn b hb,al26q (lt3 b hb),fun z=>(al14q.mp (I3.stkSub b z)).elim (f2 b hb).2.1 (f2 b hb).2.2.1,.inl hb,fun x c e=>(f2 b hb).2.2.2.2.1 x c (zdv _ _ _ (fun y d h=>by cases h) _ _ e),fun p hp=>absurd (show p∈([]:ty91q) from hp) (by simp)⟩
  have loop:∀s₄:ty2q,s₄ = { s with heap:=h₁,toks:=s.toks+([]:List (Str×ty3q)).length }->
      codeAny (model X.prog X.w) X.A (.compLoop (.ListComp elt [⟨tg,iter,ifs,0⟩] scope pos) 0 (.ref it) (.ref s.heap.objs.size) (compEnvC scope (zby X.env.cells scope.names []) H3.objs.size X.env))
        (RR (.ref s.heap.objs.size) H3.objs.size) s₄:=by
    rintro s₄ rfl;have I4:=zqn (own:=own) (fp:=fp) (tk:=s.toks+([]:List (Str×ty3q)).length) I3 S hix f3 lt3 hns₁ up;refine zcv (fun n s'=>∃i σ' ys H',Inv (cxC X (own++cap) scope H3.objs.size { s with heap:=H3 } (upd H2 s.heap.objs.size (.lst [])) fp) [] σ' H' s'/\tn i s'.heap/\(∀b∈fp,H' b=none)/\W i n σ' ys H') ?_ m0
      ⟨0,_,[],_,I4,st4,fun b hb=>(f3 b hb).1,w0⟩
    rintro n s5 ⟨i,σ5,ys,H5,I5,st5,fr5,w5⟩;obtain⟨hD5,turn5⟩:=turn i n σ5 ys H5 w5;rcases turn5 with ⟨stop,q⟩ | ⟨go,hz,step⟩
    · refine thn (T.done (cxC X (own++cap) scope H3.objs.size { s with heap:=H3 } (upd H2 s.heap.objs.size (.lst [])) fp) rfl rfl rfl hc i [] s5 σ5 H5 _ I5 (stat fr5) st5 stop) fun r s6 hq0=>?_
      obtain⟨hr,I6⟩:=hq0;subst hr;obtain⟨m6,hn6,_⟩:=I6.loc;exact hR _ _ s6 H5 m6 hn6 (I3.fpOk (al18q _) I6.free) (fun h' hs=>zqo I3 f3 I6 hs) q
    · refine thn (T.item (cxC X (own++cap) scope H3.objs.size { s with heap:=H3 } (upd H2 s.heap.objs.size (.lst [])) fp) rfl rfl rfl hc i [] s5 σ5 H5 _ I5 (stat fr5) st5 go) fun r s6 hq0=>?_
      obtain⟨u,hr,h6⟩:=hq0;subst hr;refine thn h6 fun _ s7 hq0=>?_
      obtain⟨x,H7,I7,r7,y7,st7,fr7⟩:=hq0;have I7':=I7.pinned (stat fr7) (T.obj _ _ st7);refine al49q (hg _ _ _ _ _ s7 σ5 H7 x u _ I7' r7 (step x H7 y7)) (fun _ s8 hq0=>?_) fun _ _ z=>False.elim z
      obtain⟨σ8,H8,I8,q8⟩:=hq0;refine al49q (ht _ _ _ _ _ s8 σ8 H8 _ I8 q8) (fun ok s9 hq0=>?_) fun _ _ z=>False.elim z
      obtain⟨H9,I9,q9⟩:=hq0;have again:∀{s':ty2q}{σ':St}{H':Hp}{ys':List V}{m':Nat},Inv (cxC X (own++cap) scope H3.objs.size { s with heap:=H3 } (upd H2 s.heap.objs.size (.lst [])) fp) ([]++zhd fp s7.heap) σ' H' s'->m'<n->W (i+1) m' σ' ys' H'->
          ∃m,m<n/\∃i σ' ys H',Inv (cxC X (own++cap) scope H3.objs.size { s with heap:=H3 } (upd H2 s.heap.objs.size (.lst [])) fp) [] σ' H' s'/\tn i s'.heap/\(∀b∈fp,H' b=none)/\W i m σ' ys H':=fun {s' σ' H' ys' m'} I' hm w'=>by
        refine⟨m',hm,i+1,σ',ys',H',I'.unpinned,T.keep _ _ _ st7 fun b hb o e=>(I'.pin (b,o) (al61q _ (al61q _ (zcr hb e)))).1,fun b hb=>?_,w'⟩;obtain⟨o,e,d⟩:=T.obj _ _ st7 b hb;exact (I'.pin (b,o) (al61q _ (al61q _ (zcr hb e)))).2.1
      cases ok with
      | false=>
        rw[al7q al19q] at q9 ⊢;obtain⟨_,m',hm,w'⟩:=q9;exact again I9 hm w'
      | true=>
        rw[al11q rfl] at q9 ⊢;refine al49q (he _ _ _ _ _ s9 σ8 H9 _ I9 q9) (fun v s10 hq0=>?_) fun _ _ z=>False.elim z
        obtain⟨y,H10,I10,r10,hD10,m',hm,w'⟩:=hq0;refine al49q (zar (X:=cxC X (own++cap) scope H3.objs.size { s with heap:=H3 } (upd H2 s.heap.objs.size (.lst [])) fp) _ s10 σ8 H10 (.ref s.heap.objs.size) [y] (.ref s.heap.objs.size) [v] (fun _ H'=>H'=upd H10 s.heap.objs.size (.lst (ys++[y]))) I10 rfl (.cons r10 .nil) ⟨_,ys,y,rfl,rfl,hD10,hz,rfl⟩)
          (fun _ s11 ⟨_,H11,I11,_,e11⟩=>?_) fun _ _ z=>False.elim z
        subst e11;exact again I11 hm w'
  exact codeAny_compStart_list (loop _ rfl) (T.self _ 0 _ _ _ st4 (loop _ rfl))
theorem zb4 {osc:Scope}(hc:X.calm=true) (S':CompScope scope osc cap) (hix:ix.map (fun i=>X.N[i]?)=cap.map some) (hi:PI X tg iter wi)
    (hg:∀C s H ex,PG (cxC X (own++cap) scope C s H ex) tg g) (ht:∀C s H ex,PIf (cxC X (own++cap) scope C s H ex) ifs tc) (he:∀C s H ex,PE (cxC X (own++cap) scope C s H ex) elt te)
    (hs:∀x,foldedSetIterable iter X.env x=pure x:=by intro _;rfl) (ho:X.env.scope=osc:=by rfl):PE X (.ListComp elt [⟨tg,iter,ifs,0⟩] scope pos) (zvt own ix wi g tc te):=by
  have S:CompScope scope X.env.scope cap:=ho▸S';intro pins s σ H Q I h;rw[eval_ListComp];refine wpAny_comprehension_free (use:=none) rfl hs (zfz I S) S.kind S.loc (thn (hi pins s σ H _ I h) fun xv s₁ h₁=>thn h₁ fun itv s₂ h₂=>?_);refine zkn (RR:=fun acc C=>compPost (model X.prog X.w) X.A X.xe none (EP X pins σ Q) acc C) hc S hix hg ht he h₂ fun D C s' H' m hn _ hI q=>?_
  exact⟨m,hn,fun h' hs'=>⟨.ref D,H',hI h' hs',rfl,q⟩⟩
theorem zni {osc:Scope}{i:Nat}{y:Str}{py spos:Pos}(hc:X.calm=true) (hN:X.N.Nodup) (hi':X.N[i]? = some y) (hy:X.env.scope.names.lookup y=some .local)
    (hsw:swapsWith (.ListComp elt [⟨tg,iter,ifs,0⟩] scope pos) (some (.Name y py)) spos.line X.env=pure true) (S':CompScope scope osc cap) (hix:ix.map (fun i=>X.N[i]?)=cap.map some) (hi:PI X tg iter wi)
    (hg:∀C s H ex,PG (cxC X (own++cap) scope C s H ex) tg g) (ht:∀C s H ex,PIf (cxC X (own++cap) scope C s H ex) ifs tc) (he:∀C s H ex,PE (cxC X (own++cap) scope C s H ex) elt te)
    (hs:∀x,foldedSetIterable iter X.env x=pure x:=by intro _;rfl) (ho:X.env.scope=osc:=by rfl):PS X (.Assign [.Name y py] (.ListComp elt [⟨tg,iter,ifs,0⟩] scope pos) spos) (tAsg (zvt own ix wi g tc te) (zn i)):=by
  have S:CompScope scope X.env.scope cap:=ho▸S';intro pins s σ H D I h;rw[exec_Assign_Name_used _ _ _ _ hsw];refine al0q (al114q (al0q ?_));show wpAny _ X.A (do let _ ←comprehension (.ListComp elt [⟨tg,iter,ifs,0⟩] scope pos) scope X.env _ (newList []) false (eval iter X.env) (some (assign (.Name y py) X.env))) _ _ s;refine al0q (al49q (wpAny_comprehension_free (use:=some (assign (.Name y py) X.env)) (Q:=fun _ s'=>SP X pins D .next s') rfl hs (zfz I S) S.kind S.loc
    (thn (hi pins s σ H _ I h) fun xv s₁ h₁=>thn h₁ fun itv s₂ h₂=>?_)) (fun _ s' hq=>al2q (al2q hq)) fun _ _ e=>e)
  refine zkn (RR:=fun acc C=>compPost (model X.prog X.w) X.A X.xe (some (assign (.Name y py) X.env)) (fun _ s'=>SP X pins D .next s') acc C) hc S hix hg ht he h₂ fun D' C s' H' m hn hF hI q=>?_
  show wpAny _ X.A (assign (.Name y py) X.env (.ref D')) _ _ _;have I':Inv X pins σ H' s':=hI s'.heap (Heap.SameBut.refl ..);refine wpAny_assign_Name (zg9 I' hN hi' (.inl hy) (v:=.ref D') rfl (fun s'' I'' hq0=>?_) (.inr hy));obtain⟨a,hs'',ha⟩:=hq0;obtain⟨f0,f1,f2,f3,f4,f5⟩:=hF;have hCa:C≠a:=by
    rcases ha with ha | ha
    · rw[ha];exact f1
    · exact fun z=>f4 _ _ ha z.symm
  exact⟨m,hn.sameBut hs'' hCa,fun h' hs'=>⟨_,H',I''.turned (t':=s''.toks) (fun b o hb e=>(hs'.2 b hb).trans e) f0 f1 f3 f4 f5,q⟩⟩
end
structure Fix (J:It) (xs:List V) (P:Hp->Prop):Prop where
  go:∀i H,P H->i<xs.length->J.go i H
  yld:∀i H x H',P H->J.yld i H x H'->H'=H/\(i<xs.length->xs[i]? = some x)
  stop:∀i H,P H->xs.length<=i->J.stop i H
theorem zcs {K:ty0q}{a:ty1q}{xs:List V}:Fix (Itl K a) xs (fun H=>SqL K H a xs):=
  ⟨fun i H h hi=>⟨xs,xs[i],h,by simp[hi]⟩,fun i H x H' h y=>⟨y.1,fun _=>y.2 xs h⟩,fun i H h hi=>⟨xs,h,hi⟩⟩
theorem znj {lo:Int}{n:Nat}:Fix (Itr lo n) ((List.range n).map fun i=>V.int (lo+(i:Nat))) (fun _=>True):=
  ⟨fun i H h hi=>by show i<n;simpa using hi,fun i H x H' h y=>⟨y.1,fun hi=>by
    have hi':i<n:=by simpa using hi
    rw[al10q,al165q hi',y.2];rfl⟩,fun i H h hi=>by show n<=i;simpa using hi⟩
theorem znk {J:It}{xs:List V}{P:Hp->Prop}{own:List Str}{ix:List Nat}{tc:TT}{te:TE}{σ:St}{H1:Hp}{D:ty1q}{Q:VK}(F:Fix J xs P) (p:V->Bool) (f:V->V)
    (hP:∀ys,P (upd H1 D (.lst ys))) (hz:xs.length<=sizeLine)
    (ht:∀x∈xs,∀ys (Q':Bool->Hp->Prop),Q' (p x) (upd H1 D (.lst ys))->tc ((st0 own ix σ).set 0 (some x)) (upd H1 D (.lst ys)) Q')
    (he:∀x∈xs,p x=true->∀ys (Q':VK),Q' (f x) (upd H1 D (.lst ys))->te ((st0 own ix σ).set 0 (some x)) (upd H1 D (.lst ys)) Q')
    (hQ:Q (.ref D) (upd H1 D (.lst ((xs.filter p).map f)))):zqp own ix J (zn 0) tc te σ H1 D Q:=by
  refine⟨fun i m σ' ys H'=>m=xs.length-i/\i<=xs.length/\(∀z,σ'.set 0 z=(st0 own ix σ).set 0 z)/\ys=((xs.take i).filter p).map f/\H'=upd H1 D (.lst ys),
    ⟨xs.length,by simp,al73q _,fun _=>rfl,by simp,rfl⟩,?_⟩
  rintro i m σ' ys H' ⟨rfl,hi,hσ,rfl,rfl⟩;refine⟨zb,?_⟩
  by_cases hlt:i<xs.length
  · refine .inr ⟨F.go i _ (hP _) hlt,?_,fun x H2 y=>?_⟩
    · rw[al1q];have h1:((xs.take i).filter p).length<=(xs.take i).length:=al48q _ _;rw[al25q] at h1;lia
    · obtain⟨e,y'⟩:=F.yld i _ x H2 (hP _) y;subst e;have hx:=y' hlt;have hm:x∈xs:=al6q hx;have tk:=take_succ_filter p xs i x hx;show tc (σ'.set 0 (some x)) _ _;rw[hσ];refine ht x hm _ _ ?_;have σσ:∀z,((st0 own ix σ).set 0 (some x)).set 0 z=(st0 own ix σ).set 0 z:=fun z=>List.set_set ..
      cases hp:p x with
      | true=>
        rw[al11q rfl];refine he x hm hp _ _ ⟨zb,xs.length-(i+1),by lia,rfl,hlt,σσ,?_,?_⟩
        · rw[tk,hp];simp
        · rw[zmu]
      | false=>
        rw[al7q al19q];refine⟨zb,xs.length-(i+1),by lia,rfl,hlt,σσ,?_,?_⟩
        · rw[tk,hp];simp
        · rfl
  · have e:i=xs.length:=by lia
    subst e;refine .inl ⟨F.stop _ _ (hP _) (al18q _),?_⟩;rw[al23q];exact hQ
def sg (c:Nat):V:=.str ⟨#[c]⟩
section
variable {X:Cx}
theorem zew:∀{bs:List Bool}{us:List ty3q},Vals (bs.map V.bl) us->us=bs.map Value.bool
  | [],_,r=>by cases r;rfl
  | b::bs,_,r=>by
    cases r with
    | cons r1 r2=>rw[show _=Value.bool b from r1,zew r2];rfl
theorem znl (bs:List Bool):((List.range bs.length).all fun i=>(bs[i]?).getD true)=bs.all id:=by
  rw[al101q,al52q,al52q];constructor
  · intro h b hb;obtain⟨i,hi,e⟩:=al157q.mp hb;have:=h i (al69q.mpr hi);rw[al3q hi,Option.getD_some,e] at this;exact this
  · intro h i hi;have hi':=al69q.mp hi;rw[al3q hi',Option.getD_some];exact h _ (al78q hi')
theorem znm (hc:X.calm=true):zbr X (.builtin "all") (fun xs H Q=>∃(a:ty1q) (bs:List Bool),xs = [V.ref a]/\SqL X.K H a (bs.map V.bl)/\Q (.bl (bs.all id)) H):=by
  intro pins s σ H xs us Q I r h;obtain⟨a,bs,rfl,ha,q⟩:=h;obtain⟨u,rfl,ru⟩:=zc4 r;cases ru;obtain⟨its,rv,pl,hz⟩:=I.list ha;have e:its=bs.map Value.bool:=zew rv;subst e;have hl:=pl.isList;have hlt:a<s.heap.objs.size:=by obtain⟨_,e,_⟩:=hl;exact al13q e
  refine call_all_walk (al128q hl ?_);refine⟨s.heap.objs.size,[s.heap.objs.size,a],[s.heap.objs.size],(bs.map Value.bool).toArray.size,_,_,fun i=>(bs[i]?).getD true,rfl,Walks.list (A:=X.A.in1) (I.ok.hd hc) _ a (al26q hlt) (bs.map Value.bool).toArray,
    ⟨⟨_,al12q _ rfl,rfl,rfl⟩,hl.push _⟩,fun i v s' Q' E' hP hQ=>?_,fun h' tk hk=>?_⟩
  · have hP':(bs.map Value.bool)[i]? = some v:=by simpa using hP
    rw[al10q] at hP';cases e:bs[i]? with
    | none=>rw[e] at hP';cases hP'
    | some b=>
      rw[e] at hP';cases hP';simp only [e,Option.getD_some] at hQ;exact al72q hQ
  · have e:((List.range (bs.map Value.bool).toArray.size).all fun i=>(bs[i]?).getD true)=bs.all id:=by
      rw[al24q,al1q];exact znl bs
    rw[e];refine⟨.bl (bs.all id),H,?_,rfl,q⟩;exact I.kept fun b o eb=>hk b o (fun z=>by rw[al74q.mp z] at eb;exact absurd (al13q eb) (al64q _)) (al4q _ eb)
theorem zf0:∀{ys:List Str}{us:List ty3q},Vals (ys.map V.str) us->StrsAre us ys
  | [],_,r=>by cases r;exact .nil
  | y::ys,_,r=>by
    cases r with
    | cons r1 r2=>
      obtain⟨t,rfl⟩:=r1;exact .cons y t (zf0 r2)
def rSlS:V->Option Int->Option Int->Hp->VK->Prop:=fun x lo hi H Q=>∃z,x = .str z/\z.length<=sizeLine/\Q (.str (Txt.slice z lo hi)) H
theorem zsf:SlR X rSlS:=by
  intro pins s σ H x v vl vu lo hi sl Q I rx hs pl pu h;obtain⟨z,rfl,hz,q⟩:=h;obtain⟨t,rfl⟩:=rx;refine⟨"str",_,F.slot_str_getitem.lookup,typeIs_str _ _ _,?_⟩;have fin:∀(t':Tok) (k:Nat),EP X pins σ Q (.str (Txt.slice z lo hi) t') { s with toks:=k }:=fun t' k=>⟨.str _,H,I.tok k,⟨_,rfl⟩,q⟩
  obtain⟨o,ho,hcl,hd⟩:=hs;cases pl<;>cases pu
  · exact al136q (l:=none) (u:=none) (st:=none) ⟨o,ho,hcl,hd⟩ rfl (al195q ⟨al44q (Txt.slice_le z _ _) hz,fin⟩)
  · exact al136q (l:=none) (u:=some (_,_)) (st:=none) ⟨o,ho,hcl,hd⟩ rfl (al195q ⟨al44q (Txt.slice_le z _ _) hz,fin⟩)
  · exact al136q (l:=some (_,_)) (u:=none) (st:=none) ⟨o,ho,hcl,hd⟩ rfl (al195q ⟨al44q (Txt.slice_le z _ _) hz,fin⟩)
  · exact al136q (l:=some (_,_)) (u:=some (_,_)) (st:=none) ⟨o,ho,hcl,hd⟩ rfl (al195q ⟨al44q (Txt.slice_le z _ _) hz,fin⟩)
end
theorem lenC {Pl:List ty3q->Prop}{n:Nat}(h:∀a r,r.length=n->Pl (a::r)):∀us:List ty3q,us.length=n+1->Pl us:=fun us e=>by
  cases us with
  | nil=>cases e
  | cons a r=>exact h a r (Nat.succ.inj e)
theorem len1 {Pl:List ty3q->Prop}(h:∀a,Pl [a]):∀us:List ty3q,us.length=1->Pl us:=lenC fun a r e=>by
  cases r with
  | nil=>exact h a
  | cons=>cases e
theorem len2 {Pl:List ty3q->Prop}(h:∀a b,Pl [a,b]):∀us:List ty3q,us.length=2->Pl us:=lenC fun a=>len1 (h a)
theorem len3 {Pl:List ty3q->Prop}(h:∀a b c,Pl [a,b,c]):∀us:List ty3q,us.length=3->Pl us:=lenC fun a=>len2 (h a)
theorem len4 {Pl:List ty3q->Prop}(h:∀a b c d,Pl [a,b,c,d]):∀us:List ty3q,us.length=4->Pl us:=lenC fun a=>len3 (h a)
theorem len5 {Pl:List ty3q->Prop}(h:∀a b c d e,Pl [a,b,c,d,e]):∀us:List ty3q,us.length=5->Pl us:=lenC fun a=>len4 (h a)
def Df (K:ty0q) (mg:Str->Option ty3q) (x:Str) (st:Stmt) (ps:List Str):Prop:=
  ∃(f:ty1q) (fd:FuncData),Fun K x x st f fd/\mg x=some (.ref f)/\∀us:List ty3q,us.length=ps.length->bindArgs fd ⟨us,[]⟩=pure (ps.zip us)
theorem df_mk {K:ty0q}{h:Heap}{mg:Str->Option ty3q}(X:K.In h) (G:h.Ns mainGlobals mg) {x:Str}{st:Stmt}{ps:List Str}{f:ty1q}{oc kV dc pm cd ct:ty3q}{od an:Option ty1q}{sl:Array (Option ty3q)}
    (hb:∀(kV doc pm:ty3q) (an:Option ty1q) (cdv ct:ty3q) (us:List ty3q),us.length=ps.length->bindArgs (PySem.W.fnOf x x (zc7 st) (zbo st) (zj st) .none kV doc pm an cdv ct) ⟨us,[]⟩=pure (ps.zip us))
    (a:PySem.W.nsIn K mainGlobals x=some (some (.ref f))) (l:K.lookup f=some ⟨oc,od,.func (PySem.W.fnOf x x (zc7 st) (zbo st) (zj st) .none kV dc pm an cd ct),sl⟩) (c:PySem.W.codeIn K cd x=true) (k:PySem.W.keepIn K (.ref f)=true):Df K mg x st ps:=
  ⟨f,_,zse l c k,PySem.W.mg_of X G a,fun us hl=>hb kV dc pm an cd ct us hl⟩
theorem const_mk {K:ty0q}{h:Heap}{mg:Str->Option ty3q}(X:K.In h) (G:h.Ns mainGlobals mg) {x:Str}{u:ty3q}(a:PySem.W.nsIn K mainGlobals x=some (some u)):mg x=some u:=PySem.W.mg_of X G a
theorem blt_mk {K:ty0q}{h:Heap}{mg:Str->Option ty3q}(X:K.In h) (G:h.Ns mainGlobals mg) {x:Str}(a:PySem.W.nsIn K mainGlobals x=some none):mg x=none:=PySem.W.mg_none_of X G a
def Has (P:ty4q) (w:World) (K:ty0q) (mg:Str->Option ty3q) (base:Heap) (x:Str) (ps:List Str) (k:Nat) (sp:Sp):Prop:=
  ∃(f:ty1q) (fd:FuncData),mg x=some (.ref f)/\PySem.W.keepIn K (.ref f)=true/\(∃oc od osl,K.lookup f=some ⟨oc,od,.func fd,osl⟩)/\(∀us:List ty3q,us.length=ps.length->bindArgs fd ⟨us,[]⟩=pure (ps.zip us))/\FnOk P w K mg base CX0 k f fd ps sp
section
variable {P:ty4q}{w:World}{K:ty0q}{mg:Str->Option ty3q}{base:Heap}
theorem Df.has {x:Str}{st:Stmt}{N ps:List Str}{k:Nat}{sp:Sp}(D:Df K mg x st ps) (S:FnScope N ps (zj st)) (len:∀vs H Q E,sp vs H Q E->vs.length=ps.length)
    (hbody:∀(f:ty1q) (cdv:ty3q) (A:Around) (outer:List Env) (s:ty2q) (H:Hp) (vs:List V) (Q:VK) (E:XK),Room k (A.deeper (envOfC x (zj st) s.heap.objs.size f cdv))->sp vs H Q E->
      ∃t,PSs (cxOf CX0 P w K mg base N x (zj st) f cdv A outer s H E).nox (zbo st) t/\t { nx:=fun _ H'=>Q .non H',rt:=Q } (start N vs) H):Has P w K mg base x ps (k+1) sp:=by
  obtain⟨f,fd,F,a,b⟩:=D;obtain⟨oc,od,kV,doc,pm,an,cdv,ct,osl,e,lk,hcd⟩:=id F.ex;exact⟨f,fd,a,F.kp,⟨oc,od,osl,lk⟩,b,F.ok S len (hbody f)⟩
end
section
variable {X:Cx}{k:Nat}{ps:List Str}{sp:Sp}{x:Str}{p pos:Pos}{e:Expr}{es:List Expr}{t:TA}
theorem zxd (F:Has X.prog X.w X.K X.mg X.base x ps k sp) (hr:Room k X.A) (hg:Gl X x) (ha:PA X (e::es) t) (hdb:(x == ("__debug__" : Str))=false:=by decide)
    (he:starEach (e::es) X.env=(false,eval e X.env)::starEach es X.env:=by rfl) (hpl:(backTo pos (starEach es X.env)).any (·.1)=false:=by rfl):PE X (.Call (.Name x p) (e::es) [] pos) (zqi sp [] E0 t):=by
  obtain⟨f,fd,a,kp,lk,b,G⟩:=F;exact zm5 G hr hg a kp (.all b) .nil zxc ha hdb he hpl
end
theorem law_walk {l:PySem.W.OpenLaw}{q:ty4q}{loose:List Str}{XP:(Str->Option ty3q)->Heap->Prop}{YP:World->Heap->Prop}{d:DefRec}{K:Params->ty0q}{k:Nat}{x:Str}{sp:ty0q->Sp}
    (hn:l.most=some 63) (hdf:d.params.defaults = []) (hr:Room k callerA) (hY:∀(w:World) (h:Heap),YP w h->(K w.params).In h)
    (hsp:∀(K:ty0q) (H:Hp) (a:ty1q) (ns:List Int),ns.length<=63->SqL K H a (ns.map V.int)->sp K [.ref a] H (fun v _=>v = .bl true) fun _ _ _=>False)
    (F:∀(w:World) (mg:Str->Option ty3q) (h:Heap),(K w.params).In h->h.Ns mainGlobals mg->∀base:Heap,(K w.params).In base->base.Ns mainGlobals mg->Has l.prog w (K w.params) mg base d.name [x] k (sp (K w.params))) :
    PySem.W.WalkO q loose XP YP l.row.toRowW d [] (fun f vs=>PySem.call f vs):=by
  refine L2.walk_ofK (n:=63) (k:=k) (x:=x) (CX:=CX0) (sp:=sp) hn (by decide) hdf hr hY (fun w mg fa h KX G hmg=>?_) (fun K H a ns hl _ hS=>hsp K H a ns hl hS) fun _ _ _ _ z=>z
  obtain⟨f,fd,a,kp,⟨oc,od,osl,lk⟩,b,_⟩:=F w mg h KX G h KX G;have ef:fa=f:=by
    rw[hmg] at a;cases a;rfl
  subst ef;refine⟨fd,fun s u=>.of_eq (b [u] rfl),fun base kb nb=>?_⟩;obtain⟨f',fd',a',kp',⟨oc',od',osl',lk'⟩,b',G'⟩:=F w mg h KX G base kb nb;have ef:f'=fa:=by
    rw[hmg] at a';cases a';rfl
  subst ef;rw[lk] at lk';cases lk';exact G'
inductive DEq (K:ty0q) (H:Hp):Nat->V->V->Bool->Prop where
  | flat {n:Nat}{x y:V}(fx:zch x=true) (fy:zch y=true):DEq K H n x y (eqV x y)
  | lst {n:Nat}{a b:ty1q}{xs ys:List V}(e:Nat->Bool) (hx:SqL K H a xs) (hy:SqL K H b ys) (hl:xs.length=ys.length) (he:∀(i:Nat) x y,xs[i]? = some x->ys[i]? = some y->DEq K H n x y (e i)) :
      DEq K H (n+1) (.ref a) (.ref b) ((List.range xs.length).all e)
  | lstN {n:Nat}{a b:ty1q}{xs ys:List V}(hx:SqL K H a xs) (hy:SqL K H b ys) (hl:xs.length≠ys.length):DEq K H (n+1) (.ref a) (.ref b) false
  | tup {n:Nat}{a b:ty1q}{xs ys:List V}(e:Nat->Bool) (hx:SqT K H a xs) (hy:SqT K H b ys) (he:∀(i:Nat) x y,xs[i]? = some x->ys[i]? = some y->DEq K H n x y (e i)) :
      DEq K H (n+1) (.ref a) (.ref b) ((List.range (min xs.length ys.length)).all e&&xs.length == ys.length)
  | lt {n:Nat}{a b:ty1q}{xs ys:List V}(hx:SqL K H a xs) (hy:SqT K H b ys):DEq K H (n+1) (.ref a) (.ref b) false
  | tl {n:Nat}{a b:ty1q}{xs ys:List V}(hx:SqT K H a xs) (hy:SqL K H b ys):DEq K H (n+1) (.ref a) (.ref b) false
theorem zko {x:V}(h:zch x=true):eqV x x=true:=by
  cases x<;>first | rfl | (simp[zch] at h;done) | (simp[eqV];done)
section
variable {X:Cx}{pins:ty91q}{σ:St}{H:Hp}{s:ty2q}
theorem znn (I:Inv X pins σ H s) {a:ty1q}{xs ys:List V}(hx:SqL X.K H a xs) (hy:SqT X.K H a ys):False:=by
  obtain⟨its,_,⟨o,n,e,c,_,_⟩,_⟩:=I.list hx;obtain⟨its',_,⟨o',e',c',_⟩,_⟩:=I.tuple hy;rw[e] at e';cases e';rw[c] at c';injection c' with c'
  exact absurd c' (by decide)
theorem DEq.refl (I:Inv X pins σ H s) {n:Nat}{x y:V}{b:Bool}(h:DEq X.K H n x y b):x=y->b=true:=by
  induction h with
  | flat fx fy=>intro e;subst e;exact zko fx
  | lst e hx hy hl he ih=>
    intro q;cases q;have:=I.list_inj hx hy;subst this;rw[al52q];intro i hi;have hi:=al69q.mp hi;exact ih i _ _ (al3q hi) (al3q hi) rfl
  | lstN hx hy hl=>
    intro q;cases q;exact absurd (al67q List.length (I.list_inj hx hy)) hl
  | tup e hx hy he ih=>
    intro q;cases q;have:=I.tuple_inj hx hy;subst this;rw[Nat.min_self,al163q,Bool.and_true,al52q];intro i hi;have hi:=al69q.mp hi;exact ih i _ _ (al3q hi) (al3q hi) rfl
  | lt hx hy=>intro q;cases q;exact (znn I hx hy).elim
  | tl hx hy=>intro q;cases q;exact (znn I hy hx).elim
theorem zcl (A:Around):A.in1.units<=A.units+1:=by
  first
    | exact al18q _
    | exact al104q _
    | (unfold Around.in1;simp)
theorem DEq.at (I:Inv X pins σ H s) {n:Nat}{x y:V}{b:Bool}(h:DEq X.K H n x y b):∀{u v:ty3q}{A:Around},RelV x u->RelV y v->A.units+n<cLine->
    SeqAt.EqAt A s u v b/\((∃p q,x = .ref p/\y = .ref q)->SeqAt.RcAt A s u v b):=by
  induction h with
  | flat fx fy=>
    intro u v A ru rv hu;refine⟨zm8 ru rv fx fy,fun hq0=>?_⟩;obtain⟨p,q,e,_⟩:=hq0;subst e;cases fx
  | @lst n a b xs ys e hx hy hl he ih=>
    intro u v A ru rv hu;cases ru;cases rv;obtain⟨its,r1,p1,_⟩:=I.list hx;obtain⟨its2,r2,p2,_⟩:=I.list hy;have l1:=r1.length;have l2:=r2.length;have h1:=zcl A;have rc:SeqAt.RcAt A s (.ref a) (.ref b) ((List.range xs.length).all e):=by
      have:=SeqAt.RcAt.lists (A:=A) (e:=e) p1.isList p2.isList (by simp;lia) (by lia) (fun j j1 j2=>by
        have g1:xs[j]? = some (xs[j]'(by simp at j1;lia)):=al3q _;have g2:ys[j]? = some (ys[j]'(by simp at j2;lia)):=al3q _;obtain⟨w1,q1,t1⟩:=r1.get g1;obtain⟨w2,q2,t2⟩:=r2.get g2;have:=(ih j _ _ g1 g2 t1 t2 (A:=A.in1) (by lia)).1;have z1:its.toArray[j]=w1:=by
          have:=al8q.mp q1;obtain⟨_,z⟩:=this;simpa using z
        have z2:its2.toArray[j]=w2:=by
          have:=al8q.mp q2;obtain⟨_,z⟩:=this;simpa using z
        rw[z1,z2];exact this)
      have es:its.toArray.size=xs.length:=by simp;lia
      rw[es] at this;exact this
    refine⟨?_,fun _=>rc⟩
    by_cases hab:a=b
    · subst hab;have:=(DEq.lst e hx hy hl he).refl I rfl;rw[this];exact .same _
    · exact .of_refs hab rc
  | @lstN n a b xs ys hx hy hl=>
    intro u v A ru rv hu;cases ru;cases rv;obtain⟨its,r1,p1,_⟩:=I.list hx;obtain⟨its2,r2,p2,_⟩:=I.list hy;have l1:=r1.length;have l2:=r2.length;have rc:SeqAt.RcAt A s (.ref a) (.ref b) false:=SeqAt.RcAt.lists_lengths p1.isList p2.isList (by simp;lia) (by lia);refine⟨?_,fun _=>rc⟩
    by_cases hab:a=b
    · subst hab;exact absurd (al67q List.length (I.list_inj hx hy)) hl
    · exact .of_refs hab rc
  | @tup n a b xs ys e hx hy he ih=>
    intro u v A ru rv hu;cases ru;cases rv;obtain⟨its,r1,p1,_⟩:=I.tuple hx;obtain⟨its2,r2,p2,_⟩:=I.tuple hy;have l1:=r1.length;have l2:=r2.length;have h1:=zcl A;have rc:SeqAt.RcAt A s (.ref a) (.ref b) ((List.range (min xs.length ys.length)).all e&&xs.length == ys.length):=by
      have:=SeqAt.RcAt.tuples (A:=A) (e:=e) (show s.heap.IsTuple a its.toArray from p1) (show s.heap.IsTuple b its2.toArray from p2) (by lia) (fun j j1 j2=>by
        have g1:xs[j]? = some (xs[j]'(by simp at j1;lia)):=al3q _;have g2:ys[j]? = some (ys[j]'(by simp at j2;lia)):=al3q _;obtain⟨w1,q1,t1⟩:=r1.get g1;obtain⟨w2,q2,t2⟩:=r2.get g2;have:=(ih j _ _ g1 g2 t1 t2 (A:=A.in1) (by lia)).1;have z1:its.toArray[j]=w1:=by
          have:=al8q.mp q1;obtain⟨_,z⟩:=this;simpa using z
        have z2:its2.toArray[j]=w2:=by
          have:=al8q.mp q2;obtain⟨_,z⟩:=this;simpa using z
        rw[z1,z2];exact this)
      have es:its.toArray.size=xs.length:=by simp;lia
      have es2:its2.toArray.size=ys.length:=by simp;lia
      rw[es,es2] at this;exact this
    refine⟨?_,fun _=>rc⟩
    by_cases hab:a=b
    · subst hab;have:=(DEq.tup e hx hy he).refl I rfl;rw[this];exact .same _
    · exact .of_refs hab rc
  | @lt n a b xs ys hx hy=>
    intro u v A ru rv hu;cases ru;cases rv;obtain⟨its,r1,p1,_⟩:=I.list hx;obtain⟨its2,r2,p2,_⟩:=I.tuple hy;exact⟨SeqAt.EqAt.list_tuple p1.isList (show s.heap.IsTuple b its2.toArray from p2) (by lia),fun _=>SeqAt.RcAt.list_tuple p1.isList (show s.heap.IsTuple b its2.toArray from p2) (by lia)⟩
  | @tl n a b xs ys hx hy=>
    intro u v A ru rv hu;cases ru;cases rv;obtain⟨its,r1,p1,_⟩:=I.tuple hx;obtain⟨its2,r2,p2,_⟩:=I.list hy;exact⟨SeqAt.EqAt.tuple_list (show s.heap.IsTuple a its.toArray from p1) p2.isList (by lia),fun _=>SeqAt.RcAt.tuple_list (show s.heap.IsTuple a its.toArray from p1) p2.isList (by lia)⟩
end
section
variable {X:Cx}{pins:ty91q}{σ:St}{H:Hp}{s:ty2q}
theorem zkp (I:Inv X pins σ H s) {n:Nat}{xs ys:List V}{its its2:List ty3q}{e:Nat->Bool}(r1:Vals xs its) (r2:Vals ys its2) (he:∀(i:Nat) x y,xs[i]? = some x->ys[i]? = some y->DEq X.K H n x y (e i)) {A:Around}(hu:A.units+n<cLine) :
    ∀(j:Nat) (h1:j<its.toArray.size) (h2:j<its2.toArray.size),SeqAt.EqAt A s its.toArray[j] its2.toArray[j] (e j):=fun j j1 j2=>by
  have l1:=r1.length;have l2:=r2.length;have g1:xs[j]? = some (xs[j]'(by simp at j1;lia)):=al3q _;have g2:ys[j]? = some (ys[j]'(by simp at j2;lia)):=al3q _;obtain⟨w1,q1,t1⟩:=r1.get g1;obtain⟨w2,q2,t2⟩:=r2.get g2;have:=((he j _ _ g1 g2).at I t1 t2 (A:=A) hu).1;have z1:its.toArray[j]=w1:=by
    obtain⟨_,z⟩:=al8q.mp q1;simpa using z
  have z2:its2.toArray[j]=w2:=by
    obtain⟨_,z⟩:=al8q.mp q2;simpa using z
  rw[z1,z2];exact this
theorem DEq.ne (I:Inv X pins σ H s) {n:Nat}{p q:ty1q}{b:Bool}(h:DEq X.K H n (.ref p) (.ref q) b) {A:Around}(hu:A.units+n<cLine):SeqAt.RcNeAt A s (.ref p) (.ref q) (!b):=by
  have h1:=zcl A;cases h with
  | flat fx fy=>cases fx
  | lst e hx hy hl he=>
    obtain⟨its,r1,p1,_⟩:=I.list hx;obtain⟨its2,r2,p2,_⟩:=I.list hy;have l1:=r1.length;have l2:=r2.length;have:=SeqAt.RcNeAt.lists (A:=A) (e:=e) p1.isList p2.isList (by simp;lia) (by lia) (zkp I r1 r2 he (A:=A.in1) (by lia));rw[al24q,←l1] at this;exact this
  | lstN hx hy hl=>
    obtain⟨its,r1,p1,_⟩:=I.list hx;obtain⟨its2,r2,p2,_⟩:=I.list hy;have l1:=r1.length;have l2:=r2.length;exact SeqAt.RcNeAt.lists_lengths p1.isList p2.isList (by simp;lia) (by lia)
  | tup e hx hy he=>
    obtain⟨its,r1,p1,_⟩:=I.tuple hx;obtain⟨its2,r2,p2,_⟩:=I.tuple hy;have l1:=r1.length;have l2:=r2.length;have:=SeqAt.RcNeAt.tuples (A:=A) (e:=e) (show s.heap.IsTuple p its.toArray from p1) (show s.heap.IsTuple q its2.toArray from p2) (by lia) (zkp I r1 r2 he (A:=A.in1) (by lia));rw[al24q,al24q,←l1,←l2] at this;exact this
  | lt hx hy=>
    obtain⟨its,r1,p1,_⟩:=I.list hx;obtain⟨its2,r2,p2,_⟩:=I.tuple hy;exact SeqAt.RcNeAt.list_tuple p1.isList (show s.heap.IsTuple q its2.toArray from p2) (by lia)
  | tl hx hy=>
    obtain⟨its,r1,p1,_⟩:=I.tuple hx;obtain⟨its2,r2,p2,_⟩:=I.list hy;exact SeqAt.RcNeAt.tuple_list (show s.heap.IsTuple p its.toArray from p1) p2.isList (by lia)
end
section
variable {X:Cx}
def rEqD (K:ty0q):R2:=fun x y H Q=>∃p q b,x = .ref p/\y = .ref q/\DEq K H 8 x y b/\Q (.bl b) H
theorem zvu (hu:X.A.units+9<cLine):OpR X (compareOp .Eq) (rEqD X.K):=by
  intro pins s σ H x y v u Q I rx ry h;obtain⟨p,q,b,rfl,rfl,d,hq⟩:=h;exact (d.at I rx ry (A:=X.A) (by lia)).2 ⟨p,q,rfl,rfl⟩ X.prog X.w _ _ ⟨.bl b,H,I,rfl,hq⟩
def rNeD (K:ty0q):R2:=fun x y H Q=>∃p q b,x = .ref p/\y = .ref q/\DEq K H 8 x y b/\Q (.bl (!b)) H
theorem zvv (hu:X.A.units+9<cLine):OpR X (compareOp .NotEq) (rNeD X.K):=by
  intro pins s σ H x y v u Q I rx ry h;obtain⟨p,q,b,rfl,rfl,d,hq⟩:=h;cases rx;cases ry;exact d.ne I (A:=X.A) (by lia) X.prog X.w _ _ ⟨.bl (!b),H,I,rfl,hq⟩
def rInD (K:ty0q) (neg:Bool):R2:=fun x y H Q=>∃(p:ty1q) (xs:List V) (e:V->Bool),y = .ref p/\(SqL K H p xs\/SqT K H p xs)/\(∀z∈xs,DEq K H 8 z x (e z))/\Q (.bl (if neg then !xs.any e else xs.any e)) H
theorem zjc:∀{xs:List V}{us:List ty3q}{u:ty3q},Vals xs us->u∈us->∃x∈xs,RelV x u
  | _,_,_,.cons r t,h=>by
    rcases al14q.mp h with h | h
    · subst h;exact⟨_,al37q ..,r⟩
    · obtain⟨x,hx,q⟩:=zjc t h;exact⟨x,al5q _ hx,q⟩
def absE (e:V->Bool) (u:ty3q):Bool:=match absV u with
  | some x=>e x
  | none=>false
theorem zjd {e:V->Bool}{x:V}{u:ty3q}(r:RelV x u):absE e u=e x:=by unfold absE;rw[r.abs]
theorem zgr {e:V->Bool}:∀{xs:List V}{us:List ty3q},Vals xs us->us.any (absE e)=xs.any e
  | _,_,.nil=>rfl
  | _,_,.cons r t=>by rw[al103q,al103q,zjd r,zgr t]
theorem zno (hu:X.A.units+10<cLine):OpR X (compareOp .NotIn) (rInD X.K true):=by
  intro pins s σ H x y v u Q I rx ry h;obtain⟨p,xs,e,rfl,hq,hd,q⟩:=h;cases ry;have h1:=zcl X.A;have items:∀{its:List ty3q},Vals xs its->∀z,z∈its.toArray->SeqAt.EqAt X.A.in1 s z v (absE e z):=fun {its} r z hz=>by
    obtain⟨x',hx',rz⟩:=zjc r (by simpa using hz);rw[zjd rz];exact ((hd x' hx').at I rz rx (A:=X.A.in1) (by lia)).1
  rcases hq with hq | hq
  · obtain⟨its,r,pl,hz⟩:=I.list hq;refine SeqAt.notIn_listAt (absE e) pl.isList (items r) ⟨.bl _,H,I,rfl,?_⟩;rw[show its.toArray.any (absE e)=its.any (absE e) by simp,zgr r];exact q
  · obtain⟨its,r,pl,hz⟩:=I.tuple hq;refine SeqAt.notIn_tupleAt (absE e) pl (items r) ⟨.bl _,H,I,rfl,?_⟩;rw[show its.toArray.any (absE e)=its.any (absE e) by simp,zgr r];exact q
end
def Wd (v:V):Prop:=(∃x,v = .str x/\x.length<=100)\/∃i:Int,v = .int i/\i.natAbs<10 ^ 60
theorem Wd.flat {v:V}(h:Wd v):zch v=true:=by
  rcases h with ⟨x,rfl,_⟩ | ⟨i,rfl,_⟩<;>rfl
def eqL (xs ys:List V):Bool:=(List.range (min xs.length ys.length)).all (fun i=>match xs[i]?,ys[i]? with | some x,some y=>eqV x y | _,_=>true)&&xs.length == ys.length
theorem DEq.flatT {K:ty0q}{H:Hp}{n:Nat}{a b:ty1q}{xs ys:List V}(hx:SqT K H a xs) (hy:SqT K H b ys) (fx:∀x∈xs,zch x=true) (fy:∀x∈ys,zch x=true):DEq K H (n+1) (.ref a) (.ref b) (eqL xs ys):=by
  refine DEq.tup _ hx hy fun i x y e1 e2=>?_
  rw[e1,e2];exact DEq.flat (fx x (al6q e1)) (fy y (al6q e2))
theorem zgs {xs:List V}(h:∀x∈xs,zch x=true):eqL xs xs=true:=by
  unfold eqL;rw[al163q,Bool.and_true,al52q];intro i hi;rw[Nat.min_self] at hi;have hi:=al69q.mp hi;rw[al3q hi];exact zko (h _ (al78q hi))
theorem Same.tup {K:ty0q}{H H':Hp}{a:ty1q}{xs:List V}(e:Same H H') (h:SqT K H a xs):SqT K H' a xs:=by
  rcases h with (h | ⟨o,h⟩) | h
  · exact .inl (.inl (e _ _ h))
  · exact .inl (.inr ⟨o,e _ _ h⟩)
  · exact .inr h
theorem Same.new {H:Hp}{D:ty1q}{o:HO}(h:H D=none):Same H (upd H D o):=fun b u e=>by rw[zl (zi e h)];exact e
theorem Same.upd {H H':Hp}{D:ty1q}{o:HO}(e:Same H H') (h:H D=none):Same H (upd H' D o):=fun b u q=>by
  rw[zl (zi q h)];exact e b u q
section
variable {X:Cx}(K:ty0q) (h:X.K=K)
include h
theorem zab:IxR X (rIxL K):=h▸ztf
theorem zh:IxR X (rIxT K):=h▸zvl
theorem zgt:SlR X (rSlL K):=h▸ztg
theorem zqq:OpR X (binaryOp .Add) (zvk K):=h▸ztd
theorem zf1:OpR X (compareOp .In) (rIn K false):=h▸zm9
theorem zje (hu:X.A.units+9<cLine):OpR X (compareOp .Eq) (rEqD K):=h▸zvu hu
theorem zjf (hu:X.A.units+9<cLine):OpR X (compareOp .NotEq) (rNeD K):=h▸zvv hu
theorem zdw (hu:X.A.units+10<cLine):OpR X (compareOp .NotIn) (rInD K true):=h▸zno hu
theorem za0:zbr X (.builtin "len") (fun xs H Q=>∃p ys,xs = [.ref p]/\(SqL K H p ys\/SqT K H p ys)/\Q (.int ys.length) H):=h▸zhk
theorem zgu:zbr X (.type "list") (fun xs H Q=>∃p ys,xs = [.ref p]/\(SqL K H p ys\/SqT K H p ys)/\∀l,H l=none->Q (.ref l) (upd H l (.lst ys))):=h▸zhl
theorem zlr (hc:X.calm=true):zbr X (.builtin "all") (fun xs H Q=>∃(a:ty1q) (bs:List Bool),xs = [V.ref a]/\SqL K H a (bs.map V.bl)/\Q (.bl (bs.all id)) H):=h▸znm hc
variable {o e:Expr}{es:List Expr}{to:TE}{t:TA}{name:Str}{apos cpos:Pos}{T id:String}{r:V->List V->Hp->VK->Prop}
theorem znp (pa:PlainAttrs T) (slot:Slot T name id) (hty:typeOf (.builtin id)=pure (.type "method_descriptor")) (hm:MtR X id r) (ho:PE X o to)
    (hbase:attributeBase o name X.env (eval o X.env)=eval o X.env:=by rfl) (hline:(apos.endLine == cpos.line)=true:=by rfl):PE X (.Call (.Attribute o name apos) [] [] cpos) (tBM0 K T r to):=h▸zvn pa slot hty hm ho hbase hline
theorem zbz (pa:PlainAttrs T) (slot:Slot T name id) (hty:typeOf (.builtin id)=pure (.type "method_descriptor")) (hm:MtR X id r) (ho:PE X o to) (ha:PA X (e::es) t)
    (hbase:attributeBase o name X.env (eval o X.env)=eval o X.env:=by rfl)
    (hfew:((backTo cpos (starEach (e::es) X.env)).all (fun x=>!x.1)&&(backToKw cpos (keywordEach [] X.env)).all (fun x=>x.1.isSome)
      && decide ((e::es).length+([]:List Keyword).length+(if ([]:List Keyword).isEmpty then 0 else 1)<30))=true:=by rfl)
    (hline:(apos.endLine == cpos.line)=true:=by rfl) (hs:starEach (e::es) X.env=(false,eval e X.env)::starEach es X.env:=by rfl) (hplain:(backTo cpos (starEach es X.env)).any (·.1)=false:=by rfl) :
    PE X (.Call (.Attribute o name apos) (e::es) [] cpos) (tBM K T r to t):=h▸zw9 pa slot hty hm ho ha hbase hfew hline hs hplain
end
section
variable {X:Cx}{tg:Expr}(K:ty0q) (h:X.K=K)
include h
theorem zr {l:Expr}{tl:TE}(hl:PE X l tl):PI X tg l (zvg K tl):=h▸zs9 hl
theorem zdx {es:List Expr}{k:Nat}{t:TGs}{n:Nat}{pos:Pos}(hc:X.calm=true) (h':PGs X es t)
    (hn:(assignEach es X.env).length=n:=by rfl) (hst:(assignEach es X.env).findIdx? (·.1)=none:=by rfl):PG X (.Tuple es k pos) (gTup K n t):=h▸zvc hc h' hn hst
end
theorem hu10 {A:Around}{k:Nat}(hr:Room k A):A.units+9<cLine:=al178q (Nat.add_le_add_left (by decide:9<=64) _) hr.units
theorem hu11 {A:Around}{k:Nat}(hr:Room k A):A.units+10<cLine:=al178q (Nat.add_le_add_left (by decide:10<=64) _) hr.units
theorem zbs {c:TT}{t u:TS}{D:Ends}{σ:St}{H:Hp}(b:Bool) (ht:∀Q':Bool->Hp->Prop,(∀H',Same H H'->Q' b H')->c σ H Q') (hs:∀H',Same H H'->if b=true then t D σ H' else u D σ H'):tIfS c t u D σ H:=ht _ hs
theorem zcx {c:TT}{t u:TS}{D:Ends}{σ:St}{H:Hp}(b:Bool) (ht:∀Q':Bool->Hp->Prop,Q' b H->c σ H Q') (hs:if b=true then t D σ H else u D σ H):tIfS c t u D σ H:=ht _ hs
theorem DEq.nilL {K:ty0q}{H:Hp}{n:Nat}{a b:ty1q}{xs:List V}(hx:SqL K H a xs) (hy:SqL K H b []):DEq K H (n+1) (.ref a) (.ref b) (decide (xs = [])):=by
  by_cases h:xs = []
  · subst h;exact DEq.lst (fun _=>true) hx hy rfl fun i x y e _=>by simp at e
  · rw[al22q h];exact DEq.lstN hx hy fun z=>h (al80q.mp z)
theorem znq {α:Type}{x:α}{xs:List α}:atI (x::xs) 0=some x:=by
  have:=zbk (xs:=x::xs) (j:=0) (v:=x) rfl;exact this
theorem zau {n:Nat}(h:n<=1000):n<=sizeLine:=al127q (zq h)
open Builtin Builtin.Str
section
variable {X:Cx}{pins:ty91q}{σ:St}{H:Hp}{s:ty2q}{h':Heap}
theorem Inv.turnedL {t':Nat}{ch:List ty1q}(I:Inv X pins σ H s) (k:∀b o,b ∉ ch->s.heap.get? b=some o->h'.get? b=some o) (hf:∀b∈ch,FpOk X pins H b):Inv X pins σ H { s with heap:=h',toks:=t' }:=by
  have nit:∀b u,H b=some u->b ∉ ch:=fun b u e z=>by rw[(hf b z).1] at e;cases e
  refine I.step (g':=s.gens) (d':=s.drawn) (ch:=ch) (fun b hb=>⟨(hf b hb).2.2.2.1,(hf b hb).2.1,(hf b hb).2.2.2.2.1,(hf b hb).2.2.2.2.2⟩) (fun b o _ _ hc e _=>k b o hc e) (fun b o _ _ hc e _=>⟨o.slots,k b o hc e⟩) (fun _ _ _ _ n=>n)
    (fun b o hc e=>⟨o,k b o hc e⟩) (fun _ _ e=>e) (fun _ _ _ e=>e) (fun b ps e=>⟨#[],by rw[e];simp⟩) (fun m hm=>?_) (fun b u e=>?_) I.bare
  · obtain⟨o,es,ep,ho,r⟩:=hm;exact⟨o,es,ep,k _ o (fun z=>(hf _ z).2.1 rfl) ho,r⟩
  · refine (I.hok b u e).stay (fun c v hc q=>k c v ?_ q) (fun _ q=>q) fun _ _ q=>q
    rcases hc with z | z
    · rw[z];exact nit b u e
    · exact nit c _ z
end
open Sem (wp)
open Sem (wp)
def RawD (h:Heap) (d:ty1q) (es:Array DictEntry) (ep:Nat):Prop:=∃o,h.get? d=some o/\o.ExactDict/\o.data = .dict es ep
theorem RawD.at {h h':Heap}{d:ty1q}{es:Array DictEntry}{ep:Nat}(q:RawD h d es ep) (k:∀o,h.get? d=some o->h'.get? d=some o):RawD h' d es ep:=let ⟨o,ho,r⟩:=q;⟨o,k o ho,r⟩
theorem RawD.typeIs {s:ty2q}{d:ty1q}{es:Array DictEntry}{ep:Nat}(q:RawD s.heap d es ep):s.TypeIs (.ref d) "dict":=let ⟨o,ho,c,_⟩:=q;⟨o,ho,c.1⟩
section
variable {prog:ty4q}{w:World}{A:Around}{E:ty90q}{s:ty2q}
theorem zkq {d:ty1q}{es:Array DictEntry}{ep:Nat}{Q:ty90q}(hd:(d == sysModules)=false) (hm:RawD s.heap d es ep)
    (hQ:Q (.ref s.heap.objs.size) { s with heap:=s.heap.push { cls:=.type "dict_keyiterator",data:=.fields #[.ref d,.int 0 0,.int es.size 0,.int ep 0] } }):wpAny (model prog w) A (pyIter (.ref d)) Q E s:=by
  obtain⟨o,ho,hc,hdat⟩:=id hm;have T:s.TypeIs (.ref d) "dict":=hm.typeIs;refine al183q T F.slot_dict_iter (al50q F.slot_dict_iter T F.entry_dict_iter ?_ (F.args_dict_iter_1 _));unfold Builtin.«dict.__iter__»;refine al0q ?_;unfold Builtin.Dict.dictSlotNone;refine al0q (wpAny_notOrdered_dict T ?_);show wpAny (model prog w) _ (pure (Value.ref d)) _ _ s;refine al2q ?_;show wpAny (model prog w) _ (Builtin.Dict.showsAll d >>= _) _ _ s;unfold Builtin.Dict.showsAll;rw[al7q (by rw[hd];exact al19q)];refine al0q (al2q (al0q (al184q ho hdat (al0q (al196q ho hdat ?_)))));exact al0q (al40q (al2q ⟨_,rfl,"dict_keyiterator",_,⟨_,al12q _ rfl,rfl⟩,al89q.lookup,hQ⟩))
theorem zkr {it d:ty1q}{i ep:Nat}{es:Array DictEntry}{e:DictEntry}{Q:Option ty3q->ty2q->Prop}(hit:s.heap.IsKeyIter it d i es.size ep) (hm:RawD s.heap d es ep) (hx:es[i]? = some e)
    (hQ:∀h1,h1.IsKeyIter it d (i+1) es.size ep->Heap.SameBut it s.heap h1->Q (some e.key) { s with heap:=h1 }):wpAny (model prog w) A (pyNext (.ref it)) Q E s:=by
  obtain⟨o,ho,hc,hd⟩:=id hit;obtain⟨od,hod,hcd,hdd⟩:=id hm;obtain⟨hlt,he⟩:=al38q.mp hx;subst he;unfold pyNext;refine al0q (al133q (al70q (name:=Str.ofString "__next__") hit.typeIs al89q (al50q al89q hit.typeIs F.entry_dict_keyiterator_next ?_ (F.args_dict_keyiterator_next_1 _))));refine al0q (al2q (al0q (al0q ?_)));refine al0q (al105q hit.typeIs (al2q (al0q (al158q ho hd ?_))));have own:Builtin.Dict_items.ownsTuple "dict_keyiterator" = false:=by decide
  simp only [own,al119q,al182q];show wpAny (model prog w) _ (if (Value.ref d == Value.none)=true then _ else _) _ _ s;rw[al7q (show ¬((Value.ref d == Value.none)=true) from al19q)];refine al0q (al2q (al0q (al184q hod hdd ?_)));rw[al7q (by simp)];refine al0q (al2q (al0q (al196q hod hdd ?_)));rw[al7q (by simp)];refine al2q ?_;simp only [show ¬((i:Int)<0) from by lia,al182q,al150q,al35q hlt];refine al0q (al0q (al105q hit.typeIs (al2q (al0q (wpAny_isOneOf_keyiter hit.typeIs ?_)))));show wpAny (model prog w) _ (setField (.ref it) 1 (rawInt ((i:Int)+1)) >>= _) _ _ s;refine al0q (al71q ho hd (by simp) ?_);have nx:(s.heap.update it (Obj.mapFields (·.setIfInBounds 1 (rawInt ((i:Int)+1))))).IsKeyIter it d (i+1) es.size ep:=
    ⟨_,al31q _ ho (al62q (al59q hd _)),(Obj.cls_mapFields ..).trans hc,by rw[al59q hd];simp[rawInt]⟩
  refine al0q (al47q (al0q (wpAny_isOneOf_keyiter (s:={ s with heap:=s.heap.update it (Obj.mapFields (·.setIfInBounds 1 (rawInt ((i:Int)+1)))) }) nx.typeIs ?_)));show wpAny (model prog w) _ (pure es[i].key) _ _ _;exact al2q (al2q ⟨_,rfl,al2q (hQ _ nx (al65q ..))⟩)
theorem znr {it d:ty1q}{i ep:Nat}{es:Array DictEntry}{Q:Option ty3q->ty2q->Prop}(hh:A.handled=none) (hit:s.heap.IsKeyIter it d i es.size ep) (hm:RawD s.heap d es ep) (hx:es.size<=i)
    (hQ:∀h1,Heap.ExtBut it s.heap h1->Q none { s with heap:=h1 }):wpAny (model prog w) A (pyNext (.ref it)) Q E s:=by
  obtain⟨o,ho,hc,hd⟩:=id hit;obtain⟨od,hod,hcd,hdd⟩:=id hm;unfold pyNext;refine al0q (al133q (al70q (name:=Str.ofString "__next__") hit.typeIs al89q (al50q al89q hit.typeIs F.entry_dict_keyiterator_next ?_ (F.args_dict_keyiterator_next_1 _))));refine al0q (al2q (al0q (al0q ?_)));refine al0q (al105q hit.typeIs (al2q (al0q (al158q ho hd ?_))));have own:Builtin.Dict_items.ownsTuple "dict_keyiterator" = false:=by decide
  simp only [own,al119q,al182q];show wpAny (model prog w) _ (if (Value.ref d == Value.none)=true then _ else _) _ _ s;rw[al7q (show ¬((Value.ref d == Value.none)=true) from al19q)];refine al0q (al2q (al0q (al184q hod hdd ?_)));rw[al7q (by simp)];refine al0q (al2q (al0q (al196q hod hdd ?_)));rw[al7q (by simp)];refine al2q ?_;simp only [show ¬((i:Int)<0) from by lia,al182q,al150q,al96q hx];refine al0q (al0q (al105q hit.typeIs (al2q ?_)));show wpAny (model prog w) _ (setField (.ref it) 0 .none >>= _) _ _ s;refine al0q (al71q ho hd (by simp) ?_);show wpAny (model prog w) _ (newExc (.type "StopIteration") [] >>= _) _ _ _;refine al0q ?_;simp only [newExc,newTuple];refine al0q (al40q (al0q (m:=firstArgMember _ _) (al159q (a:=Value.none) (by first | rfl | (simp only [firstArgMember];rfl)) (al40q ?_ (by size_fits)))) (by size_fits));simp only [raiseNew];refine al0q (wpAny_handled ?_);rw[show A.in1.handled=none from hh];refine al0q (al2q (wpAny_throw ?_));exact al0q (al93q (T:="StopIteration") (b:=true) ⟨_,al12q _ rfl,rfl⟩ isSubtype_stop (al2q (hQ _ (((al65q ..).extBut.push _).push _))))
theorem zns (hh:A.handled=none) (I d:ty1q) (hne:d≠I) (es:Array DictEntry) (ep:Nat) :
    Walks prog w A I [I,d] [I] es.size (fun i v=>∃e,es[i]? = some e/\v=e.key) (fun i h=>h.IsKeyIter I d i es.size ep/\RawD h d es ep) where
  sub:=fun b hb=>by simp at hb;simp[hb]
  frame:=fun _ _ _ st hk=>⟨st.1.at fun o e=>hk I (by simp) o e,st.2.at fun o e=>hk d (by simp) o e⟩
  item:=fun i s Q E hi st hQ=>by
    have hx:es[i]? = some es[i]:=al35q hi;exact zkr st.1 st.2 hx fun h1 it' hs=>hQ _ h1 s.toks ⟨_,hx,rfl⟩ ⟨it',st.2.at fun o e=>(hs.2 d hne).trans e⟩ fun b o hb e=>(hs.2 b (fun h=>hb (by simp[h]))).trans e
  done:=fun s Q E st hQ=>znr hh st.1 st.2 (al18q _) fun h1 he=>hQ h1 s.toks fun b o hb e=>he b o (fun h=>hb (by simp[h])) e
  self:=fun _ _ _ _ st hQ=>wpAny_pyIter_keyiter st.1 hQ
theorem znt {d:ty1q}{Q:Bool->ty2q->Prop}(T:s.TypeIs (.ref d) "dict") (hq:Q false s):wpAny (model prog w) A (Builtin.List.listLengthHint (.ref d)) Q E s:=by
  unfold Builtin.List.listLengthHint;refine al0q (al194q T F.slot_dict_len.lookup ?_);have e:splitId "dict.__len__" = some ("dict","__len__"):=by kernel_rfl
  simp only [e];have sub:isSubtype (.type "dict") (.type "dict")=pure true:=by rw[al97q];kernel_rfl
  exact al0q (al93q (T:="dict") (b:=true) T sub (al0q (al145q T (al2q hq))))
theorem znu {d:ty1q}{Q:Bool->ty2q->Prop}(T:s.TypeIs (.ref d) "dict_values") (hq:Q false s):wpAny (model prog w) A (Builtin.List.listLengthHint (.ref d)) Q E s:=by
  unfold Builtin.List.listLengthHint;refine al0q (al194q T F.slot_dict_values_len.lookup ?_);have e:splitId "dict_values.__len__" = some ("dict_values","__len__"):=by kernel_rfl
  simp only [e];have sub:isSubtype (.type "dict_values") (.type "dict_values")=pure true:=by rw[al97q];kernel_rfl
  exact al0q (al93q (T:="dict_values") (b:=true) T sub (al0q (al145q T (al2q hq))))
end
section
variable {prog:ty4q}{w:World}{A:Around}{s:ty2q}{R:Result->ty2q->Prop}{I:ty1q}{fp wr:List ty1q}{n:Nat}{P:Nat->ty3q->Prop}{St:Nat->Heap->Prop}
theorem zhq (W:Walks prog w A.in1 I fp wr n P St) (hn:n<=sizeLine) (S:ty1q) (c:Nat) (hst:St 0 s.heap) (hS:S ∉ fp) (hl:s.heap.get? S=some { cls:=.type "list",data:=.seq #[] c })
    (hR:∀s1 acc c1,Moved (S::wr) (fun a b=>b=a) s s1->s1.heap.get? S=some { cls:=.type "list",dict:=none,data:=.seq acc c1,slots:=#[] }->ItemsOf P acc n->R (.ok (.ret .none)) s1) :
    wpAny (model prog w) A.in1 (rule "list.extend.makes-room" >>= fun _=>Builtin.List.listTouch (.ref S) >>= fun _=>again (.builtin "list.extend.loop" ⟨[.ref S,.ref I,.none],[]⟩))
      (fun fin s1=>match fin with | .done f=>R (.ok f) s1 | .again c1=>c1.quiet=true/\codeAny (model prog w) A c1 R s1) (fun e s1=>R (.error e) s1) s:=by
  refine al0q (al102q (al0q ?_));show wpAny (model prog w) A.in1 (updateSeq S (·.push .none) >>= fun _=>updateSeq S (·.pop)) _ _ _;refine al0q (al83q hl rfl ?_);have l2:=al31q (Obj.mapSeq (·.push Value.none)) hl rfl;refine al83q (hz:=by seq_fits) l2 rfl ?_;have l3:=al31q (Obj.mapSeq (·.pop)) l2 rfl;have oth:∀b o,b≠S->s.heap.get? b=some o->((s.heap.update S (Obj.mapSeq (·.push Value.none))).update S (Obj.mapSeq (·.pop))).get? b=some o:=fun b o hb e=>(al29q _ _ (al36q hb)).trans ((al29q _ _ (al36q hb)).trans e)
  refine al2q ⟨al66q F.plain_extend_loop _,codeAny_extend_loopS W.toS hn _ hS _ n 0 _ _ _ rfl (al73q _) (W.toS.frame 0 s _ s.toks hst (al18q _) fun b hb o e=>oth b o (fun h=>hS (h▸hb)) e) l3 (ItemsOf.nil P) fun s1 acc c1 hm h1 h2=>?_⟩;have m0:Moved (S::wr) (fun (a b:Array GenState)=>b=a) s { s with heap:=(s.heap.update S (Obj.mapSeq (·.push Value.none))).update S (Obj.mapSeq (·.pop)) }:=⟨fun b o hb e=>oth b o (fun h=>hb (by simp[h])) e,rfl,rfl,rfl,al18q _⟩;exact hR s1 acc c1 (Moved.trans (fun _ _ _ h1 h2=>h2.trans h1) m0 hm) h1 h2
end
section
variable {prog:ty4q}{w:World}{A:Around}{s:ty2q}{R:Result->ty2q->Prop}
theorem zhr {S:ty1q}{x:ty3q}(hl:s.heap.get? S=some { cls:=.type "list",data:=.seq #[] })
    (h:wpAny (model prog w) A.in1 (Builtin.List.listExtendWith (.ref S) x .none) (fun fin s1=>match fin with | .done f=>R (.ok f) s1 | .again c1=>c1.quiet=true/\codeAny (model prog w) A c1 R s1) (fun e s1=>R (.error e) s1)
      { s with heap:=s.heap.update S (Obj.mapSeq (fun _=>(#[]:Array ty3q))) }) :
    wpAny (model prog w) A.in1 (Builtin.«list.__init__» ⟨[.ref S,x],[]⟩) (fun fin s1=>match fin with | .done f=>R (.ok f) s1 | .again c1=>c1.quiet=true/\codeAny (model prog w) A c1 R s1) (fun e s1=>R (.error e) s1) s:=by
  show wpAny (model prog w) A.in1 (do let was ←Builtin.List.listItems (.ref S);Builtin.List.listUpdate (.ref S) (fun _=>#[]);letGo was.toList.reverse;Builtin.List.listExtendWith (.ref S) x .none) _ _ s;refine al0q ?_;unfold Builtin.List.listItems;refine al0q (al88q hl rfl (al2q ?_));show wpAny (model prog w) A.in1 (updateSeq S (fun _=>#[]) >>= fun _=>letGo (#[]:Array ty3q).toList.reverse >>= fun _=>Builtin.List.listExtendWith (.ref S) x .none) _ _ s;exact al0q (al83q hl rfl (al0q (al141q h)))
end
section
variable {prog:ty4q}{w:World}{A:Around}{E:ty90q}{s:ty2q}
theorem zhs {d:ty1q}{es:Array DictEntry}{ep:Nat}{Q:ty90q}(hh:A.handled=none) (hd:(d == sysModules)=false) (hm:RawD s.heap d es ep) (hn:es.size<=sizeLine)
    (hQ:∀h1 acc c tk,(∀b o,s.heap.get? b=some o->h1.get? b=some o)->h1.get? s.heap.objs.size=some { cls:=.type "list",dict:=none,data:=.seq acc c,slots:=#[] }->ItemsOf (fun i v=>∃e,es[i]? = some e/\v=e.key) acc es.size->
      Q (.ref s.heap.objs.size) { s with heap:=h1,toks:=tk }):wpAny (model prog w) A (call (.type "list") [.ref d]) Q E s:=by
  have dl:d<s.heap.objs.size:=by obtain⟨o,ho,_⟩:=hm;exact al13q ho
  refine callType_codes (Q₁:=fun obj s1=>obj = .ref s.heap.objs.size/\s1 = { s with heap:=s.heap.push { cls:=.type "list",data:=.seq #[] } }) F.called_list (F.typeCall_list_1 _) F.entry_list_init (code_list_new _ ⟨rfl,rfl⟩) fun obj s1 h1=>?_
  obtain⟨rfl,rfl⟩:=h1;have hS:(s.heap.push { cls:=.type "list",data:=.seq #[] }).get? s.heap.objs.size=some { cls:=.type "list",data:=.seq #[] }:=al12q _ rfl;refine⟨⟨_,hS,rfl⟩,F.args_list_init_2 _ _,zhr hS ?_⟩;have l2:=al31q (Obj.mapSeq (fun _=>(#[]:Array ty3q))) hS rfl;have old:∀b o,s.heap.get? b=some o->((s.heap.push { cls:=.type "list",data:=.seq #[] }).update s.heap.objs.size (Obj.mapSeq (fun _=>(#[]:Array ty3q)))).get? b=some o:=fun b o e=>
    (al29q _ _ (fun z=>al64q _ (z▸al13q e))).trans (al4q _ e)
  have hm2:=hm.at (h':=(s.heap.push { cls:=.type "list",data:=.seq #[] }).update s.heap.objs.size (Obj.mapSeq (fun _=>(#[]:Array ty3q)))) fun o e=>old d o e
  have zu:((s.heap.push { cls:=.type "list",data:=.seq #[] }).update s.heap.objs.size (Obj.mapSeq (fun _=>(#[]:Array ty3q)))).objs.size=s.heap.objs.size+1:=by rw[Heap.size_update,al82q]
  generalize (s.heap.push { cls:=.type "list",data:=.seq #[] }).update s.heap.objs.size (Obj.mapSeq (fun _=>(#[]:Array ty3q)))=g at l2 old hm2 zu;have T:({ s with heap:=g }:ty2q).TypeIs (.ref d) "dict":=hm2.typeIs;unfold Builtin.List.listExtendWith;refine al0q (al145q T ?_);have sr:Builtin.List.listSameRef (.ref s.heap.objs.size) (.ref d)=false:=by
    have:s.heap.objs.size≠d:=al36q (al26q dl);simp[Builtin.List.listSameRef,this]
  have t1:(Value.type "dict" == Value.type "list")=false:=by decide
  have t2:(Value.type "dict" == Value.type "tuple")=false:=by decide
  simp only [sr,t1,t2,Bool.or_false,al119q,al182q];refine al0q (zkq (s:={ s with heap:=g }) hd hm2 ?_);have hm3:=hm2.at (h':=g.push { cls:=.type "dict_keyiterator",data:=.fields #[.ref d,.int 0 0,.int es.size 0,.int ep 0] }) fun o e=>al4q _ e
  refine al0q (al47q (znt (s:={ s with heap:=g.push { cls:=.type "dict_keyiterator",data:=.fields #[.ref d,.int 0 0,.int es.size 0,.int ep 0] } }) hm3.typeIs ?_));have dI:d≠g.objs.size:=by rw[zu];exact al26q (al79q dl)
  have SI:s.heap.objs.size ∉ [g.objs.size,d]:=by
    rw[zu];intro z;simp only [al14q,al43q,al160q] at z;rcases z with z | z
    · exact absurd z (al26q (al115q _))
    · exact absurd z (al36q (al26q dl))
  refine zhq (A:=A.in1) (s:={ s with heap:=g.push { cls:=.type "dict_keyiterator",data:=.fields #[.ref d,.int 0 0,.int es.size 0,.int ep 0] } }) (zns (A:=A.in1.in1) hh g.objs.size d dI es ep) hn _ _ ⟨⟨_,al12q _ rfl,rfl,rfl⟩,hm3⟩ SI (al4q _ l2) fun s2 acc c hmv h2 h3=>?_
  obtain⟨hp,ge,dr,tk,os⟩:=s2;obtain⟨m1,m2,m3,m4,m5⟩:=hmv;obtain rfl:ge=s.gens:=m2;obtain rfl:dr=s.drawn:=m3;obtain rfl:os=s.os:=m4;refine⟨rfl,hQ hp acc c tk (fun b o e=>m1 b o ?_ (al4q _ (old b o e))) h2 h3⟩;intro z;have bl:=al13q e;simp only [al14q,al43q,al160q] at z;rcases z with z | z
  · exact absurd bl (by rw[z];exact al64q _)
  · have z:b=g.objs.size:=z;rw[z,zu] at bl;exact absurd bl (al137q (al104q _))
theorem zht {κ:Type} [DecidableEq κ] {knd:KeyKind prog w κ}{d v:ty1q}{kvs:List (κ×ty3q)}{Q:ty90q}(hh:A.handled=none) (hv:s.heap.IsValuesView v d) (hm:s.heap.DictOf knd d kvs) (hn:kvs.length<=sizeLine)
    (hQ:∀h1 acc c tk,(∀b o,s.heap.get? b=some o->h1.get? b=some o)->h1.get? s.heap.objs.size=some { cls:=.type "list",dict:=none,data:=.seq acc c,slots:=#[] }->ItemsOf (fun i v=>∃k,kvs[i]? = some (k,v)) acc kvs.length->
      Q (.ref s.heap.objs.size) { s with heap:=h1,toks:=tk }):wpAny (model prog w) A (call (.type "list") [.ref v]) Q E s:=by
  obtain⟨ep,hm⟩:=hm.dictAt;have dl:d<s.heap.objs.size:=hm.lt_size;have vl:v<s.heap.objs.size:=by obtain⟨o,ho,_⟩:=hv;exact al13q ho
  refine callType_codes (Q₁:=fun obj s1=>obj = .ref s.heap.objs.size/\s1 = { s with heap:=s.heap.push { cls:=.type "list",data:=.seq #[] } }) F.called_list (F.typeCall_list_1 _) F.entry_list_init (code_list_new _ ⟨rfl,rfl⟩) fun obj s1 h1=>?_
  obtain⟨rfl,rfl⟩:=h1;have hS:(s.heap.push { cls:=.type "list",data:=.seq #[] }).get? s.heap.objs.size=some { cls:=.type "list",data:=.seq #[] }:=al12q _ rfl;refine⟨⟨_,hS,rfl⟩,F.args_list_init_2 _ _,zhr hS ?_⟩;have l2:=al31q (Obj.mapSeq (fun _=>(#[]:Array ty3q))) hS rfl;have old:∀b o,s.heap.get? b=some o->((s.heap.push { cls:=.type "list",data:=.seq #[] }).update s.heap.objs.size (Obj.mapSeq (fun _=>(#[]:Array ty3q)))).get? b=some o:=fun b o e=>
    (al29q _ _ (fun z=>al64q _ (z▸al13q e))).trans (al4q _ e)
  have hm2:=hm.keep old;have hv2:((s.heap.push { cls:=.type "list",data:=.seq #[] }).update s.heap.objs.size (Obj.mapSeq (fun _=>(#[]:Array ty3q)))).IsValuesView v d:=let ⟨o,ho,r⟩:=hv;⟨o,old v o ho,r⟩
  have zu:((s.heap.push { cls:=.type "list",data:=.seq #[] }).update s.heap.objs.size (Obj.mapSeq (fun _=>(#[]:Array ty3q)))).objs.size=s.heap.objs.size+1:=by rw[Heap.size_update,al82q]
  generalize (s.heap.push { cls:=.type "list",data:=.seq #[] }).update s.heap.objs.size (Obj.mapSeq (fun _=>(#[]:Array ty3q)))=g at l2 old hm2 hv2 zu;have T:({ s with heap:=g }:ty2q).TypeIs (.ref v) "dict_values":=hv2.typeIs;unfold Builtin.List.listExtendWith;refine al0q (al145q T ?_);have sr:Builtin.List.listSameRef (.ref s.heap.objs.size) (.ref v)=false:=by
    have:s.heap.objs.size≠v:=al36q (al26q vl);simp[Builtin.List.listSameRef,this]
  have t1:(Value.type "dict_values" == Value.type "list")=false:=by decide
  have t2:(Value.type "dict_values" == Value.type "tuple")=false:=by decide
  simp only [sr,t1,t2,Bool.or_false,al119q,al182q];refine al0q (wpAny_pyIter_values (s:={ s with heap:=g }) hv2 hm2 ?_);have hm3:=hm2.push { cls:=.type "dict_valueiterator",data:=.fields #[.ref d,.int 0 0,.int kvs.length 0,.int ep 0] };have hv3:(g.push { cls:=.type "dict_valueiterator",data:=.fields #[.ref d,.int 0 0,.int kvs.length 0,.int ep 0] }).IsValuesView v d:=let ⟨o,ho,r⟩:=hv2;⟨o,al4q _ ho,r⟩
  refine al0q (al47q (znu (s:={ s with heap:=g.push { cls:=.type "dict_valueiterator",data:=.fields #[.ref d,.int 0 0,.int kvs.length 0,.int ep 0] } }) hv3.typeIs ?_));have dI:d≠g.objs.size:=by rw[zu];exact al26q (al79q dl)
  have SI:s.heap.objs.size ∉ [g.objs.size,d]:=by
    rw[zu];intro z;simp only [al14q,al43q,al160q] at z;rcases z with z | z
    · exact absurd z (al26q (al115q _))
    · exact absurd z (al36q (al26q dl))
  refine zhq (A:=A.in1) (s:={ s with heap:=g.push { cls:=.type "dict_valueiterator",data:=.fields #[.ref d,.int 0 0,.int kvs.length 0,.int ep 0] } }) (Walks.dictValues (A:=A.in1.in1) hh g.objs.size d dI kvs ep) hn _ _ ⟨⟨_,al12q _ rfl,rfl,rfl⟩,hm3⟩ SI (al4q _ l2) fun s2 acc c hmv h2 h3=>?_
  obtain⟨hp,ge,dr,tk,os⟩:=s2;obtain⟨m1,m2,m3,m4,m5⟩:=hmv;obtain rfl:ge=s.gens:=m2;obtain rfl:dr=s.drawn:=m3;obtain rfl:os=s.os:=m4;refine⟨rfl,hQ hp acc c tk (fun b o e=>m1 b o ?_ (al4q _ (old b o e))) h2 h3⟩;intro z;have bl:=al13q e;simp only [al14q,al43q,al160q] at z;rcases z with z | z
  · exact absurd bl (by rw[z];exact al64q _)
  · have z:b=g.objs.size:=z;rw[z,zu] at bl;exact absurd bl (al137q (al104q _))
end
theorem Vals.of_get:∀{xs:List V}{us:List ty3q},xs.length=us.length->(∀(i:Nat) x u,xs[i]? = some x->us[i]? = some u->RelV x u)->Vals xs us
  | [],[],_,_=>.nil
  | x::xs,u::us,hl,h=>.cons (h 0 x u rfl rfl) (Vals.of_get (by simpa using hl) fun i y v e1 e2=>h (i+1) y v (by simpa using e1) (by simpa using e2))
  | [],_::_,hl,_=>by simp at hl
  | _::_,[],hl,_=>by simp at hl
theorem znv {k:Key}{v:ty3q}(h:ziz k v=true):RelV (kV k) v:=by
  rcases zal h with ⟨i,t,rfl,rfl⟩ | ⟨x,t,rfl,rfl⟩
  · exact⟨t,rfl⟩
  · exact⟨t,rfl⟩
theorem Paired.get' {α β:Type}{F:α->β->Prop}:∀{l₁:List α}{l₂:List β}{i:Nat}{a:α},Paired F l₁ l₂->l₁[i]? = some a->∃b,l₂[i]? = some b/\F a b
  | _,_,_,_,.nil,e=>by simp at e
  | _,_,0,_,.cons r _,e=>by simp at e;subst e;exact⟨_,rfl,r⟩
  | _,_,i+1,a,.cons _ t,e=>by
    obtain⟨u,h1,h2⟩:=Paired.get' (i:=i) (a:=a) t (by simpa using e);exact⟨u,by simpa using h1,h2⟩
section
variable {X:Cx}
theorem zks {pins:ty91q}{σ:St}{H:Hp}{s:ty2q}{Q:VK}{ys:List V}{h1:Heap}{acc:Array ty3q}{c tk:Nat}(I:Inv X pins σ H s) (kp:∀b o,s.heap.get? b=some o->h1.get? b=some o)
    (e:h1.get? s.heap.objs.size=some { cls:=.type "list",dict:=none,data:=.seq acc c,slots:=#[] }) (r:Vals ys acc.toList) (hz:ys.length<=sizeLine) (q:∀l,H l=none->Q (.ref l) (upd H l (.lst ys))):EP X pins σ Q (.ref s.heap.objs.size) { s with heap:=h1,toks:=tk }:=
  ⟨.ref s.heap.objs.size,_,I.laid (t':=tk) (o:=.lst ys) kp (al18q _) ⟨hz,acc.toList,c,r,by simpa using e⟩,rfl,q _ (I.hok.fresh (al18q _))⟩
theorem zd7 (hc:X.calm=true):zbr X (.type "list") (fun xs H Q=>∃p kvs,xs = [V.ref p]/\H p=some (.dK kvs)/\∀l,H l=none->Q (.ref l) (upd H l (.lst (kvs.map fun kv=>kV kv.1)))):=by
  intro pins s σ H xs us Q I r h;obtain⟨p,kvs,rfl,hp,q⟩:=h;obtain⟨u,rfl,ru⟩:=zc4 r;cases ru;obtain⟨z,hd,vs,rel,o,es,ep,e,ex,dt,kk,pr,nd⟩:=I.hok p _ hp;have l1:kvs.length=vs.length:=Paired.length rel;have l2:es.size=vs.length:=by rw[←pr.length];simp
  refine zhs (I.ok.hd hc) hd ⟨o,e,ex,dt⟩ (by lia) fun h1 acc c tk kp el it=>zks I kp el (Vals.of_get ?_ fun i x v ex ev=>?_) (by rw[al1q];exact z) q
  · have:=it.1;simp only [al1q,al34q];lia
  · rw[al10q] at ex;cases ek:kvs[i]? with
    | none=>rw[ek] at ex;cases ex
    | some kv=>
      rw[ek] at ex;cases ex;obtain⟨en,hen,rfl⟩:=it.2 i v (by simpa using ev);obtain⟨w',hw,rw'⟩:=Paired.get' rel ek;have:=(pr.get? (e:=en) (k:=w'.1) (v:=w'.2) (by simpa using hen) (by rw[hw])).1;have e1:kv.1=w'.1:=rw'.1;show RelV (kV kv.1) en.key;rw[e1];exact znv this
def vwO (p d:ty1q):HO:=.ext fun h=>h.IsValuesView p d
theorem zhu:MtR X "dict.values" (fun x xs H Q=>∃d kvs,x=V.ref d/\xs = []/\H d=some (.dK kvs)/\∀p,H p=none->Q (.ref p) (upd H p (vwO p d))):=by
  intro pins s σ H x xs v us Q I rx rs h;obtain⟨d,kvs,rfl,rfl,hd,q⟩:=h;cases rx;cases rs;obtain⟨z,hs,vs,rel,dd⟩:=I.hok d _ hd;refine call_meetsIn PySem.F.slot_dict_values dd.typeIs PySem.F.entry_dict_values (PySem.F.args_dict_values_1 _) (meets_dict_values (zam X.prog X.w) d hs) ⟨⟨vs,dd⟩,?_⟩;refine⟨.ref s.heap.objs.size,_,I.laid (t':=s.toks) (a:=s.heap.objs.size) (o:=vwO s.heap.objs.size d) (fun b u e=>al4q _ e) (al18q _) ⟨⟨_,al12q _ rfl,rfl,rfl⟩,⟨_,al12q _ rfl⟩,fun h1 h2 ⟨o,ho,r⟩ k=>⟨o,k o ho,r⟩⟩,rfl,q _ (I.hok.fresh (al18q _))⟩
theorem zd8 (hc:X.calm=true):zbr X (.type "list") (fun xs H Q=>∃p d kvs,xs = [V.ref p]/\H p=some (vwO p d)/\H d=some (.dK kvs)/\∀l,H l=none->Q (.ref l) (upd H l (.lst (kvs.map (·.2))))):=by
  intro pins s σ H xs us Q I r h;obtain⟨p,d,kvs,rfl,hp,hd,q⟩:=h;obtain⟨u,rfl,ru⟩:=zc4 r;cases ru;obtain⟨z,hs,vs,rel,dd⟩:=I.hok d _ hd;obtain⟨hv,_,_⟩:=I.hok p _ hp;have l1:kvs.length=vs.length:=Paired.length rel;refine zht (I.ok.hd hc) hv dd (by lia) fun h1 acc c tk kp el it=>zks I kp el (Vals.of_get ?_ fun i x v ex ev=>?_) (by rw[al1q];exact z) q
  · have:=it.1;simp only [al1q,al34q];lia
  · rw[al10q] at ex;cases ek:kvs[i]? with
    | none=>rw[ek] at ex;cases ex
    | some kv=>
      rw[ek] at ex;cases ex;obtain⟨k,hk⟩:=it.2 i v (by simpa using ev);obtain⟨w',hw,rw'⟩:=Paired.get' rel ek;rw[hk] at hw;cases hw;exact rw'.2
end
def DfM (K:ty0q) (C:ty1q) (qual m:Str) (st:Stmt) (ps:List Str):Prop:=
  ∃(f:ty1q) (fd:FuncData),Fun K m qual st f fd/\Meth K C m f/\∀us:List ty3q,us.length=ps.length->bindArgs fd ⟨us,[]⟩=pure (ps.zip us)
theorem dfm_mk {K:ty0q}{C:ty1q}{qual m:Str}{st:Stmt}{ps:List Str}{f:ty1q}{oc kV dc pm cd ct:ty3q}{od an:Option ty1q}{sl:Array (Option ty3q)}
    (hb:∀(kV doc pm:ty3q) (an:Option ty1q) (cdv ct:ty3q) (us:List ty3q),us.length=ps.length->bindArgs (PySem.W.fnOf m qual (zc7 st) (zbo st) (zj st) .none kV doc pm an cdv ct) ⟨us,[]⟩=pure (ps.zip us))
    (a:PySem.W.findIn K (.ref C) m=some (some (.ref f))) (l:K.lookup f=some ⟨oc,od,.func (PySem.W.fnOf m qual (zc7 st) (zbo st) (zj st) .none kV dc pm an cd ct),sl⟩) (c:PySem.W.codeIn K cd qual=true) (k:PySem.W.keepIn K (.ref f)=true)
    (i:PySem.W.isFn K (.ref f)=true):DfM K C qual m st ps:=⟨f,_,zse l c k,⟨a,i,k⟩,fun us hl=>hb kV dc pm an cd ct us hl⟩
def HasM (P:ty4q) (w:World) (K:ty0q) (mg:Str->Option ty3q) (base:Heap) (C:ty1q) (m:Str) (ps:List Str) (k:Nat) (sp:Sp):Prop:=
  ∃(f:ty1q) (fd:FuncData),Meth K C m f/\(∀us:List ty3q,us.length=ps.length->bindArgs fd ⟨us,[]⟩=pure (ps.zip us))/\FnOk P w K mg base CX0 k f fd ps sp
section
variable {P:ty4q}{w:World}{K:ty0q}{mg:Str->Option ty3q}{base:Heap}
theorem DfM.has {C:ty1q}{qual m:Str}{st:Stmt}{N ps:List Str}{k:Nat}{sp:Sp}(D:DfM K C qual m st ps) (S:FnScope N ps (zj st)) (len:∀vs H Q E,sp vs H Q E->vs.length=ps.length)
    (hbody:∀(f:ty1q) (cdv:ty3q) (A:Around) (outer:List Env) (s:ty2q) (H:Hp) (vs:List V) (Q:VK) (E:XK),Room k (A.deeper (envOfC qual (zj st) s.heap.objs.size f cdv))->sp vs H Q E->
      ∃t,PSs (cxOf CX0 P w K mg base N qual (zj st) f cdv A outer s H E).nox (zbo st) t/\t { nx:=fun _ H'=>Q .non H',rt:=Q } (start N vs) H):HasM P w K mg base C m ps (k+1) sp:=by
  obtain⟨f,fd,F,a,b⟩:=D;obtain⟨oc,od,kV,doc,pm,an,cdv,ct,osl,e,lk,hcd⟩:=id F.ex;exact⟨f,fd,a,b,F.ok S len (hbody f)⟩
end
section
variable {X:Cx}(K:ty0q) (h:X.K=K)
include h
end
def ztn (n i:Nat) (p:Prop):Prop:=∃m',m'<n-i/\m'=n-(i+1)/\i+1<=n/\p
theorem zdy {n i:Nat}{p:Prop}(h:i<n) (q:p):ztn n i p:=⟨n-(i+1),by lia,rfl,h,q⟩
theorem zag {α:Type}{xs:List α}{i:Nat}{x:α}(h:xs[i]? = some x):i<xs.length:=(al8q.mp h).1
theorem zbi {J:It}{xs:List V}{P:Hp->Prop}{own:List Str}{ix:List Nat}{g:TG}{tc:TT}{te:TE}{σ:St}{H1:Hp}{D:ty1q}{Q:VK}(F:Fix J xs P)
    (R:Nat->St->List V->Hp->Prop) (h0:R 0 (st0 own ix σ) [] (upd H1 D (.lst [])))
    (hP:∀i σ' ys H',R i σ' ys H'->P H'/\H' D=some (.lst ys)/\ys.length<=i) (hz:xs.length<=sizeLine)
    (hs:∀i x σ' ys H',xs[i]? = some x->R i σ' ys H'->g x σ' H' fun σ3 H3=>tc σ3 H3 fun b H4=>
      if b=true then te σ3 H4 fun y H5=>H5 D=some (.lst ys)/\ztn xs.length i (R (i+1) σ3 (ys++[y]) (upd H5 D (.lst (ys++[y])))) else H4 D=some (.lst ys)/\ztn xs.length i (R (i+1) σ3 ys H4))
    (hQ:∀σ' ys H',R xs.length σ' ys H'->Q (.ref D) H'):zqp own ix J g tc te σ H1 D Q:=by
  refine⟨fun i m σ' ys H'=>m=xs.length-i/\i<=xs.length/\R i σ' ys H',⟨xs.length,by simp,al73q _,h0⟩,?_⟩;rintro i m σ' ys H' ⟨rfl,hi,r⟩;obtain⟨p1,p2,p3⟩:=hP i σ' ys H' r;refine⟨p2,?_⟩
  by_cases hlt:i<xs.length
  · refine .inr ⟨F.go i _ p1 hlt,by lia,fun x H2 y=>?_⟩;obtain⟨e,y'⟩:=F.yld i _ x H2 p1 y;subst e;exact hs i x σ' ys _ (y' hlt) r
  · have e:i=xs.length:=by lia
    subst e;exact .inl ⟨F.stop _ _ p1 (al18q _),hQ σ' ys H' r⟩
end L2
namespace Dm
open PySem PySem.NumText
abbrev co (x:Str):List Nat:=x.cps.toList
theorem zsg (x:Str):(co x).length=x.length:=by simp[Str.length]
theorem znw {x y:Str}(h:co x=co y):x=y:=by
  cases x with
  | mk a=>cases y with
    | mk b=>
      have:a=b:=by
        have h:a.toList=b.toList:=h;exact Array.toList_inj.mp h
      rw[this]
theorem zvw (l:List Nat):co ⟨l.toArray⟩=l:=by simp[co]
def sIx' (n d:Nat):Option Int->Nat
  | none=>d
  | some i=>if i<0 then (max (i+(n:Int)) 0).toNat else min i.toNat n
theorem zxe (l:List Nat) (i k:Nat):((List.range k).map fun m=>i+m).filterMap (fun j=>l[j]?)=(l.drop i).take k:=by
  induction k generalizing i with
  | zero=>simp
  | succ k ih=>
    rw[List.range_succ_eq_map,al56q,al75q];have e:((List.range k).map ((fun m=>i+m) ∘ Nat.succ))=(List.range k).map fun m=>(i+1)+m:=by
      apply al87q;intro a _;simp only [Function.comp,Nat.succ_eq_add_one];lia
    rw[e,al86q];simp only [Nat.add_zero];rw[ih (i+1)];cases h:l[i]? with
    | none=>
      have hl:l.length<=i:=List.getElem?_eq_none_iff.mp h;rw[List.drop_eq_nil_of_le hl,List.drop_eq_nil_of_le (by lia)];simp
    | some v=>
      obtain⟨hi,e⟩:=al8q.mp h;rw[List.drop_eq_getElem_cons hi,List.take_succ_cons,e]
def zqr (n:Nat) (d:Int):Option Int->Int
  | none=>d
  | some i=>max 0 (min (if i<0 then i+(n:Int) else i) n)
theorem zkt (n d:Nat) (hd:d<=n) (o:Option Int):zqr n d o=((sIx' n d o:Nat):Int):=by
  cases o with
  | none=>rfl
  | some i=>simp only [sIx',zqr];split<;>lia
theorem zto (n d:Nat) (hd:d<=n) (o:Option Int):sIx' n d o<=n:=by
  cases o with
  | none=>exact hd
  | some i=>simp only [sIx'];split<;>lia
theorem zf2 (lo hi:Option Int) (n:Nat):Builtin.Str.strSliceIndices lo hi 1 n=(List.range (sIx' n n hi-sIx' n 0 lo)).map fun m=>sIx' n 0 lo+m:=by
  have:Builtin.Str.strSliceIndices lo hi 1 n=sliceRange (zqr n 0 lo) (zqr n n hi) 1:=by
    cases lo<;>cases hi<;>rfl
  rw[this,show (0:Int)=((0:Nat):Int) from rfl,zkt n 0 (al73q _),zkt n n (al18q _)];unfold sliceRange;simp only [show (1:Int) > 0 by decide,if_true,Int.one_mul,Int.ediv_one];have ec:(if ((sIx' n 0 lo:Nat):Int)<((sIx' n n hi:Nat):Int) then ((sIx' n n hi:Nat):Int)-((sIx' n 0 lo:Nat):Int)+1-1 else 0).toNat=sIx' n n hi-sIx' n 0 lo:=by
    split<;>lia
  rw[ec];apply al87q;intro a _;lia
theorem zqs (x:Str) (lo hi:Option Int):co (Txt.slice x lo hi)=((co x).drop (sIx' x.length 0 lo)).take (sIx' x.length x.length hi-sIx' x.length 0 lo):=by
  have key:(Builtin.Str.strSliceIndices lo hi 1 x.length).filterMap (x.cps[·]?)=((co x).drop (sIx' x.length 0 lo)).take (sIx' x.length x.length hi-sIx' x.length 0 lo):=by
    rw[zf2,←zxe (co x)]
    congr 1
    funext j;simp[co]
  unfold Txt.slice;split
  · rename_i h;have hl:(Builtin.Str.strSliceIndices lo hi 1 x.length).length=x.length:=by
      simpa using h
    rw[zf2,al1q,al58q] at hl;have h1:=zto x.length x.length (al18q _) hi;have h2:sIx' x.length 0 lo=0\/x.length=0:=by lia
    have h3:=zsg x;rcases h2 with h2 | h2
    · rw[hl,h2,List.drop_zero,al98q (by lia)]
    · have:co x = []:=al80q.mp (by lia);rw[this];simp
  · rw[zvw];exact key
def NAMES:Str:="abcdefghijklmnopqrstuvwxyz0123456789-"
def zvx (l:List Nat) (sg:Str):Bool:=l.all fun c=>decide (c∈co sg)
def zfk (x:Str):Bool:=decide (1<=x.length)&&decide (x.length<=12)&&zvx (co x) NAMES
def zb0 (ns:List Int) (i:Int):Int:=ns.getD i.toNat 0
def pt (c k m:Int):Int:=(c%99991+17) * (48271+7919 * k)%65537 * (k+3)%8191%m
theorem zb5 (c k m:Int) (h:0<m):0<=pt c k m/\pt c k m<m:=⟨al126q _ (by lia),al120q _ h⟩
def nmI (one at':Int) (k j:Nat):Int:=if (j:Int)=at' then pt one ((j:Int)+2) 37+k else pt one ((j:Int)+2) 37
def nmN (one at':Int) (k j:Nat):Nat:=(co NAMES).getD (nmI one at' k j%37).toNat 0
def nmC (one at':Int) (k size:Nat):List Nat:=(List.range size).map (nmN one at' k)
theorem znx:(co NAMES).length=37:=by decide +kernel
theorem zqt:(co NAMES).Nodup:=by decide +kernel
theorem ix37 (z:Int):0<=z%37/\(z%37).toNat<(co NAMES).length:=by
  have h1:=al126q z (show (37:Int)≠0 by decide);have h2:=al120q z (show (0:Int)<37 by decide);rw[znx];lia
theorem ztp (one at':Int) (k j:Nat):nmN one at' k j∈co NAMES:=by
  unfold nmN;have h:=(ix37 (nmI one at' k j)).2;rw[al30q,al3q h];exact al78q h
theorem zny {i j:Nat}(hi:i<(co NAMES).length) (hj:j<(co NAMES).length) (h:(co NAMES).getD i 0=(co NAMES).getD j 0):i=j:=by
  rw[al30q,al30q,al3q hi,al3q hj] at h;have h:(co NAMES)[i]=(co NAMES)[j]:=h;exact (List.getElem_inj zqt).mp h
theorem zdz (one at':Int) (k size:Nat):(nmC one at' k size).length=size:=by unfold nmC;simp
theorem znz {one at':Int}{k size j:Nat}(h:j<size):(nmC one at' k size)[j]? = some (nmN one at' k j):=by
  unfold nmC;rw[al10q,al165q h];rfl
theorem ztq {one at':Int}{k k' size:Nat}(h0:0<=at') (h1:at'<size) (hk:k<9) (hk':k'<9) (h:nmC one at' k size=nmC one at' k' size):k=k':=by
  have hj:at'.toNat<size:=by lia
  have e1:=znz (one:=one) (at':=at') (k:=k) hj;have e2:=znz (one:=one) (at':=at') (k:=k') hj;rw[h,e2] at e1;have e:nmN one at' k' at'.toNat=nmN one at' k at'.toNat:=al46q e1;unfold nmN at e;have q:=zny (ix37 _).2 (ix37 _).2 e;have a1:=(ix37 (nmI one at' k' at'.toNat)).1;have a2:=(ix37 (nmI one at' k at'.toNat)).1;have q2:nmI one at' k' at'.toNat%37=nmI one at' k at'.toNat%37:=by lia
  unfold nmI at q2;rw[al11q (al166q h0),al11q (al166q h0)] at q2;lia
def zb6 (l:List Nat):Str:=⟨l.toArray⟩
theorem zb7 (l:List Nat):co (zb6 l)=l:=zvw l
theorem zhv {l m:List Nat}(h:zb6 l=zb6 m):l=m:=by
  have:=al67q co h
  rwa [zb7,zb7] at this
theorem zqu {x:Str}(h1:1<=(co x).length) (h2:(co x).length<=12) (h3:∀c∈co x,c∈co NAMES):zfk x=true:=by
  rw[zsg] at h1 h2;unfold zfk;rw[al15q h1,al15q h2];show zvx (co x) NAMES=true;exact al52q.mpr fun c hc=>al15q (h3 c hc)
theorem ztr {one at':Int}{k size c:Nat}(h:c∈nmC one at' k size):c∈co NAMES:=by
  obtain⟨j,_,rfl⟩:=al27q.mp h;exact ztp ..
theorem zbq {f:Nat->Str}{n:Nat}(h:∀i j,i<n->j<n->f i=f j->i=j):((List.range n).map f).Nodup:=by
  unfold List.Nodup;rw[List.pairwise_map];refine List.Pairwise.imp_of_mem (R:=(·≠·)) (fun {a b} ha hb hab e=>?_) List.nodup_range;exact hab (h a b (al69q.mp ha) (al69q.mp hb) e)
theorem zvy:(Str.ofString "" : Str)=zb6 []:=by decide +kernel
theorem zhw (l m:List Nat):zb6 l++zb6 m=zb6 (l++m):=by
  apply znw;show (l.toArray++m.toArray).toList=(l++m).toArray.toList;simp
theorem zdg (l:List Nat):(zb6 l).length=l.length:=by show l.toArray.size=_;simp
theorem zf3 (l:List Nat) (z:Int) (h0:0<=z) (h1:z<=l.length):Txt.slice (zb6 l) none (some z)=zb6 (l.take z.toNat):=by
  apply znw;rw[zqs,zb7,zb7,zdg];simp only [sIx'];rw[al7q (by lia),List.drop_zero,Nat.sub_zero]
  congr 1
  lia
end Dm
namespace Dm
open PySem PySem.NumText L2
def zjg:List Str:=["over","cuts","fills","same"]
def zku (z:Int):Prop:=z.natAbs<10 ^ 60
inductive TieOk (us:List Str):List V->Prop where
  | plain {kd x y:Str}(hk:kd∈zjg) (hx:x∈us) (hy:y∈us):TieOk us [.str kd,.str x,.str y]
  | after {x y:Str}{n:Int}(hx:x∈us) (hy:y∈us) (h0:0<=n) (h1:zku n):TieOk us [.str "after",.str x,.str y,.int n]
theorem zts {x:Str}(h:zfk x=true):x.length<=12:=by
  unfold zfk at h;simp only [al42q,al151q] at h;exact h.1.2
theorem zqv:∀k∈zjg,k.length<=100:=by decide +kernel
theorem TieOk.words {us:List Str}{ws:List V}(h:TieOk us ws) (hu:∀x∈us,zfk x=true):(∀v∈ws,Wd v)/\ws.length<=5/\∃x r,ws = .str x::r:=by
  have nm:∀x∈us,Wd (.str x):=fun x hx=>.inl ⟨x,rfl,al44q (zts (hu x hx)) (by decide)⟩
  cases h with
  | plain hk hx hy=>
    refine⟨fun v hv=>?_,by simp,_,_,rfl⟩;simp only [al14q,al43q,al160q] at hv;rcases hv with rfl | rfl | rfl
    · exact .inl ⟨_,rfl,zqv _ hk⟩
    · exact nm _ hx
    · exact nm _ hy
  | after hx hy h0 h1=>
    refine⟨fun v hv=>?_,by simp,_,_,rfl⟩;simp only [al14q,al43q,al160q] at hv;rcases hv with rfl | rfl | rfl | rfl
    · exact .inl ⟨_,rfl,by decide +kernel⟩
    · exact nm _ hx
    · exact nm _ hy
    · exact .inr ⟨_,rfl,h1⟩
abbrev Tups (H:Hp):List ty1q->List (List V)->Prop:=Paired fun a ws=>H a=some (.tup ws)
theorem Tups.same {H H':Hp}(s:Same H H'):∀{as:List ty1q}{wss:List (List V)},Tups H as wss->Tups H' as wss
  | _,_,.nil=>.nil
  | _,_,.cons h t=>.cons (s _ _ h) (Tups.same s t)
theorem Tups.get {H:Hp}:∀{as:List ty1q}{wss:List (List V)}{a:ty1q},Tups H as wss->a∈as->∃ws∈wss,H a=some (.tup ws)
  | _,_,_,.cons h t,ha=>by
    rcases al14q.mp ha with ha | ha
    · subst ha;exact⟨_,al37q ..,h⟩
    · obtain⟨ws,hw,e⟩:=Tups.get t ha;exact⟨ws,al5q _ hw,e⟩
theorem Tups.snoc {H:Hp}{a:ty1q}{ws:List V}{as:List ty1q}{wss:List (List V)}(t:Tups H as wss) (h:H a=some (.tup ws)):Tups H (as++[a]) (wss++[ws]):=Paired.snoc t h
theorem Tups.stay {H H':Hp}(s:∀b xs,H b=some (.tup xs)->H' b=some (.tup xs)):∀{as:List ty1q}{wss:List (List V)},Tups H as wss->Tups H' as wss
  | _,_,.nil=>.nil
  | _,_,.cons h t=>.cons (s _ _ h) (Tups.stay s t)
theorem zaf {H:Hp}{p:ty1q}{xs ys:List V}(h:H p=some (.lst xs)):∀b zs,H b=some (.tup zs)->upd H p (.lst ys) b=some (.tup zs):=fun b zs e=>by
  rw[zl (zcu e h (by intro z;cases z))];exact e
theorem zay {xs:List Str}(nd:xs.Nodup) (k:Nat) (h:k<xs.length):xs[k] ∉ xs.take k:=by
  intro z;obtain⟨j,hj,e⟩:=al157q.mp z;rw[List.getElem_take] at e;rw[al25q] at hj;have:=(List.getElem_inj nd).mp e;lia
theorem zvz {x y:V}(hx:Wd x) (hy:Wd y):eqV x y=decide (x=y):=by
  rcases hx with ⟨a,rfl,_⟩ | ⟨a,rfl,_⟩<;>rcases hy with ⟨b,rfl,_⟩ | ⟨b,rfl,_⟩
  · show (a == b)=_
    by_cases h:a=b
    · subst h;simp
    · rw[al22q (fun z=>h (V.str.inj z))];exact al54q.mpr h
  · exact (al22q (fun z=>nomatch z)).symm
  · exact (al22q (fun z=>nomatch z)).symm
  · show (a == b)=_
    by_cases h:a=b
    · subst h;simp
    · rw[al22q (fun z=>h (V.int.inj z))];exact al54q.mpr h
theorem zv0 {xs ys:List V}(hx:∀v∈xs,Wd v) (hy:∀v∈ys,Wd v):eqL xs ys=decide (xs=ys):=by
  by_cases h:xs=ys
  · subst h;rw[zgs fun x q=>(hx x q).flat,al15q rfl]
  · rw[al22q h];rw[←Bool.not_eq_true];intro q;unfold eqL at q;rw[al42q] at q;obtain⟨q1,q2⟩:=q;have q2:xs.length=ys.length:=by simpa using q2
    apply h;apply List.ext_getElem q2;intro i h1 h2;have:=al52q.mp q1 i (al69q.mpr (by lia));rw[al3q h1,al3q h2] at this;have e:eqV xs[i] ys[i]=true:=this;rw[zvz (hx _ (al78q h1)) (hy _ (al78q h2))] at e;exact al17q e
theorem Tups.at {H:Hp}:∀{as:List ty1q}{wss:List (List V)}{i:Nat}{a:ty1q},Tups H as wss->as[i]? = some a->∃ws,wss[i]? = some ws/\H a=some (.tup ws)
  | _,_,_,_,.nil,e=>by simp at e
  | _,_,0,_,.cons h _,e=>by simp at e;subst e;exact⟨_,rfl,h⟩
  | _,_,i+1,_,.cons _ t,e=>by
    obtain⟨ws,q,r⟩:=Tups.at (i:=i) t (by simpa using e);exact⟨ws,by simpa using q,r⟩
theorem Tups.len {H:Hp}{as:List ty1q}{wss:List (List V)}(t:Tups H as wss):as.length=wss.length:=Paired.length t
theorem Tups.any {H:Hp}{as:List ty1q}{wss:List (List V)}{ws:List V}(t:Tups H as wss):∀(e:V->Bool),(∀a vs,vs∈wss->H a=some (.tup vs)->e (.ref a)=decide (vs=ws))->(as.map V.ref).any e=decide (ws∈wss):=by
  intro e he
  induction t with
  | nil=>simp
  | @cons a vs as wss h t ih=>
    rw[al56q,al103q,he a vs (al37q ..) h,ih fun b us q r=>he b us (al5q _ q) r]
    by_cases q:vs=ws
    · subst q;simp
    · rw[al22q q,Bool.false_or];have:ws∈vs::wss↔ws∈wss:=by
        rw[al14q];constructor
        · rintro (z | z)
          · exact absurd z.symm q
          · exact z
        · exact .inr
      exact al84q.mpr this.symm
def tupE (H:Hp) (ws:List V):V->Bool
  | .ref a=>match H a with
    | some (.tup vs)=>decide (vs=ws)
    | _=>false
  | _=>false
theorem zn0 {H:Hp}{ws vs:List V}{a:ty1q}(h:H a=some (.tup vs)):tupE H ws (.ref a)=decide (vs=ws):=by
  show (match H a with | some (.tup vs)=>decide (vs=ws) | _=>false)=_;rw[h]
theorem Tups.anyE {H:Hp}{as:List ty1q}{wss:List (List V)}{ws:List V}(t:Tups H as wss):(as.map V.ref).any (tupE H ws)=decide (ws∈wss):=t.any _ fun _ _ _ h=>zn0 h
theorem Tups.deq {K:ty0q}{H:Hp}{n:Nat}{as:List ty1q}{wss:List (List V)}{ws:List V}{p:ty1q}(t:Tups H as wss) (hw:∀vs∈wss,∀v∈vs,Wd v) (hp:H p=some (.tup ws)) (hv:∀v∈ws,Wd v) :
    ∀z∈as.map V.ref,DEq K H (n+1) z (.ref p) (tupE H ws z):=by
  intro z hz;obtain⟨a,ha,rfl⟩:=al27q.mp hz;obtain⟨vs,hvs,e⟩:=t.get ha;rw[zn0 e,←zv0 (hw vs hvs) hv];exact DEq.flatT (SqT.of e) (SqT.of hp) (fun x q=>(hw vs hvs x q).flat) fun x q=>(hv x q).flat
theorem zc8 {α:Type}{H:Hp}{g:α->List V}{ads:List ty1q}{ps:List α}{i:Nat}{x:V}(t:Tups H ads (ps.map g)) (hx:(ads.map V.ref)[i]? = some x) :
    ∃q p,x = .ref q/\ps[i]? = some p/\ads[i]? = some q/\H q=some (.tup (g p)):=by
  rw[al10q] at hx;cases e:ads[i]? with
  | none=>rw[e] at hx;cases hx
  | some q=>
    rw[e] at hx;cases hx;obtain⟨ws,h1,h2⟩:=Paired.get' t e;rw[al10q] at h1;cases e':ps[i]? with
    | none=>rw[e'] at h1;cases h1
    | some p=>
      rw[e'] at h1;cases h1;exact⟨q,p,rfl,rfl,rfl,h2⟩
theorem zkv {α:Type}{p:α->Prop}{xs:List α}{i:Nat}{x:α}(hx:xs[i]? = some x) (h:∀y∈xs.take i,p y) (hp:p x):∀y∈xs.take (i+1),p y:=by
  intro y hy;rw[al9q,hx,al28q] at hy;rcases hy with hy | hy
  · exact h y hy
  · simp at hy;subst hy;exact hp
theorem zsh {u v:V}{i:Int}(h0:0<=i) (h1:i<2):∃z,atI [u,v] i=some z/\(z=u\/z=v):=by
  have h:i=0\/i=1:=by lia
  rcases h with rfl | rfl
  · exact⟨u,rfl,.inl rfl⟩
  · exact⟨v,rfl,.inr rfl⟩
structure Tie where
  k:Str
  a:Str
  b:Str
  g:Option Int
def tieV (t:Tie):List V:=.str t.k :: .str t.a :: .str t.b::(match t.g with
  | some n=>[V.int n]
  | none=>[])
def SAME:Str:="same"
structure TOk (us:List Str) (t:Tie):Prop where
  ok:TieOk us (tieV t)
  a:t.a∈us
  b:t.b∈us
theorem zf4 (t:Tie):atI (tieV t) 0=some (.str t.k):=znq
theorem zf5 (t:Tie):atI (tieV t) 1=some (.str t.a):=zbk (xs:=tieV t) (j:=1) rfl
theorem zf6 (t:Tie):atI (tieV t) 2=some (.str t.b):=zbk (xs:=tieV t) (j:=2) rfl
theorem ztt {xs:List V}{z:Int}(h0:0<=z) (h1:z<=xs.length):cutV xs none (some z)=xs.take z.toNat:=by
  unfold cutV HT.sIx;simp;split
  · lia
  · congr 1
    lia
theorem zex {x y:Str}(h1:¬co x<co y) (h2:¬co y<co x):x=y:=by
  rw[List.not_lt] at h1 h2;exact znw (List.le_antisymm h2 h1)
theorem zdh {x y:Str}(h1:co x<co y) (h2:co y<co x):False:=al77q _ (List.lt_trans h1 h2)
theorem ztu {y m f:List Nat}(h1:y<m) (h2:¬f<m):y<f:=by
  exact al33q fun z=>h2 (List.lt_of_le_of_lt (List.not_lt.mp z) h1)
def minS (x y:Str):Str:=if co y<co x then y else x
theorem zjh (x y:Str):minS x y=x\/minS x y=y:=by unfold minS;split<;>simp
theorem zn1 (x y:Str):¬co x<co (minS x y):=by
  unfold minS;split
  · next h=>exact fun z=>zdh h z
  · exact al77q _
theorem zn2 (x y:Str):¬co y<co (minS x y):=by
  unfold minS;split
  · exact al77q _
  · next h=>exact h
def Nb (ts:List Tie) (y z:Str):Prop:=∃t∈ts,t.k=SAME/\((t.a=y/\t.b=z)\/(t.b=y/\t.a=z))
inductive Cn (ts:List Tie):Str->Str->Prop where
  | refl (x:Str):Cn ts x x
  | step {x y z:Str}(h:Cn ts x y) (n:Nb ts y z):Cn ts x z
theorem Nb.symm {ts:List Tie}{y z:Str}(h:Nb ts y z):Nb ts z y:=by
  obtain⟨t,ht,hk,h⟩:=h;exact⟨t,ht,hk,h.elim (fun q=>.inr ⟨q.2,q.1⟩) fun q=>.inl ⟨q.2,q.1⟩⟩
theorem Cn.trans {ts:List Tie}{x y z:Str}(h:Cn ts x y) (h2:Cn ts y z):Cn ts x z:=by
  induction h2 with
  | refl=>exact h
  | step _ n ih=>exact ih.step n
theorem Cn.one {ts:List Tie}{y z:Str}(n:Nb ts y z):Cn ts y z:=(Cn.refl y).step n
theorem Cn.symm {ts:List Tie}{x y:Str}(h:Cn ts x y):Cn ts y x:=by
  induction h with
  | refl=>exact .refl _
  | step _ n ih=>exact (Cn.one n.symm).trans ih
theorem Nb.mono {ts ts':List Tie}{y z:Str}(h:Nb ts y z) (s:∀t∈ts,t∈ts'):Nb ts' y z:=by
  obtain⟨t,ht,r⟩:=h;exact⟨t,s t ht,r⟩
theorem Cn.mono {ts ts':List Tie}{y z:Str}(h:Cn ts y z) (s:∀t∈ts,t∈ts'):Cn ts' y z:=by
  induction h with
  | refl=>exact .refl _
  | step _ n ih=>exact ih.step (n.mono s)
theorem Nb.mem {us:List Str}{ts:List Tie}{y z:Str}(h:Nb ts y z) (ht:∀t∈ts,t.a∈us/\t.b∈us):z∈us:=by
  obtain⟨t,h1,_,h2⟩:=h;rcases h2 with ⟨_,rfl⟩ | ⟨_,rfl⟩
  · exact (ht t h1).2
  · exact (ht t h1).1
theorem Cn.mem {us:List Str}{ts:List Tie}{y z:Str}(h:Cn ts y z) (hy:y∈us) (ht:∀t∈ts,t.a∈us/\t.b∈us):z∈us:=by
  cases h with
  | refl=>exact hy
  | step _ n=>exact n.mem ht
def jn (lab:Str->Str) (f s:Str):Str->Str:=fun x=>if lab x=f\/lab x=s then minS f s else lab x
def stp (lab:Str->Str) (t:Tie):Str->Str:=if t.k=SAME then jn lab (lab t.a) (lab t.b) else lab
def labs (ts:List Tie):Str->Str:=ts.foldl stp id
structure Good (ts:List Tie) (lab:Str->Str):Prop where
  to:∀x,Cn ts x (lab x)
  eq:∀x y,Cn ts x y->lab x=lab y
  le:∀x y,Cn ts x y->¬co y<co (lab x)
theorem zqw:Good [] id:=by
  have h:∀x y,Cn [] x y->x=y:=by
    intro x y c
    induction c with
    | refl=>rfl
    | step _ n _=>obtain⟨t,ht,_⟩:=n;cases ht
  exact⟨fun x=>.refl x,h,fun x y c=>by rw[h x y c];exact al77q _⟩
theorem zn3 {ts:List Tie}{lab:Str->Str}{t:Tie}(g:Good ts lab):Good (ts++[t]) (stp lab t):=by
  have sub:∀u∈ts,u∈ts++[t]:=fun u hu=>al55q _ hu
  by_cases hk:t.k=SAME
  · unfold stp;rw[al11q hk];have nt:Nb (ts++[t]) t.a t.b:=⟨t,by simp,hk,.inl ⟨rfl,rfl⟩⟩;have ca:∀x,lab x=lab t.a->Cn (ts++[t]) x t.a:=fun x e=>by
      have h1:=(g.to x).mono sub;have h2:=(g.to t.a).mono sub;rw[e] at h1;exact h1.trans h2.symm
    have cb:∀x,lab x=lab t.b->Cn (ts++[t]) x t.b:=fun x e=>by
      have h1:=(g.to x).mono sub;have h2:=(g.to t.b).mono sub;rw[e] at h1;exact h1.trans h2.symm
    have la:Cn (ts++[t]) t.a (lab t.a):=(g.to t.a).mono sub;have lb:Cn (ts++[t]) t.b (lab t.b):=(g.to t.b).mono sub;have to:∀x,Cn (ts++[t]) x (jn lab (lab t.a) (lab t.b) x):=by
      intro x;unfold jn;split
      · next h=>
        have hx:Cn (ts++[t]) x t.a:=h.elim (ca x) fun e=>(cb x e).trans (Cn.one nt.symm)
        rcases zjh (lab t.a) (lab t.b) with e | e
        · rw[e];exact hx.trans la
        · rw[e];exact (hx.trans (Cn.one nt)).trans lb
      · exact (g.to x).mono sub
    have ja:jn lab (lab t.a) (lab t.b) t.a=minS (lab t.a) (lab t.b):=al11q (.inl rfl);have jb:jn lab (lab t.a) (lab t.b) t.b=minS (lab t.a) (lab t.b):=al11q (.inr rfl);have eq:∀x y,Cn (ts++[t]) x y->jn lab (lab t.a) (lab t.b) x=jn lab (lab t.a) (lab t.b) y:=by
      intro x y c
      induction c with
      | refl=>rfl
      | @step y z _ n ih=>
        rw[ih];obtain⟨u,hu,hku,h⟩:=n;rcases al28q.mp hu with hu | hu
        · have:lab y=lab z:=g.eq y z (Cn.one ⟨u,hu,hku,h⟩);unfold jn;rw[this]
        · have hu:u=t:=by simpa using hu
          subst hu;rcases h with ⟨rfl,rfl⟩ | ⟨rfl,rfl⟩
          · rw[ja,jb]
          · rw[ja,jb]
    refine⟨to,eq,fun x y c=>?_⟩;rw[eq x y c];have old:=g.le y y (.refl y);unfold jn;split
    · next h=>
      rcases h with e | e
      · intro z;rw[e] at old;exact old (ztu z (zn1 _ _))
      · intro z;rw[e] at old;exact old (ztu z (zn2 _ _))
    · exact old
  · unfold stp;rw[al7q hk];have back:∀x y,Cn (ts++[t]) x y->Cn ts x y:=by
      intro x y c
      induction c with
      | refl=>exact .refl _
      | step _ n ih=>
        obtain⟨u,hu,hku,h⟩:=n;rcases al28q.mp hu with hu | hu
        · exact ih.step ⟨u,hu,hku,h⟩
        · have hu:u=t:=by simpa using hu
          subst hu;exact absurd hku hk
    exact⟨fun x=>(g.to x).mono sub,fun x y c=>g.eq x y (back x y c),fun x y c=>g.le x y (back x y c)⟩
theorem zkw:∀(ts2 ts:List Tie) (lab:Str->Str),Good ts lab->Good (ts++ts2) (ts2.foldl stp lab)
  | [],ts,lab,g=>by rw[al53q];exact g
  | t::r,ts,lab,g=>by
    have:=zkw r (ts++[t]) (stp lab t) (zn3 g);rw[al130q] at this;exact this
theorem zbc (ts:List Tie):Good ts (labs ts):=zkw ts [] id zqw
theorem zhx {ts:List Tie}{i:Nat}{t:Tie}(h:ts[i]? = some t):labs (ts.take (i+1))=stp (labs (ts.take i)) t:=by
  unfold labs;rw[al9q,h,al152q];rfl
theorem zgv {us:List Str}{ts:List Tie}{x:Str}(hx:x∈us) (ht:∀t∈ts,t.a∈us/\t.b∈us):labs ts x∈us:=((zbc ts).to x).mem hx ht
def dN (us:List Str) (lab:Str->Str):List (Key×V):=us.map fun x=>(Sum.inr x,V.str (lab x))
theorem zb1 {us:List Str}{lab:Str->Str}{x:Str}(h:x∈us):valV (dN us lab) (Sum.inr x)=some (.str (lab x)):=by
  induction us with
  | nil=>cases h
  | cons y r ih=>
    unfold dN;rw[al56q]
    by_cases e:y=x
    · subst e;exact zdf rfl
    · have hx:x∈r:=by
        rcases al14q.mp h with h | h
        · exact absurd h.symm e
        · exact h
      have:=ih hx;unfold valV at this ⊢;rw[List.find?_cons_of_neg (by simpa using e)];exact this
theorem zn4 {us:List Str}{lab:Str->Str}{x y:Str}(h:x∈us):putK (dN us lab) (Sum.inr x) (.str y)=dN us (fun z=>if z=x then y else lab z):=by
  have ha:((dN us lab).any fun kv=>decide (kv.1=(Sum.inr x:Key)))=true:=by
    rw[al116q];exact⟨(Sum.inr x,V.str (lab x)),al27q.mpr ⟨x,h,rfl⟩,al15q rfl⟩
  unfold putK;rw[al11q ha];unfold dN;rw[al75q];apply al87q;intro z _;show (if (Sum.inr z:Key)=Sum.inr x then (Sum.inr z,V.str y) else (Sum.inr z,V.str (lab z)))=_
  by_cases e:z=x
  · subst e;simp
  · rw[al7q (fun q=>e (al193q q))];show _=(Sum.inr z,V.str (if z=x then y else lab z));rw[al7q e]
theorem zsi {us:List Str}{x:Str}(h:x ∉ us):putK (dN us id) (Sum.inr x) (.str x)=dN (us++[x]) id:=by
  have ha:¬((dN us id).any fun kv=>decide (kv.1=(Sum.inr x:Key)))=true:=by
    rw[al116q];rintro ⟨kv,h1,h2⟩;obtain⟨z,hz,rfl⟩:=al27q.mp h1;have h2:z=x:=al193q (al17q h2);subst h2;exact h hz
  unfold putK;rw[al7q ha];unfold dN;rw[al16q];rfl
theorem zct {us:List Str}{f g:Str->Str}(h:∀x∈us,f x=g x):dN us f=dN us g:=by
  unfold dN;apply al87q;intro x hx;rw[h x hx]
theorem zhy (us:List Str) (f:Str->Str):(dN us f).length=us.length:=al1q _
theorem ztv (us:List Str) (f:Str->Str):((dN us f).map fun kv=>kV kv.1)=us.map V.str:=by
  unfold dN;rw[al75q];rfl
theorem zbn {us rs:List Str}(hn:rs.Nodup) (hs:∀x∈rs,x∈us):rs.length<=us.length:=by
  induction rs generalizing us with
  | nil=>simp
  | cons a r ih=>
    rw[al76q] at hn;have ha:=hs a (by simp);have h2:∀x∈r,x∈us.erase a:=fun x hx=>by
      refine (al161q (fun z=>by subst z;exact hn.1 hx)).mpr (hs x (al5q _ hx))
    have:=ih hn.2 h2;rw[al134q ha] at this;have hp:0<us.length:=List.length_pos_of_mem ha;rw[al57q];lia
def zhz (l:List Str):Prop:=l.Pairwise (fun a b=>¬co b<co a)
theorem zd9:∀{a b:List Str},a.Perm b->zhz a->zhz b->a=b
  | [],b,p,_,_=>by rw[List.nil_perm.mp p]
  | x::r,[],p,_,_=>by have:=p.length_eq;cases this
  | x::r,y::r',p,ha,hb=>by
    have hx:x∈y::r':=p.mem_iff.mp (by simp);have hy:y∈x::r:=p.mem_iff.mpr (by simp);have e:x=y:=by
      rcases al14q.mp hx with h | h
      · exact h
      · rcases al14q.mp hy with h2 | h2
        · exact h2.symm
        · exact zex ((al60q.mp hb).1 x h) ((al60q.mp ha).1 y h2)
    subst e;rw[zd9 (List.Perm.cons_inv p) (al60q.mp ha).2 (al60q.mp hb).2]
def insS (x:Str):List Str->List Str
  | []=>[x]
  | y::r=>if co y<co x then y::insS x r else x::y::r
def srt:List Str->List Str
  | []=>[]
  | x::r=>insS x (srt r)
theorem zey (x:Str):∀l,(insS x l).Perm (x::l)
  | []=>.refl _
  | y::r=>by
    unfold insS;split
    · exact ((zey x r).cons y).trans (.swap x y r)
    · exact .refl _
theorem zbt:∀l,(srt l).Perm l
  | []=>.refl _
  | x::r=>(zey x (srt r)).trans ((zbt r).cons x)
theorem zf7 (x:Str):∀l,zhz l->zhz (insS x l)
  | [],_=>al181q ..
  | y::r,h=>by
    unfold insS;obtain⟨h1,h2⟩:=al60q.mp h;split
    · next c=>
      refine al60q.mpr ⟨fun z hz=>?_,zf7 x r h2⟩;rcases al14q.mp ((zey x r).mem_iff.mp hz) with e | hz
      · subst e;exact fun q=>zdh q c
      · exact h1 z hz
    · next c=>
      refine al60q.mpr ⟨fun z hz=>?_,h⟩;rcases al14q.mp hz with e | hz
      · subst e;exact c
      · intro q;exact h1 z hz (ztu q c)
theorem zdi:∀l,zhz (srt l)
  | []=>.nil
  | x::r=>zf7 x (srt r) (zdi r)
theorem zkx {ms us:List Str}(p:ms.Perm us) (h:zhz ms):ms=srt us:=zd9 (p.trans (zbt us).symm) h (zdi us)
theorem zn5 {us vs:List Str}(p:us.Perm vs):srt us=srt vs:=zkx ((zbt us).trans p) (zdi us)
theorem zez {us:List Str}(h:us.Nodup):(srt us).Nodup:=(zbt us).nodup_iff.mpr h
theorem srt_mem {us:List Str}{x:Str}:x∈srt us↔x∈us:=(zbt us).mem_iff
theorem zji (us:List Str):(srt us).length=us.length:=(zbt us).length_eq
theorem zky {us:List Str}(h:us.Nodup):(srt us).Pairwise (fun a b=>co a<co b):=by
  have h1:=zdi us;have h2:=zez h;refine (h1.and h2).imp fun {a b} hq0=>?_
  obtain⟨p,q⟩:=hq0;exact al33q fun k=>q (zex k p)
theorem zqx {ss:List Str}(h:ss.Pairwise (fun a b=>co a<co b)) {i j:Nat}{x y:Str}(hx:ss[i]? = some x) (hy:ss[j]? = some y) (hl:co x<co y):i<j:=by
  obtain⟨hi,ex⟩:=al8q.mp hx;obtain⟨hj,ey⟩:=al8q.mp hy;rcases Nat.lt_trichotomy i j with c | c | c
  · exact c
  · subst c;rw[ex] at ey;subst ey;exact absurd hl (al77q _)
  · have:=(List.pairwise_iff_getElem.mp h) j i hj hi c;rw[ex,ey] at this;exact (zdh hl this).elim
def dV (ks:List Str) (f:Str->V):List (Key×V):=ks.map fun x=>(Sum.inr x,f x)
theorem zba {ks:List Str}{f:Str->V}{x:Str}(h:x∈ks):valV (dV ks f) (Sum.inr x)=some (f x):=by
  induction ks with
  | nil=>cases h
  | cons y r ih=>
    unfold dV;rw[al56q]
    by_cases e:y=x
    · subst e;exact zdf rfl
    · have hx:x∈r:=by
        rcases al14q.mp h with h | h
        · exact absurd h.symm e
        · exact h
      have:=ih hx;unfold valV at this ⊢;rw[List.find?_cons_of_neg (by simpa using e)];exact this
theorem zd0 {ks:List Str}{f:Str->V}{x:Str}(h:x ∉ ks):valV (dV ks f) (Sum.inr x)=none:=by
  unfold valV;rw[List.find?_eq_none.mpr]
  · rfl
  · intro kv hkv;obtain⟨z,hz,rfl⟩:=al27q.mp hkv;intro e;have e:z=x:=al193q (al17q e);subst e;exact h hz
theorem zn6 {ks:List Str}{f:Str->V}{x:Str}{v:V}(h:x∈ks):putK (dV ks f) (Sum.inr x) v=dV ks (fun z=>if z=x then v else f z):=by
  have ha:((dV ks f).any fun kv=>decide (kv.1=(Sum.inr x:Key)))=true:=by
    rw[al116q];exact⟨(Sum.inr x,f x),al27q.mpr ⟨x,h,rfl⟩,al15q rfl⟩
  unfold putK;rw[al11q ha];unfold dV;rw[al75q];apply al87q;intro z _;show (if (Sum.inr z:Key)=Sum.inr x then (Sum.inr z,v) else (Sum.inr z,f z))=(Sum.inr z,if z=x then v else f z)
  by_cases e:z=x
  · subst e;simp
  · rw[al7q (fun q=>e (al193q q)),al7q e]
theorem zdj {ks:List Str}{f:Str->V}{x:Str}{v:V}(h:x ∉ ks):putK (dV ks f) (Sum.inr x) v=dV (ks++[x]) (fun z=>if z=x then v else f z):=by
  have ha:¬((dV ks f).any fun kv=>decide (kv.1=(Sum.inr x:Key)))=true:=by
    rw[al116q];rintro ⟨kv,h1,h2⟩;obtain⟨z,hz,rfl⟩:=al27q.mp h1;have h2:z=x:=al193q (al17q h2);subst h2;exact h hz
  unfold putK;rw[al7q ha];unfold dV;rw[al16q]
  congr 1
  · apply al87q;intro z hz;have:¬z=x:=fun e=>h (e▸hz)
    show _=(Sum.inr z,if z=x then v else f z);rw[al7q this]
  · show [(Sum.inr x,v)] = [(Sum.inr x,if x=x then v else f x)];rw[al11q rfl]
theorem zbd {ks:List Str}{f g:Str->V}(h:∀x∈ks,f x=g x):dV ks f=dV ks g:=by
  unfold dV;apply al87q;intro x hx;rw[h x hx]
theorem zas (ks:List Str) (f:Str->V):(dV ks f).length=ks.length:=al1q _
theorem zgw (ks:List Str) (f:Str->V):((dV ks f).map fun kv=>kV kv.1)=ks.map V.str:=by
  unfold dV;rw[al75q];rfl
theorem ztw (ks:List Str) (f:Str->V):((dV ks f).map (·.2))=ks.map f:=by
  unfold dV;rw[al75q];rfl
def keysOf (ts:List Tie) (ss:List Str):List Str:=ss.filter fun x=>decide (labs ts x=x)
def zci (ts:List Tie) (ss:List Str) (k:Str):List Str:=ss.filter fun x=>decide (labs ts x=k)
def zcd (us:List Str) (ts:List Tie):List (List Str):=(keysOf ts (srt us)).map (zci ts (srt us))
theorem zh0 {ts:List Tie}{ss:List Str}{i:Nat}{u:Str}(h:ss[i]? = some u):keysOf ts (ss.take (i+1))=keysOf ts (ss.take i)++(if labs ts u=u then [u] else []):=by
  unfold keysOf;rw[al9q,h,al91q]
  by_cases c:labs ts u=u
  · rw[al11q c];simp[c]
  · rw[al7q c];simp[c]
theorem zgx {ts:List Tie}{ss:List Str}{i:Nat}{u k:Str}(h:ss[i]? = some u):zci ts (ss.take (i+1)) k=zci ts (ss.take i) k++(if labs ts u=k then [u] else []):=by
  unfold zci;rw[al9q,h,al91q]
  by_cases c:labs ts u=k
  · rw[al11q c];simp[c]
  · rw[al7q c];simp[c]
theorem zdk (ts:List Tie) (x:Str):labs ts (labs ts x)=labs ts x:=((zbc ts).eq x _ ((zbc ts).to x)).symm
theorem zjj (ts:List Tie) (x:Str):¬co x<co (labs ts x):=(zbc ts).le x x (.refl x)
theorem ztx {us:List Str}{ts:List Tie}(nd:us.Nodup) (ht:∀t∈ts,t.a∈us/\t.b∈us) {i:Nat}{u:Str}(h:(srt us)[i]? = some u) (hne:labs ts u≠u):labs ts u∈keysOf ts ((srt us).take i):=by
  have hu:u∈us:=srt_mem.mp (al6q h);have hl:labs ts u∈srt us:=srt_mem.mpr (zgv hu ht);obtain⟨j,hj,ej⟩:=al157q.mp hl;have ej':(srt us)[j]? = some (labs ts u):=by rw[al3q hj,ej]
  have hlt:co (labs ts u)<co u:=al33q fun k=>hne (zex k (zjj ts u))
  have hij:=zqx (zky nd) ej' h hlt;unfold keysOf;rw[al32q];refine⟨?_,al15q (zdk ts u)⟩;rw[al124q];exact⟨j,by lia,ej⟩
theorem zty {us:List Str}{ts:List Tie}(nd:us.Nodup) {i:Nat}{u:Str}(h:(srt us)[i]? = some u):u ∉ keysOf ts ((srt us).take i)/\(labs ts u=u->zci ts ((srt us).take i) u = []):=by
  have hi:=(al8q.mp h).1;have eu:=(al8q.mp h).2;have hlt:∀x∈(srt us).take i,co x<co u:=by
    intro x hx;obtain⟨j,hj,ej⟩:=al124q.mp hx;have:=(List.pairwise_iff_getElem.mp (zky nd)) j i (by lia) hi (by lia);rw[ej,eu] at this;exact this
  refine⟨fun z=>?_,fun e=>?_⟩
  · have:=hlt u (al32q.mp z).1;exact al77q _ this
  · unfold zci;rw[List.filter_eq_nil_iff];intro x hx c;have c:labs ts x=u:=al17q c;have:=zjj ts x;rw[c] at this;exact this (hlt x hx)
section
variable {us:List Str}{ts:List Tie}
theorem keys_mem {k:Str}:k∈keysOf ts (srt us)↔k∈us/\labs ts k=k:=by
  unfold keysOf;rw[al32q,srt_mem,al39q]
theorem zaj (nd:us.Nodup):(keysOf ts (srt us)).Nodup:=(zez nd).sublist (al110q ..)
theorem zn7 (nd:us.Nodup):(keysOf ts (srt us)).Pairwise (fun a b=>co a<co b):=(zky nd).sublist (al110q ..)
theorem zv1 (nd:us.Nodup) (k:Str):(zci ts (srt us) k).Pairwise (fun a b=>co a<co b):=(zky nd).sublist (al110q ..)
theorem grp_mem {k y:Str}:y∈zci ts (srt us) k↔y∈us/\labs ts y=k:=by
  unfold zci;rw[al32q,srt_mem,al39q]
theorem zbu (ht:∀t∈ts,t.a∈us/\t.b∈us) {x:Str}(hx:x∈us):labs ts x∈keysOf ts (srt us):=keys_mem.mpr ⟨zgv hx ht,zdk ts x⟩
theorem zkz (nd:us.Nodup) {k:Str}(hk:k∈keysOf ts (srt us)):∃r,zci ts (srt us) k=k::r:=by
  obtain⟨h1,h2⟩:=keys_mem.mp hk;have hm:k∈zci ts (srt us) k:=grp_mem.mpr ⟨h1,h2⟩;have hp:=zv1 (ts:=ts) nd k;cases e:zci ts (srt us) k with
  | nil=>rw[e] at hm;cases hm
  | cons x r=>
    rw[e] at hm hp;rcases al14q.mp hm with z | z
    · rw[z];exact⟨r,rfl⟩
    · have h3:=(al60q.mp hp).1 k z;have hx:x∈zci ts (srt us) k:=by rw[e];simp
      have h4:=zjj ts x;rw[(grp_mem.mp hx).2] at h4;exact absurd h3 h4
theorem zgy (nd:us.Nodup):(zcd us ts).length<=us.length:=by
  unfold zcd;rw[al1q];have:=al48q (fun x=>decide (labs ts x=x)) (srt us);rw[zji] at this;exact this
end
theorem zqy {xs ys:List Str}(h1:xs.Nodup) (h2:ys.Nodup) (h:∀x,x∈xs↔x∈ys):srt xs=srt ys:=
  zn5 ((List.perm_ext_iff_of_nodup h1 h2).mpr h)
theorem zk0 {one at':Int}{k size:Nat}(h:size<=12):(nmC one at' k 12).take size=nmC one at' k size:=by
  unfold nmC;rw[←al192q,List.take_range,Nat.min_eq_left h]
def nf8 (one at':Int) (tu:Bool) (size k:Nat):Str:=zb6 ((nmC one at' (if tu then k else 0) 12).take (if tu then size else 1+(size+k)%12))
def zf8 (one at':Int) (tu:Bool) (size:Nat):List Str:=(List.range 8).map (nf8 one at' tu size)
theorem zn8 {one at':Int}{tu:Bool}{size:Nat}(h0:0<=at') (h1:at'<size) (h2:1<=size) (h3:size<=12):(zf8 one at' tu size).Nodup/\(∀x∈zf8 one at' tu size,zfk x=true)/\(zf8 one at' tu size).length=8:=by
  refine⟨?_,?_,by unfold zf8;simp⟩
  · unfold zf8;refine zbq fun i j hi hj e=>?_
    unfold nf8 at e;cases tu with
    | true=>
      rw[al11q rfl,al11q rfl,al11q rfl,zk0 h3,zk0 h3] at e;exact ztq h0 h1 (by lia) (by lia) (zhv e)
    | false=>
      rw[al7q al19q,al7q al19q,al7q al19q] at e;have:=al67q List.length (zhv e);simp only [al25q,zdz] at this;lia
  · intro x hx;unfold zf8 at hx;obtain⟨k,hk,rfl⟩:=al27q.mp hx;unfold nf8;refine zqu ?_ ?_ ?_
    · rw[zb7,al25q,zdz];split<;>lia
    · rw[zb7,al25q,zdz];split<;>lia
    · intro c hc;rw[zb7] at hc;exact ztr (al131q hc)
def plc (xs:List Str) (ps:List Int) (x:Str):Int:=ps.getD (xs.idxOf x) 0
theorem zsj {xs:List Str}{ps:List Int}(nd:xs.Nodup) {i:Nat}{x:Str}{p:Int}(hx:xs[i]? = some x) (hp:ps[i]? = some p):plc xs ps x=p:=by
  unfold plc;have hi:=(al8q.mp hx).1;have ex:=(al8q.mp hx).2;have:xs.idxOf x=i:=by
    rw[←ex];exact nd.idxOf_getElem i hi
  rw[this,al30q,hp];rfl
structure Fnd where
  n:Str
  u:Str
  lo:Int
  hi:Int
def fndV (f:Fnd):List V:=[.str f.n,.str f.u,.int f.lo,.int f.hi]
abbrev Ln:=Str->List (Str×ty1q)
def za1 (ts:List Tie) (z:List (Tie×ty1q)):Ln:=fun k=>(z.filter fun p=>decide (p.1.k≠SAME/\labs ts p.1.a=k)).map fun p=>(labs ts p.1.b,p.2)
theorem zk1 {ts:List Tie}{z:List (Tie×ty1q)}{i:Nat}{t:Tie}{r:ty1q}{k:Str}(h:z[i]? = some (t,r)):za1 ts (z.take (i+1)) k=za1 ts (z.take i) k++(if t.k≠SAME/\labs ts t.a=k then [(labs ts t.b,r)] else []):=by
  unfold za1;rw[al9q,h,al91q,al16q]
  by_cases c:t.k≠SAME/\labs ts t.a=k
  · rw[al11q c];simp[c.1,c.2]
  · rw[al7q c]
    congr 1
    have:((some (t,r)).toList.filter fun p=>decide (p.1.k≠SAME/\labs ts p.1.a=k)) = []:=by
      rw[List.filter_eq_nil_iff];intro p hp;have:p=(t,r):=by simpa using hp
      subst this;intro e;exact c (al17q e)
    rw[this];rfl
theorem lnk_mem {ts:List Tie}{z:List (Tie×ty1q)}{k l:Str}{r:ty1q}:(l,r)∈za1 ts z k↔∃t,(t,r)∈z/\t.k≠SAME/\labs ts t.a=k/\labs ts t.b=l:=by
  unfold za1;rw[al27q];constructor
  · rintro ⟨⟨t,r'⟩,h,e⟩;rw[al32q,al39q] at h;simp only [Prod.mk.injEq] at e;obtain⟨e1,e2⟩:=e;subst e2;exact⟨t,h.1,h.2.1,h.2.2,e1⟩
  · rintro ⟨t,h1,h2,h3,h4⟩;refine⟨(t,r),?_,by simp[h4]⟩;rw[al32q,al39q];exact⟨h1,h2,h3⟩
theorem zn9 {ts:List Tie}{z:List (Tie×ty1q)}{k:Str}:(za1 ts z k).length<=z.length:=by
  unfold za1;rw[al1q];exact al48q _ _
inductive Wk (ln:Ln) (s:Str):List ty1q->Str->Prop
  | nil:Wk ln s [] s
  | snoc {rs:List ty1q}{m l:Str}{r:ty1q}(w:Wk ln s rs m) (h:(l,r)∈ln m):Wk ln s (rs++[r]) l
def Rc (ln:Ln) (s:Str) (n:Nat) (v:Str):Prop:=∃rs,Wk ln s rs v/\rs.length=n
theorem Rc.zero {ln:Ln}{s v:Str}(h:Rc ln s 0 v):v=s:=by
  obtain⟨rs,w,e⟩:=h;cases w with
  | nil=>rfl
  | snoc w h=>simp at e
theorem Rc.succ {ln:Ln}{s v:Str}{n:Nat}(h:Rc ln s (n+1) v):∃u r,Rc ln s n u/\(v,r)∈ln u:=by
  obtain⟨rs,w,e⟩:=h;cases w with
  | nil=>simp at e
  | snoc w h=>exact⟨_,_,⟨_,w,by simpa using e⟩,h⟩
theorem Rc.step {ln:Ln}{s v u:Str}{n:Nat}{r:ty1q}(h:Rc ln s n u) (e:(v,r)∈ln u):Rc ln s (n+1) v:=by
  obtain⟨rs,w,q⟩:=h;exact⟨_,w.snoc e,by simp[q]⟩
structure Bf (ln:Ln) (s:Str) (d:Nat) (M ns:List Str):Prop where
  met:∀v∈M,∃j,1<=j/\j<=d/\Rc ln s j v
  no:∀j,1<=j->j<=d->¬Rc ln s j s
  all:∀v,Rc ln s d v->(∀j,1<=j->j<d->¬Rc ln s j v)->v∈ns
theorem Bf.zero {ln:Ln}{s:Str}:Bf ln s 0 [] [s]:=
  ⟨fun v h=>(al43q h).elim,fun j h1 h2=>by lia,fun v h _=>by rw[h.zero];simp⟩
theorem Bf.succ {ln:Ln}{s:Str}{d:Nat}{M ns ms:List Str}(b:Bf ln s d M ns) (hm:∀v∈ms,Rc ln s (d+1) v) (hs:∀u∈ns,∀v r,(v,r)∈ln u->v≠s/\v∈M++ms):Bf ln s (d+1) (M++ms) ms:=by
  refine⟨fun v h=>?_,fun j h1 h2 q=>?_,fun v h hj=>?_⟩
  · rcases al28q.mp h with h | h
    · obtain⟨j,a,c,e⟩:=b.met v h;exact⟨j,a,by lia,e⟩
    · exact⟨d+1,by lia,by lia,hm v h⟩
  · by_cases c:j<=d
    · exact b.no j h1 c q
    · have e:j=d+1:=by lia
      subst e;obtain⟨u,r,hu,he⟩:=q.succ
      by_cases c2:∃j,1<=j/\j<d/\Rc ln s j u
      · obtain⟨j,a1,a2,a3⟩:=c2;exact b.no (j+1) (by lia) (by lia) (a3.step he)
      · exact (hs u (b.all u hu fun j a1 a2 a3=>c2 ⟨j,a1,a2,a3⟩) s r he).1 rfl
  · obtain⟨u,r,hu,he⟩:=h.succ;have hu':u∈ns:=b.all u hu fun j a1 a2 a3=>hj (j+1) (by lia) (by lia) (a3.step he)
    rcases al28q.mp (hs u hu' v r he).2 with h | h
    · obtain⟨j,a1,a2,a3⟩:=b.met v h;exact absurd a3 (hj j a1 (by lia))
    · exact h
theorem Bf.done {ln:Ln}{s:Str}{d:Nat}{M:List Str}(b:Bf ln s d M []):∀j,1<=j->¬Rc ln s j s:=by
  have low:∀j v,1<=j->Rc ln s j v->∃j',1<=j'/\j'<=d/\Rc ln s j' v/\j'<max d 1:=by
    intro j
    induction j with
    | zero=>intro v h;lia
    | succ j ih=>
      intro v _ h;have at_d:Rc ln s d v->∃j',1<=j'/\j'<=d/\Rc ln s j' v/\j'<max d 1:=fun q=>by
        by_cases c:∃j,1<=j/\j<d/\Rc ln s j v
        · obtain⟨i,a1,a2,a3⟩:=c;exact⟨i,a1,by lia,a3,by lia⟩
        · exact nomatch b.all v q fun i a1 a2 a3=>c ⟨i,a1,a2,a3⟩
      by_cases c1:j+1<d
      · exact⟨j+1,by lia,by lia,h,by lia⟩
      · by_cases c2:j+1=d
        · exact at_d (c2▸h)
        · obtain⟨u,r,hu,he⟩:=h.succ
          by_cases c3:j=0
          · have:d=0:=by lia
            subst this;subst c3;exact (nomatch b.all s ⟨[],.nil,rfl⟩ fun i a1 a2 a3=>by lia)
          · obtain⟨j',a1,a2,a3,a4⟩:=ih u (by lia) hu
            by_cases c4:j'+1=d
            · exact at_d (c4▸a3.step he)
            · exact⟨j'+1,by lia,by lia,a3.step he,by lia⟩
  intro j h q;obtain⟨j',a1,a2,a3,_⟩:=low j s h q;exact b.no j' a1 a2 a3
structure Bn (H:Hp) (pd:ty1q) (ob:Obj) (keys:List Str) (ln:Ln) (ad:Str->ty1q) (bs:Str->List ty1q):Prop where
  d:H pd=some (.frz ob (.dK (dV keys fun k=>.ref (ad k))))
  l:∀k∈keys,H (ad k)=some (.lst ((bs k).map V.ref))
  e:∀k∈keys,Paired (fun b (p:Str×ty1q)=>H b=some (.tup [.str p.1,.ref p.2])) (bs k) (ln k)
theorem Bn.same {H H':Hp}{pd:ty1q}{ob:Obj}{keys:List Str}{ln:Ln}{ad:Str->ty1q}{bs:Str->List ty1q}(b:Bn H pd ob keys ln ad bs) (s:Same H H'):Bn H' pd ob keys ln ad bs:=
  ⟨s _ _ b.d,fun k hk=>s _ _ (b.l k hk),fun k hk=>Paired.mapP (b.e k hk) fun _ _ h=>s _ _ h⟩
theorem zbv {α:Type}{F:ty1q->α->Prop}{as:List ty1q}{ps:List α}{i:Nat}{x:V}(t:Paired F as ps) (hx:(as.map V.ref)[i]? = some x):∃q p,x = .ref q/\ps[i]? = some p/\as[i]? = some q/\F q p:=by
  rw[al10q] at hx;cases e:as[i]? with
  | none=>rw[e] at hx;cases hx
  | some q=>
    rw[e] at hx;cases hx;obtain⟨p,h1,h2⟩:=Paired.get' t e;exact⟨q,p,rfl,h1,rfl,h2⟩
def zv2 (H:Hp) (b:ty1q) (e:Str×List ty1q):Prop:=∃q,H b=some (.tup [.str e.1,.ref q])/\H q=some (.lst (e.2.map V.ref))
def WayN (pl:ty1q) (H:Hp) (b:ty1q) (e:Str×List ty1q):Prop:=∃q,q≠pl/\H b=some (.tup [.str e.1,.ref q])/\H q=some (.lst (e.2.map V.ref))
def tru:Str->V:=fun _=>.bl true
theorem zsk {M:List Str}{v:Str}(h:v ∉ M):putK (dV M tru) (Sum.inr v) (.bl true)=dV (M++[v]) tru:=by
  rw[zdj h];refine zbd fun z _=>?_
  unfold tru;split<;>rfl
structure Grow (Hw H':Hp) (pm pl:ty1q) (ln:Ln) (s:Str) (keys M:List Str) (d:Nat) (ml:List ty1q) (fs:List (Str×List ty1q)):Prop where
  kp:∀b o,b≠pm->Hw b=some o->H' b=some o
  m:H' pm=some (.dK (dV (M++fs.map Prod.fst) tru))
  l:H' pl=some (.lst (ml.map V.ref))
  w:Paired (WayN pl H') ml fs
  ok:∀e∈fs,Wk ln s e.2 e.1/\e.2.length=d+1/\e.1∈keys
  nd:(M++fs.map Prod.fst).Nodup
section
variable {Hw H':Hp}{pm pl:ty1q}{ln:Ln}{s:Str}{keys M:List Str}{d:Nat}{ml:List ty1q}{fs:List (Str×List ty1q)}
theorem Grow.add (g:Grow Hw H' pm pl ln s keys M d ml fs) (hw:Hw pl=none) (npl:pl≠pm) {v:Str}{rs:List ty1q}(hv:v ∉ M++fs.map Prod.fst) {H2:Hp}(s2:Same (upd H' pm (.dK (dV (M++fs.map Prod.fst++[v]) tru))) H2) {q b:ty1q}
    (hq:H2 q=some (.lst (rs.map V.ref))) (nq:q≠pl) (hb:H2 b=some (.tup [.str v,.ref q])) (ok:Wk ln s rs v/\rs.length=d+1/\v∈keys) :
    Grow Hw (upd H2 pl (.lst (ml.map V.ref++[.ref b]))) pm pl ln s keys M d (ml++[b]) (fs++[(v,rs)]):=by
  have l2:H2 pl=some (.lst (ml.map V.ref)):=s2 _ _ (by rw[zl npl];exact g.l);have ntup:∀b vs,H2 b=some (.tup vs)->b≠pl:=fun b vs e z=>by rw[z,l2] at e;cases e
  refine⟨fun c o n e=>?_,?_,?_,?_,fun e he=>?_,?_⟩
  · rw[zl (zi e hw)];exact s2 _ _ (by rw[zl n];exact g.kp c o n e)
  · rw[zl (al36q npl),al16q,←al130q];exact s2 _ _ zb
  · rw[zb,al16q];rfl
  · refine Paired.snoc (Paired.mapP g.w fun c e h=>?_) ?_
    · obtain⟨q',n',h1,h2⟩:=h;have h1':=s2 _ _ (show upd H' pm (.dK (dV (M++fs.map Prod.fst++[v]) tru)) c=_ by rw[zl (fun z=>by rw[z,g.m] at h1;cases h1)];exact h1);have h2':=s2 _ _ (show upd H' pm (.dK (dV (M++fs.map Prod.fst++[v]) tru)) q'=_ by rw[zl (fun z=>by rw[z,g.m] at h2;cases h2)];exact h2);exact⟨q',n',by rw[zl (ntup _ _ h1')];exact h1',by rw[zl n'];exact h2'⟩
    · exact⟨q,nq,by rw[zl (ntup _ _ hb)];exact hb,by rw[zl nq];exact hq⟩
  · rcases al28q.mp he with he | he
    · exact g.ok e he
    · have:e=(v,rs):=by simpa using he
      subst this;exact ok
  · rw[al16q,←al130q];rw[al108q];refine⟨g.nd,by simp,fun a ha c hc e=>?_⟩;have hc:c=v:=by simpa using hc
    subst hc;subst e;exact hv ha
end
theorem Bn.get {H:Hp}{pd:ty1q}{ob:Obj}{keys:List Str}{ln:Ln}{ad:Str->ty1q}{bs:Str->List ty1q}(b:Bn H pd ob keys ln ad bs) {k:Str}(hk:k∈keys):DGet H pd (.str k) (some (.ref (ad k))):=by
  have:DGet H pd (kV (Sum.inr k)) (valV (dV keys fun k=>.ref (ad k)) (Sum.inr k)):=.inl ⟨_,_,.inr ⟨ob,b.d⟩,rfl,rfl⟩
  rwa [zba hk] at this
def Shr (ln:Ln) (s:Str) (rs:List ty1q):Prop:=(rs = []/\∀j,1<=j->¬Rc ln s j s)\/(rs≠[]/\Wk ln s rs s/\∀j,1<=j->j<rs.length->¬Rc ln s j s)
def Rnd (ln:Ln) (keys:List Str) (rs:List ty1q):Prop:=(rs = []/\∀s∈keys,∀j,1<=j->¬Rc ln s j s)\/(rs≠[]/\(∃s∈keys,Wk ln s rs s)/\∀s∈keys,∀j,1<=j->j<rs.length->¬Rc ln s j s)
theorem Rnd.nil {ln:Ln}:Rnd ln [] []:=.inl ⟨rfl,fun s h=>(al43q h).elim⟩
theorem Rnd.step {ln:Ln}{keys:List Str}{u:Str}{rs xs:List ty1q}(h:Rnd ln keys rs) (g:Shr ln u xs):Rnd ln (keys++[u]) (if xs≠[]/\(rs = []\/xs.length<rs.length) then xs else rs):=by
  have mem:∀{s:Str},s∈keys++[u]->s∈keys\/s=u:=fun h=>by simpa using h
  have low:∀{n:Nat},n<=xs.length\/xs = []->∀j,1<=j->j<n->¬Rc ln u j u:=fun hn j h1 h2=>by
    rcases g with ⟨e,g⟩ | ⟨e,_,g⟩
    · exact g j h1
    · exact g j h1 (by rcases hn with hn | hn;lia;exact absurd hn e)
  by_cases c:xs≠[]/\(rs = []\/xs.length<rs.length)
  · rw[al11q c];rcases g with ⟨e,_⟩ | ⟨_,g1,g2⟩
    · exact absurd e c.1
    · refine .inr ⟨c.1,⟨u,by simp,g1⟩,fun s hs j h1 h2=>?_⟩;rcases mem hs with hs | rfl
      · rcases h with ⟨_,h⟩ | ⟨hn,_,h⟩
        · exact h s hs j h1
        · rcases c.2 with z | z
          · exact absurd z hn
          · exact h s hs j h1 (by lia)
      · exact g2 j h1 h2
  · rw[al7q c];rcases h with ⟨e,h⟩ | ⟨hn,⟨s,hs,hw⟩,h⟩
    · have ex:xs = []:=al33q fun z=>c ⟨z,.inl e⟩
      refine .inl ⟨e,fun s hs j h1=>?_⟩;rcases mem hs with hs | rfl
      · exact h s hs j h1
      · rcases g with ⟨_,g⟩ | ⟨z,_⟩
        · exact g j h1
        · exact absurd ex z
    · refine .inr ⟨hn,⟨s,al55q _ hs,hw⟩,fun s hs j h1 h2=>?_⟩;rcases mem hs with hs | rfl
      · exact h s hs j h1 h2
      · refine low (n:=rs.length) ?_ j h1 h2
        by_cases z:xs = []
        · exact .inr z
        · exact .inl (Nat.le_of_not_lt fun q=>c ⟨z,.inr q⟩)
theorem zf9 {us:List Str}{ts:List Tie}{ads:List ty1q}(ht:∀t∈ts,t.a∈us/\t.b∈us):∀k∈keysOf ts (srt us),∀l r,(l,r)∈za1 ts (ts.zip ads) k->l∈keysOf ts (srt us):=by
  intro k _ l r h;obtain⟨t,h1,_,_,rfl⟩:=lnk_mem.mp h;exact zbu ht (ht t (al109q h1).1).2
theorem zjk {ks:List Str}{f:Str->V}{i:Nat}{k:Key}{v:V}(h:(dV ks f)[i]? = some (k,v)):∃u,ks[i]? = some u/\k=Sum.inr u/\v=f u:=by
  unfold dV at h;rw[al10q] at h;cases e:ks[i]? with
  | none=>rw[e] at h;cases h
  | some u=>
    rw[e] at h;cases h;exact⟨u,rfl,rfl,rfl⟩
theorem grown {us:List Str}(P:Nat->Str->Bool) (mono:∀k x,P k x=true->P (k+1) x=true) (prog:∀k,(∃x∈us,P k x=false)->∃z∈us,P k z=false/\P (k+1) z=true):∀x∈us,P us.length x=true:=by
  intro x hx;refine al33q fun hn=>?_
  have hn:P us.length x=false:=by simpa using hn
  have back:∀k,k<=us.length->P k x=false:=by
    intro k hk;cases e:P k x with
    | false=>rfl
    | true=>
      have:∀j,P (k+j) x=true:=by
        intro j
        induction j with
        | zero=>exact e
        | succ j ih=>exact mono _ _ ih
      have:=this (us.length-k);rw[show k+(us.length-k)=us.length by lia,hn] at this;cases this
  have cnt:∀k,k<=us.length->k<=us.countP (P k):=by
    intro k
    induction k with
    | zero=>intro _;exact al73q _
    | succ k ih=>
      intro hk;have h1:=ih (by lia);obtain⟨z,hz,z1,z2⟩:=prog k ⟨x,hx,back k (by lia)⟩;have h2:us.countP (P k)<us.countP (P (k+1)):=by
        have gen:∀(l:List Str),us.Sublist us->(∀y∈l,P k y=true->P (k+1) y=true)->z∈l->l.countP (P k)<l.countP (P (k+1)):=by
          intro l _ hm hz
          induction l with
          | nil=>cases hz
          | cons y r ihr=>
            rw[List.countP_cons,List.countP_cons];have le:r.countP (P k)<=r.countP (P (k+1)):=List.countP_mono_left fun y hy e=>hm y (al5q _ hy) e
            rcases al14q.mp hz with e | hz
            · subst e;rw[z1,z2];simp;lia
            · have:=ihr (fun y hy=>hm y (al5q _ hy)) hz;have h3:(if P k y=true then 1 else 0)<=(if P (k+1) y=true then 1 else 0):=by
                by_cases c:P k y=true
                · rw[al11q c,al11q (hm y (by simp) c)];exact al18q _
                · rw[al7q c];exact al73q _
              lia
        exact gen us (List.Sublist.refl _) (fun y _=>mono k y) hz
      lia
  have h1:=cnt us.length (al18q _);have h2:us.countP (P us.length)<us.length:=by
    have:=List.countP_le_length (p:=P us.length) (l:=us);rcases Nat.lt_or_ge (us.countP (P us.length)) us.length with h | h
    · exact h
    · have e:us.countP (P us.length)=us.length:=by lia
      rw[List.countP_eq_length] at e;have:=e x hx;rw[hn] at this;cases this
  lia
def lst1 (lab:Str->Str) (t:Tie):Str->Str:=if t.k=SAME then fun x=>if x=t.a\/x=t.b then minS (lab t.a) (lab t.b) else lab x else lab
def zb8 (ts:List Tie) (lab:Str->Str):Str->Str:=ts.foldl lst1 lab
def litr (ts:List Tie):Nat->Str->Str
  | 0=>id
  | n+1=>zb8 ts (litr ts n)
theorem zga {ts:List Tie}{lab:Str->Str}{i:Nat}{t:Tie}(h:ts[i]? = some t):zb8 (ts.take (i+1)) lab=lst1 (zb8 (ts.take i) lab) t:=by
  unfold zb8;rw[al9q,h,al152q];rfl
def Lto (ts:List Tie) (lab:Str->Str):Prop:=∀x,Cn ts x (lab x)
theorem ztz {ts:List Tie}{lab:Str->Str}{t:Tie}(ht:t∈ts) (h:Lto ts lab):Lto ts (lst1 lab t):=by
  intro x;unfold lst1;split
  · next hk=>
    have n:Nb ts t.a t.b:=⟨t,ht,hk,.inl ⟨rfl,rfl⟩⟩;dsimp only;split
    · next hx=>
      rcases hx with rfl | rfl
      · rcases zjh (lab t.a) (lab t.b) with e | e
        · rw[e];exact h _
        · rw[e];exact (Cn.one n).trans (h _)
      · rcases zjh (lab t.a) (lab t.b) with e | e
        · rw[e];exact (Cn.one n.symm).trans (h _)
        · rw[e];exact h _
    · exact h x
  · exact h x
theorem zqz {x y z:Str}(h1:¬co x<co y) (h2:¬co y<co z):¬co x<co z:=by
  rw[List.not_lt] at *;exact List.le_trans h2 h1
theorem zt0 (lab:Str->Str) (t:Tie) (x:Str):¬co (lab x)<co (lst1 lab t x):=by
  unfold lst1;split
  · dsimp only;split
    · next hx=>
      rcases hx with rfl | rfl
      · exact zn1 _ _
      · exact zn2 _ _
    · exact al77q _
  · exact al77q _
theorem zk2 {ts:List Tie}:∀(us:List Tie) (lab:Str->Str),(∀t∈us,t∈ts)->Lto ts lab->Lto ts (zb8 us lab)
  | [],lab,_,h=>h
  | t::r,lab,hs,h=>zk2 r (lst1 lab t) (fun u hu=>hs u (al5q _ hu)) (ztz (hs t (by simp)) h)
theorem zdl:∀(us:List Tie) (lab:Str->Str) (x:Str),¬co (lab x)<co (zb8 us lab x)
  | [],lab,x=>al77q _
  | t::r,lab,x=>zqz (zt0 lab t x) (zdl r (lst1 lab t) x)
theorem zq0 {ts:List Tie}(lab:Str->Str) {y z:Str}(n:Nb ts y z):¬co (lab y)<co (zb8 ts lab z):=by
  obtain⟨t,ht,hk,h⟩:=n;obtain⟨A,B,e⟩:=List.append_of_mem ht;subst e;have e:zb8 (A++t::B) lab=zb8 B (lst1 (zb8 A lab) t):=by unfold zb8;rw[al152q];rfl
  rw[e];refine zqz ?_ (zdl B _ z);unfold lst1;rw[al11q hk]
  try dsimp only
  rcases h with ⟨rfl,rfl⟩ | ⟨rfl,rfl⟩
  · rw[al11q (.inr rfl)];exact zqz (zdl A lab _) (zn1 _ _)
  · rw[al11q (.inl rfl)];exact zqz (zdl A lab _) (zn2 _ _)
theorem zoa (ts:List Tie):∀n,Lto ts (litr ts n)
  | 0=>fun x=>.refl x
  | n+1=>zk2 ts _ (fun _ h=>h) (zoa ts n)
theorem zob (ts:List Tie) (n:Nat) (x:Str):¬co (litr ts n x)<co (labs ts x):=(zbc ts).le x _ (zoa ts n x)
theorem zq1 {us:List Str}{ts:List Tie}(ht:∀t∈ts,t.a∈us/\t.b∈us):∀x∈us,litr ts us.length x=labs ts x:=by
  intro x hx;have mono:∀k x,litr ts k x=labs ts x->litr ts (k+1) x=labs ts x:=fun k x e=>by
    have h1:=zdl ts (litr ts k) x;rw[e] at h1;exact zex (zob ts (k+1) x) h1
  have:=grown (us:=us) (fun k x=>decide (litr ts k x=labs ts x)) (fun k x e=>al15q (mono k x (al17q e))) ?_ x hx
  · exact al17q this
  · rintro k ⟨x,hx,e⟩;have e:¬litr ts k x=labs ts x:=al92q e;have top:litr ts k (labs ts x)=labs ts (labs ts x):=by
      clear e;rename_i e;clear e
      induction k with
      | zero=>rw[zdk];rfl
      | succ k ih=>exact mono k _ ih
    have c:Cn ts (labs ts x) x:=((zbc ts).to x).symm;have walk:∀y,Cn ts (labs ts x) y->litr ts k y≠labs ts y->∃a b,Nb ts a b/\litr ts k a=labs ts a/\litr ts k b≠labs ts b:=by
      intro y c
      induction c with
      | refl=>intro h;exact absurd top h
      | @step y z c n ih=>
        intro h
        by_cases q:litr ts k y=labs ts y
        · exact⟨y,z,n,q,h⟩
        · exact ih q
    obtain⟨a,b,n,ha,hb⟩:=walk x c e;refine⟨b,n.mem ht,al22q hb,al15q ?_⟩;have h1:=zq0 (ts:=ts) (litr ts k) n;rw[ha,(zbc ts).eq a b (Cn.one n)] at h1;exact zex (zob ts (k+1) b) h1
theorem Wk.seq {ln:Ln}{s t:Str}{rs:List ty1q}(w:Wk ln s rs t):∃vs:Nat->Str,vs 0=s/\vs rs.length=t/\∀i,i<rs.length->∃r,rs[i]? = some r/\(vs (i+1),r)∈ln (vs i):=by
  induction w with
  | nil=>exact⟨fun _=>s,rfl,rfl,fun i h=>by simp at h⟩
  | @snoc rs m l r w h ih=>
    obtain⟨vs,h0,h1,h2⟩:=ih;refine⟨fun i=>if i=rs.length+1 then l else vs i,?_,?_,fun i hi=>?_⟩
    · dsimp only;rw[al7q (by lia)];exact h0
    · dsimp only;rw[al11q (by simp)]
    · dsimp only;rw[al20q] at hi;have hi:i<rs.length+1:=hi
      by_cases c:i=rs.length
      · subst c;rw[al11q rfl,al7q (by lia),h1];exact⟨r,by simp,h⟩
      · obtain⟨r',e,q⟩:=h2 i (by lia);rw[al7q (by lia),al7q (by lia)];exact⟨r',by rw[al123q (by lia)];exact e,q⟩
theorem zh1 {ln:Ln}{F:List Str}(hn:F≠[]) (h:∀x∈F,∃y∈F,∃r,(y,r)∈ln x):∃s∈F,∃j,1<=j/\Rc ln s j s:=by
  obtain⟨x0,h0⟩:=List.exists_mem_of_ne_nil F hn;have hf:∃f:Str->Str,∀x∈F,f x∈F/\∃r,(f x,r)∈ln x:=by
    refine⟨fun x=>if c:x∈F then (h x c).choose else x,fun x hx=>?_⟩;dsimp only;rw[dif_pos hx];exact (h x hx).choose_spec
  obtain⟨f,hf⟩:=hf
  let x:Nat->Str:=fun n=>Nat.rec x0 (fun _ y=>f y) n
  have hx:∀n,x n∈F:=by
    intro n
    induction n with
    | zero=>exact h0
    | succ n ih=>exact (hf _ ih).1
  have go:∀i d,Rc ln (x i) d (x (i+d)):=by
    intro i d
    induction d with
    | zero=>exact⟨[],.nil,rfl⟩
    | succ d ih=>
      obtain⟨r,e⟩:=(hf _ (hx (i+d))).2;exact ih.step e
  have rep:∃i j,i<j/\x i=x j:=by
    refine al164q fun hn=>?_
    have nd:((List.range (F.length+1)).map x).Nodup:=zbq fun i j _ _ e=>by
      rcases Nat.lt_trichotomy i j with c | c | c
      · exact absurd ⟨i,j,c,e⟩ hn
      · exact c
      · exact absurd ⟨j,i,c,e.symm⟩ hn
    have:=zbn nd (us:=F) fun y hy=>by
      obtain⟨i,_,rfl⟩:=al27q.mp hy;exact hx i
    simp at this;lia
  obtain⟨i,j,hij,e⟩:=rep;refine⟨x i,hx i,j-i,by lia,?_⟩;have:=go i (j-i)
  rwa [show i+(j-i)=j by lia,←e] at this
structure Tel (K:ty0q) (H:Hp) (p pu pt:ty1q) (x y:V) (us:List Str) (ads:List ty1q) (ts:List Tie):Prop where
  p:SqT K H p [x,.ref pu,.ref pt,y]
  u:SqL K H pu (us.map V.str)
  t:SqL K H pt (ads.map V.ref)
  tt:Tups H ads (ts.map tieV)
  nd:us.Nodup
  ul:us.length<64
  tl:ts.length<=900
  ok:∀t∈ts,TOk us t
section
variable {K:ty0q}{H H':Hp}{p pu pt:ty1q}{x y:V}{us:List Str}{ads:List ty1q}{ts:List Tie}
theorem Tel.same (h:Tel K H p pu pt x y us ads ts) (s:Same H H'):Tel K H' p pu pt x y us ads ts:=⟨s.tup h.p,s.seq h.u,s.seq h.t,h.tt.same s,h.nd,h.ul,h.tl,h.ok⟩
theorem Tel.ends (h:Tel K H p pu pt x y us ads ts):∀t∈ts,t.a∈us/\t.b∈us:=fun t ht=>⟨(h.ok t ht).a,(h.ok t ht).b⟩
theorem Tel.len (h:Tel K H p pu pt x y us ads ts):ads.length=ts.length:=by have:=h.tt.len;rw[al1q] at this;exact this
theorem Tel.klen (h:Tel K H p pu pt x y us ads ts):(keysOf ts (srt us)).length<=63:=by
  have:=zgy (us:=us) (ts:=ts) h.nd;have:=h.ul;unfold zcd at *;rw[al1q] at *;lia
end
def zls:Str:="after"
def zx (t:Tie):Int:=t.g.getD 0
theorem TOk.after {us:List Str}{t:Tie}(h:TOk us t) (e:t.k=zls):atI (tieV t) 3=some (.int (zx t)):=by
  have h:=h.ok;obtain⟨k,a,b,g⟩:=t;cases g with
  | some n=>exact zbk (xs:=tieV ⟨k,a,b,some n⟩) (j:=3) rfl
  | none=>
    exfalso;unfold tieV at h;simp only at h e;subst e;cases h with
    | plain hk hx hy=>revert hk;decide
theorem TOk.plain {us:List Str}{t:Tie}(h:TOk us t) (e:t.k≠zls):zx t=0:=by
  have h:=h.ok;obtain⟨k,a,b,g⟩:=t;cases g with
  | none=>rfl
  | some n=>
    exfalso;unfold tieV at h;simp only at h e;generalize ew:([V.str k,V.str a,V.str b,V.int n]:List V)=ws at h;cases h with
    | plain hk hx hy=>simp at ew
    | after hx hy h0 h1=>
      simp only [List.cons.injEq,V.str.injEq] at ew;exact e ew.1
def lnkR (ts:List Tie) (z:List (Tie×ty1q)):List (List V):=(z.filter fun p=>decide (p.1.k≠SAME)).map fun p=>[.str (labs ts p.1.a),.str (labs ts p.1.b),.int (zx p.1),.ref p.2]
theorem zh2 {ts:List Tie}{z:List (Tie×ty1q)}{i:Nat}{t:Tie}{r:ty1q}(h:z[i]? = some (t,r)):lnkR ts (z.take (i+1))=lnkR ts (z.take i)++(if t.k≠SAME then [[.str (labs ts t.a),.str (labs ts t.b),.int (zx t),.ref r]] else []):=by
  unfold lnkR;rw[al9q,h,al91q,al16q]
  by_cases c:t.k≠SAME
  · rw[al11q c];simp[c]
  · rw[al7q c];simp[c]
theorem zq2 {ts:List Tie}{z:List (Tie×ty1q)}:(lnkR ts z).length<=z.length:=by
  unfold lnkR;rw[al1q];exact al48q _ _
abbrev Lrow:=Str×Str×Int×ty1q
def lrV (q:Lrow):List V:=[.str q.1,.str q.2.1,.int q.2.2.1,.ref q.2.2.2]
def lnkL (ts:List Tie) (z:List (Tie×ty1q)):List Lrow:=(z.filter fun p=>decide (p.1.k≠SAME)).map fun p=>(labs ts p.1.a,labs ts p.1.b,zx p.1,p.2)
theorem zt1 (ts:List Tie) (z:List (Tie×ty1q)):lnkR ts z=(lnkL ts z).map lrV:=by
  unfold lnkR lnkL;rw[al75q];rfl
theorem Rnd.nil_iff {ln:Ln}{keys:List Str}{rs:List ty1q}(h:Rnd ln keys rs):rs≠[]↔∃s∈keys,∃j,1<=j/\Rc ln s j s:=by
  rcases h with ⟨e,h⟩ | ⟨e,⟨s,hs,w⟩,_⟩
  · exact⟨fun z=>absurd e z,fun ⟨s,hs,j,hj,r⟩=>absurd r (h s hs j hj)⟩
  · exact⟨fun _=>⟨s,hs,_,al167q.mpr e,_,w,rfl⟩,fun _=>e⟩
def NoR (ln:Ln) (keys:List Str):Prop:=∀s∈keys,∀j,1<=j->¬Rc ln s j s
def zee (M:List Str) (L:List (Str×ty1q)):Bool:=L.all fun p=>decide (p.1∈M)
def zd1 (ln:Ln) (keys M:List Str):List Str:=keys.filter fun x=>decide (x ∉ M)&&zee M (ln x)
theorem zoc {M:List Str}{L:List (Str×ty1q)}:zee M L=true↔∀l r,(l,r)∈L->l∈M:=by
  unfold zee;rw[al52q];constructor
  · intro h l r hm;exact al17q (h (l,r) hm)
  · intro h p hp;exact al15q (h p.1 p.2 hp)
theorem frees_mem {ln:Ln}{keys M:List Str}{x:Str}:x∈zd1 ln keys M↔x∈keys/\x ∉ M/\∀l r,(l,r)∈ln x->l∈M:=by
  unfold zd1;rw[al32q,al42q,al39q,zoc]
theorem zq3 {ln:Ln}{keys M:List Str}(cl:∀k∈keys,∀l r,(l,r)∈ln k->l∈keys) (nr:NoR ln keys) (hx:∃x∈keys,x ∉ M):zd1 ln keys M≠[]:=by
  intro z;obtain⟨x,h1,h2⟩:=hx;obtain⟨s,hs,j,hj,r⟩:=zh1 (ln:=ln) (F:=keys.filter fun x=>decide (x ∉ M)) (List.ne_nil_of_mem (al32q.mpr ⟨h1,al15q h2⟩)) fun y hy=>by
    rw[al32q,al39q] at hy;refine al164q fun hn=>?_
    have:y∈zd1 ln keys M:=frees_mem.mpr ⟨hy.1,hy.2,fun l r hl=>al33q fun q=>hn ⟨l,al32q.mpr ⟨cl y hy.1 l r hl,al15q q⟩,r,hl⟩⟩;rw[z] at this;cases this
  exact nr s (al32q.mp hs).1 j hj r
structure Ord (ln:Ln) (keys os:List Str):Prop where
  nd:os.Nodup
  sub:∀x∈os,x∈keys
  low:∀(i:Nat) o,os[i]? = some o->∀l r,(l,r)∈ln o->l∈os.take i
  least:∀(i:Nat) o,os[i]? = some o->∀x∈keys,x ∉ os.take i->(∀l r,(l,r)∈ln x->l∈os.take i)->¬co x<co o
theorem Ord.nil {ln:Ln}{keys:List Str}:Ord ln keys []:=⟨by simp,by simp,by simp,by simp⟩
theorem Ord.snoc {ln:Ln}{keys os:List Str}{u:Str}{r:List Str}(h:Ord ln keys os) (kl:keys.Pairwise (fun a b=>co a<co b)) (hu:zd1 ln keys os=u::r):Ord ln keys (os++[u]):=by
  have hm:u∈zd1 ln keys os:=by rw[hu];simp
  obtain⟨m1,m2,m3⟩:=frees_mem.mp hm;have at':∀(i:Nat) o,(os++[u])[i]? = some o->(i<os.length/\os[i]? = some o/\(os++[u]).take i=os.take i)\/(i=os.length/\o=u/\(os++[u]).take i=os):=by
    intro i o e
    by_cases c:i<os.length
    · rw[al123q c] at e;exact .inl ⟨c,e,by rw[List.take_append_of_le_length (by lia)]⟩
    · have hi:=(al8q.mp e).1;rw[al20q] at hi;have hi:i<os.length+1:=hi;have:i=os.length:=by lia
      subst this;simp at e;exact .inr ⟨rfl,e.symm,by simp⟩
  refine⟨?_,fun x hx=>?_,fun i o e l r' hl=>?_,fun i o e x hx hn hl=>?_⟩
  · rw[al108q];refine⟨h.nd,by simp,fun a ha b hb e=>?_⟩;have hb:b=u:=by simpa using hb
    subst hb;subst e;exact m2 ha
  · rcases al28q.mp hx with hx | hx
    · exact h.sub x hx
    · have:x=u:=by simpa using hx
      rw[this];exact m1
  · rcases at' i o e with ⟨c,e',et⟩ | ⟨c,rfl,et⟩
    · rw[et];exact h.low i o e' l r' hl
    · rw[et];exact m3 l r' hl
  · rcases at' i o e with ⟨c,e',et⟩ | ⟨c,rfl,et⟩
    · rw[et] at hn hl;exact h.least i o e' x hx hn hl
    · rw[et] at hn hl;have hxf:x∈zd1 ln keys os:=frees_mem.mpr ⟨hx,hn,hl⟩;have pw:(zd1 ln keys os).Pairwise (fun a b=>co a<co b):=kl.sublist (al110q ..);rw[hu] at hxf pw;rcases al14q.mp hxf with rfl | hxf
      · exact al77q _
      · exact fun z=>zdh z ((al60q.mp pw).1 x hxf)
theorem Ord.perm {ln:Ln}{keys os:List Str}(h:Ord ln keys os) (kn:keys.Nodup) (hl:os.length=keys.length):os.Perm keys:=by
  rw[List.perm_ext_iff_of_nodup h.nd kn];intro x;refine⟨h.sub x,fun hx=>?_⟩;refine al33q fun hn=>?_
  have:=zbn (us:=keys) (rs:=x::os) (al76q.mpr ⟨hn,h.nd⟩) fun y hy=>by
    rcases al14q.mp hy with rfl | hy
    · exact hx
    · exact h.sub y hy
  rw[al57q] at this;lia
theorem zod {ts:List Tie}{pl:Str->Int}(h:∀t∈ts,(t.k=SAME->pl t.a=pl t.b)/\(¬t.k=SAME->pl t.b<pl t.a)) {x y:Str}(c:Cn ts x y):pl x=pl y:=by
  induction c with
  | refl=>rfl
  | step _ n ih=>
    obtain⟨t,ht,hk,h2⟩:=n;have:=(h t ht).1 hk;rcases h2 with ⟨rfl,rfl⟩ | ⟨rfl,rfl⟩
    · rw[ih,this]
    · rw[ih,this]
theorem zq4 {us:List Str}{ts:List Tie}{ads:List ty1q}{pl:Str->Int}(h:∀t∈ts,(t.k=SAME->pl t.a=pl t.b)/\(¬t.k=SAME->pl t.b<pl t.a)):NoR (za1 ts (ts.zip ads)) (keysOf ts (srt us)):=by
  have step:∀(n:Nat) s v,Rc (za1 ts (ts.zip ads)) s n v->pl v+n<=pl s:=by
    intro n
    induction n with
    | zero=>intro s v q;rw[q.zero];simp
    | succ n ih=>
      intro s v q;obtain⟨u,r,hu,he⟩:=q.succ;have h1:=ih s u hu;obtain⟨t,hz,hk,ha,hb⟩:=lnk_mem.mp he;have h2:=(h t (al109q hz).1).2 hk;have h3:=zod h ((zbc ts).to t.a);have h4:=zod h ((zbc ts).to t.b);rw[ha] at h3;rw[hb] at h4;lia
  intro s _ j hj q;have:=step j s s q;lia
end Dm
namespace L2
open PySem PySem.Spec PyProof.Rows
theorem zq5 {prog:ty4q}{w:World}{A:Around}{P:Nat->ty3q->Prop}(val:Nat->Str) (hval:∀i v,P i v->∃t,v=Value.str (val i) t) :
    CmpOf prog w A .Lt P (fun i j=>decide ((val i).cps.toList<(val j).cps.toList)):=fun i j vi vj s Q E hi hj h=>by
  obtain⟨t,rfl⟩:=hval i vi hi;obtain⟨u,rfl⟩:=hval j vj hj;exact richCompare_gives (op:=.Lt) (typeIs_str s _ t) (typeIs_str s _ u) PySem.F.slot_str_lt PySem.F.entry_str_lt (PySem.F.args_str_lt_2 _ _) (gives_str_lt _ _ t u) (fun x=>nomatch x) h
theorem zh3 {prog:ty4q}{w:World}{A:Around}{E:ty90q}{s:ty2q}{a b:Str}{t u:Tok}{Q:ty90q}(hh:A.handled=none)
    (h:∀h' tk,(∀c o,s.heap.get? c=some o->h'.get? c=some o)->Q (if b.cps.toList<a.cps.toList then .str b u else .str a t) { s with heap:=h',toks:=tk }) :
    wpAny (model prog w) A (call (.builtin "min") [.str a t,.str b u]) Q E s:=by
  have hT:(s.heap.push { cls:=.type "tuple",data:=.seq #[.str a t,.str b u] }).IsTuple s.heap.objs.size #[.str a t,.str b u]:=⟨_,al12q _ rfl,rfl,0,rfl⟩;refine call_min_two (wpAny_pyIter_tuple hT ?_);have hsz:(s.heap.push { cls:=.type "tuple",data:=.seq #[.str a t,.str b u] }).objs.size=s.heap.objs.size+1:=al82q ..;refine⟨_,[_,s.heap.objs.size],[_],_,_,_,_,rfl,Walks.tuple (A:=A.in1) hh _ s.heap.objs.size (by rw[hsz];exact al26q (al115q _)) #[.str a t,.str b u],
    ⟨⟨_,al12q _ rfl,rfl,rfl⟩,hT.push _⟩,fun c hc=>?_,(by show 0<2;decide),zq5 (fun i=>if i=0 then a else b) (fun i v e=>?_),fun v h' tk hP hk=>?_⟩
  · show c<((s.heap.push _).push _).objs.size;rw[al82q,hsz];rcases al14q.mp hc with rfl | hc
    · rw[hsz];exact al115q _
    · rcases al14q.mp hc with rfl | hc
      · exact al79q (al115q _)
      · cases hc
  · match i,e with
    | 0,e=>cases e;exact⟨t,rfl⟩
    | 1,e=>cases e;exact⟨u,rfl⟩
    | i+2,e=>simp at e
  · have hold:∀c o,s.heap.get? c=some o->h'.get? c=some o:=fun c o e=>by
      refine hk c o (fun hm=>?_) (al4q _ (al4q _ e));rcases al14q.mp hm with e1 | hm
      · have:=al13q e;rw[e1,hsz] at this;exact al64q _ (Nat.lt_of_succ_lt this)
      · cases hm
    have:=h h' tk hold;have hv:v=if b.cps.toList<a.cps.toList then Value.str b u else Value.str a t:=by
      have hP':(#[Value.str a t,Value.str b u])[argBest (fun i j=>decide ((if i=0 then a else b).cps.toList<(if j=0 then a else b).cps.toList)) 1]? = some v:=hP
      by_cases hba:b.cps.toList<a.cps.toList
      · have e:argBest (fun i j=>decide ((if i=0 then a else b).cps.toList<(if j=0 then a else b).cps.toList)) 1=1:=by simp[argBest,hba]
        rw[e] at hP';rw[al11q hba];exact (al46q hP').symm
      · have e:argBest (fun i j=>decide ((if i=0 then a else b).cps.toList<(if j=0 then a else b).cps.toList)) 1=0:=by simp[argBest,hba]
        rw[e] at hP';rw[al7q hba];exact (al46q hP').symm
    rw[hv];exact this
theorem zce:∀(r:List Str) (x:Str),risingS x r=true->(x::r).Pairwise (fun a b=>¬b.cps.toList<a.cps.toList)
  | [],x,_=>al181q ..
  | y::r,x,h=>by
    unfold risingS at h;rw[al42q] at h;have ih:=zce r y h.2;have h1:¬y.cps.toList<x.cps.toList:=by
      intro z;have:ltCps y.cps.toList x.cps.toList=true:=by rw[ltCps_eq];exact al15q z
      rw[this] at h;simp at h
    refine al60q.mpr ⟨fun b hb=>?_,ih⟩;rcases al14q.mp hb with rfl | hb
    · exact h1
    · intro z;have h2:=(al60q.mp ih).1 b hb;rw[List.not_lt] at h1 h2;exact absurd z (List.not_lt.mpr (List.le_trans h1 h2))
theorem zcf {ss:List Str}(h:sortedS ss=true):ss.Pairwise (fun a b=>¬b.cps.toList<a.cps.toList):=by
  cases ss with
  | nil=>exact .nil
  | cons x r=>exact zce r x h
section
variable {X:Cx}
theorem zgb (hc:X.calm=true):zbr X (.builtin "min") (fun xs H Q=>∃i j,xs = [.str i,.str j]/\Q (.str (if j.cps.toList<i.cps.toList then j else i)) H):=by
  intro pins s σ H xs us Q I r h;obtain⟨i,j,rfl,q⟩:=h;obtain⟨u,w',rfl,⟨t,rfl⟩,⟨t',rfl⟩⟩:=zqh r;refine zh3 (I.ok.hd hc) fun h' tk k=>⟨_,H,I.kept k,?_,q⟩
  by_cases hj:j.cps.toList<i.cps.toList
  · rw[al11q hj,al11q hj];exact⟨_,rfl⟩
  · rw[al7q hj,al7q hj];exact⟨_,rfl⟩
theorem zh4 {K:ty0q}(h:X.K=K):zbr X (.builtin "sorted") (fun xs H Q=>∃(a:ty1q) (ns:List Str),xs = [V.ref a]/\SqL K H a (ns.map V.str)/\ns.length<64/\
    ∀(p:ty1q) (ms:List Str),H p=none->ms.Perm ns->ms.Pairwise (fun a b=>¬b.cps.toList<a.cps.toList)->Q (.ref p) (upd H p (.lst (ms.map V.str)))):=by
  subst h;intro pins s σ H xs us Q I r h;obtain⟨a,ns,rfl,ha,hn,q⟩:=h;obtain⟨u,rfl,ru⟩:=zc4 r;cases ru;obtain⟨its,rv,pl,hz⟩:=I.list ha;have hl:=rv.length;rw[al1q] at hl;refine PyProof.Rows.sorted_strs pl.isList (zf0 rv) (by lia) fun out ms a1 a2 a3=>?_
  obtain⟨e,he⟩:=PyProof.Rows.sortedAll_at s.heap its out;have hn':H (s.heap.objs.size+1)=none:=I.hok.fresh (al104q _);have hm:ms.length=ns.length:=a2.length_eq;have hs:sizeLine=16777216:=al140q;have vs:∀{us:List ty3q}{ys:List Str},StrsAre us ys->Vals (ys.map V.str) us:=by
    intro us ys h
    induction h with
    | nil=>exact .nil
    | cons x t _ ih=>exact .cons ⟨t,rfl⟩ ih
  refine⟨.ref (s.heap.objs.size+1),_,I.laid (t':=s.toks) (a:=s.heap.objs.size+1) (o:=.lst (ms.map V.str)) (fun b o eb=>PyProof.Rows.sortedAll_old eb) (al104q _) ⟨?_,out.toList,e,vs a1,?_⟩,rfl,q _ ms hn' a2 (zcf a3)⟩
  · rw[al1q];lia
  · rw[he]
end
end L2
namespace HT
open PySem PySem.Spec PyProof.Rows PySem.Calls
end HT
namespace L2
open PySem PySem.Spec PyProof.Rows
section
variable {X:Cx}{pins:ty91q}{σ:St}{H:Hp}{s:ty2q}{a:ty1q}{u r:ty3q}{A:Around}{E:ty90q}
theorem zh5 {kvs:List (Key×V)}{k:Key}{z:V}{Q:ty90q}(I:Inv X pins σ H s) (e:H a=some (.dK kvs)) (ry:RelV (kV k) u) (rz:RelV z r) (hl:kvs.length<sizeLine)
    (h1:∀v,valV kvs k=some v->∀w' s',Inv X pins σ H s'->RelV v w'->Q w' s') (h2:valV kvs k=none->∀s',Inv X pins σ (upd H a (.dK (putK kvs k z))) s'->Q r s') :
    wpAny (model X.prog X.w) A (call (.builtin "dict.setdefault") [.ref a,u,r]) Q E s:=by
  obtain⟨hz,hd,vs,rel,dd⟩:=zvp I.hok e;refine call_meetsIn PySem.F.slot_dict_setdefault dd.typeIs PySem.F.entry_dict_setdefault (PySem.F.args_dict_setdefault_3 _ _ _) (kt_meets_setdefault (zam X.prog X.w) a (zi8 ry) hd r)
    ⟨vs,dd,by rw[←rel.length];exact hz,fun v hv=>?_,fun hn h' dd' hs=>?_⟩
  · cases l:valV kvs k with
    | some v0=>
      obtain⟨w',hw,rw'⟩:=RelO.some_of (v:=v0) (o:=valueAt vs k) (by rw[←l];exact rel.val k);rw[hw] at hv;cases hv;exact h1 v0 l _ _ (I.tok _) rw'
    | none=>
      have hn:valueAt vs k=none:=RelO.none_of (by have:=rel.val k;rw[l] at this;exact this);rw[hn] at hv;cases hv
  · cases l:valV kvs k with
    | some v0=>
      obtain⟨w',hw,rw'⟩:=RelO.some_of (v:=v0) (o:=valueAt vs k) (by rw[←l];exact rel.val k);rw[hw] at hn;cases hn
    | none=>
      have hl2:(putK kvs k z).length<=sizeLine:=by have:=zc6 kvs k z;lia
      have he:∃q,h'.get? a=some q:=let ⟨q,_,_,hq,_⟩:=dd';⟨q,hq⟩
      exact h2 l _ (zi9 I (by rw[e];exact True.intro) hs he (znc hl2 hd (rel.put k rz) dd'))
end
def zxf (td ty tx:TE):TE:=fun σ H Q=>td σ H fun x H1=>∃a,x = .ref a/\IsD H1 a/\ty σ H1 fun y H2=>tx σ H2 fun z H3=>∃kvs k,H3 a=some (.dK kvs)/\y=kV k/\kvs.length<sizeLine/\
  (∀v,valV kvs k=some v->Q v H3)/\(valV kvs k=none->Q z (upd H3 a (.dK (putK kvs k z))))
theorem zlt {X:Cx}{o e f:Expr}{apos cpos:Pos}{td ty tx:TE}(ho:PE X o td) (he:PE X e ty) (hf:PE X f tx) (m:M2 X o "setdefault" apos e f cpos):PE X (.Call (.Attribute o "setdefault" apos) [e,f] [] cpos) (zxf td ty tx):=by
  intro pins s σ H Q I h;refine wpAny_Call_method m.base m.few m.line PySem.F.plainAttrs_dict PySem.F.slot_dict_setdefault PySem.F.type_dict_setdefault (thn (ho pins s σ H _ I h) fun u s1 hq0=>?_);obtain⟨x,H1,I1,rx,a,ex,d,q1⟩:=hq0;subst ex;obtain rfl:u=Value.ref a:=rx;obtain⟨t1,t2,_⟩:=zvs I1 d;refine⟨t1,t2,?_⟩;rw[m.trees];refine al144q rfl (al156q (Calls.spliced_cons (thn (he pins s1 σ H1 _ I1 q1) fun iv s2 ⟨y,H2,I2,ry,q2⟩=>
    Calls.spliced_cons (thn (hf pins s2 σ H2 _ I2 q2) fun fv s3 ⟨z,H3,I3,rz,kvs,k,ea,ey,hl,q3,q4⟩=>Calls.spliced_nil ?_))))
  subst ey;exact zh5 I3 ea ry rz hl (fun v l w' s4 I4 rw'=>⟨v,H3,I4,rw',q3 v l⟩) fun l s4 I4=>⟨z,_,I4,rz,q4 l⟩
theorem zlu (t:SetTable) (es:Array (Int×ty3q)) (h:Int) (x:ty3q):(layNew t es h x).2.1.led=t.led:=by
  unfold layNew;split
  · show (SetTable.orStandIn _ _).led=_;unfold SetTable.orStandIn;split<;>rfl
  · rfl
theorem zh6 (t:SetTable) (es:Array (Int×ty3q)) (n:Nat):(relayAll t es n).2.1.led=t.led:=by
  unfold relayAll;split
  · next t' order e=>
    have:t'.led=t.led:=by
      unfold SetTable.relaid SetTable.laid at e;cases q:SetTable.layClean (SetTable.sizeAbove n-1) (es.map (·.1)) with
      | none=>rw[q] at e;cases e
      | some ow=>
        rw[q] at e;have e:=al46q e;rw[←(Prod.mk.inj e).1]
    dsimp only;split
    · exact this
    · rfl
  · rfl
theorem zcy (t:SetTable) (es:Array (Int×ty3q)) (n:Nat) (hp:t.plain=false):(relayAll t es n).2.1.plain=false:=by
  unfold relayAll;split
  · next t' order e=>
    have:t'.plain=t.plain:=by
      unfold SetTable.relaid SetTable.laid at e;cases q:SetTable.layClean (SetTable.sizeAbove n-1) (es.map (·.1)) with
      | none=>rw[q] at e;cases e
      | some ow=>
        rw[q] at e;have e:=al46q e;rw[←(Prod.mk.inj e).1]
    dsimp only;split
    · rw[this];exact hp
    · rfl
  · rfl
section
variable {prog:ty4q}{w:World}{A:Around}{E:ty90q}{s:ty2q}{κ:Type} [DecidableEq κ] {knd:KeyKind prog w κ}{mkv:κ->Tok->ty3q}{Tb:SetTable->Nat->Prop}
def SetL (knd:KeyKind prog w κ) (Tb:SetTable->Nat->Prop) (h:Heap) (a:ty1q) (S:κ->Bool) (n:Nat) (led:Bool):Prop:=
  ∃o es ep t,h.get? a=some o/\o.ExactSet/\o.data = .set es ep t/\ElemsOf knd es.toList/\(∀k,S k=true↔∃e∈es.toList,knd.is k e.2=true)
    /\es.size<scanBound/\t.fits es.size=true/\es.size=n/\t.led=led/\Tb t es.size
def offP (b:Bool) (t:SetTable):SetTable:=if b=true then t else { t with plain:=false }
theorem zoe {b:Bool}{t:SetTable}{n:Nat}(h:t.fits n=true):(offP b t).fits n=true:=by
  unfold offP;split
  · exact h
  · exact SetTable.fits_plain_off h
theorem zq6 (b:Bool) (t:SetTable):(offP b t).led=t.led:=by
  unfold offP;split<;>rfl
theorem zq7 {b:Bool}{t:SetTable}(h:t.plain=false):offP b t=t:=by
  unfold offP;split
  · rfl
  · cases t;simp only at h;rw[h]
structure TbK (knd:KeyKind prog w κ) (mkv:κ->Tok->ty3q) (Tb:SetTable->Nat->Prop):Prop where
  is:∀k t,knd.is k (mkv k t)=true
  sc:∀k t,(mkv k t).scannable=true
  z:Tb (.fresh 0 0 (!(w.params.followText "set-order"))) 0
  add:∀(t:SetTable) (es:Array (Int×ty3q)) k tk,Tb t es.size->Tb (offP (plainKind (mkv k tk)) (layNew t es (knd.hash k) (mkv k tk)).2.1) (es.size+1)
  rel:∀(t:SetTable) (es:Array (Int×ty3q)),Tb t es.size->t.fits es.size=true->t.tooFull=true->Tb (relayAll t es (SetTable.grown es.size)).2.1 es.size
theorem zgc {h:Heap}{a:ty1q}{o:Obj}{es:Array (Int×ty3q)}{ep:Nat}{t:SetTable}(ho:h.get? a=some o) (hex:o.ExactSet) (hd:o.data = .set es ep t)
    {es':Array (Int×ty3q)}{t':SetTable}{S':κ->Bool}{led:Bool}(hel:ElemsOf knd es'.toList) (hmem:∀k,S' k=true↔∃e∈es'.toList,knd.is k e.2=true) (hb:es'.size<scanBound) (hf:t'.fits es'.size=true)
    (hl:t'.led=led) (hp:Tb t' es'.size) :
    (h.update a (Obj.putSet es' t')).get? a=some { o with data:=.set es' (ep+1) t' }/\SetL knd Tb (h.update a (Obj.putSet es' t')) a S' es'.size led:=by
  have hg:=(SetOf_store (knd:=knd) ho hex hd hel hmem hb hf).1;exact⟨hg,_,es',ep+1,t',hg,hex,rfl,hel,hmem,hb,hf,rfl,hl,hp⟩
theorem zk3 (B:TbK knd mkv Tb) {g:Bool->Sem Unit}(hg:∀(b:Bool) (s₁:ty2q) (Q':Unit->ty2q->Prop),Q' () s₁->wpAny (model prog w) A (g b) Q' E s₁)
    {a:ty1q}{o:Obj}{es:Array (Int×ty3q)}{ep:Nat}{t:SetTable}(ho:s.heap.get? a=some o) (hex:o.ExactSet) (hd:o.data = .set es ep t)
    {es1:Array (Int×ty3q)}{t2:SetTable}{S':κ->Bool}{led:Bool}(hel1:ElemsOf knd es1.toList) (hmem1:∀k',S' k'=true↔∃e∈es1.toList,knd.is k' e.2=true)
    (hb1:es1.size<scanBound) (hf2:t2.fits es1.size=true) (hl:t2.led=led) (hpl:Tb t2 es1.size) {wasDummy:Bool}{R:Option Bool->ty2q->Prop}
    (h:∀h',Heap.SameBut a s.heap h'->SetL knd Tb h' a S' es1.size led->R (some true) { s with heap:=h' }) :
    wpAny (model prog w) A (do
        storeSet a es1 t2
        if (!wasDummy&&t2.tooFull)=true then do
            g (relayAll t2 es1 (SetTable.grown es1.size)).2.2
            storeSet a (relayAll t2 es1 (SetTable.grown es1.size)).1 (relayAll t2 es1 (SetTable.grown es1.size)).2.1
            pure (some true)
          else pure (some true)) R E s:=by
  refine al0q (wpAny_storeSet_of ho hd ?_ (al185q hb1));obtain⟨ho1,hS1⟩:=zgc ho hex hd hel1 hmem1 hb1 hf2 hl hpl;have hsb1:=al65q s.heap a (Obj.putSet es1 t2);split
  · next hfull=>
    have hp:=relayAll_perm t2 es1 (SetTable.grown es1.size);have hfr:=relayAll_fits t2 es1 (SetTable.grown es1.size);have hl3:=zh6 t2 es1 (SetTable.grown es1.size);have hp3:=B.rel t2 es1 hpl hf2 (by rw[al42q] at hfull;exact hfull.2);generalize hRl:relayAll t2 es1 (SetTable.grown es1.size)=Rl at hp hfr hl3 hp3 ⊢;obtain⟨es2,t3,gave2⟩:=Rl;dsimp only at hp hfr hl3 hp3 ⊢;have hel2:ElemsOf knd es2.toList:=hel1.perm hp;have hmem2:∀k',S' k'=true↔∃e∈es2.toList,knd.is k' e.2=true:=fun k'=>(hmem1 k').trans ⟨fun ⟨e,he,q⟩=>⟨e,hp.mem_iff.mpr he,q⟩,fun ⟨e,he,q⟩=>⟨e,hp.mem_iff.mp he,q⟩⟩
    have hsz:es2.size=es1.size:=by rw[←al34q,hp.length_eq,al34q]
    have hb2:es2.size<scanBound:=by rw[hsz];exact hb1
    refine al0q (hg _ _ _ ?_);refine al0q (wpAny_storeSet_of ho1 rfl ?_ (al185q hb2));obtain⟨_,hS2⟩:=zgc (o:={ o with data:=.set es1 (ep+1) t2 }) ho1 hex rfl hel2 hmem2 hb2 hfr (hl3.trans hl) (hsz▸hp3);rw[hsz] at hS2;exact al2q (h _ (hsb1.trans (al65q _ a _)) hS2)
  · exact al2q (h _ hsb1 hS1)
theorem addL (B:TbK knd mkv Tb) {a:ty1q}{S:κ->Bool}{n:Nat}{led:Bool}{k:κ}{tk:Tok}{Q:Bool->ty2q->Prop}(hS:SetL knd Tb s.heap a S n led) (hroom:n+1<scanBound)
    (h:∀h',Heap.SameBut a s.heap h'->SetL knd Tb h' a (fun k'=>S k'||decide (k'=k)) (if S k then n else n+1) led->Q (!S k) { s with heap:=h' }) :
    wpAny (model prog w) A (setAddHashed a (mkv k tk) (knd.hash k)) Q E s:=by
  have hkey:knd.is k (mkv k tk)=true:=B.is k tk;have hsc:(mkv k tk).scannable=true:=B.sc k tk;obtain⟨o,es,ep,t,ho,hex,hd,hel,hmem,hb,hf,hn,hld,hpl⟩:=hS;have hb1:es.size+1<scanBound:=by rw[hn];exact hroom
  unfold setAddHashed setAddHashedIn;refine al47q (al0q (al132q ho hd hf ?_));dsimp only;rw[byScan_of hsc hb hel];simp only [↓reduceIte];unfold setAddByScan;refine al0q ?_;refine al0q (al102q ?_);refine al0q (wpAny_setScan_of hkey ho hd hf hel ?_);cases hr:List.findIdx? (fun e=>knd.is k e.2) es.toList with
  | some j=>
    dsimp only;obtain⟨hj,hpj,_⟩:=List.findIdx?_eq_some_iff_getElem.mp hr;have hSk:S k=true:=(hmem k).mpr ⟨es.toList[j],al78q hj,hpj⟩;refine al2q (al2q ?_);have e:s = { s with heap:=s.heap }:=by cases s;rfl
    have:=h s.heap (Heap.SameBut.refl a s.heap) ⟨o,es,ep,t,ho,hex,hd,hel,fun k'=>by
      rw[Bool.or_eq_true,al151q,←hmem k'];exact⟨fun hk=>hk.elim id (fun e=>e▸hSk),.inl⟩,hb,hf,(by rw[hSk];exact hn),hld,hpl⟩
    rw[hSk] at this;rw[e];exact this
  | none=>
    dsimp only;have hSk:S k=false:=by
      cases hk:S k with
      | false=>rfl
      | true=>obtain⟨e,he,hp⟩:=(hmem k).mp hk;have:=List.findIdx?_eq_none_iff.mp hr e he;rw[hp] at this;exact Bool.noConfusion this
    have hgw:∀(b:Bool) {s₁:ty2q}{Q':Unit->ty2q->Prop},Q' () s₁->wpAny (model prog w) A (match b with | true=>rule "set.scan.the-table-gave-way" | false=>pure ()) Q' E s₁:=
      fun b s₁ Q' hq=>by cases b<;>first | exact al2q hq | exact al102q hq
    have hperm:=layNew_perm t es (knd.hash k) (mkv k tk);have hfits:=layNew_fits t es (knd.hash k) (mkv k tk);have hled:=zlu t es (knd.hash k) (mkv k tk);have hpln:=B.add t es k tk hpl;generalize hL:layNew t es (knd.hash k) (mkv k tk)=L at hperm hfits hled hpln ⊢;obtain⟨es1,t1,wasDummy,gave⟩:=L;dsimp only at hperm hfits hled hpln ⊢;rw[Array.toList_push] at hperm;have hel1:ElemsOf knd es1.toList:=(hel.push hkey hsc).perm hperm;have hmem1:∀k',(S k'||decide (k'=k))=true↔∃e∈es1.toList,knd.is k' e.2=true:=mem_push_iff hkey hmem hperm;have hb1':es1.size<scanBound:=by rw[←al34q,hperm.length_eq,al20q,al34q];simpa using hb1
    refine al0q (hgw _ ?_);have hsz1:es1.size=n+1:=by rw[←al34q,hperm.length_eq,al20q,al34q,hn];rfl
    rw[hn,←hsz1] at hpln;have hend:∀h',Heap.SameBut a s.heap h'->SetL knd Tb h' a (fun k'=>S k'||decide (k'=k)) es1.size led->Q true { s with heap:=h' }:=by
      intro h' hsb hS';have:=h h' hsb;rw[hSk] at this;rw[hsz1] at hS';exact this hS'
    split
    · refine al0q ?_;rw[hashByValue_scannable 8 hsc];refine al2q ?_;have e2:(if plainKind (mkv k tk)=true then t1 else { t1 with plain:=false })=offP (plainKind (mkv k tk)) t1:=rfl;rw[e2];refine zk3 B ?_ ho hex hd hel1 hmem1 hb1' (zoe hfits) ((zq6 _ _).trans (hled.trans hld)) hpln ?_
      · intro b s₁ Q' hq;cases b<;>first | exact al2q hq | exact al102q hq
      · intro h' hsb hS';dsimp only;exact al2q (hend h' hsb hS')
    · next hnp=>
      refine al0q (al2q ?_);simp only [↓reduceIte];rw[zq7 (by simpa using hnp)] at hpln;refine zk3 B ?_ ho hex hd hel1 hmem1 hb1' hfits (hled.trans hld) hpln ?_
      · intro b s₁ Q' hq;cases b<;>first | exact al2q hq | exact al102q hq
      · intro h' hsb hS';dsimp only;exact al2q (hend h' hsb hS')
end
def plT (t:SetTable) (n:Nat):Prop:=n≠0->t.plain=false
theorem zxg {prog:ty4q}{w:World}:TbK (strKind prog w) Value.str plT where
  is:=strKind_is prog w
  sc:=fun _ _=>rfl
  z:=fun h=>absurd rfl h
  add:=fun t es k tk h _=>rfl
  rel:=fun t es h _ full z=>zcy t es _ (h z)
def dd {κ:Type} [DecidableEq κ] (val:Nat->κ):Nat->List κ
  | 0=>[]
  | i+1=>if val i∈dd val i then dd val i else dd val i++[val i]
theorem zof {κ:Type} [DecidableEq κ] (val:Nat->κ):∀i,(dd val i).length<=i
  | 0=>al18q _
  | i+1=>by
    have:=zof val i;unfold dd;split
    · lia
    · rw[al20q];exact Nat.succ_le_succ this
theorem zgz {κ:Type} [DecidableEq κ] (val:Nat->κ):∀i,(dd val i).Nodup
  | 0=>List.nodup_nil
  | i+1=>by
    unfold dd;split
    · exact zgz val i
    · next h=>
      rw[al108q];refine⟨zgz val i,by simp,fun a ha b hb e=>?_⟩;simp at hb;subst hb;subst e;exact h ha
theorem zsl {κ:Type} [DecidableEq κ] (val:Nat->κ):∀i x,x∈dd val i↔∃j,j<i/\val j=x
  | 0,x=>by
    constructor
    · intro h;cases h
    · rintro ⟨j,hj,_⟩;lia
  | i+1,x=>by
    have ih:=zsl val i x;have step:x∈dd val (i+1)↔x∈dd val i\/x=val i:=by
      show x∈(if val i∈dd val i then dd val i else dd val i++[val i])↔_;split
      · next h=>exact⟨.inl,fun z=>z.elim id fun e=>e▸h⟩
      · rw[al28q];simp
    rw[step,ih];constructor
    · rintro (⟨j,hj,e⟩ | e)
      · exact⟨j,by lia,e⟩
      · exact⟨i,by lia,e.symm⟩
    · rintro ⟨j,hj,e⟩
      by_cases c:j=i
      · subst c;exact .inr e.symm
      · exact .inl ⟨j,by lia,e⟩
theorem SetL.congr {prog:ty4q}{w:World}{κ:Type} [DecidableEq κ] {knd:KeyKind prog w κ}{Tb:SetTable->Nat->Prop}{h:Heap}{a:ty1q}{S S':κ->Bool}{n n':Nat}{led:Bool}(hS:SetL knd Tb h a S n led) (e:∀k,S k=S' k) (en:n=n'):SetL knd Tb h a S' n' led:=by
  have:S=S':=funext e;subst this;subst en;exact hS
section
variable {prog:ty4q}{w:World}{A:Around}{R:Result->ty2q->Prop}{I:ty1q}{fp wr:List ty1q}{G:Array GenState->Array GenState->Prop}{n:Nat}{P:Nat->ty3q->Prop}{St:Nat->ty2q->Prop}{κ:Type} [DecidableEq κ] {knd:KeyKind prog w κ}{mkv:κ->Tok->ty3q}{Tb:SetTable->Nat->Prop}
theorem SetL.keep {h h':Heap}{a:ty1q}{S:κ->Bool}{m:Nat}{led:Bool}(hS:SetL knd Tb h a S m led) (k:∀o,h.get? a=some o->h'.get? a=some o):SetL knd Tb h' a S m led:=by
  obtain⟨o,es,ep,t,ho,rest⟩:=hS;exact⟨o,es,ep,t,k o ho,rest⟩
theorem zxh (B:TbK knd mkv Tb) (W:WalksS prog w A.in1 I fp wr G n P St) (S:ty1q) (hSf:S ∉ fp) (val:Nat->κ) (hval:∀i v,P i v->∃t,v=mkv (val i) t) (hb:n+1<scanBound) {led:Bool} :
    ∀(k i:Nat) (s:ty2q),n-i=k->i<=n->St i s->SetL knd Tb s.heap S (fun k'=>decide (k'∈dd val i)) (dd val i).length led->
      (∀s',Moved (S::wr) G s s'->SetL knd Tb s'.heap S (fun k'=>decide (k'∈dd val n)) (dd val n).length led->R (.ok (.ret .none)) s')->
      codeAny (model prog w) A (.builtin "set.update.loop" ⟨[.ref S,.ref I],[]⟩) R s:=by
  have hSw:S ∉ wr:=fun h=>hSf (W.sub _ h)
  have hsub:∀b∈wr,b∈S::wr:=fun b hb=>al5q _ hb
  intro k
  induction k with
  | zero=>
    intro i s hk hi hst hS hR;have hin:i=n:=by lia
    subst hin;refine al51q PyProof.Rows.F.entry_set_update_loop ?_;rw[al41q al111q _];show wpAny _ A.in1 (pyNext (.ref I) >>= _) _ _ s;refine al0q (W.done s _ _ hst fun s' hm=>?_);show wpAny _ A.in1 (ret Value.none) _ _ s';exact al2q (hR s' (hm.mono hsub) (hS.keep fun o ho=>hm.heap S _ hSw ho))
  | succ k ih=>
    intro i s hk hi hst hS hR;have hlt:i<n:=by lia
    refine al51q PyProof.Rows.F.entry_set_update_loop ?_;rw[al41q al111q _];show wpAny _ A.in1 (pyNext (.ref I) >>= _) _ _ s;refine al0q (W.item i s _ _ hlt hst fun v s' hP hst' hm=>?_);obtain⟨t,rfl⟩:=hval i v hP;have hS':SetL knd Tb s'.heap S (fun k'=>decide (k'∈dd val i)) (dd val i).length led:=hS.keep fun o ho=>hm.heap S _ hSw ho
    show wpAny _ A.in1 (holding [mkv (val i) t] (setAdd S (mkv (val i) t)) >>= _) _ _ s';refine al0q (al47q ?_);unfold setAdd;refine al47q ?_;refine al0q (knd.pyHash (k:=val i) (B.is _ _) ?_);have hroom:(dd val i).length+1<scanBound:=by have:=zof val i;lia
    refine addL B (s:={ s' with toks:=s'.toks+1 }) hS' hroom fun h' hsb hS2=>?_
    have hSi:SetL knd Tb h' S (fun k'=>decide (k'∈dd val (i+1))) (dd val (i+1)).length led:=by
      refine hS2.congr (fun k'=>?_) ?_
      · rw[al101q,Bool.or_eq_true,al151q,al151q,al151q];show _↔k'∈(if val i∈dd val i then dd val i else dd val i++[val i]);split
        · next h=>exact⟨fun z=>z.elim id fun e=>e▸h,.inl⟩
        · rw[al28q];simp
      · show _=(if val i∈dd val i then dd val i else dd val i++[val i]).length
        by_cases c:val i∈dd val i
        · rw[al11q c,al11q (al15q c)]
        · rw[al7q c,al7q (fun z=>c (al17q z)),al20q];rfl
    refine al2q ⟨al66q al111q _,ih (i+1) _ (by lia) hlt (W.frame _ s' _ _ hst' (al104q _) fun b hb o e=>?_) hSi fun s'' hm'' hS''=>?_⟩
    · rw[hsb.2 b (fun h:b=S=>hSf (by rw[←h];exact hb))];exact e
    · refine hR s'' (Moved.trans W.gtrans ((hm.mono hsub).then_heap (al104q _) fun b o hb e=>?_) hm'') hS'';rw[hsb.2 b (fun h:b=S=>hb (by rw[h];exact al37q))];exact e
end
section
variable {prog:ty4q}{w:World}{A:Around}{E:ty90q}{s:ty2q}
def ledW (w:World):Bool:=!(w.params.followText "set-order")
theorem zt2 (a:ty3q) {Q₁:ty90q}
    (h:Q₁ (.ref s.heap.objs.size) { s with heap:=s.heap.push { cls:=.type "set",dict:=none,data:=.set #[] 0 (.fresh 0 0 (ledW w)) } }) :
    codeAny (model prog w) A (.call (.builtin "set.__new__") ⟨[.type "set",a],[]⟩) (wants Q₁ E) s:=by
  refine al197q ?_;show wpAny _ A.in1 (do checkBuiltinCall "set.__new__" ⟨[.type "set",a],[]⟩;again (.builtin "set.__new__" ⟨[.type "set",a],[]⟩)) _ _ s;refine al0q (al159q (PySem.F.newCall_set_1 a) (al2q ⟨al66q PySem.F.plain_set_new _,al51q PySem.F.entry_set_new ?_⟩));rw[al41q PySem.F.plain_set_new _];unfold Builtin.«set.__new__» Builtin.Frozenset.newClass;have hsub:=sub_set_self;obtain⟨hp,g,d,tk,os⟩:=s;dsimp only
  wp_walk
  refine al138q (al2q ?_);dsimp only;simp only [newObj];refine al0q (wpAny_alloc (al2q ?_));exact al2q h
end
section
variable {prog:ty4q}{w:World}{A:Around}{E:ty90q}{s:ty2q}{κ:Type} [DecidableEq κ] {knd:KeyKind prog w κ}{mkv:κ->Tok->ty3q}{Tb:SetTable->Nat->Prop}
theorem zjl (B:TbK knd mkv Tb) {l:ty1q}{items:Array ty3q}{val:Nat->κ}{Q:ty90q}(hh:A.handled=none) (hl:s.heap.IsList l items) (hval:∀(i:Nat) (v:ty3q),items[i]? = some v->∃t,v=mkv (val i) t) (hb:items.size+1<scanBound)
    (h:∀(h':Heap) (tk:Nat),SetL knd Tb h' s.heap.objs.size (fun k'=>decide (k'∈dd val items.size)) (dd val items.size).length (ledW w)->
      (∀b o,b<s.heap.objs.size->s.heap.get? b=some o->h'.get? b=some o)->Q (.ref s.heap.objs.size) { s with heap:=h',toks:=tk }) :
    wpAny (model prog w) A (call (.type "set") [.ref l]) Q E s:=by
  obtain⟨c,tl,hmro⟩:=PySem.F.called_set.mro;have hmade:=PySem.F.called_set.made;have hsub:=PySem.F.called_set.sub;refine al154q (al197q ?_);show wpAny _ _ (callAny (.type "set") _) _ _ _;refine al2q ⟨al179q _ (by decide +kernel),al51q PySem.F.entry_type_call ?_⟩;rw[Around.under_plain (weight_type_call_type "set" [.ref l] []) rfl];have h1:=PySem.F.called_set.notType;have h2:=PySem.F.called_set.canCreate;have hct:=PySem.F.typeCall_set_1 (.ref l)
  repeat (any_goals (first | assumption | wp_step))
  refine al129q (zt2 (.ref l) (E:=E) (Q₁:=fun obj s₁=>obj = .ref s.heap.objs.size/\s₁ = { s with heap:=s.heap.push { cls:=.type "set",dict:=none,data:=.set #[] 0 (.fresh 0 0 (ledW w)) } }) ⟨rfl,rfl⟩) fun r s₁ hr=>?_
  cases r with
  | error e=>exact hr
  | ok fl=>
    cases fl with
    | ret obj=>
      obtain⟨rfl,rfl⟩:=hr;have hS:(s.heap.push { cls:=.type "set",dict:=none,data:=.set #[] 0 (.fresh 0 0 (ledW w)) }).get? s.heap.objs.size=some { cls:=.type "set",dict:=none,data:=.set #[] 0 (.fresh 0 0 (ledW w)) }:=al12q _ rfl;have hT:Shared.TypeIs { s with heap:=s.heap.push { cls:=.type "set",dict:=none,data:=.set #[] 0 (.fresh 0 0 (ledW w)) } } (.ref s.heap.objs.size) "set":=⟨_,hS,rfl⟩;have hli:=PySem.F.called_set.init.lookup;have hbi:=PySem.F.called_set.init.bind (.ref s.heap.objs.size)
      repeat (any_goals (first | assumption | wp_step))
      refine al129q (al94q (R:=wants (fun r s₂=>r = .none/\∃h' tk,s₂ = { s with heap:=h',toks:=tk }/\
          SetL knd Tb h' s.heap.objs.size (fun k'=>decide (k'∈dd val items.size)) (dd val items.size).length (ledW w)/\
          (∀b o,b<s.heap.objs.size->s.heap.get? b=some o->h'.get? b=some o)) E) PySem.F.called_set.init.plain PySem.F.entry_set_init (check_set_init_1 hT ?_)) fun r₂ s₂ hr₂=>?_
      · obtain⟨ol,hol,hcl,nl,hdl⟩:=hl;obtain⟨ocls,odict,odata,oslots⟩:=ol;simp only at hcl hdl;subst hcl;subst hdl;have hol':(s.heap.push { cls:=.type "set",dict:=none,data:=.set #[] 0 (.fresh 0 0 (ledW w)) }).get? l=some { cls:=.type "list",dict:=odict,data:=.seq items nl,slots:=oslots }:=al4q _ hol;have hsls:=PySem.F.sub_list_set;have hslf:=PySem.F.sub_list_frozenset;have hne:(Value.type "list" == Value.type "dict")=false:=by decide
        have hl1:(s.heap.push { cls:=.type "set",dict:=none,data:=.set #[] 0 (.fresh 0 0 (ledW w)) }).IsList l items:=⟨_,hol',rfl,nl,rfl⟩;unfold Builtin.«set.__init__» noKeywords Builtin.Frozenset.updateFrom;generalize hPI:pyIter=PI
        wp_walk
        subst hPI;refine al128q hl1 ?_;refine al0q (wpAny_runValue ?_);have hlS:l<s.heap.objs.size:=al13q hol;have hh3:A.in1.in1.in1.handled=none:=by simp[hh]
        have hneI:l≠(s.heap.push { cls:=.type "set",dict:=none,data:=.set #[] 0 (.fresh 0 0 (ledW w)) }).objs.size:=by
          rw[al82q];exact al26q (al79q hlS)
        have hSf:s.heap.objs.size ∉ [(s.heap.push { cls:=.type "set",dict:=none,data:=.set #[] 0 (.fresh 0 0 (ledW w)) }).objs.size,l]:=by
          rw[al82q];simp only [al14q,al74q,al43q,al160q,not_or];exact⟨al26q (al115q _),al143q hlS⟩
        refine zxh B ((Walks.list hh3 _ l hneI items).toS) s.heap.objs.size hSf val hval hb (led:=ledW w) (items.size-0) 0 _ (by lia) (al73q _)
          ⟨⟨_,al12q _ rfl,rfl,rfl⟩,(hl1.push _)⟩ ?hS0 ?hR
        case hS0=>
          have hget:((s.heap.push { cls:=.type "set",dict:=none,data:=.set #[] 0 (.fresh 0 0 (ledW w)) }).push { cls:=.type "list_iterator",data:=.fields #[.ref l,.int 0 0] }).get? s.heap.objs.size
              = some { cls:=.type "set",dict:=none,data:=.set #[] 0 (.fresh 0 0 (ledW w)) }:=al4q _ hS
          exact⟨_,#[],0,_,hget,⟨rfl,rfl,rfl⟩,rfl,fun e he=>by simp at he,fun k=>by simp[dd],by decide,by rfl,rfl,rfl,B.z⟩
        case hR=>
          intro s' hm hS';obtain⟨h',g',d',tk',os'⟩:=s';have eg:g'=s.gens:=hm.gens;have ed:d'=s.drawn:=hm.drawn;have eo:os'=s.os:=hm.os;subst eg;subst ed;subst eo;show wpAny _ _ _ _ _ _;refine al2q ?_;show wpAny _ _ (ret Value.none) _ _ _;refine al2q ⟨rfl,h',tk',rfl,hS',fun b o hb e=>?_⟩;have hb1:b≠s.heap.objs.size:=al26q hb;have hb2:b≠(s.heap.push { cls:=.type "set",dict:=none,data:=.set #[] 0 (.fresh 0 0 (ledW w)) }).objs.size:=by
            rw[al82q];exact al26q (al79q hb)
          exact hm.heap b o (by simp only [al14q,al74q,al43q,al160q,not_or];exact⟨hb1,hb2⟩) (al4q _ (al4q _ e))
      · cases r₂ with
        | error e=>exact hr₂
        | ok fl₂=>
          cases fl₂ with
          | ret r=>
            obtain⟨rfl,h',tk,rfl,hS',hk'⟩:=hr₂
            repeat (any_goals (first | assumption | wp_step))
            exact h _ _ hS' hk'
          | _=>exact hr₂.elim
    | _=>exact hr.elim
end
theorem slot_seti_next:Slot "set_iterator" "__next__" "set_iterator.__next__":=
  .of (owner:="set_iterator") (n:="__next__") (by rw[al174q,al121q];kernel_rfl) (by decide +kernel) (by decide +kernel) (by decide +kernel)
    (by first | exact .inl (by decide +kernel) | exact .inr (by decide +kernel)) (by rw[al97q];kernel_rfl)
theorem zbe:entryFor table "set_iterator.__next__" = some Builtin.«set_iterator.__next__»:=al190q (by kernel_rfl)
theorem zbj (a:ty3q):argsOk "set_iterator.__next__" ⟨[a],[]⟩:=by unfold argsOk;kernel_rfl
theorem zcz:Slot "set_iterator" "__iter__" "set_iterator.__iter__":=
  .of (owner:="set_iterator") (n:="__iter__") (by rw[al174q,al121q];kernel_rfl) (by decide +kernel) (by decide +kernel) (by decide +kernel)
    (by first | exact .inl (by decide +kernel) | exact .inr (by decide +kernel)) (by rw[al97q];kernel_rfl)
theorem ze0:entryFor table "set_iterator.__iter__" = some Builtin.«dict_keyiterator.__iter__»:=entryFor_alias (id':="dict_keyiterator.__iter__") (by kernel_rfl) rfl (by decide +kernel) (by kernel_rfl)
theorem zfl (a:ty3q):argsOk "set_iterator.__iter__" ⟨[a],[]⟩:=by unfold argsOk;kernel_rfl
theorem zfm:entryFor table "set.__iter__" = some Builtin.«frozenset.__iter__»:=entryFor_alias (id':="frozenset.__iter__") (by kernel_rfl) rfl (by decide +kernel) (by kernel_rfl)
theorem zd2 {α:Type}:∀(l:List α) (i:Nat) (h:i<l.length),(l[i]::l.eraseIdx i).Perm l
  | a::r,0,_=>.refl _
  | a::r,i+1,h=>by
    have ih:=zd2 r i (Nat.lt_of_succ_lt_succ h);show (r[i]'(Nat.lt_of_succ_lt_succ h)::a::r.eraseIdx i).Perm (a::r);exact (List.Perm.swap a _ _).trans (ih.cons a)
section
variable {prog:ty4q}{w:World}{A:Around}{E:ty90q}{s:ty2q}
theorem zog {M:Model}{src:Source}{n:Nat}{Q:Nat->ty2q->Prop}(hn:n≠0) (h:∀i d,i<n->Q i { s with drawn:=d }):wpAny M A (choose src n) Q E s:=
  fun _ _ _=>⟨hn,h _ _ (Nat.mod_lt _ (Nat.pos_of_ne_zero hn))⟩
theorem zea {α:Type}:∀(n:Nat) (xs:List α) (s:ty2q) (Q:List α->ty2q->Prop),xs.length=n->(∀ys d,ys.Perm xs->Q ys { s with drawn:=d })->wpAny (model prog w) A (drawOrder n xs) Q E s
  | 0,xs,s,Q,hl,h=>by
    have e:xs = []:=al80q.mp hl;subst e;exact al2q (by have:=h [] s.drawn .nil;cases s;exact this)
  | n+1,[],s,Q,hl,h=>by cases hl
  | n+1,a::r,s,Q,hl,h=>by
    show wpAny (model prog w) A (do
      let i ←choose .order (a::r).length
      match (a::r)[i]? with
      | some x=>return x::(←drawOrder n ((a::r).eraseIdx i))
      | none=>unsupported "internal:drawOrder") Q E s
    refine al0q (zog (by simp) fun i d hi=>?_);have e:(a::r)[i]? = some (a::r)[i]:=al3q hi;rw[e];dsimp only;refine al0q (zea n _ _ _ (by rw[List.length_eraseIdx_of_lt hi];lia) fun ys d2 p=>al2q ?_);exact h _ d2 ((List.Perm.cons _ p).trans (zd2 _ i hi))
end
def za9 (ps:List Nat):Array ty3q:=(ps.map fun (i:Nat)=>rawInt i).toArray
def zb2 (first:ty3q) (i:Nat) (a:ty1q) (n ep:Nat):Obj:={ cls:=.type "set_iterator",data:=.fields #[first,.int i 0,.ref a,.int n 0,.int ep 0] }
def SIter (h:Heap) (I:ty1q) (first:ty3q) (i:Nat) (a:ty1q) (n ep:Nat):Prop:=∃o,h.get? I=some o/\o.cls = .type "set_iterator"/\o.data = .fields #[first,.int i 0,.ref a,.int n 0,.int ep 0]
structure RawS (h:Heap) (a:ty1q) (es:Array (Int×ty3q)) (ep:Nat) (t:SetTable):Prop where
  ex:∃o,h.get? a=some o/\o.ExactSet/\o.data = .set es ep t
  fits:t.fits es.size=true
theorem RawS.at {h h':Heap}{a:ty1q}{es:Array (Int×ty3q)}{ep:Nat}{t:SetTable}(r:RawS h a es ep t) (k:∀o,h.get? a=some o->h'.get? a=some o):RawS h' a es ep t:=
  let ⟨⟨o,h1,h2⟩,h3⟩:=r;⟨⟨o,k o h1,h2⟩,h3⟩
theorem SIter.typeIs {s:ty2q}{I:ty1q}{first:ty3q}{i:Nat}{a:ty1q}{n ep:Nat}(q:SIter s.heap I first i a n ep):s.TypeIs (.ref I) "set_iterator":=let ⟨o,h1,h2,_⟩:=q;⟨o,h1,h2⟩
section
variable {prog:ty4q}{w:World}{A:Around}{E:ty90q}{s:ty2q}
def zh7 (w:World) (es:Array (Int×ty3q)) (t:SetTable):Bool:=!(w.params.followText "set-order")&&(!t.plain&&decide (es.size > 1))
theorem zq8 {a:ty1q}{es:Array (Int×ty3q)}{ep:Nat}{t:SetTable}{Q:ty90q}(hr:RawS s.heap a es ep t) (hz:es.size<=sizeLine)
    (hT:zh7 w es t=false->Q (.ref s.heap.objs.size) { s with heap:=s.heap.push (zb2 (.int 0 0) 0 a es.size ep) })
    (hD:zh7 w es t=true->∀(ps:List Nat) (d:Drawn),ps.Perm (List.range es.size)->Q (.ref (s.heap.push { cls:=.type "tuple",data:=.seq (za9 ps) }).objs.size)
      { s with heap:=(s.heap.push { cls:=.type "tuple",data:=.seq (za9 ps) }).push (zb2 (.ref s.heap.objs.size) 0 a es.size ep),drawn:=d }):wpAny (model prog w) A (pyIter (.ref a)) Q E s:=by
  obtain⟨⟨o,ho,hex,hd⟩,hf⟩:=id hr;have T:s.TypeIs (.ref a) "set":=⟨o,ho,hex.1⟩;refine al183q T PySem.F.slot_set_iter (al50q PySem.F.slot_set_iter T zfm ?_ (PySem.F.args_set_iter_1 _));unfold Builtin.«frozenset.__iter__»;refine al0q ?_;show wpAny (model prog w) _ (pure a) _ _ s;refine al2q ?_;refine al0q ?_;unfold Builtin.Frozenset.sizeOf;refine al0q (al135q ho hd hf (al2q ?_));refine al0q ?_;unfold setDrawn;refine al0q (al132q ho hd hf ?_);unfold setsByText;refine al0q (al0q (al138q (al2q ?_)));refine al2q ?_;show wpAny (model prog w) _ (if zh7 w es t=true then _ else _) _ _ s;cases hb:zh7 w es t with
  | false=>
    rw[al7q al19q];refine al0q (al2q ?_);refine al0q (wpAny_setEpoch_of ho hd hf ?_);exact al0q (al40q (al2q ⟨_,rfl,"set_iterator",_,⟨_,al12q _ rfl,rfl⟩,slot_seti_next.lookup,hT hb⟩))
  | true=>
    rw[al11q rfl];refine al0q (zea _ _ _ _ (by simp) fun ps d p=>?_);have hl:ps.length=es.size:=by rw[p.length_eq,al58q]
    refine al0q (m:=newTuple (ps.map fun (i:Nat)=>rawInt i)) ?_;refine al40q ?_ (by show (ps.map fun (i:Nat)=>rawInt i).toArray.size<=sizeLine;rw[al24q,al1q,hl];exact hz);have ho2:(s.heap.push { cls:=.type "tuple",data:=.seq (ps.map fun (i:Nat)=>rawInt i).toArray }).get? a=some o:=al4q _ ho;refine al0q (wpAny_setEpoch_of (s:={ s with heap:=s.heap.push { cls:=.type "tuple",data:=.seq (ps.map fun (i:Nat)=>rawInt i).toArray },drawn:=d }) ho2 hd hf ?_);exact al0q (al40q (al2q ⟨_,rfl,"set_iterator",_,⟨_,al12q _ rfl,rfl⟩,slot_seti_next.lookup,hD hb ps d p⟩))
end
theorem zoh {α:Type}(next:Nat->Nat):∀(fuel k:Nat) (left:List α) (out:Array α),left.length=fuel->(pickOrder.go next fuel k left out).toList.Perm (out.toList++left)
  | 0,k,left,out,h=>by
    have e:left = []:=al80q.mp h;subst e;unfold pickOrder.go;rw[al53q]
  | fuel+1,k,left,out,h=>by
    have hl:next k%left.length<left.length:=Nat.mod_lt _ (by lia);unfold pickOrder.go;rw[al3q hl];refine (zoh next fuel (k+1) _ _ (by rw[List.length_eraseIdx_of_lt hl];lia)).trans ?_;rw[Array.toList_push,al130q];exact List.Perm.append_left _ (zd2 left _ hl)
theorem zdm {α:Type}(next:Nat->Nat) (xs:Array α):(pickOrder next xs).toList.Perm xs.toList:=by
  have:=zoh next xs.size 0 xs.toList #[] (by simp);unfold pickOrder;simpa using this
section
variable {prog:ty4q}{w:World}{A:Around}{E:ty90q}{s:ty2q}
theorem zg0 {h:Heap}{I:ty1q}{o:Obj}{vs:Array ty3q}(ho:h.get? I=some o) (hd:o.data = .fields vs) (j:Nat) (v:ty3q) :
    (h.update I (Obj.mapFields (·.setIfInBounds j v))).get? I=some (Obj.mapFields (·.setIfInBounds j v) o)/\(Obj.mapFields (·.setIfInBounds j v) o).data = .fields (vs.setIfInBounds j v)/\(Obj.mapFields (·.setIfInBounds j v) o).cls=o.cls:=
  ⟨al31q _ ho (al62q (al59q hd _)),al59q hd _,Obj.cls_mapFields ..⟩
theorem zh8 {I a:ty1q}{slot nx i ep:Nat}{es:Array (Int×ty3q)}{t:SetTable}{x:ty3q}{Q:Option ty3q->ty2q->Prop}(hit:SIter s.heap I (.int slot 0) i a es.size ep) (hr:RawS s.heap a es ep t)
    (hn:∀{A':Around}{E':ty90q}{Q':Option (ty3q×Nat)->ty2q->Prop},Q' (some (x,nx)) s->wpAny (model prog w) A' (setNext a slot i ep) Q' E' s)
    (hQ:∀h1,SIter h1 I (.int nx 0) (i+1) a es.size ep->Heap.SameBut I s.heap h1->Q (some x) { s with heap:=h1 }):wpAny (model prog w) A (pyNext (.ref I)) Q E s:=by
  obtain⟨o,ho,hc,hd⟩:=id hit;obtain⟨⟨os,hos,hex,hds⟩,hf⟩:=id hr;unfold pyNext;refine al0q (al133q (al70q (name:=Str.ofString "__next__") hit.typeIs slot_seti_next (al50q slot_seti_next hit.typeIs zbe ?_ (zbj _))));unfold Builtin.«set_iterator.__next__»;refine al0q (al2q (al0q (al158q ho hd ?_)));show wpAny (model prog w) _ (setEntries a >>= _) _ _ s;refine al0q (al135q hos hds hf ?_);rw[al7q (by simp)];show wpAny (model prog w) _ (setNext a slot i ep >>= _) _ _ s;refine al0q (hn ?_);show wpAny (model prog w) _ (setField (.ref I) 0 (rawInt (nx:Int)) >>= _) _ _ s;refine al0q (al71q ho hd (by simp) ?_);obtain⟨g1,g2,g3⟩:=zg0 ho hd 0 (rawInt (nx:Int));show wpAny (model prog w) _ (setField (.ref I) 1 (rawInt ((i:Int)+1)) >>= _) _ _ _;refine al0q (al71q g1 g2 (by simp) ?_);obtain⟨k1,k2,k3⟩:=zg0 g1 g2 1 (rawInt ((i:Int)+1));refine al2q ⟨_,rfl,al2q (hQ _ ⟨_,k1,k3.trans (g3.trans hc),?_⟩ ((al65q ..).trans (al65q ..)))⟩;rw[k2];simp[rawInt]
theorem zk4 {I a:ty1q}{slot i ep:Nat}{es:Array (Int×ty3q)}{t:SetTable}{Q:Option ty3q->ty2q->Prop}(hh:A.handled=none) (hit:SIter s.heap I (.int slot 0) i a es.size ep) (hr:RawS s.heap a es ep t)
    (hn:∀{A':Around}{E':ty90q}{Q':Option (ty3q×Nat)->ty2q->Prop},Q' none s->wpAny (model prog w) A' (setNext a slot i ep) Q' E' s)
    (hQ:∀h1,Heap.ExtBut I s.heap h1->Q none { s with heap:=h1 }):wpAny (model prog w) A (pyNext (.ref I)) Q E s:=by
  obtain⟨o,ho,hc,hd⟩:=id hit;obtain⟨⟨os,hos,hex,hds⟩,hf⟩:=id hr;unfold pyNext;refine al0q (al133q (al70q (name:=Str.ofString "__next__") hit.typeIs slot_seti_next (al50q slot_seti_next hit.typeIs zbe ?_ (zbj _))));unfold Builtin.«set_iterator.__next__»;refine al0q (al2q (al0q (al158q ho hd ?_)));show wpAny (model prog w) _ (setEntries a >>= _) _ _ s;refine al0q (al135q hos hds hf ?_);rw[al7q (by simp)];show wpAny (model prog w) _ (setNext a slot i ep >>= _) _ _ s;refine al0q (hn ?_);show wpAny (model prog w) _ (setField (.ref I) 2 .none >>= _) _ _ s;refine al0q (al71q ho hd (by simp) ?_);show wpAny (model prog w) _ (newExc (.type "StopIteration") [] >>= _) _ _ _;refine al0q ?_;simp only [newExc,newTuple];refine al0q (al40q (al0q (m:=firstArgMember _ _) (al159q (a:=Value.none) (by first | rfl | (simp only [firstArgMember];rfl)) (al40q ?_ (by size_fits)))) (by size_fits));simp only [raiseNew];refine al0q (wpAny_handled ?_);rw[show A.in1.handled=none from hh];refine al0q (al2q (wpAny_throw ?_));exact al0q (al93q (T:="StopIteration") (b:=true) ⟨_,al12q _ rfl,rfl⟩ isSubtype_stop (al2q (hQ _ (((al65q ..).extBut.push _).push _))))
theorem zh9 {a:ty1q}{slot i ep:Nat}{es:Array (Int×ty3q)}{t:SetTable}(hw:w.params.followText "set-order" = true) (hr:RawS s.heap a es ep t)
    {A':Around}{E':ty90q}{Q':Option (ty3q×Nat)->ty2q->Prop}(hQ:Q' (((pickOrder (w.params.setOrder a ep) es)[i]?).map fun e=>(e.2,slot)) s):wpAny (model prog w) A' (setNext a slot i ep) Q' E' s:=by
  obtain⟨⟨os,hos,hex,hds⟩,hf⟩:=id hr;unfold setNext;refine al0q (al132q hos hds hf ?_);unfold setsByText;refine al0q (al0q (al138q (al2q ?_)));show wpAny (model prog w) _ (if w.params.followText "set-order" = true then _ else _) _ _ s;rw[al11q hw,al7q (by simp)];refine al0q ?_;unfold setWalk;refine al0q (al132q hos hds hf ?_);unfold setsByText;refine al0q (al0q (al138q (al2q ?_)));show wpAny (model prog w) _ (if w.params.followText "set-order" = true then _ else _) _ _ s;rw[al11q hw];refine al0q (al138q (al2q ?_));exact al2q hQ
theorem zk5 {a:ty1q}{slot i ep:Nat}{es:Array (Int×ty3q)}{t:SetTable}(hw:w.params.followText "set-order" = false) (hr:RawS s.heap a es ep t) (hl:t.led=true) (hdr:(!t.plain&&decide (es.size > 1))=false)
    {A':Around}{E':ty90q}{Q':Option (ty3q×Nat)->ty2q->Prop}(hQ:Q' (match es[SetTable.below t.place slot]?,t.place[SetTable.below t.place slot]? with | some (_,x),some j=>some (x,j+1) | _,_=>none) s):wpAny (model prog w) A' (setNext a slot i ep) Q' E' s:=by
  obtain⟨⟨os,hos,hex,hds⟩,hf⟩:=id hr;unfold setNext;refine al0q (al132q hos hds hf ?_);unfold setsByText;refine al0q (al0q (al138q (al2q ?_)));show wpAny (model prog w) _ (if w.params.followText "set-order" = true then _ else _) _ _ s;rw[hw,al7q al19q];show wpAny (model prog w) _ (if (!t.plain&&decide (es.size > 1))=true then _ else _) _ _ s;rw[hdr,al7q al19q];refine al0q ?_;show wpAny (model prog w) _ (if (!t.led && !es.isEmpty)=true then _ else _) _ _ s;rw[hl];show wpAny (model prog w) _ (if (false && !es.isEmpty)=true then _ else _) _ _ s;rw[al153q,al7q al19q];exact al2q (al2q hQ)
end
section
variable {prog:ty4q}{w:World}{A:Around}{E:ty90q}{s:ty2q}
theorem zlv {I a T:ty1q}{i ep j:Nat}{es:Array (Int×ty3q)}{t:SetTable}{e:Int×ty3q}{ps:List Nat}{Q:Option ty3q->ty2q->Prop}(hit:SIter s.heap I (.ref T) i a es.size ep) (hr:RawS s.heap a es ep t)
    (ht:s.heap.IsTuple T (za9 ps)) (hp:ps[i]? = some j) (he:es[j]? = some e)
    (hQ:∀h1,SIter h1 I (.ref T) (i+1) a es.size ep->Heap.SameBut I s.heap h1->Q (some e.2) { s with heap:=h1 }):wpAny (model prog w) A (pyNext (.ref I)) Q E s:=by
  obtain⟨o,ho,hc,hd⟩:=id hit;obtain⟨⟨os,hos,hex,hds⟩,hf⟩:=id hr;obtain⟨ot,hot,hct,nt,hdt⟩:=id ht;unfold pyNext;refine al0q (al133q (al70q (name:=Str.ofString "__next__") hit.typeIs slot_seti_next (al50q slot_seti_next hit.typeIs zbe ?_ (zbj _))));unfold Builtin.«set_iterator.__next__»;refine al0q (al2q (al0q (al158q ho hd ?_)));show wpAny (model prog w) _ (setEntries a >>= _) _ _ s;refine al0q (al135q hos hds hf ?_);rw[al7q (by simp)];show wpAny (model prog w) _ (seqItems? (.ref T) >>= _) _ _ s;refine al0q (al88q hot hdt ?_);have e1:(za9 ps)[(i:Int).toNat]? = some (rawInt (j:Int)):=by
    show (ps.map fun (i:Nat)=>rawInt i).toArray[i]? = _;simp[hp]
  show wpAny (model prog w) _ (match (za9 ps)[(i:Int).toNat]? with | some (.int place _)=>_ | some _=>_ | none=>_) _ _ s;rw[e1];show wpAny (model prog w) _ (setNextDrawn a j ep >>= _) _ _ s;refine al0q ?_;unfold setNextDrawn;refine al0q (al132q hos hds hf ?_);dsimp only;rw[al7q (by simp),he];refine al2q ?_;show wpAny (model prog w) _ (setField (.ref I) 1 (rawInt ((i:Int)+1)) >>= _) _ _ s;refine al0q (al71q ho hd (by simp) ?_);obtain⟨g1,g2,g3⟩:=zg0 ho hd 1 (rawInt ((i:Int)+1));refine al2q ⟨_,rfl,al2q (hQ _ ⟨_,g1,g3.trans hc,?_⟩ (al65q ..))⟩;rw[g2];simp[rawInt]
theorem zoi {I a T:ty1q}{i ep:Nat}{es:Array (Int×ty3q)}{t:SetTable}{ps:List Nat}{Q:Option ty3q->ty2q->Prop}(hh:A.handled=none) (hit:SIter s.heap I (.ref T) i a es.size ep) (hr:RawS s.heap a es ep t)
    (ht:s.heap.IsTuple T (za9 ps)) (hp:ps[i]? = none) (hQ:∀h1,Heap.ExtBut I s.heap h1->Q none { s with heap:=h1 }):wpAny (model prog w) A (pyNext (.ref I)) Q E s:=by
  obtain⟨o,ho,hc,hd⟩:=id hit;obtain⟨⟨os,hos,hex,hds⟩,hf⟩:=id hr;obtain⟨ot,hot,hct,nt,hdt⟩:=id ht;unfold pyNext;refine al0q (al133q (al70q (name:=Str.ofString "__next__") hit.typeIs slot_seti_next (al50q slot_seti_next hit.typeIs zbe ?_ (zbj _))));unfold Builtin.«set_iterator.__next__»;refine al0q (al2q (al0q (al158q ho hd ?_)));show wpAny (model prog w) _ (setEntries a >>= _) _ _ s;refine al0q (al135q hos hds hf ?_);rw[al7q (by simp)];show wpAny (model prog w) _ (seqItems? (.ref T) >>= _) _ _ s;refine al0q (al88q hot hdt ?_);have e1:(za9 ps)[(i:Int).toNat]? = none:=by
    show (ps.map fun (i:Nat)=>rawInt i).toArray[i]? = _;simp[hp]
  show wpAny (model prog w) _ (match (za9 ps)[(i:Int).toNat]? with | some (.int place _)=>_ | some _=>_ | none=>_) _ _ s;rw[e1];show wpAny (model prog w) _ (setField (.ref I) 0 (rawInt 0) >>= _) _ _ s;refine al0q (al71q ho hd (by simp) ?_);obtain⟨g1,g2,g3⟩:=zg0 ho hd 0 (rawInt 0);show wpAny (model prog w) _ (setField (.ref I) 2 .none >>= _) _ _ _;refine al0q (al71q g1 g2 (by simp) ?_);show wpAny (model prog w) _ (newExc (.type "StopIteration") [] >>= _) _ _ _;refine al0q ?_;simp only [newExc,newTuple];refine al0q (al40q (al0q (m:=firstArgMember _ _) (al159q (a:=Value.none) (by first | rfl | (simp only [firstArgMember];rfl)) (al40q ?_ (by size_fits)))) (by size_fits));simp only [raiseNew];refine al0q (wpAny_handled ?_);rw[show A.in1.handled=none from hh];refine al0q (al2q (wpAny_throw ?_));exact al0q (al93q (T:="StopIteration") (b:=true) ⟨_,al12q _ rfl,rfl⟩ isSubtype_stop (al2q (hQ _ ((((al65q ..).trans (al65q ..)).extBut.push _).push _))))
theorem ze1 {I:ty1q}{first:ty3q}{i:Nat}{a:ty1q}{n ep:Nat}{Q:ty90q}(hit:SIter s.heap I first i a n ep) (h:Q (.ref I) s):wpAny (model prog w) A (pyIter (.ref I)) Q E s:=by
  refine al183q hit.typeIs zcz (al50q zcz hit.typeIs ze0 ?_ (zfl _));show wpAny _ _ (ret (.ref I)) _ _ s;exact al2q ⟨_,rfl,"set_iterator",_,hit.typeIs,slot_seti_next.lookup,h⟩
theorem SIter.at {h h':Heap}{I:ty1q}{first:ty3q}{i:Nat}{a:ty1q}{n ep:Nat}(q:SIter h I first i a n ep) (k:∀o,h.get? I=some o->h'.get? I=some o):SIter h' I first i a n ep:=let ⟨o,h1,h2⟩:=q;⟨o,k o h1,h2⟩
theorem zv3 (hh:A.handled=none) (I a T:ty1q) (ha:a≠I) (hT:T≠I) (es:Array (Int×ty3q)) (ep:Nat) (t:SetTable) (ps:List Nat) (hp:ps.Perm (List.range es.size)) :
    Walks prog w A I [I,a,T] [I] es.size (fun i v=>∃j e,ps[i]? = some j/\es[j]? = some e/\v=e.2) (fun i h=>SIter h I (.ref T) i a es.size ep/\RawS h a es ep t/\h.IsTuple T (za9 ps)) where
  sub:=fun b hb=>by simp at hb;simp[hb]
  frame:=fun i h h' st k=>⟨st.1.at fun o e=>k I (by simp) o e,st.2.1.at fun o e=>k a (by simp) o e,st.2.2.at fun o e=>k T (by simp) o e⟩
  item:=fun i s Q E hi st hQ=>by
    have hl:ps.length=es.size:=by rw[hp.length_eq,al58q]
    have e1:ps[i]? = some ps[i]:=al3q (by lia);have hj:ps[i]<es.size:=al69q.mp (hp.mem_iff.mp (al78q _));have e2:es[ps[i]]? = some es[ps[i]]:=al35q hj;exact zlv st.1 st.2.1 st.2.2 e1 e2 fun h1 it' hs=>hQ _ h1 s.toks ⟨_,_,e1,e2,rfl⟩ ⟨it',st.2.1.at fun o e=>(hs.2 a ha).trans e,st.2.2.at fun o e=>(hs.2 T hT).trans e⟩ fun b o hb e=>(hs.2 b (fun h=>hb (by simp[h]))).trans e
  done:=fun s Q E st hQ=>by
    have hl:ps.length=es.size:=by rw[hp.length_eq,al58q]
    exact zoi hh st.1 st.2.1 st.2.2 (al149q (by lia)) fun h1 he=>hQ h1 s.toks fun b o hb e=>he b o (fun h=>hb (by simp[h])) e
  self:=fun _ _ _ _ st hQ=>ze1 st.1 hQ
theorem zv4 (hh:A.handled=none) (hw:w.params.followText "set-order" = true) (I a:ty1q) (ha:a≠I) (es:Array (Int×ty3q)) (ep:Nat) (t:SetTable) :
    Walks prog w A I [I,a] [I] es.size (fun i v=>∃e,(pickOrder (w.params.setOrder a ep) es)[i]? = some e/\v=e.2) (fun i h=>SIter h I (.int 0 0) i a es.size ep/\RawS h a es ep t) where
  sub:=fun b hb=>by simp at hb;simp[hb]
  frame:=fun i h h' st k=>⟨st.1.at fun o e=>k I (by simp) o e,st.2.at fun o e=>k a (by simp) o e⟩
  item:=fun i s Q E hi st hQ=>by
    have hl:(pickOrder (w.params.setOrder a ep) es).size=es.size:=by
      have:=(zdm (w.params.setOrder a ep) es).length_eq;simpa using this
    have e1:(pickOrder (w.params.setOrder a ep) es)[i]? = some (pickOrder (w.params.setOrder a ep) es)[i]:=al35q (by lia);refine zh8 (slot:=0) (nx:=0) st.1 st.2 (fun hq=>zh9 hw st.2 (by rw[e1];exact hq)) fun h1 it' hs=>hQ _ h1 s.toks ⟨_,e1,rfl⟩ ⟨it',st.2.at fun o e=>(hs.2 a ha).trans e⟩ fun b o hb e=>(hs.2 b (fun h=>hb (by simp[h]))).trans e
  done:=fun s Q E st hQ=>by
    have hl:(pickOrder (w.params.setOrder a ep) es).size=es.size:=by
      have:=(zdm (w.params.setOrder a ep) es).length_eq;simpa using this
    have e1:(pickOrder (w.params.setOrder a ep) es)[es.size]? = none:=al96q (by lia);exact zk4 (slot:=0) hh st.1 st.2 (fun hq=>zh9 hw st.2 (by rw[e1];exact hq)) fun h1 he=>hQ h1 s.toks fun b o hb e=>he b o (fun h=>hb (by simp[h])) e
  self:=fun _ _ _ _ st hQ=>ze1 st.1 hQ
theorem zdn (j k:Nat):SetTable.below #[j] k=if j<k then 1 else 0:=by
  unfold SetTable.below;show SetTable.below.go #[j] k 1 0 1=_;unfold SetTable.below.go;simp;unfold SetTable.below.go;rfl
theorem zoj {xs:Array Nat}(h:xs.size=1):∃j,xs = #[j]:=by
  cases xs with
  | mk l=>
    match l,h with
    | [j],_=>exact⟨j,rfl⟩
def zbl (t:SetTable) (i:Nat):Nat:=if i=0 then 0 else t.place.getD (i-1) 0+1
theorem zv5 (hh:A.handled=none) (hw:w.params.followText "set-order" = false) (I a:ty1q) (ha:a≠I) (es:Array (Int×ty3q)) (ep:Nat) (t:SetTable) (hl:t.led=true) (hdr:(!t.plain&&decide (es.size > 1))=false) (hb:∀i,i<=es.size->SetTable.below t.place (zbl t i)=i) :
    Walks prog w A I [I,a] [I] es.size (fun i v=>∃e,es[i]? = some e/\v=e.2) (fun i h=>SIter h I (.int (zbl t i) 0) i a es.size ep/\RawS h a es ep t) where
  sub:=fun b hb=>by simp at hb;simp[hb]
  frame:=fun i h h' st k=>⟨st.1.at fun o e=>k I (by simp) o e,st.2.at fun o e=>k a (by simp) o e⟩
  item:=fun i s Q E hi st hQ=>by
    have hps:t.place.size=es.size:=by
      have:=st.2.fits;unfold SetTable.fits at this;rw[al42q] at this;exact eq_of_beq this.1
    have e0:es[i]? = some es[i]:=al35q hi;have e1:t.place[i]? = some t.place[i]:=al35q (by lia);refine zh8 (slot:=zbl t i) (nx:=t.place[i]+1) st.1 st.2 (fun hq=>zk5 hw st.2 hl hdr ?_) fun h' it' hs=>hQ _ h' s.toks ⟨_,e0,rfl⟩ ⟨?_,st.2.at fun o e=>(hs.2 a ha).trans e⟩ fun b o hb e=>(hs.2 b (fun h=>hb (by simp[h]))).trans e
    · rw[hb i (al127q hi),e0,e1];exact hq
    · have:zbl t (i+1)=t.place[i]+1:=by
        unfold zbl;rw[al7q (by lia),show i+1-1=i by lia,Array.getD_eq_getD_getElem?,e1];rfl
      rw[this];exact it'
  done:=fun s Q E st hQ=>by
    refine zk4 (slot:=zbl t es.size) hh st.1 st.2 (fun hq=>zk5 hw st.2 hl hdr ?_) fun h' he=>hQ h' s.toks fun b o hb e=>he b o (fun h=>hb (by simp[h])) e
    rw[hb es.size (al18q _),al96q (by lia)];exact hq
  self:=fun _ _ _ _ st hQ=>ze1 st.1 hQ
end
theorem zia {t:SetTable}{n:Nat}(hf:t.fits n=true) (h1:n<=1):∀i,i<=n->SetTable.below t.place (zbl t i)=i:=by
  have hps:t.place.size=n:=by
    unfold SetTable.fits at hf;rw[al42q] at hf;exact eq_of_beq hf.1
  intro i hi
  by_cases hz:n=0
  · have e:t.place = #[]:=al139q (by lia);rw[e,show i=0 by lia];rfl
  · obtain⟨j,hj⟩:=zoj (xs:=t.place) (by lia);unfold zbl;rw[hj]
    by_cases h0:i=0
    · rw[al11q h0,zdn,al7q (by lia),h0]
    · rw[al7q h0,show i-1=0 by lia,zdn,al11q (by show j<j+1;lia)];lia
section
variable {prog:ty4q}{w:World}{A:Around}{s:ty2q}{R:Result->ty2q->Prop}{I:ty1q}{fp wr:List ty1q}{n:Nat}{P:Nat->ty3q->Prop}{St:Nat->Heap->Prop}
theorem zd3 (W:Walks prog w A.in1 I fp wr n P St) (hn:n<=sizeLine) (S:ty1q) (c:Nat) (hst:St 0 s.heap) (hS:S ∉ fp) (hl:s.heap.get? S=some { cls:=.type "list",data:=.seq #[] c }) (r:ty3q)
    (hR:∀s1 acc c1,Moved (S::wr) (fun a b=>b=a) s s1->s1.heap.get? S=some { cls:=.type "list",dict:=none,data:=.seq acc c1,slots:=#[] }->ItemsOf P acc n->R (.ok (.ret r)) s1) :
    wpAny (model prog w) A.in1 (rule "list.extend.makes-room" >>= fun _=>Builtin.List.listTouch (.ref S) >>= fun _=>again (.builtin "list.extend.loop" ⟨[.ref S,.ref I,r],[]⟩))
      (fun fin s1=>match fin with | .done f=>R (.ok f) s1 | .again c1=>c1.quiet=true/\codeAny (model prog w) A c1 R s1) (fun e s1=>R (.error e) s1) s:=by
  refine al0q (al102q (al0q ?_));show wpAny (model prog w) A.in1 (updateSeq S (·.push .none) >>= fun _=>updateSeq S (·.pop)) _ _ _;refine al0q (al83q hl rfl ?_);have l2:=al31q (Obj.mapSeq (·.push Value.none)) hl rfl;refine al83q (hz:=by seq_fits) l2 rfl ?_;have l3:=al31q (Obj.mapSeq (·.pop)) l2 rfl;have oth:∀b o,b≠S->s.heap.get? b=some o->((s.heap.update S (Obj.mapSeq (·.push Value.none))).update S (Obj.mapSeq (·.pop))).get? b=some o:=fun b o hb e=>(al29q _ _ (al36q hb)).trans ((al29q _ _ (al36q hb)).trans e)
  refine al2q ⟨al66q PySem.F.plain_extend_loop _,codeAny_extend_loopS W.toS hn _ hS _ n 0 _ _ _ rfl (al73q _) (W.toS.frame 0 s _ s.toks hst (al18q _) fun b hb o e=>oth b o (fun h=>hS (h▸hb)) e) l3 (ItemsOf.nil P) fun s1 acc c1 hm h1 h2=>?_⟩;have m0:Moved (S::wr) (fun (a b:Array GenState)=>b=a) s { s with heap:=(s.heap.update S (Obj.mapSeq (·.push Value.none))).update S (Obj.mapSeq (·.pop)) }:=⟨fun b o hb e=>oth b o (fun h=>hb (by simp[h])) e,rfl,rfl,rfl,al18q _⟩;exact hR s1 acc c1 (Moved.trans (fun _ _ _ h1 h2=>h2.trans h1) m0 hm) h1 h2
end
section
variable {prog:ty4q}{w:World}{A:Around}{E:ty90q}{s:ty2q}
theorem zk6 {d:ty1q}{Q:Bool->ty2q->Prop}(T:s.TypeIs (.ref d) "set") (hq:Q false s):wpAny (model prog w) A (Builtin.List.listLengthHint (.ref d)) Q E s:=by
  unfold Builtin.List.listLengthHint;refine al0q (al194q T PySem.F.slot_set_len.lookup ?_);have e:splitId "set.__len__" = some ("set","__len__"):=by kernel_rfl
  simp only [e];have sub:isSubtype (.type "set") (.type "set")=pure true:=by rw[al97q];kernel_rfl
  exact al0q (al93q (T:="set") (b:=true) T sub (al0q (al145q T (al2q hq))))
theorem zd4 {P:Nat->ty3q->Prop}{acc:Array ty3q}{n:Nat}(h:ItemsOf P acc n) (l:List ty3q) (hl:l.length=n) (hp:∀i v,P i v->l[i]? = some v):acc.toList=l:=by
  apply List.ext_getElem?;intro i
  by_cases hi:i<n
  · have hs:i<acc.size:=by rw[h.1];exact hi
    have e:acc[i]? = some acc[i]:=al35q hs;rw[hp i _ (h.2 i _ e),al122q,e]
  · have h1:acc.toList.length<=i:=by rw[al34q,h.1];lia
    have h2:l.length<=i:=by lia
    rw[al149q h1,al149q h2]
theorem zjm {es:Array (Int×ty3q)}{ps:List Nat}(hp:ps.Perm (List.range es.size)):(ps.filterMap fun j=>(es[j]?).map (·.2)).Perm (es.toList.map (·.2)):=by
  refine (hp.filterMap _).trans (List.Perm.of_eq ?_);have gen:∀l:List (Int×ty3q),(List.range l.length).filterMap (fun j=>(l[j]?).map (·.2))=l.map (·.2):=by
    intro l
    induction l with
    | nil=>rfl
    | cons x r ih=>
      rw[al57q,List.range_succ_eq_map,al86q,List.filterMap_map];show x.2::_=_;rw[al56q,←ih];rfl
  rw[←al34q,←gen es.toList]
  congr 1
  funext j;rw[al122q]
theorem zdo {α β:Type}{f:α->β}{g:α->Option β}:∀{ps:List α},(∀j∈ps,g j=some (f j))->ps.map f=ps.filterMap g
  | [],_=>rfl
  | j::r,h=>by
    rw[al56q,al86q,h j (by simp)];show _=f j::_;rw[zdo fun i hi=>h i (al5q _ hi)]
theorem zlw {S a:ty1q}{es:Array (Int×ty3q)}{ep:Nat}{t:SetTable}{c:Nat}{r:ty3q}{R:Result->ty2q->Prop}(hh:A.handled=none) (hr:RawS s.heap a es ep t) (hz:es.size<=sizeLine) (hl:t.led=ledW w) (hp:(!t.plain&&decide (es.size > 1))=false->∀i,i<=es.size->SetTable.below t.place (zbl t i)=i)
    (hS:s.heap.get? S=some { cls:=.type "list",data:=.seq #[] c }) (hne:S≠a)
    (hR:∀h1 acc c1 d tk,(∀b o,b≠S->s.heap.get? b=some o->h1.get? b=some o)->h1.get? S=some { cls:=.type "list",dict:=none,data:=.seq acc c1,slots:=#[] }->acc.toList.Perm (es.toList.map (·.2))->R (.ok (.ret r)) { s with heap:=h1,drawn:=d,toks:=tk }) :
    wpAny (model prog w) A.in1 (Builtin.List.listExtendWith (.ref S) (.ref a) r) (fun fin s1=>match fin with | .done f=>R (.ok f) s1 | .again c1=>c1.quiet=true/\codeAny (model prog w) A c1 R s1) (fun e s1=>R (.error e) s1) s:=by
  obtain⟨oa,hoa,hexa,hda⟩:=id hr.ex;have al:a<s.heap.objs.size:=al13q hoa;have sl:S<s.heap.objs.size:=al13q hS;have T:s.TypeIs (.ref a) "set":=⟨oa,hoa,hexa.1⟩;unfold Builtin.List.listExtendWith;refine al0q (al145q T ?_);have sr:Builtin.List.listSameRef (.ref S) (.ref a)=false:=by simp[Builtin.List.listSameRef,hne]
  have t1:(Value.type "set" == Value.type "list")=false:=by decide
  have t2:(Value.type "set" == Value.type "tuple")=false:=by decide
  simp only [sr,t1,t2,Bool.or_false,al119q,al182q];refine al0q (zq8 hr hz (fun hb=>?_) (fun hb ps d p=>?_))
  · have old:∀b o,s.heap.get? b=some o->(s.heap.push (zb2 (.int 0 0) 0 a es.size ep)).get? b=some o:=fun b o e=>al4q _ e
    have hr2:=hr.at (fun o e=>old a o e);have hit:SIter (s.heap.push (zb2 (.int 0 0) 0 a es.size ep)) s.heap.objs.size (.int 0 0) 0 a es.size ep:=⟨_,al12q _ rfl,rfl,rfl⟩;have hS2:=old _ _ hS;have T2:({ s with heap:=s.heap.push (zb2 (.int 0 0) 0 a es.size ep) }:ty2q).TypeIs (.ref a) "set":=⟨oa,old _ _ hoa,hexa.1⟩;have SI:S ∉ [s.heap.objs.size,a]:=by
      simp only [al14q,al43q,al160q];exact fun z=>z.elim (al26q sl) hne
    refine al0q (al47q (zk6 T2 ?_));have fin:∀(P:Nat->ty3q->Prop),(∀acc,ItemsOf P acc es.size->acc.toList.Perm (es.toList.map (·.2)))->∀s1 acc c1,Moved (S::[s.heap.objs.size]) (fun (a b:Array GenState)=>b=a) { s with heap:=s.heap.push (zb2 (.int 0 0) 0 a es.size ep) } s1->s1.heap.get? S=some { cls:=.type "list",dict:=none,data:=.seq acc c1,slots:=#[] }->ItemsOf P acc es.size->R (.ok (.ret r)) s1:=by
      intro P hP s1 acc c1 hm h1 h2;obtain⟨hp1,ge,dr,tk,os⟩:=s1;obtain⟨m1,m2,m3,m4,m5⟩:=hm;obtain rfl:ge=s.gens:=m2;obtain rfl:os=s.os:=m4;refine hR hp1 acc c1 dr tk (fun b o hb e=>m1 b o ?_ (old b o e)) h1 (hP acc h2);intro z;simp only [al14q,al43q,al160q] at z;exact z.elim hb fun z=>absurd (al13q e) (by rw[z];exact al64q _)
    cases hw:w.params.followText "set-order" with
    | true=>
      refine zd3 (A:=A) (s:={ s with heap:=s.heap.push (zb2 (.int 0 0) 0 a es.size ep) }) (zv4 (A:=A.in1) hh hw s.heap.objs.size a (al26q al) es ep t) hz S c ⟨hit,hr2⟩ SI hS2 r (fin _ fun acc h=>?_);have e:=zd4 h ((pickOrder (w.params.setOrder a ep) es).toList.map (·.2)) (by rw[al1q,(zdm _ _).length_eq,al34q]) (fun i v ⟨e,h1,h2⟩=>by
        rw[al10q,al122q,h1,h2];rfl)
      rw[e];exact (zdm _ _).map _
    | false=>
      have hdr:(!t.plain&&decide (es.size > 1))=false:=by
        unfold zh7 at hb;rw[hw] at hb;simpa using hb
      have hled:t.led=true:=by rw[hl];unfold ledW;rw[hw];rfl
      refine zd3 (A:=A) (s:={ s with heap:=s.heap.push (zb2 (.int 0 0) 0 a es.size ep) }) (zv5 (A:=A.in1) hh hw s.heap.objs.size a (al26q al) es ep t hled hdr (hp hdr)) hz S c ⟨hit,hr2⟩ SI hS2 r (fin _ fun acc h=>?_);have e:=zd4 h (es.toList.map (·.2)) (by rw[al1q,al34q]) (fun i v ⟨e,h1,h2⟩=>by
        rw[al10q,al122q,h1,h2];rfl)
      rw[e]
  · have old1:∀b o,s.heap.get? b=some o->(s.heap.push { cls:=.type "tuple",data:=.seq (za9 ps) }).get? b=some o:=fun b o e=>al4q _ e
    have zu:(s.heap.push { cls:=.type "tuple",data:=.seq (za9 ps) }).objs.size=s.heap.objs.size+1:=al82q ..;have hTp:(s.heap.push { cls:=.type "tuple",data:=.seq (za9 ps) }).IsTuple s.heap.objs.size (za9 ps):=⟨_,al12q _ rfl,rfl,0,rfl⟩;generalize s.heap.push { cls:=.type "tuple",data:=.seq (za9 ps) } = g at old1 zu hTp;have old:∀b o,s.heap.get? b=some o->(g.push (zb2 (.ref s.heap.objs.size) 0 a es.size ep)).get? b=some o:=fun b o e=>al4q _ (old1 b o e)
    have hr2:=hr.at (fun o e=>old a o e);have hit:SIter (g.push (zb2 (.ref s.heap.objs.size) 0 a es.size ep)) g.objs.size (.ref s.heap.objs.size) 0 a es.size ep:=⟨_,al12q _ rfl,rfl,rfl⟩;have hS2:=old _ _ hS;have hTp2:(g.push (zb2 (.ref s.heap.objs.size) 0 a es.size ep)).IsTuple s.heap.objs.size (za9 ps):=hTp.at fun o e=>al4q _ e
    have T2:({ s with heap:=g.push (zb2 (.ref s.heap.objs.size) 0 a es.size ep),drawn:=d }:ty2q).TypeIs (.ref a) "set":=⟨oa,old _ _ hoa,hexa.1⟩;have SI:S ∉ [g.objs.size,a,s.heap.objs.size]:=by
      rw[zu];simp only [al14q,al43q,al160q];rintro (z | z | z)
      · exact absurd z (al26q (al79q sl))
      · exact hne z
      · exact absurd z (al26q sl)
    refine al0q (al47q (zk6 T2 ?_));refine zd3 (A:=A) (s:={ s with heap:=g.push (zb2 (.ref s.heap.objs.size) 0 a es.size ep),drawn:=d }) (zv3 (A:=A.in1) hh g.objs.size a s.heap.objs.size (by rw[zu];exact al26q (al79q al)) (by rw[zu];exact al26q (al115q _)) es ep t ps p) hz S c ⟨hit,hr2,hTp2⟩ SI hS2 r fun s1 acc c1 hm h1 h2=>?_
    obtain⟨hp1,ge,dr,tk,os⟩:=s1;obtain⟨m1,m2,m3,m4,m5⟩:=hm;obtain rfl:ge=s.gens:=m2;obtain rfl:os=s.os:=m4;refine hR hp1 acc c1 dr tk (fun b o hb e=>m1 b o ?_ (old b o e)) h1 ?_
    · intro z;simp only [al14q,al43q,al160q] at z;have bl:=al13q e;rcases z with z | z
      · exact hb z
      · have z:b=g.objs.size:=z;rw[z,zu] at bl;exact absurd bl (al137q (al104q _))
    · have hlp:ps.length=es.size:=by rw[p.length_eq,al58q]
      have hall:∀j∈ps,j<es.size:=fun j hj=>al69q.mp (p.mem_iff.mp hj)
      have e:=zd4 h2 (ps.map fun j=>((es[j]?).map (·.2)).getD .none) (by rw[al1q,hlp]) (fun i v ⟨j,e,h1,h2,h3⟩=>by
        rw[al10q,h1,h3];show some (((es[j]?).map (·.2)).getD .none)=_;rw[h2];rfl)
      rw[e];refine List.Perm.trans (List.Perm.of_eq ?_) (zjm p);exact zdo fun j hj=>by
        rw[al35q (hall j hj)];rfl
end
theorem zok:∀{vs:List ty3q},(∀v∈vs,∃x t,v=Value.str x t)->∃ks,StrsAre vs ks
  | [],_=>⟨[],.nil⟩
  | v::r,h=>by
    obtain⟨x,t,rfl⟩:=h v (by simp);obtain⟨ks,hk⟩:=zok (vs:=r) fun u hu=>h u (al5q _ hu)
    exact⟨x::ks,.cons x t hk⟩
theorem zq9 {vs:List ty3q}{ks:List Str}(h:StrsAre vs ks):∀y,y∈ks↔∃t,Value.str y t∈vs:=by
  induction h with
  | nil=>intro y;simp
  | cons x t hr ih=>
    intro y;rw[al14q,ih y];constructor
    · rintro (rfl | ⟨u,hu⟩)
      · exact⟨t,by simp⟩
      · exact⟨u,al5q _ hu⟩
    · rintro ⟨u,hu⟩;rcases al14q.mp hu with e | hu
      · injection e with e1 e2;exact .inl e1
      · exact .inr ⟨u,hu⟩
theorem zra {vs:List ty3q}{ks:List Str}(h:StrsAre vs ks):vs.length=ks.length:=by
  induction h with
  | nil=>rfl
  | cons x t hr ih=>rw[al57q,al57q,ih]
theorem zlx {ds ks:List Str}(hn:ds.Nodup) (hs:∀x∈ds,x∈ks) (hl:ks.length=ds.length):ks.Perm ds:=by
  induction ds generalizing ks with
  | nil=>rw[al80q.mp hl]
  | cons d r ih=>
    rw[al76q] at hn;have hd:=hs d (by simp);have h2:∀x∈r,x∈ks.erase d:=fun x hx=>(al161q (fun z=>by subst z;exact hn.1 hx)).mpr (hs x (al5q _ hx))
    have:=ih hn.2 h2 (by rw[al134q hd,hl];rfl);exact (List.perm_cons_erase hd).trans (this.cons d)
section
variable {prog:ty4q}{w:World}{A:Around}{E:ty90q}{s:ty2q}
theorem ze2 {a:ty1q}{es:Array (Int×ty3q)}{ep:Nat}{t:SetTable}{Q:List ty3q->ty2q->Prop}(hh:A.handled=none) (hr:RawS s.heap a es ep t) (hz:es.size<=sizeLine) (hl:t.led=ledW w) (hp:(!t.plain&&decide (es.size > 1))=false->∀i,i<=es.size->SetTable.below t.place (zbl t i)=i)
    (hQ:∀vs h1 d tk,vs.Perm (es.toList.map (·.2))->(∀b o,s.heap.get? b=some o->h1.get? b=some o)->s.heap.objs.size<h1.objs.size->Q vs { s with heap:=h1,drawn:=d,toks:=tk }):wpAny (model prog w) A (collect (.ref a)) Q E s:=by
  obtain⟨oa,hoa,hexa,hda⟩:=id hr.ex;have al:a<s.heap.objs.size:=al13q hoa;unfold collect;refine al0q (wpAny_runValue (al51q PySem.F.entry_proto_collect ?_));rw[al41q PySem.F.plain_proto_collect _];show wpAny _ A.in1 (newList [] >>= fun l=>again (.builtin "list.__iadd__" ⟨[l,.ref a],[]⟩)) _ _ s;refine al0q (al40q ?_);refine al2q ⟨al66q PySem.F.plain_list_iadd _,al51q PySem.F.entry_list_iadd ?_⟩;rw[al41q PySem.F.plain_list_iadd _];show wpAny _ A.in1 (Builtin.List.listExtendWith (.ref s.heap.objs.size) (.ref a) (.ref s.heap.objs.size)) _ _ _;have hS:(s.heap.push { cls:=.type "list",data:=.seq ([]:List ty3q).toArray }).get? s.heap.objs.size=some { cls:=.type "list",data:=.seq #[] }:=al12q _ rfl;have old:∀b o,s.heap.get? b=some o->(s.heap.push { cls:=.type "list",data:=.seq ([]:List ty3q).toArray }).get? b=some o:=fun b o e=>al4q _ e
  have hr2:=hr.at (fun o e=>old a o e);refine zlw (prog:=prog) (A:=A) (r:=.ref s.heap.objs.size) (R:=fun r s'=>match r with
    | .ok (.ret v)=>wpAny (model prog w) A (match v with
      | .ref a=>do
        let o ←load a
        match o.data with
        | .seq xs _=>pure xs.toList
        | _=>unsupported "internal:collect"
      | _=>unsupported "internal:collect") Q E s'
    | .ok _=>False
    | .error e=>E e s') (s:={ s with heap:=s.heap.push { cls:=.type "list",data:=.seq ([]:List ty3q).toArray } }) hh hr2 hz hl hp hS (al36q (al26q al)) fun h1 acc c1 d tk k e p=>?_
  show wpAny _ A (load s.heap.objs.size >>= _) _ _ _;refine al0q (wpAny_load e ?_);exact al2q (hQ _ h1 d tk p (fun b o eb=>k b o (fun z=>al64q _ (z▸al13q eb)) (old b o eb)) (al13q e))
theorem zol {t:SetTable}{n:Nat}(hf:t.fits n=true) (h:plT t n) (hdr:(!t.plain&&decide (n > 1))=false):∀i,i<=n->SetTable.below t.place (zbl t i)=i:=
  zia hf (by
    by_cases h0:n=0
    · lia
    · rw[h h0] at hdr;simpa using hdr)
theorem zjn {a:ty1q}{S:Str->Bool}{n:Nat}{Q:ty90q}(hh:A.handled=none) (hS:SetL (strKind prog w) plT s.heap a S n (ledW w)) (h64:n<64)
    (hQ:∀(D:ty1q) (out:Array ty3q) (ks ms:List Str) (h':Heap) (d:Drawn) (tk c:Nat),StrsAre out.toList ms->ms.Perm ks->sortedS ms=true->ks.length=n->(∀y,y∈ks↔S y=true)->
      (∀b o,s.heap.get? b=some o->h'.get? b=some o)->s.heap.objs.size<=D->h'.get? D=some (seqObj "list" out c)->Q (.ref D) { s with heap:=h',drawn:=d,toks:=tk }) :
    wpAny (model prog w) A (call (.builtin "sorted") [.ref a]) Q E s:=by
  obtain⟨o,es,ep,t,ho,hex,hd,hel,hmem,hb,hf,hn,hld,hpl⟩:=hS;have hr:RawS s.heap a es ep t:=⟨⟨o,ho,hex,hd⟩,hf⟩;have hsz:es.size<=sizeLine:=al185q hb;refine Calls.call_function_entry kind_sorted plain_sorted entry_sorted (args_sorted1 _) ?_;unfold Builtin.«sorted»;refine al0q (m:=checkCount "sorted" 1 1 _) (al2q ?_);refine al0q (ze2 (A:=A.in1) hh hr hsz hld (zol hf hpl) fun vs h1 d tk p k sz=>?_);have hvl:vs.length=n:=by rw[p.length_eq,al1q,al34q,hn]
  have hstr:∀v∈vs,∃x t,v=Value.str x t:=by
    intro v hv;obtain⟨e,he,rfl⟩:=al27q.mp (p.mem_iff.mp hv);obtain⟨⟨kx,hk,_⟩,_⟩:=hel e he;cases e2:e.2 with
    | str x t=>
      exact⟨x,t,rfl⟩
    | _=>rw[e2] at hk;simp[PySem.strKind,Value.isStrOf] at hk
  obtain⟨ks,hks⟩:=zok hstr;have hkl:ks.length=n:=by rw[←zra hks,hvl]
  refine al0q (wpAny_newList ?_ (by rw[hvl,al140q];lia));have hoL:(h1.push (seqObj "list" vs.toArray 0)).get? h1.objs.size=some (seqObj "list" vs.toArray 0):=al12q _ rfl;show wpAny _ _ _ _ _ { s with heap:=h1.push (seqObj "list" vs.toArray 0),drawn:=d,toks:=tk };refine al0q (al47q (al50q slot_list_sort ⟨_,hoL,rfl⟩ entry_list_sort (list_sort_treeK strKind_oneLt hoL hks.keysOf (fun v₁ v₂ rest e=>keyKind_strs (by rw[←e];exact hks)) (by lia) fun st' a1 a2=>⟨_,rfl,?_⟩) (args_list_sort _)));obtain⟨ms,b1,b2,b3⟩:=sorted_out_str hks a1 a2;obtain⟨c,hc⟩:=sortedHeap_at (out:=(arrOf st').map (·.2)) hoL;refine al2q ⟨_,rfl,hQ h1.objs.size _ ks ms _ d tk c b1 b2 b3 hkl (fun y=>?_) (fun b o e=>?_) (al127q sz) hc⟩
  · rw[zq9 hks y,hmem y];constructor
    · rintro ⟨t,ht⟩;obtain⟨e,he,e2⟩:=al27q.mp (p.mem_iff.mp ht);exact⟨e,he,by rw[e2];exact strKind_is _ _ _ _⟩
    · rintro ⟨e,he,hk⟩;have hv:e.2∈vs:=p.mem_iff.mpr (al27q.mpr ⟨e,he,rfl⟩);obtain⟨x,t,ex⟩:=hstr _ hv;rw[ex] at hk hv;have:x=y:=by
        have:=hk;simp[PySem.strKind,Value.isStrOf] at this
        first | exact this | exact this.symm
      subst this;exact⟨t,hv⟩
  · have e1:=k b o e;have hlt:=al13q e1;have e2:(h1.push (seqObj "list" vs.toArray 0)).get? b=some o:=al4q _ e1;rw[sortedHeap_old (al26q hlt) (al13q e2)];exact e2
end
section
variable {X:Cx}
theorem Inv.drawn {pins:ty91q}{σ:St}{H:Hp}{s:ty2q}{d:Drawn}(I:Inv X pins σ H s):Inv X pins σ H { s with drawn:=d }:=⟨I.ok,I.os,I.bare,I.base,I.loc,I.cell,I.free,I.freeC,I.pin,I.hok,I.len⟩
def setG {P:ty4q}{w:World}{κ:Type} [DecidableEq κ] (knd:KeyKind P w κ) (Tb:SetTable->Nat->Prop) (D:ty1q) (ds:List κ):HO:=.ext fun h=>SetL knd Tb h D (fun k=>decide (k∈ds)) ds.length (ledW w)
theorem zib {κ:Type} [DecidableEq κ] {knd:KeyKind X.prog X.w κ}{mkv:κ->Tok->ty3q}{Tb:SetTable->Nat->Prop}(B:TbK knd mkv Tb) (vk:κ->V) (z:κ) (hr:∀k v,RelV (vk k) v->∃t,v=mkv k t) (hc:X.calm=true):zbr X (.type "set") (fun xs H Q=>∃(p:ty1q) (ys:List κ),xs = [.ref p]/\SqL X.K H p (ys.map vk)/\ys.length<=1000/\
    ∀(D:ty1q) (ds:List κ),H D=none->ds.Nodup->(∀y,y∈ds↔y∈ys)->ds.length<=ys.length->Q (.ref D) (upd H D (setG knd Tb D ds))):=by
  intro pins s σ H xs us Q I r h;obtain⟨p,ys,rfl,hp,hl,q⟩:=h;obtain⟨u,rfl,ru⟩:=zc4 r;cases ru;obtain⟨its,rv,pl,hz⟩:=I.list hp;have hlen:=rv.length;rw[al1q] at hlen;have hv:∀i v,its.toArray[i]? = some v->∃t,v=mkv (ys.getD i z) t:=by
    intro i v e;have e':its[i]? = some v:=by simpa using e
    have hi:i<ys.length:=by have:=(al8q.mp e').1;lia
    obtain⟨w',e2,rw'⟩:=rv.get (i:=i) (x:=vk ys[i]) (by simp[hi]);rw[e'] at e2;cases e2;have:ys.getD i z=ys[i]:=by rw[al30q,al3q hi];rfl
    rw[this];exact hr _ _ rw'
  have hsz:its.toArray.size=ys.length:=by rw[al24q,hlen]
  refine zjl B (I.ok.hd hc) pl.isList hv (by rw[hsz];unfold scanBound;lia) fun h' tk hS k=>?_
  have kp:∀b o,s.heap.get? b=some o->h'.get? b=some o:=fun b o e=>k b o (al13q e) e
  rw[hsz] at hS;refine⟨.ref s.heap.objs.size,_,I.laid (t':=tk) (a:=s.heap.objs.size) (o:=setG knd Tb s.heap.objs.size (dd (fun i=>ys.getD i z) ys.length)) kp (al18q _) ⟨hS,?_,fun h1 h2 hq k2=>hq.keep k2⟩,rfl,q _ _ (I.hok.fresh (al18q _)) (zgz _ _) (fun y=>?_) (zof _ _)⟩
  · obtain⟨o,_,_,_,ho,_⟩:=hS;exact⟨o,ho⟩
  · rw[zsl];constructor
    · rintro ⟨j,hj,e⟩;rw[←e,al30q,al3q hj];exact al78q hj
    · intro hy;obtain⟨j,hj,e⟩:=al157q.mp hy;exact⟨j,hj,by rw[al30q,al3q hj];exact e⟩
def setO (P:ty4q) (w:World) (D:ty1q) (ds:List Str):HO:=setG (strKind P w) plT D ds
theorem zom {P:ty4q}{w:World}{K:ty0q}(hP:X.prog=P) (hw:X.w=w) (hK:X.K=K) (hc:X.calm=true):zbr X (.type "set") (fun xs H Q=>∃(p:ty1q) (ys:List Str),xs = [.ref p]/\SqL K H p (ys.map V.str)/\ys.length<=1000/\
    ∀(D:ty1q) (ds:List Str),H D=none->ds.Nodup->(∀y,y∈ds↔y∈ys)->ds.length<=ys.length->Q (.ref D) (upd H D (setO P w D ds))):=by
  subst hP hw hK;exact zib zxg V.str "" (fun _ _ h=>h) hc
theorem zfn {P:ty4q}{w:World}(hP:X.prog=P) (hw:X.w=w) (hc:X.calm=true):zbr X (.builtin "sorted") (fun xs H Q=>∃(D:ty1q) (ds:List Str),xs = [.ref D]/\H D=some (setO P w D ds)/\ds.Nodup/\ds.length<64/\
    ∀(p:ty1q) (ms:List Str),H p=none->ms.Perm ds->ms.Pairwise (fun a b=>¬b.cps.toList<a.cps.toList)->Q (.ref p) (upd H p (.lst (ms.map V.str)))):=by
  subst hP hw;intro pins s σ H xs us Q I r h;obtain⟨D,ds,rfl,hD,nd,h64,q⟩:=h;obtain⟨u,rfl,ru⟩:=zc4 r;cases ru;obtain⟨hS,_⟩:=(show ObjOk X.prog X.w H s.heap D (setO X.prog X.w D ds) from I.hok D _ hD);refine zjn (I.ok.hd hc) hS h64 fun p out ks ms h' d tk c b1 b2 b3 hkl hmem kp hp hg=>?_
  have hperm:ks.Perm ds:=zlx nd (fun x hx=>(hmem x).mpr (al15q hx)) hkl;have vs:∀{us:List ty3q}{ys:List Str},StrsAre us ys->Vals (ys.map V.str) us:=by
    intro us ys h
    induction h with
    | nil=>exact .nil
    | cons x t _ ih=>exact .cons ⟨t,rfl⟩ ih
  have hm:ms.length=ds.length:=(b2.trans hperm).length_eq;have hs:sizeLine=16777216:=al140q;have I2:=I.laid (t':=tk) (h':=h') (a:=p) (o:=.lst (ms.map V.str)) kp hp ⟨by rw[al1q];lia,out.toList,c,vs b1,by rw[hg]⟩;exact⟨.ref p,_,I2.drawn,rfl,q _ ms (I.hok.fresh hp) (b2.trans hperm) (zcf b3)⟩
end
theorem zsm {c:TT}{t u:TS}{D:Ends}{σ:St}{H:Hp}(P:St->Prop) (b:Bool) (ht:∀Q':Bool->Hp->Prop,Q' b H->c σ H Q') (h1:b=true->∃σ1,P σ1/\(D.nx σ1 H->t D σ H)) (h2:b=false->∃σ2,P σ2/\(D.nx σ2 H->u D σ H))
    (hn:∀σ',P σ'->D.nx σ' H):tIfS c t u D σ H:=by
  refine zcx b ht ?_;cases b with
  | true=>
    obtain⟨σ1,p,h⟩:=h1 rfl;exact iteT (h (hn _ p))
  | false=>
    obtain⟨σ2,p,h⟩:=h2 rfl;exact iteF (h (hn _ p))
def Itd (a:ty1q) (ob:Obj) (kvs:List (Key×V)):It:=
  ⟨fun i H=>H a=some (.frz ob (.dK kvs))/\i<kvs.length,fun i H x H'=>H'=H/\∃kv,kvs[i]? = some kv/\x=kV kv.1,fun i H=>H a=some (.frz ob (.dK kvs))/\kvs.length<=i⟩
theorem zon {P:ty4q}{w:World}{K:ty0q}{tg:Expr}(a it:ty1q) {ob:Obj}{kvs:List (Key×V)}{es:Array DictEntry}{ep:Nat}(hd:ob.data = .dict es ep) (hl:es.size=kvs.length):Turn P w K tg (Itd a ob kvs) [it] it (fun i h=>h.IsKeyIter it a i es.size ep) where
  mem:=by simp
  obj:=fun i h st b hb=>by
    have e:b=it:=by simpa using hb
    subst e;obtain⟨o,e,c,d⟩:=st;exact⟨o,e,fun v z=>by rw[d] at z;cases z⟩
  keep:=fun i h h' st k=>st.at fun o e=>k it (by simp) o e
  item:=by
    intro X hP hw hK hc i pins s σ H E I hf st hg;subst hP hw hK;obtain⟨hq,hx⟩:=hg;obtain⟨e0,z,hs,vs,rel,o,es',ep',e,ex,dt,kk,pr,nd⟩:=I.hok a _ hq;rw[e0] at e;cases e;rw[hd] at dt;cases dt;have hi:i<es.size:=by lia
    have hen:es[i]? = some es[i]:=al35q hi;obtain⟨f0,f1,f2,f3,f4,f5⟩:=hf it (by simp);refine zkr st ⟨ob,e0,ex,hd⟩ hen fun h' st' sb=>?_
    have I1:Inv X pins σ H { s with heap:=h' }:=I.turned (t':=s.toks) (fun b o hb e=>(sb.2 b hb).trans e) f0 f1 f3 f4 f5;obtain⟨oi,ei,ci,di⟩:=id st';have ek:kvs[i]? = some kvs[i]:=al3q hx;obtain⟨w',hw,rw'⟩:=Paired.get' rel ek;have:=(pr.get? (e:=es[i]) (k:=w'.1) (v:=w'.2) (i:=i) (by rw[al122q];exact hen) (by rw[hw])).1;have e1:kvs[i].1=w'.1:=rw'.1;exact⟨_,rfl,zmy (s:={ s with heap:=h' }) ei ci di (by decide) ⟨kV kvs[i].1,H,I1,by rw[e1];exact znv this,⟨rfl,_,ek,rfl⟩,st',fun b hb=>(hf b hb).1⟩⟩
  done:=by
    intro X hP hw hK hc i pins s σ H E I hf st hg;subst hP hw hK;obtain⟨hq,hx⟩:=hg;obtain⟨e0,z,hs,vs,rel,o,es',ep',e,ex,dt,kk,pr,nd⟩:=I.hok a _ hq;rw[e0] at e;cases e;obtain⟨f0,f1,f2,f3,f4,f5⟩:=hf it (by simp);exact znr (I.ok.hd hc) st ⟨ob,e0,ex,hd⟩ (by lia) fun h' eb=>⟨rfl,I.turned (t':=s.toks) (fun b o hb e=>eb b o hb e) f0 f1 f3 f4 f5⟩
  self:=fun _ _ _ _ _ st h=>wpAny_pyIter_keyiter st h
section
variable {X:Cx}{tg:Expr}
def zxi (tl:TE):TI:=fun σ H R=>tl σ H fun x H1=>∃a ob kvs,x = .ref a/\H1 a=some (.frz ob (.dK kvs))/\R (Itd a ob kvs) H1
theorem zbx {l:Expr}{tl:TE}(hl:PE X l tl):PI X tg l (zxi tl):=by
  intro pins s σ H R I h;refine thn (hl pins s σ H _ I h) fun v s1 hq0=>?_
  obtain⟨x,H1,I1,r1,q1⟩:=hq0;obtain⟨a,ob,kvs,e,hq,q⟩:=q1;subst e;cases r1;obtain⟨e0,z,hs,vs,rel,o,es,ep,e,ex,dt,kk,pr,nd⟩:=I1.hok a _ hq;have e0':=e0;rw[e0] at e;cases e;have l1:kvs.length=vs.length:=Paired.length rel;have l2:es.size=vs.length:=by rw[←pr.length];simp
  refine zkq hs ⟨ob,e0,ex,dt⟩ ?_;refine⟨s1.heap.objs.size,[s1.heap.objs.size],_,_,H1,rfl,I1.kept (t':=s1.toks) fun b o e=>al4q _ e,zon a _ dt (l2.trans l1.symm),⟨_,al12q _ rfl,rfl,rfl⟩,fun b hb=>?_,q⟩;have e:b=s1.heap.objs.size:=by simpa using hb
  subst e;exact I1.fpOk (al18q _) (I1.hok.fresh (al18q _))
theorem zb9 {a:ty1q}{ob:Obj}{kvs:List (Key×V)}{g:TG}{tb:TS}{D:Ends}{σ:St}{H:Hp}(Pv:Nat->St->Hp->Prop) (h0:Pv 0 σ H) (hl:∀i σ H,i<=kvs.length->Pv i σ H->H a=some (.frz ob (.dK kvs)))
    (hs:∀i k v σ H,kvs[i]? = some (k,v)->Pv i σ H->g (kV k) σ H fun σ2 H2=>tb { D with nx:=Pv (i+1),ct:=Pv (i+1),bk:=D.nx } σ2 H2) (hd:∀σ H,Pv kvs.length σ H->D.nx σ H) :
    ∃W:Nat->Nat->St->Hp->Prop,(∃m,W 0 m σ H)/\∀i m σ H,W i m σ H->
      ((Itd a ob kvs).stop i H/\D.nx σ H)\/((Itd a ob kvs).go i H/\∃N:St->Hp->Prop,(∀σ' H',N σ' H'->∃m',m'<m/\W (i+1) m' σ' H')/\∀x H',(Itd a ob kvs).yld i H x H'->g x σ H' fun σ2 H2=>tb { D with nx:=N,ct:=N,bk:=D.nx } σ2 H2):=by
  refine⟨fun i m σ H=>m=kvs.length-i/\i<=kvs.length/\Pv i σ H,⟨kvs.length,by simp,al73q _,h0⟩,?_⟩;rintro i m σ H ⟨rfl,hi,p⟩;have q:=hl i σ H hi p
  by_cases hlt:i<kvs.length
  · refine .inr ⟨⟨q,hlt⟩,Pv (i+1),fun σ' H' p'=>⟨kvs.length-(i+1),by lia,rfl,hlt,p'⟩,fun x H' y=>?_⟩;obtain⟨e,kv,y,rfl⟩:=y;subst e;exact hs i kv.1 kv.2 σ _ y p
  · have e:i=kvs.length:=by lia
    subst e;exact .inl ⟨⟨q,al18q _⟩,hd σ H p⟩
theorem Inv.frozen {pins:ty91q}{σ:St}{H:Hp}{s:ty2q}{a:ty1q}{kvs:List (Key×V)}(I:Inv X pins σ H s) (h:H a=some (.dK kvs)):∃ob,Inv X pins σ (upd H a (.frz ob (.dK kvs))) s:=by
  obtain⟨o,e⟩:∃o,s.heap.get? a=some o:=by
    obtain⟨_,_,_,_,o,_,_,e,_⟩:=I.hok a _ h;exact⟨o,e⟩
  have ok:=I.hok a _ h;refine⟨o,I.write (e:=a) (h':=s.heap) (t':=s.toks) (by rw[h];trivial) (.inl rfl) (fun b u _ q=>q) ⟨o,e⟩ ⟨e,?_⟩⟩;obtain⟨z,hd,vs,r⟩:=ok;exact⟨z,hd,vs,r⟩
def tFrz (ts:TS):TS:=fun D σ H=>ts D σ H\/∃a kvs,H a=some (.dK kvs)/\∀ob,ts D σ (upd H a (.frz ob (.dK kvs)))
theorem zeb {st:Stmt}{ts:TS}(h:PS X st ts):PS X st (tFrz ts):=by
  intro pins s σ H D I q;rcases q with q | ⟨a,kvs,ha,q⟩
  · exact h pins s σ H D I q
  · obtain⟨ob,I'⟩:=I.frozen ha;exact h pins s σ _ D I' (q ob)
end
section
variable {X:Cx}{tg:Expr}
theorem zg1 {a:ty1q}{ob:Obj}{kvs:List (Key×V)}:Fix (Itd a ob kvs) (kvs.map fun kv=>kV kv.1) (fun H=>H a=some (.frz ob (.dK kvs))):=
  ⟨fun i H h hi=>⟨h,by simpa using hi⟩,fun i H x H' h y=>⟨y.1,fun _=>by obtain⟨kv,h1,h2⟩:=y.2;rw[al10q,h1,h2];rfl⟩,fun i H h hi=>⟨h,by simpa using hi⟩⟩
theorem zly:zbr X (.builtin "len") (fun xs H Q=>∃a kvs,xs = [V.ref a]/\Rd H a (.dK kvs)/\Q (.int kvs.length) H):=by
  intro pins s σ H xs us Q I r h;obtain⟨a,kvs,rfl,ha,q⟩:=h;obtain⟨u,rfl,ru⟩:=zc4 r;cases ru;exact zvq I ha fun t s' I'=>⟨.int kvs.length,H,I',⟨t,rfl⟩,q⟩
end
theorem zt3 {prog:ty4q}{w:World}{A:Around}{s:ty2q}{a b:Int}{t u:Tok}{Q:ty90q}{E:ty90q}(q:Q (.bool (decide (a > b))) s):wpAny (model prog w) A (richCompare .Gt (.int a t) (.int b u)) Q E s:=
  CmpOf.ints_gt (P:=fun i v=>(i=0/\v = .int a t)\/(i=1/\v = .int b u)) (fun i=>if i=0 then a else b) (fun i v h=>by
    rcases h with ⟨rfl,rfl⟩ | ⟨rfl,rfl⟩
    · exact⟨t,rfl⟩
    · exact⟨u,rfl⟩) 0 1 _ _ s Q E (.inl ⟨rfl,rfl⟩) (.inr ⟨rfl,rfl⟩) q
section
variable {prog:ty4q}{w:World}{A:Around}{R:Result->ty2q->Prop}
structure MaxAt (h:Heap) (l it S:ty1q) (its:Array ty3q) (vb:ty3q) (j:Nat) (c:Nat):Prop where
  i:h.IsListIter it l j
  l:h.IsList l its
  s:h.get? S=some { cls:=.type "list",dict:=none,data:=.seq #[vb,vb] c,slots:=#[] }
end
end L2
namespace Dm
open PySem PySem.NumText L2
theorem zlz {os keys:List Str}{p:Str->Bool}(pm:os.Perm keys) (kl:keys.Pairwise (fun a b=>co a<co b)):srt (os.filter p)=keys.filter p:=by
  refine (zkx (pm.filter p).symm ?_).symm;unfold zhz;exact (kl.imp (fun h=>zdh h)).sublist (al110q ..)
end Dm
namespace L2
open PySem PySem.Spec PyProof.Rows
end L2
namespace Dm
open PySem PySem.NumText L2
end Dm
namespace L2
open PySem PySem.Spec PyProof.Rows
abbrev IS:=Int×Str
def gtP (p q:IS):Bool:=if p.1=q.1 then decide (q.2.cps.toList<p.2.cps.toList) else decide (q.1<p.1)
theorem zcm (p:IS):gtP p p=false:=by
  unfold gtP;rw[al11q rfl];exact al22q (al77q _)
theorem zoo {i b j:IS}(h1:gtP i b=false) (h2:gtP j b=true):gtP i j=false:=by
  unfold gtP at *
  by_cases c1:i.1=b.1
  · rw[al11q c1] at h1;have h1:=al92q h1
    by_cases c2:j.1=b.1
    · rw[al11q c2] at h2;have h2:=al17q h2;rw[al11q (c1.trans c2.symm)];exact al22q fun z=>h1 (List.lt_trans h2 z)
    · rw[al7q c2] at h2;have h2:=al17q h2;rw[al7q (fun z=>c2 (z.symm.trans c1))];exact al22q (by lia)
  · rw[al7q c1] at h1;have h1:=al92q h1
    by_cases c2:j.1=b.1
    · rw[al7q (fun z=>c1 (z.trans c2))];exact al22q (by lia)
    · rw[al7q c2] at h2;have h2:=al17q h2;rw[al7q (by lia)];exact al22q (by lia)
theorem zg2 {p b:IS}(h:gtP p b=false):p.1<=b.1:=by
  unfold gtP at h
  by_cases c:p.1=b.1
  · lia
  · rw[al7q c] at h;have:=al92q h;lia
def TupIS (h:Heap) (v:ty3q) (p:IS):Prop:=∃a t u,v = .ref a/\IsTup h a #[.int p.1 t,.str p.2 u]
theorem TupIS.kept {h h':Heap}{v:ty3q}{p:IS}(t:TupIS h v p) (k:∀d o,(h.get? d=some o/\o.cls = .type "tuple")->h'.get? d=some o):TupIS h' v p:=by
  obtain⟨a,x,y,rfl,o,ho,hc,n,hd⟩:=t;exact⟨a,x,y,rfl,o,k a o ⟨ho,hc⟩,hc,n,hd⟩
section
variable {prog:ty4q}{w:World}{A:Around}{E:ty90q}{s:ty2q}
theorem zt4 {a b:Int}{t u:Tok}{Q:ty90q}(q:Q (.bool (decide (a<b))) s):wpAny (model prog w) A (richCompare .Lt (.int a t) (.int b u)) Q E s:=
  CmpOf.ints_lt (P:=fun i v=>(i=0/\v = .int a t)\/(i=1/\v = .int b u)) (fun i=>if i=0 then a else b) (fun i v h=>by
    rcases h with ⟨rfl,rfl⟩ | ⟨rfl,rfl⟩
    · exact⟨t,rfl⟩
    · exact⟨u,rfl⟩) 0 1 _ _ s Q E (.inl ⟨rfl,rfl⟩) (.inr ⟨rfl,rfl⟩) q
theorem zxj {v1 v2:ty3q}{p q:IS}{Q:ty90q}(hu:A.units<cLine) (h1:TupIS s.heap v1 p) (h2:TupIS s.heap v2 q) (h:Q (.bool (gtP p q)) s) :
    wpAny (model prog w) A (richCompare .Gt v1 v2) Q E s:=by
  obtain⟨a,t1,u1,rfl,oa,hoa,hca,na,hda⟩:=h1;obtain⟨b,t2,u2,rfl,ob,hob,hcb,nb,hdb⟩:=h2;have ta:s.TypeIs (.ref a) "tuple":=⟨oa,hoa,hca⟩;have tb:s.TypeIs (.ref b) "tuple":=⟨ob,hob,hcb⟩;refine wpAny_richCompare_same_room (op:=.Gt) ta tb F.slot_tuple_gt (al50q F.slot_tuple_gt ta F.entry_tuple_gt ?_ (F.args_tuple_gt_2 _ _)) hu;show wpAny _ _ (isInstance (.ref b) (.type "tuple") >>= _) _ _ s;refine al0q (al93q tb isSubtype_tuple_tuple ?_);rw[al7q (by decide)];refine al0q (al180q hoa hda (al0q (al180q hob hdb (al0q ?_))));show wpAny _ _ (forIn [((Value.int p.1 t1,Value.int q.1 t2):ty3q×ty3q),(Value.str p.2 u1,Value.str q.2 u2)] _ _) _ _ s;rw[al147q];refine al0q (al0q (wpAny_eqBool_int ?_))
  by_cases c:p.1=q.1
  · rw[show (p.1 == q.1)=true from beq_iff_eq.mpr c,al7q (by decide)];refine al2q ?_;show wpAny _ _ (forIn [((Value.str p.2 u1,Value.str q.2 u2):ty3q×ty3q)] _ _) _ _ s;rw[al147q];refine al0q (al0q (wpAny_eqBool_str ?_))
    by_cases c2:p.2=q.2
    · rw[al15q c2,al7q (by decide)];refine al2q ?_;show wpAny _ _ (forIn ([]:List (ty3q×ty3q)) _ _) _ _ s;rw[List.forIn_nil];refine al2q (al2q ⟨_,rfl,(fun e=>nomatch e),?_⟩);have e:gtP p q=false:=by
        unfold gtP;rw[al11q c,c2];exact al22q (al77q _)
      rw[e] at h;exact h
    · rw[al22q c2,al11q (by decide)];refine al0q (al102q (al0q (PySem.P.gt_str ?_)));refine al2q (al2q (al2q ⟨_,rfl,(fun e=>nomatch e),?_⟩));unfold gtP at h;rw[al11q c] at h;exact h
  · rw[show (p.1 == q.1)=false from al54q.mpr c,al11q (by decide)];refine al0q (al102q (al0q (zt3 ?_)));refine al2q (al2q (al2q ⟨_,rfl,(fun e=>nomatch e),?_⟩));unfold gtP at h;rw[al7q c] at h;exact h
theorem zxk {v1 v2:ty3q}{p q:IS}{Q:ty90q}(hu:A.units<cLine) (h1:TupIS s.heap v1 p) (h2:TupIS s.heap v2 q) (h:Q (.bool (gtP q p)) s) :
    wpAny (model prog w) A (richCompare .Lt v1 v2) Q E s:=by
  obtain⟨a,t1,u1,rfl,oa,hoa,hca,na,hda⟩:=h1;obtain⟨b,t2,u2,rfl,ob,hob,hcb,nb,hdb⟩:=h2;have ta:s.TypeIs (.ref a) "tuple":=⟨oa,hoa,hca⟩;have tb:s.TypeIs (.ref b) "tuple":=⟨ob,hob,hcb⟩;refine wpAny_richCompare_same_room (op:=.Lt) ta tb F.slot_tuple_lt (al50q F.slot_tuple_lt ta F.entry_tuple_lt ?_ (F.args_tuple_lt_2 _ _)) hu;show wpAny _ _ (isInstance (.ref b) (.type "tuple") >>= _) _ _ s;refine al0q (al93q tb isSubtype_tuple_tuple ?_);rw[al7q (by decide)];refine al0q (al180q hoa hda (al0q (al180q hob hdb (al0q ?_))));show wpAny _ _ (forIn [((Value.int p.1 t1,Value.int q.1 t2):ty3q×ty3q),(Value.str p.2 u1,Value.str q.2 u2)] _ _) _ _ s;rw[al147q];refine al0q (al0q (wpAny_eqBool_int ?_))
  by_cases c:p.1=q.1
  · rw[show (p.1 == q.1)=true from beq_iff_eq.mpr c,al7q (by decide)];refine al2q ?_;show wpAny _ _ (forIn [((Value.str p.2 u1,Value.str q.2 u2):ty3q×ty3q)] _ _) _ _ s;rw[al147q];refine al0q (al0q (wpAny_eqBool_str ?_))
    by_cases c2:p.2=q.2
    · rw[al15q c2,al7q (by decide)];refine al2q ?_;show wpAny _ _ (forIn ([]:List (ty3q×ty3q)) _ _) _ _ s;rw[List.forIn_nil];refine al2q (al2q ⟨_,rfl,(fun e=>nomatch e),?_⟩);have e:gtP q p=false:=by
        unfold gtP;rw[al11q c.symm,c2];exact al22q (al77q _)
      rw[e] at h;exact h
    · rw[al22q c2,al11q (by decide)];refine al0q (al102q (al0q (lt_str ?_)));refine al2q (al2q (al2q ⟨_,rfl,(fun e=>nomatch e),?_⟩));unfold gtP at h;rw[al11q c.symm] at h;exact h
  · rw[show (p.1 == q.1)=false from al54q.mpr c,al11q (by decide)];refine al0q (al102q (al0q (zt4 ?_)));refine al2q (al2q (al2q ⟨_,rfl,(fun e=>nomatch e),?_⟩));unfold gtP at h;rw[al7q (al36q c)] at h;exact h
end
theorem zjo {i b j:IS}(h1:gtP b i=false) (h2:gtP b j=true):gtP j i=false:=by
  unfold gtP at *
  by_cases c1:b.1=i.1
  · rw[al11q c1] at h1;have h1:=al92q h1
    by_cases c2:b.1=j.1
    · rw[al11q c2] at h2;have h2:=al17q h2;rw[al11q (c2.symm.trans c1)];exact al22q fun z=>h1 (List.lt_trans z h2)
    · rw[al7q c2] at h2;have h2:=al17q h2;rw[al7q (fun z=>c2 (c1.trans z.symm))];exact al22q (by lia)
  · rw[al7q c1] at h1;have h1:=al92q h1
    by_cases c2:b.1=j.1
    · rw[al7q (fun z=>c1 (c2.trans z))];exact al22q (by lia)
    · rw[al7q c2] at h2;have h2:=al17q h2;rw[al7q (by lia)];exact al22q (by lia)
theorem zak {α β:Type}{F:α->β->Prop}{as:List α}{bs:List β}(h:Paired F as bs):∀{i:Nat}{a:α}{b:β},as[i]? = some a->bs[i]? = some b->F a b:=by
  induction h with
  | nil=>intro i a b e _;simp at e
  | cons h _ ih=>
    intro i a b e1 e2;cases i with
    | zero=>simp at e1 e2;rw[←e1,←e2];exact h
    | succ i=>exact ih (by simpa using e1) (by simpa using e2)
section
variable {prog:ty4q}{w:World}{A:Around}{R:Result->ty2q->Prop}
theorem zop {l it S:ty1q}{its:Array ty3q}{val:Nat->IS}(hh:A.handled=none) (hu:A.units+1<cLine) (n1:S≠it) (n2:S≠l) (n3:l≠it) :
    ∀(k j b:Nat) (s:ty2q) (vb:ty3q) (c:Nat),its.size-j=k->MaxAt s.heap l it S its vb j c->(∀i v,its[i]? = some v->TupIS s.heap v (val i))->its[b]? = some vb->(∀i,i<j->gtP (val i) (val b)=false)->j<=its.size->
      (∀(v:ty3q) (b':Nat) (h':Heap) (tk:Nat),its[b']? = some v->(∀i,i<its.size->gtP (val i) (val b')=false)->(∀d o,d≠it->d≠S->s.heap.get? d=some o->h'.get? d=some o)->R (.ok (.ret v)) { s with heap:=h',toks:=tk })->
      codeAny (model prog w) A (.builtin "max.loop" ⟨[.ref it,.none,.ref S],[]⟩) R s:=by
  have nm:(toString "max" ++ toString ".loop" : String) = "max.loop":=by decide
  intro k
  induction k with
  | zero=>
    intro j b s vb c hk M ht eb best hj q;refine al51q F.entry_max_loop ?_;rw[al41q al117q _];show wpAny _ A.in1 (seqItems? (.ref S) >>= _) _ _ s;refine al0q (al88q M.s rfl (al0q (al106q (al148q (A:=A.in1) hh M.i M.l (al96q (show its.size<=j by lia)) fun h' eb'=>?_))));have s':=eb' S _ n1 M.s;refine al0q (m:=updateSeq S (fun _=>#[])) ?_;refine al83q s' rfl (al0q (al141q (al2q ?_)));exact q vb b _ s.toks eb (fun i hi=>best i (by lia)) fun d o d1 d2 e=>by
      rw[al29q _ _ (al36q d2)];exact eb' d o d1 e
  | succ k ih=>
    intro j b s vb c hk M ht eb best hj q;have hlt:j<its.size:=by lia
    have ej:its[j]? = some its[j]:=al35q hlt;refine al51q F.entry_max_loop ?_;rw[al41q al117q _];show wpAny _ A.in1 (seqItems? (.ref S) >>= _) _ _ s;have ci:∀d o,s.heap.get? d=some o->o.cls = .type "tuple"->d≠it:=fun d o e z y=>by
      obtain⟨o',e',c',_⟩:=M.i;rw[y,e'] at e;cases e;rw[c'] at z;exact absurd z (by decide)
    have cS:∀d o,s.heap.get? d=some o->o.cls = .type "tuple"->d≠S:=fun d o e z y=>by
      have e':=M.s;rw[y,e'] at e;cases e;have z:Value.type "list" = Value.type "tuple":=z;exact absurd z (by decide)
    refine al0q (al88q M.s rfl (al0q (al106q (al95q M.i M.l ej fun h' it' sb=>?_))));have s':h'.get? S=_:=(sb.2 S n1).trans M.s;have l':h'.IsList l its:=by
      obtain⟨o,ho,r⟩:=M.l;exact⟨o,(sb.2 l n3).trans ho,r⟩
    have ht1:∀i v,its[i]? = some v->TupIS h' v (val i):=fun i v e=>(ht i v e).kept fun d o z=>(sb.2 d (ci d o z.1 z.2)).trans z.1
    have tj:=ht1 j _ ej;have tb:=ht1 b _ eb;generalize its[j]=vj at ej tj;refine al0q (al2q ?_);refine al0q (al106q (al47q (al0q (zxj (s:={ s with heap:=h' }) hu tj tb ?_))));refine al0q (al47q (al72q (al0q (al141q (al2q ?_)))))
    by_cases c1:gtP (val j) (val b)=true
    · rw[c1,al11q rfl];refine al0q (m:=updateSeq S (fun _=>#[vj,vj])) ?_;refine al83q s' rfl (al0q (al141q ?_));rw[nm];have keep:∀d o,d≠S->h'.get? d=some o->(h'.update S (Obj.mapSeq fun _=>#[vj,vj])).get? d=some o:=fun d o d1 e=>(al29q _ _ (al36q d1)).trans e
      obtain⟨c',M'⟩:∃c',MaxAt (h'.update S (Obj.mapSeq fun _=>#[vj,vj])) l it S its vj (j+1) c':=by
        refine⟨_,it'.at fun o e=>keep it o (al36q n1) e,?_,al31q _ s' rfl⟩;obtain⟨o,ho,r⟩:=l';exact⟨o,keep l o (al36q n2) ho,r⟩
      refine al2q ⟨al66q al117q _,ih (j+1) j _ _ _ (by lia) M' (fun i v e=>?_) ej (fun i hi=>?_) hlt fun v b' h2 tk ev hb kp=>?_⟩
      · refine (ht i v e).kept fun d o z=>keep d o (cS d o z.1 z.2) ((sb.2 d (ci d o z.1 z.2)).trans z.1)
      · by_cases c2:i=j
        · subst c2;exact zcm _
        · exact zoo (best i (by lia)) c1
      · exact q v b' h2 tk ev hb fun d o d1 d2 e=>kp d o d1 d2 (keep d o d2 ((sb.2 d d1).trans e))
    · have c1:gtP (val j) (val b)=false:=by simpa using c1
      rw[c1,al7q al19q];refine al0q (al141q ?_);rw[nm];refine al2q ⟨al66q al117q _,ih (j+1) b { s with heap:=h' } _ c (by lia) ⟨it',l',s'⟩ ht1 eb (fun i hi=>?_) hlt fun v b' h2 tk ev hb kp=>?_⟩
      · by_cases c2:i=j
        · subst c2;exact c1
        · exact best i (by lia)
      · exact q v b' h2 tk ev hb fun d o d1 d2 e=>kp d o d1 d2 ((sb.2 d d1).trans e)
theorem zl0 {l it S:ty1q}{its:Array ty3q}{val:Nat->IS}{s:ty2q}{c:Nat}(hh:A.handled=none) (hu:A.units+1<cLine) (n1:S≠it) (n2:S≠l) (n3:l≠it) (hpos:0<its.size)
    (hi:s.heap.IsListIter it l 0) (hl:s.heap.IsList l its) (hS:s.heap.get? S=some { cls:=.type "list",dict:=none,data:=.seq #[] c,slots:=#[] }) (ht:∀i v,its[i]? = some v->TupIS s.heap v (val i))
    (q:∀(v:ty3q) (b':Nat) (h':Heap) (tk:Nat),its[b']? = some v->(∀i,i<its.size->gtP (val i) (val b')=false)->(∀d o,d≠it->d≠S->s.heap.get? d=some o->h'.get? d=some o)->R (.ok (.ret v)) { s with heap:=h',toks:=tk }) :
    codeAny (model prog w) A (.builtin "max.loop" ⟨[.ref it,.none,.ref S],[]⟩) R s:=by
  have nm:(toString "max" ++ toString ".loop" : String) = "max.loop":=by decide
  refine al51q F.entry_max_loop ?_;rw[al41q al117q _];show wpAny _ A.in1 (seqItems? (.ref S) >>= _) _ _ s;have ci:∀d o,s.heap.get? d=some o->o.cls = .type "tuple"->d≠it:=fun d o e z y=>by
    obtain⟨o',e',c',_⟩:=hi;rw[y,e'] at e;cases e;rw[c'] at z;exact absurd z (by decide)
  have cS:∀d o,s.heap.get? d=some o->o.cls = .type "tuple"->d≠S:=fun d o e z y=>by
    rw[y,hS] at e;cases e;have z:Value.type "list" = Value.type "tuple":=z;exact absurd z (by decide)
  have ej:its[0]? = some its[0]:=al35q hpos;refine al0q (al88q hS rfl (al0q (al106q (al95q hi hl ej fun h' it' sb=>?_))));have s':h'.get? S=_:=(sb.2 S n1).trans hS;have l':h'.IsList l its:=by
    obtain⟨o,ho,r⟩:=hl;exact⟨o,(sb.2 l n3).trans ho,r⟩
  refine al0q (al2q ?_);refine al0q (m:=updateSeq S (fun _=>#[its[0],its[0]])) ?_;refine al83q s' rfl ?_;rw[nm];have keep:∀d o,d≠S->h'.get? d=some o->(h'.update S (Obj.mapSeq fun _=>#[its[0],its[0]])).get? d=some o:=fun d o d1 e=>(al29q _ _ (al36q d1)).trans e
  obtain⟨c',M'⟩:∃c',MaxAt (h'.update S (Obj.mapSeq fun _=>#[its[0],its[0]])) l it S its its[0] 1 c':=by
    refine⟨_,it'.at fun o e=>keep it o (al36q n1) e,?_,al31q _ s' rfl⟩;obtain⟨o,ho,r⟩:=l';exact⟨o,keep l o (al36q n2) ho,r⟩
  refine al2q ⟨al66q al117q _,zop (val:=val) hh hu n1 n2 n3 _ 1 0 _ _ _ rfl M' (fun i v e=>?_) ej (fun i hi=>?_) (by lia) fun v b' h2 tk ev hb kp=>?_⟩
  · exact (ht i v e).kept fun d o z=>keep d o (cS d o z.1 z.2) ((sb.2 d (ci d o z.1 z.2)).trans z.1)
  · have:i=0:=by lia
    subst this;exact zcm _
  · exact q v b' h2 tk ev hb fun d o d1 d2 e=>kp d o d1 d2 (keep d o d2 ((sb.2 d d1).trans e))
end
section
variable {prog:ty4q}{w:World}{A:Around}{E:ty90q}{s:ty2q}
theorem zl1 {l:ty1q}{its:Array ty3q}{val:Nat->IS}{Q:ty90q}(hh:A.handled=none) (hu:A.units+1<cLine) (hl:s.heap.IsList l its) (hpos:0<its.size) (ht:∀i v,its[i]? = some v->TupIS s.heap v (val i))
    (q:∀(v:ty3q) (b':Nat) (h':Heap) (tk:Nat),its[b']? = some v->(∀i,i<its.size->gtP (val i) (val b')=false)->(∀d o,s.heap.get? d=some o->h'.get? d=some o)->Q v { s with heap:=h',toks:=tk }) :
    wpAny (model prog w) A (call (.builtin "max") [.ref l]) Q E s:=by
  have nm:(toString "max" ++ toString ".loop" : String) = "max.loop":=by decide
  have hlt:l<s.heap.objs.size:=by obtain⟨_,e,_⟩:=hl;exact al13q e
  have body:wpAny (model prog w) A.in1 (Builtin.«max» ⟨[.ref l],[]⟩) (fun fin s'=>match fin with
      | .done f=>(match (Except.ok f:Result) with | .ok (.ret v)=>Q v s' | .ok _=>False | .error e=>E e s')
      | .again c'=>c'.quiet=true/\codeAny (model prog w) A c' (fun r s'=>match r with | .ok (.ret v)=>Q v s' | .ok _=>False | .error e=>E e s') s') E s:=by
    show wpAny _ A.in1 (Builtin.Builtins.bindParams "max" ["key","default"] 0 ⟨[],[]⟩ >>= _) _ _ s;refine al0q (al159q (show Builtin.Builtins.bindParams "max" ["key","default"] 0 ⟨[],[]⟩=pure [none,none] from rfl) ?_);refine al0q (al2q (al0q (al128q hl ?_)));refine al0q (al40q ?_);rw[nm];have zu:(s.heap.push { cls:=.type "list_iterator",data:=.fields #[.ref l,.int 0 0] }).objs.size=s.heap.objs.size+1:=al82q ..;have old1:∀d o,s.heap.get? d=some o->(s.heap.push { cls:=.type "list_iterator",data:=.fields #[.ref l,.int 0 0] }).get? d=some o:=fun d o e=>al4q _ e
    have hit:(s.heap.push { cls:=.type "list_iterator",data:=.fields #[.ref l,.int 0 0] }).IsListIter s.heap.objs.size l 0:=⟨_,al12q _ rfl,rfl,rfl⟩;have hl1:(s.heap.push { cls:=.type "list_iterator",data:=.fields #[.ref l,.int 0 0] }).IsList l its:=by
      obtain⟨o,ho,r⟩:=hl;exact⟨o,old1 l o ho,r⟩
    generalize s.heap.push { cls:=.type "list_iterator",data:=.fields #[.ref l,.int 0 0] } = g at zu old1 hit hl1;have hl2:(g.push { cls:=.type "list",data:=.seq ([]:List ty3q).toArray }).IsList l its:=by
      obtain⟨o,ho,r⟩:=hl1;exact⟨o,al4q _ ho,r⟩
    refine al2q ⟨al66q al117q _,zl0 (val:=val) (it:=s.heap.objs.size) (S:=g.objs.size) hh hu ?_ ?_ ?_ hpos (hit.at fun o e=>al4q _ e) hl2 (al12q _ rfl) (fun i v e=>(ht i v e).kept fun d o z=>al4q _ (old1 d o z.1)) fun v b' h' tk eb hb kp=>?_⟩
    · rw[zu];exact Nat.succ_ne_self _
    · rw[zu];exact al36q (al26q (al79q hlt))
    · exact al26q hlt
    · refine q v b' h' tk eb hb fun d o e=>kp d o (fun z=>?_) (fun z=>?_) (al4q _ (old1 d o e))
      · exact absurd (al13q e) (by rw[z];exact al64q _)
      · exact absurd (al13q e) (by rw[z,zu];exact al137q (al104q _))
  refine al154q (al94q F.plain_max F.entry_max ?_);have ha:=F.args_max1 (.ref l);simp only [checkBuiltinCall,F.kind_max];cases sg:Manifest.signature? "max" with
  | none=>exact al2q body
  | some g=>
    simp only [argsOk,sg] at ha;have ha:Bind.checkArgs "max" g ⟨[.ref l],[]⟩=pure ():=ha;show wpAny _ A.in1 (Bind.checkArgs "max" g ⟨[.ref l],[]⟩) _ _ s;rw[ha];exact al2q body
end
section
variable {X:Cx}
theorem zoq {K:ty0q}(h:X.K=K) (hc:X.calm=true) (hu:X.A.units+1<cLine):zbr X (.builtin "max") (fun xs H Q=>∃(l:ty1q) (as:List ty1q) (ps:List IS),xs = [V.ref l]/\SqL K H l (as.map V.ref)/\Paired (fun a (p:IS)=>SqT K H a [.int p.1,.str p.2]) as ps/\ps≠[]/\
    ∀(j:Nat) a p,as[j]? = some a->ps[j]? = some p->(∀q∈ps,gtP q p=false)->Q (.ref a) H):=by
  subst h;intro pins s σ H xs us Q I r h;obtain⟨l,as,ps,rfl,hl,pr,hne,q⟩:=h;obtain⟨u,rfl,ru⟩:=zc4 r;cases ru;obtain⟨its,rv,pl,hz⟩:=I.list hl;have len:=rv.length;rw[al1q] at len;have lp:as.length=ps.length:=Paired.length pr;have hpos:0<ps.length:=al167q.mpr hne;have hat:∀(i:Nat) (v:ty3q),its.toArray[i]? = some v->∃(a:ty1q) (p:IS),as[i]? = some a/\ps[i]? = some p/\v=Value.ref a/\SqT X.K H a [.int p.1,.str p.2]:=by
    intro i v e;have e':its[i]? = some v:=by simpa using e
    have hi:i<as.length:=by have:=(al8q.mp e').1;lia
    have hi2:i<ps.length:=by lia
    obtain⟨u,e2,ru⟩:=rv.get (i:=i) (x:=V.ref as[i]) (by simp[hi]);rw[e'] at e2;cases e2;cases ru;exact⟨as[i],ps[i],al3q hi,al3q hi2,rfl,zak pr (al3q hi) (al3q hi2)⟩
  have ht:∀i v,its.toArray[i]? = some v->TupIS s.heap v (ps.getD i (0,"")):=by
    intro i v e;obtain⟨a,p,ea,ep,rfl,t⟩:=hat i v e;obtain⟨ts,rt,it,_⟩:=I.tuple t;have e0:ps.getD i (0,"")=p:=by rw[al30q,ep];rfl
    obtain⟨u1,u2,rfl,⟨t1,rfl⟩,⟨t2,rfl⟩⟩:=zqh rt;rw[e0];exact⟨a,t1,t2,rfl,it⟩
  refine zl1 (I.ok.hd hc) hu pl.isList (by rw[al24q];lia) ht fun v b h' tk eb hb kp=>?_
  obtain⟨a,p,ea,ep,rfl,t⟩:=hat b v eb;refine⟨.ref a,H,I.kept kp,rfl,q b a p ea ep fun z hz=>?_⟩;obtain⟨i,hi⟩:=al68q.mp hz;have hlt:=(al8q.mp hi).1;have:=hb i (by rw[al24q];lia);rw[al30q,al30q,hi,ep] at this;exact this
end
section
variable {prog:ty4q}{w:World}{A:Around}{R:Result->ty2q->Prop}
theorem zor {l it S:ty1q}{its:Array ty3q}{val:Nat->IS}(hh:A.handled=none) (hu:A.units+1<cLine) (n1:S≠it) (n2:S≠l) (n3:l≠it) :
    ∀(k j b:Nat) (s:ty2q) (vb:ty3q) (c:Nat),its.size-j=k->MaxAt s.heap l it S its vb j c->(∀i v,its[i]? = some v->TupIS s.heap v (val i))->its[b]? = some vb->(∀i,i<j->gtP (val b) (val i)=false)->j<=its.size->
      (∀(v:ty3q) (b':Nat) (h':Heap) (tk:Nat),its[b']? = some v->(∀i,i<its.size->gtP (val b') (val i)=false)->(∀d o,d≠it->d≠S->s.heap.get? d=some o->h'.get? d=some o)->R (.ok (.ret v)) { s with heap:=h',toks:=tk })->
      codeAny (model prog w) A (.builtin "min.loop" ⟨[.ref it,.none,.ref S],[]⟩) R s:=by
  have nm:(toString "min" ++ toString ".loop" : String) = "min.loop":=by decide
  intro k
  induction k with
  | zero=>
    intro j b s vb c hk M ht eb best hj q;refine al51q F.entry_min_loop ?_;rw[al41q al118q _];show wpAny _ A.in1 (seqItems? (.ref S) >>= _) _ _ s;refine al0q (al88q M.s rfl (al0q (al106q (al148q (A:=A.in1) hh M.i M.l (al96q (show its.size<=j by lia)) fun h' eb'=>?_))));have s':=eb' S _ n1 M.s;refine al0q (m:=updateSeq S (fun _=>#[])) ?_;refine al83q s' rfl (al0q (al141q (al2q ?_)));exact q vb b _ s.toks eb (fun i hi=>best i (by lia)) fun d o d1 d2 e=>by
      rw[al29q _ _ (al36q d2)];exact eb' d o d1 e
  | succ k ih=>
    intro j b s vb c hk M ht eb best hj q;have hlt:j<its.size:=by lia
    have ej:its[j]? = some its[j]:=al35q hlt;refine al51q F.entry_min_loop ?_;rw[al41q al118q _];show wpAny _ A.in1 (seqItems? (.ref S) >>= _) _ _ s;have ci:∀d o,s.heap.get? d=some o->o.cls = .type "tuple"->d≠it:=fun d o e z y=>by
      obtain⟨o',e',c',_⟩:=M.i;rw[y,e'] at e;cases e;rw[c'] at z;exact absurd z (by decide)
    have cS:∀d o,s.heap.get? d=some o->o.cls = .type "tuple"->d≠S:=fun d o e z y=>by
      have e':=M.s;rw[y,e'] at e;cases e;have z:Value.type "list" = Value.type "tuple":=z;exact absurd z (by decide)
    refine al0q (al88q M.s rfl (al0q (al106q (al95q M.i M.l ej fun h' it' sb=>?_))));have s':h'.get? S=_:=(sb.2 S n1).trans M.s;have l':h'.IsList l its:=by
      obtain⟨o,ho,r⟩:=M.l;exact⟨o,(sb.2 l n3).trans ho,r⟩
    have ht1:∀i v,its[i]? = some v->TupIS h' v (val i):=fun i v e=>(ht i v e).kept fun d o z=>(sb.2 d (ci d o z.1 z.2)).trans z.1
    have tj:=ht1 j _ ej;have tb:=ht1 b _ eb;generalize its[j]=vj at ej tj;refine al0q (al2q ?_);refine al0q (al106q (al47q (al0q (zxk (s:={ s with heap:=h' }) hu tj tb ?_))));refine al0q (al47q (al72q (al0q (al141q (al2q ?_)))))
    by_cases c1:gtP (val b) (val j)=true
    · rw[c1,al11q rfl];refine al0q (m:=updateSeq S (fun _=>#[vj,vj])) ?_;refine al83q s' rfl (al0q (al141q ?_));rw[nm];have keep:∀d o,d≠S->h'.get? d=some o->(h'.update S (Obj.mapSeq fun _=>#[vj,vj])).get? d=some o:=fun d o d1 e=>(al29q _ _ (al36q d1)).trans e
      obtain⟨c',M'⟩:∃c',MaxAt (h'.update S (Obj.mapSeq fun _=>#[vj,vj])) l it S its vj (j+1) c':=by
        refine⟨_,it'.at fun o e=>keep it o (al36q n1) e,?_,al31q _ s' rfl⟩;obtain⟨o,ho,r⟩:=l';exact⟨o,keep l o (al36q n2) ho,r⟩
      refine al2q ⟨al66q al118q _,ih (j+1) j _ _ _ (by lia) M' (fun i v e=>?_) ej (fun i hi=>?_) hlt fun v b' h2 tk ev hb kp=>?_⟩
      · refine (ht i v e).kept fun d o z=>keep d o (cS d o z.1 z.2) ((sb.2 d (ci d o z.1 z.2)).trans z.1)
      · by_cases c2:i=j
        · subst c2;exact zcm _
        · exact zjo (best i (by lia)) c1
      · exact q v b' h2 tk ev hb fun d o d1 d2 e=>kp d o d1 d2 (keep d o d2 ((sb.2 d d1).trans e))
    · have c1:gtP (val b) (val j)=false:=by simpa using c1
      rw[c1,al7q al19q];refine al0q (al141q ?_);rw[nm];refine al2q ⟨al66q al118q _,ih (j+1) b { s with heap:=h' } _ c (by lia) ⟨it',l',s'⟩ ht1 eb (fun i hi=>?_) hlt fun v b' h2 tk ev hb kp=>?_⟩
      · by_cases c2:i=j
        · subst c2;exact c1
        · exact best i (by lia)
      · exact q v b' h2 tk ev hb fun d o d1 d2 e=>kp d o d1 d2 ((sb.2 d d1).trans e)
theorem zl2 {l it S:ty1q}{its:Array ty3q}{val:Nat->IS}{s:ty2q}{c:Nat}(hh:A.handled=none) (hu:A.units+1<cLine) (n1:S≠it) (n2:S≠l) (n3:l≠it) (hpos:0<its.size)
    (hi:s.heap.IsListIter it l 0) (hl:s.heap.IsList l its) (hS:s.heap.get? S=some { cls:=.type "list",dict:=none,data:=.seq #[] c,slots:=#[] }) (ht:∀i v,its[i]? = some v->TupIS s.heap v (val i))
    (q:∀(v:ty3q) (b':Nat) (h':Heap) (tk:Nat),its[b']? = some v->(∀i,i<its.size->gtP (val b') (val i)=false)->(∀d o,d≠it->d≠S->s.heap.get? d=some o->h'.get? d=some o)->R (.ok (.ret v)) { s with heap:=h',toks:=tk }) :
    codeAny (model prog w) A (.builtin "min.loop" ⟨[.ref it,.none,.ref S],[]⟩) R s:=by
  have nm:(toString "min" ++ toString ".loop" : String) = "min.loop":=by decide
  refine al51q F.entry_min_loop ?_;rw[al41q al118q _];show wpAny _ A.in1 (seqItems? (.ref S) >>= _) _ _ s;have ci:∀d o,s.heap.get? d=some o->o.cls = .type "tuple"->d≠it:=fun d o e z y=>by
    obtain⟨o',e',c',_⟩:=hi;rw[y,e'] at e;cases e;rw[c'] at z;exact absurd z (by decide)
  have cS:∀d o,s.heap.get? d=some o->o.cls = .type "tuple"->d≠S:=fun d o e z y=>by
    rw[y,hS] at e;cases e;have z:Value.type "list" = Value.type "tuple":=z;exact absurd z (by decide)
  have ej:its[0]? = some its[0]:=al35q hpos;refine al0q (al88q hS rfl (al0q (al106q (al95q hi hl ej fun h' it' sb=>?_))));have s':h'.get? S=_:=(sb.2 S n1).trans hS;have l':h'.IsList l its:=by
    obtain⟨o,ho,r⟩:=hl;exact⟨o,(sb.2 l n3).trans ho,r⟩
  refine al0q (al2q ?_);refine al0q (m:=updateSeq S (fun _=>#[its[0],its[0]])) ?_;refine al83q s' rfl ?_;rw[nm];have keep:∀d o,d≠S->h'.get? d=some o->(h'.update S (Obj.mapSeq fun _=>#[its[0],its[0]])).get? d=some o:=fun d o d1 e=>(al29q _ _ (al36q d1)).trans e
  obtain⟨c',M'⟩:∃c',MaxAt (h'.update S (Obj.mapSeq fun _=>#[its[0],its[0]])) l it S its its[0] 1 c':=by
    refine⟨_,it'.at fun o e=>keep it o (al36q n1) e,?_,al31q _ s' rfl⟩;obtain⟨o,ho,r⟩:=l';exact⟨o,keep l o (al36q n2) ho,r⟩
  refine al2q ⟨al66q al118q _,zor (val:=val) hh hu n1 n2 n3 _ 1 0 _ _ _ rfl M' (fun i v e=>?_) ej (fun i hi=>?_) (by lia) fun v b' h2 tk ev hb kp=>?_⟩
  · exact (ht i v e).kept fun d o z=>keep d o (cS d o z.1 z.2) ((sb.2 d (ci d o z.1 z.2)).trans z.1)
  · have:i=0:=by lia
    subst this;exact zcm _
  · exact q v b' h2 tk ev hb fun d o d1 d2 e=>kp d o d1 d2 (keep d o d2 ((sb.2 d d1).trans e))
end
section
variable {prog:ty4q}{w:World}{A:Around}{E:ty90q}{s:ty2q}
theorem zl3 {l:ty1q}{its:Array ty3q}{val:Nat->IS}{Q:ty90q}(hh:A.handled=none) (hu:A.units+1<cLine) (hl:s.heap.IsList l its) (hpos:0<its.size) (ht:∀i v,its[i]? = some v->TupIS s.heap v (val i))
    (q:∀(v:ty3q) (b':Nat) (h':Heap) (tk:Nat),its[b']? = some v->(∀i,i<its.size->gtP (val b') (val i)=false)->(∀d o,s.heap.get? d=some o->h'.get? d=some o)->Q v { s with heap:=h',toks:=tk }) :
    wpAny (model prog w) A (call (.builtin "min") [.ref l]) Q E s:=by
  have nm:(toString "min" ++ toString ".loop" : String) = "min.loop":=by decide
  have hlt:l<s.heap.objs.size:=by obtain⟨_,e,_⟩:=hl;exact al13q e
  have body:wpAny (model prog w) A.in1 (Builtin.«min» ⟨[.ref l],[]⟩) (fun fin s'=>match fin with
      | .done f=>(match (Except.ok f:Result) with | .ok (.ret v)=>Q v s' | .ok _=>False | .error e=>E e s')
      | .again c'=>c'.quiet=true/\codeAny (model prog w) A c' (fun r s'=>match r with | .ok (.ret v)=>Q v s' | .ok _=>False | .error e=>E e s') s') E s:=by
    show wpAny _ A.in1 (Builtin.Builtins.bindParams "min" ["key","default"] 0 ⟨[],[]⟩ >>= _) _ _ s;refine al0q (al159q (show Builtin.Builtins.bindParams "min" ["key","default"] 0 ⟨[],[]⟩=pure [none,none] from rfl) ?_);refine al0q (al2q (al0q (al128q hl ?_)));refine al0q (al40q ?_);rw[nm];have zu:(s.heap.push { cls:=.type "list_iterator",data:=.fields #[.ref l,.int 0 0] }).objs.size=s.heap.objs.size+1:=al82q ..;have old1:∀d o,s.heap.get? d=some o->(s.heap.push { cls:=.type "list_iterator",data:=.fields #[.ref l,.int 0 0] }).get? d=some o:=fun d o e=>al4q _ e
    have hit:(s.heap.push { cls:=.type "list_iterator",data:=.fields #[.ref l,.int 0 0] }).IsListIter s.heap.objs.size l 0:=⟨_,al12q _ rfl,rfl,rfl⟩;have hl1:(s.heap.push { cls:=.type "list_iterator",data:=.fields #[.ref l,.int 0 0] }).IsList l its:=by
      obtain⟨o,ho,r⟩:=hl;exact⟨o,old1 l o ho,r⟩
    generalize s.heap.push { cls:=.type "list_iterator",data:=.fields #[.ref l,.int 0 0] } = g at zu old1 hit hl1;have hl2:(g.push { cls:=.type "list",data:=.seq ([]:List ty3q).toArray }).IsList l its:=by
      obtain⟨o,ho,r⟩:=hl1;exact⟨o,al4q _ ho,r⟩
    refine al2q ⟨al66q al118q _,zl2 (val:=val) (it:=s.heap.objs.size) (S:=g.objs.size) hh hu ?_ ?_ ?_ hpos (hit.at fun o e=>al4q _ e) hl2 (al12q _ rfl) (fun i v e=>(ht i v e).kept fun d o z=>al4q _ (old1 d o z.1)) fun v b' h' tk eb hb kp=>?_⟩
    · rw[zu];exact Nat.succ_ne_self _
    · rw[zu];exact al36q (al26q (al79q hlt))
    · exact al26q hlt
    · refine q v b' h' tk eb hb fun d o e=>kp d o (fun z=>?_) (fun z=>?_) (al4q _ (old1 d o e))
      · exact absurd (al13q e) (by rw[z];exact al64q _)
      · exact absurd (al13q e) (by rw[z,zu];exact al137q (al104q _))
  refine al154q (al94q F.plain_min F.entry_min ?_);have ha:=F.args_min1 (.ref l);simp only [checkBuiltinCall,F.kind_min];cases sg:Manifest.signature? "min" with
  | none=>exact al2q body
  | some g=>
    simp only [argsOk,sg] at ha;have ha:Bind.checkArgs "min" g ⟨[.ref l],[]⟩=pure ():=ha;show wpAny _ A.in1 (Bind.checkArgs "min" g ⟨[.ref l],[]⟩) _ _ s;rw[ha];exact al2q body
end
section
variable {X:Cx}
theorem zos {K:ty0q}(h:X.K=K) (hc:X.calm=true) (hu:X.A.units+1<cLine):zbr X (.builtin "min") (fun xs H Q=>∃(l:ty1q) (as:List ty1q) (ps:List IS),xs = [V.ref l]/\SqL K H l (as.map V.ref)/\Paired (fun a (p:IS)=>SqT K H a [.int p.1,.str p.2]) as ps/\ps≠[]/\
    ∀(j:Nat) a p,as[j]? = some a->ps[j]? = some p->(∀q∈ps,gtP p q=false)->Q (.ref a) H):=by
  subst h;intro pins s σ H xs us Q I r h;obtain⟨l,as,ps,rfl,hl,pr,hne,q⟩:=h;obtain⟨u,rfl,ru⟩:=zc4 r;cases ru;obtain⟨its,rv,pl,hz⟩:=I.list hl;have len:=rv.length;rw[al1q] at len;have lp:as.length=ps.length:=Paired.length pr;have hpos:0<ps.length:=al167q.mpr hne;have hat:∀(i:Nat) (v:ty3q),its.toArray[i]? = some v->∃(a:ty1q) (p:IS),as[i]? = some a/\ps[i]? = some p/\v=Value.ref a/\SqT X.K H a [.int p.1,.str p.2]:=by
    intro i v e;have e':its[i]? = some v:=by simpa using e
    have hi:i<as.length:=by have:=(al8q.mp e').1;lia
    have hi2:i<ps.length:=by lia
    obtain⟨u,e2,ru⟩:=rv.get (i:=i) (x:=V.ref as[i]) (by simp[hi]);rw[e'] at e2;cases e2;cases ru;exact⟨as[i],ps[i],al3q hi,al3q hi2,rfl,zak pr (al3q hi) (al3q hi2)⟩
  have ht:∀i v,its.toArray[i]? = some v->TupIS s.heap v (ps.getD i (0,"")):=by
    intro i v e;obtain⟨a,p,ea,ep,rfl,t⟩:=hat i v e;obtain⟨ts,rt,it,_⟩:=I.tuple t;have e0:ps.getD i (0,"")=p:=by rw[al30q,ep];rfl
    obtain⟨u1,u2,rfl,⟨t1,rfl⟩,⟨t2,rfl⟩⟩:=zqh rt;rw[e0];exact⟨a,t1,t2,rfl,it⟩
  refine zl3 (I.ok.hd hc) hu pl.isList (by rw[al24q];lia) ht fun v b h' tk eb hb kp=>?_
  obtain⟨a,p,ea,ep,rfl,t⟩:=hat b v eb;refine⟨.ref a,H,I.kept kp,rfl,q b a p ea ep fun z hz=>?_⟩;obtain⟨i,hi⟩:=al68q.mp hz;have hlt:=(al8q.mp hi).1;have:=hb i (by rw[al24q];lia);rw[al30q,al30q,hi,ep] at this;exact this
end
theorem zdp:plainId "dict.update.loop" = true:=by decide +kernel
theorem zic:entryFor table "dict.update.loop" = some Builtin.«dict.update.loop»:=al190q (by kernel_rfl)
theorem zid:typeLookup (.type "list") "keys" = pure none:=am_miss_of_fast (by kernel_rfl)
section
variable {prog:ty4q}{w:World}{A:Around}{E:ty90q}{s:ty2q}
theorem zot {l:ty1q}{its:Array ty3q}{Q:Option ty3q->ty2q->Prop}(hh:A.handled=none) (pl:PlainL s.heap l its) (h:∀h' tk,(∀b ob,s.heap.get? b=some ob->h'.get? b=some ob)->Q none { s with heap:=h',toks:=tk }) :
    wpAny (model prog w) A (getAttr? (.ref l) "keys") Q E s:=by
  obtain⟨⟨c,dct,dat,sl⟩,n,hx,hc,hd,hdat⟩:=pl;simp only at hc hd hdat;subst hc hdat hd;obtain⟨hp,g,d,tk,os⟩:=s;have hT:∀tk',(⟨hp,g,d,tk',os⟩:ty2q).TypeIs (.ref l) "list":=fun _=>⟨_,hx,rfl⟩
  have f1:=sub_AttributeError;have f3:=al170q.lookup;have f4:=al170q.bind (.ref l);have f5:=am_list_getattr_none;unfold getAttr? getAttrBy? getAttrBy
  repeat (any_goals (first | assumption | exact hT _ | ((with_reducible show wpAny _ _ (call (Value.builtin "list.__getattribute__") _ _) _ _ _);refine call_meets al170q (hT _) am_entry_list_getattribute (F.args_list_getattribute_2 _ _) (meets_getattribute_miss_list l its n sl "keys" _ zid (by decide +kernel)) ⟨hx,hh,fun h' tk' e hx'=>?_⟩) | wp_step))
  obtain⟨t',u',he⟩:=hx'.there;show wpAny _ _ (getattributeRaised _ _ _ _ _ _ _) _ _ _;unfold getattributeRaised
  repeat (any_goals (first | assumption | wp_step))
  exact h _ _ hx'.keeps
end
def zfo (ps:List (Key×ty3q)):List (Key×ty3q):=ps.foldl (fun d p=>stored d p.1 p.2) []
def zgd (ps:List (Key×V)):List (Key×V):=ps.foldl (fun d p=>putK d p.1 p.2) []
theorem zl4 {ps:List (Key×ty3q)}{j:Nat}{p:Key×ty3q}(h:ps[j]? = some p):zfo (ps.take (j+1))=stored (zfo (ps.take j)) p.1 p.2:=by
  unfold zfo;rw[al9q,h,al152q];rfl
theorem KV.all {kvs:List (Key×V)}{vs:List (Key×ty3q)}(r:KV kvs vs):KV (zgd kvs) (zfo vs):=by
  have go:∀{kvs:List (Key×V)}{vs:List (Key×ty3q)},KV kvs vs->∀(a:List (Key×V)) (b:List (Key×ty3q)),KV a b->KV (kvs.foldl (fun d p=>putK d p.1 p.2) a) (vs.foldl (fun d p=>stored d p.1 p.2) b):=by
    intro kvs vs r
    induction r with
    | nil=>intro a b h;exact h
    | cons h _ ih=>
      intro a b q;rw[al175q,al175q];refine ih _ _ ?_;rw[←h.1];exact KV.put q _ h.2
  exact go r [] [] .nil
theorem zie (ps:List (Key×ty3q)):(zfo ps).length<=ps.length:=by
  have go:∀(ps b:List (Key×ty3q)),(ps.foldl (fun d p=>stored d p.1 p.2) b).length<=b.length+ps.length:=by
    intro ps
    induction ps with
    | nil=>intro b;simp
    | cons p r ih=>
      intro b;rw[al175q];have h1:=ih (stored b p.1 p.2);have h2:(stored b p.1 p.2).length<=b.length+1:=by
        unfold stored;split
        · rw[al1q];lia
        · rw[al20q];simp
      rw[al57q];lia
  have:=go ps [];unfold zfo;simpa using this
def TupKV (prog:ty4q) (w:World) (h:Heap) (v:ty3q) (p:Key×ty3q):Prop:=∃a u,v = .ref a/\IsTup h a #[u,p.2]/\(zam prog w).is p.1 u=true
theorem TupKV.kept {prog:ty4q}{w:World}{h h':Heap}{v:ty3q}{p:Key×ty3q}(t:TupKV prog w h v p) (k:∀d o,(h.get? d=some o/\o.cls = .type "tuple")->h'.get? d=some o):TupKV prog w h' v p:=by
  obtain⟨a,u,rfl,⟨o,ho,hc,n,hd⟩,hk⟩:=t;exact⟨a,u,rfl,⟨o,k a o ⟨ho,hc⟩,hc,n,hd⟩,hk⟩
section
variable {prog:ty4q}{w:World}{A:Around}{R:Result->ty2q->Prop}
theorem zou {l it D:ty1q}{its:Array ty3q}{ps:List (Key×ty3q)}(hh:A.handled=none) (n1:D≠it) (n2:D≠l) (n3:l≠it) (hsz:ps.length<=sizeLine) (hl:its.size=ps.length) :
    ∀(k j:Nat) (s:ty2q) (i:Int) (t:Tok),its.size-j=k->s.heap.IsListIter it l j->s.heap.IsList l its->s.heap.DictOf (zam prog w) D (zfo (ps.take j))->(∀(i:Nat) (v:ty3q),its[i]? = some v->∃p,ps[i]? = some p/\TupKV prog w s.heap v p)->j<=its.size->
      (∀h' tk,h'.DictOf (zam prog w) D (zfo ps)->(∀d o,d≠it->d≠D->s.heap.get? d=some o->h'.get? d=some o)->R (.ok (.ret .none)) { s with heap:=h',toks:=tk })->
      codeAny (model prog w) A (.builtin "dict.update.loop" ⟨[.ref D,.ref it,.int i t,.none],[]⟩) R s:=by
  intro k
  induction k with
  | zero=>
    intro j s i t hk hi hL hD ht hj q;refine al51q zic ?_;rw[al41q zdp _];show wpAny _ A.in1 (pyNext (.ref it) >>= _) _ _ s;refine al0q (al148q (A:=A.in1) hh hi hL (al96q (show its.size<=j by lia)) fun h' eb=>?_);refine al0q (al2q (al2q ?_));refine q h' s.toks ?_ (fun d o d1 _ e=>eb d o d1 e);have e:ps.take j=ps:=al98q (by lia);rw[e] at hD;exact hD.extBut eb n1
  | succ k ih=>
    intro j s i t hk hi hL hD ht hj q;have hlt:j<its.size:=by lia
    have ej:its[j]? = some its[j]:=al35q hlt;refine al51q zic ?_;rw[al41q zdp _];show wpAny _ A.in1 (pyNext (.ref it) >>= _) _ _ s;have ci:∀d o,s.heap.get? d=some o->o.cls = .type "tuple"->d≠it:=fun d o e z y=>by
      obtain⟨o',e',c',_⟩:=hi;rw[y,e'] at e;cases e;rw[c'] at z;exact absurd z (by decide)
    have cD:∀d o,s.heap.get? d=some o->o.cls = .type "tuple"->d≠D:=fun d o e z y=>by
      obtain⟨o',es,ep,e',⟨c',_⟩,_⟩:=hD;rw[y,e'] at e;cases e;rw[c'] at z;exact absurd z (by decide)
    refine al0q (al95q hi hL ej fun h' it' sb=>?_);obtain⟨p,ep,tp⟩:=ht j _ ej;obtain⟨a,u,ea,⟨o,ho,hc,n,hd⟩,hk'⟩:=tp;rw[ea];have ho':h'.get? a=some o:=(sb.2 a (ci a o ho hc)).trans ho;have l':h'.IsList l its:=by
      obtain⟨o,ho,r⟩:=hL;exact⟨o,(sb.2 l n3).trans ho,r⟩
    have hD':=hD.sameBut sb n1;have ta:(⟨h',s.gens,s.drawn,s.toks,s.os⟩:ty2q).TypeIs (.ref a) "tuple":=⟨o,ho',hc⟩;refine al0q (al47q (al0q (al106q ?_)));unfold Builtin.Dict.pairItems;refine al0q (al145q ta ?_);rw[al11q (by decide)];refine al0q (al88q ho' hd (al2q ?_));show wpAny _ _ (holding [u,p.2] (dictSet D u p.2)) _ _ _;have lz:(zfo (ps.take j)).length<=sizeLine:=by
      have:=zie (ps.take j);rw[al25q] at this;lia
    refine al47q (wpAny_dictSet_pairs (hsz:=lz) hk' hD' fun h2 hD2 sb2=>?_);refine al2q ⟨al66q zdp _,ih (j+1) _ _ _ (by lia) (it'.at fun o e=>(sb2.2 it (al36q n1)).trans e) ?_ ?_ (fun i v e=>?_) (by lia) fun h3 tk hD3 kp=>?_⟩
    · obtain⟨o,ho,r⟩:=l';exact⟨o,(sb2.2 l (al36q n2)).trans ho,r⟩
    · rw[zl4 ep];exact hD2
    · obtain⟨p,ep,tp⟩:=ht i v e;exact⟨p,ep,tp.kept fun d o z=>(sb2.2 d (cD d o z.1 z.2)).trans ((sb.2 d (ci d o z.1 z.2)).trans z.1)⟩
    · exact q h3 tk hD3 fun d o d1 d2 e=>kp d o d1 d2 ((sb2.2 d d2).trans ((sb.2 d d1).trans e))
end
section
variable {prog:ty4q}{w:World}{A:Around}{E:ty90q}{s:ty2q}
theorem zl5 {l:ty1q}{its:Array ty3q}{ps:List (Key×ty3q)}{Q:ty90q}(hh:A.handled=none) (pl:PlainL s.heap l its) (hsz:ps.length<=sizeLine) (hl:its.size=ps.length)
    (ht:∀(i:Nat) (v:ty3q),its[i]? = some v->∃p,ps[i]? = some p/\TupKV prog w s.heap v p)
    (q:∀h' tk,h'.DictOf (zam prog w) s.heap.objs.size (zfo ps)->(∀d o,s.heap.get? d=some o->h'.get? d=some o)->Q (.ref s.heap.objs.size) { s with heap:=h',toks:=tk }) :
    wpAny (model prog w) A (call (.type "dict") [.ref l]) Q E s:=by
  have hlt:l<s.heap.objs.size:=by obtain⟨_,_,e,_⟩:=pl;exact al13q e
  refine callType_codes (Q₁:=fun obj s₁=>obj = .ref s.heap.objs.size/\s₁ = { s with heap:=s.heap.push { cls:=.type "dict",data:=.dict #[] } }) F.kt_called_dict (F.kt_typeCall_dict_1 _) F.entry_dict_init (kt_code_dict_new _ ⟨rfl,rfl⟩) ?_;rintro obj s₁ ⟨rfl,rfl⟩;have hnew:(s.heap.push { cls:=.type "dict",data:=.dict #[] }).DictOf (zam prog w) s.heap.objs.size []:=Heap.DictOf.new s.heap;have k0:∀d o,s.heap.get? d=some o->(s.heap.push { cls:=.type "dict",data:=.dict #[] }).get? d=some o:=fun d o e=>al4q _ e
  refine⟨hnew.typeIs,F.args_dict_init_2 _ _,?_⟩;unfold Builtin.«dict.__init__»;refine al0q ?_;unfold Builtin.Dict.selfAndRest;refine al0q (wpAny_notOrdered_dict hnew.typeIs ?_);show wpAny _ _ (pure (s.heap.objs.size,[Value.ref l])) _ _ _;refine al2q ?_;show wpAny _ _ (Builtin.Dict.updateFrom "dict.__init__" s.heap.objs.size (.ref l) [] .none) _ _ _;generalize s.heap.push { cls:=.type "dict",data:=.dict #[] } = g at hnew k0;have pl1:PlainL g l its:=pl.keeps k0;unfold Builtin.Dict.updateFrom;have tl:({ s with heap:=g }:ty2q).TypeIs (.ref l) "list":=by
    obtain⟨o,n,e,c,_⟩:=pl1;exact⟨o,e,c⟩
  refine al0q (al145q tl ?_);rw[al11q (by decide)];refine al0q (zot hh pl1 fun h1 tk k1=>?_);rw[al11q (show (none:Option ty3q).isNone=true from rfl)];have pl2:PlainL h1 l its:=pl1.keeps k1;have hD1:h1.DictOf (zam prog w) s.heap.objs.size []:=let ⟨o,es,ep,ho,r⟩:=hnew;⟨o,es,ep,k1 _ _ ho,r⟩
  have hDl:s.heap.objs.size<h1.objs.size:=by obtain⟨o,es,ep,ho,r⟩:=hD1;exact al13q ho
  refine al0q (al102q (al0q (al128q pl2.isList ?_)));have k2:∀d o,h1.get? d=some o->(h1.push { cls:=.type "list_iterator",data:=.fields #[.ref l,.int 0 0] }).get? d=some o:=fun d o e=>al4q _ e
  have hit:(h1.push { cls:=.type "list_iterator",data:=.fields #[.ref l,.int 0 0] }).IsListIter h1.objs.size l 0:=⟨_,al12q _ rfl,rfl,rfl⟩;refine al2q ⟨al66q zdp _,zou (A:=A.in1) (it:=h1.objs.size) hh (al26q hDl) (al36q (al26q hlt)) (al26q (Nat.lt_trans hlt hDl)) hsz hl _ 0 _ _ _ rfl hit (pl2.keeps k2).isList ?_ (fun i v e=>?_) (al73q _) fun h3 tk3 hD3 kp=>?_⟩
  · obtain⟨o,es,ep,ho,r⟩:=hD1;exact⟨o,es,ep,k2 _ _ ho,r⟩
  · obtain⟨p,ep,tp⟩:=ht i v e;exact⟨p,ep,tp.kept fun d o z=>k2 _ _ (k1 _ _ (k0 _ _ z.1))⟩
  · refine⟨rfl,q h3 tk3 hD3 fun d o e=>kp d o (fun z=>?_) (fun z=>?_) (k2 _ _ (k1 _ _ (k0 _ _ e)))⟩
    · exact absurd (al13q e) (by rw[z];exact al137q (al127q hDl))
    · exact absurd (al13q e) (by rw[z];exact al64q _)
end
section
variable {X:Cx}
theorem zd5 {K:ty0q}(h:X.K=K) (hc:X.calm=true):zbr X (.type "dict") (fun xs H Q=>∃(l:ty1q) (as:List ty1q) (kvs:List (Key×V)),xs = [V.ref l]/\SqL K H l (as.map V.ref)/\Paired (fun a (p:Key×V)=>SqT K H a [kV p.1,p.2]) as kvs/\kvs.length<=1000/\
    ∀(D:ty1q) (ob:Obj),H D=none->Q (.ref D) (upd H D (.frz ob (.dK (zgd kvs))))):=by
  subst h;intro pins s σ H xs us Q I r h;obtain⟨l,as,kvs,rfl,hl,pr,hk,q⟩:=h;obtain⟨u,rfl,ru⟩:=zc4 r;cases ru;obtain⟨its,rv,pl,hz⟩:=I.list hl;have len:=rv.length;rw[al1q] at len;have lp:as.length=kvs.length:=Paired.length pr;have hsl:sizeLine=2 ^ 20\/1000<=sizeLine:=.inr (by decide);have hat:∀(i:Nat) (v:ty3q),its[i]? = some v->∃(p:Key×V) (u:ty3q×ty3q),kvs[i]? = some p/\(∃a,v=Value.ref a/\IsTup s.heap a #[u.1,u.2])/\RelV (kV p.1) u.1/\RelV p.2 u.2:=by
    intro i v e';have hi:i<as.length:=by have:=(al8q.mp e').1;lia
    have hi2:i<kvs.length:=by lia
    obtain⟨u,e2,ru⟩:=rv.get (i:=i) (x:=V.ref as[i]) (by simp[hi]);rw[e'] at e2;cases e2;cases ru;obtain⟨ts,rt,it,_⟩:=I.tuple (zak pr (al3q hi) (al3q hi2));obtain⟨u1,u2,rfl,r1,r2⟩:=zqh rt;exact⟨kvs[i],(u1,u2),al3q hi2,⟨as[i],rfl,it⟩,r1,r2⟩
  obtain⟨ps,hps,pps⟩:∃ps:List (Key×ty3q),KV kvs ps/\∀(i:Nat) (v:ty3q),its[i]? = some v->∃p,ps[i]? = some p/\TupKV X.prog X.w s.heap v p:=by
    have li:its.length=kvs.length:=by lia
    clear pr hl rv pl hz q hk lp len
    induction kvs generalizing its with
    | nil=>
      cases its with
      | nil=>exact⟨[],.nil,fun i v e=>by simp at e⟩
      | cons a b=>simp at li
    | cons p r ih=>
      cases its with
      | nil=>simp at li
      | cons a b=>
        obtain⟨ps,h1,h2⟩:=ih b (fun i v e=>by
          obtain⟨p',u,e1,e2⟩:=hat (i+1) v (by simpa using e);exact⟨p',u,by simpa using e1,e2⟩) (by simpa using li)
        obtain⟨p',u,e1,⟨ad,ea,it⟩,r1,r2⟩:=hat 0 a (by simp);have e1:p=p':=by simpa using e1
        subst e1;refine⟨(p.1,u.2)::ps,.cons ⟨rfl,r2⟩ h1,fun i v e=>?_⟩;cases i with
        | zero=>
          have e:a=v:=by simpa using e
          subst e;exact⟨(p.1,u.2),by simp,ad,u.1,ea,it,zi8 r1⟩
        | succ i=>exact h2 i v (by simpa using e)
  have lps:ps.length=kvs.length:=(Paired.length hps).symm;have big:kvs.length<=sizeLine:=by rcases hsl with z | z<;>lia
  refine zl5 (ps:=ps) (I.ok.hd hc) pl (by lia) (by rw[al24q];lia) (fun i v e=>pps i v (by simpa using e)) fun h' tk hD kp=>?_
  have kd:=KV.all hps;have lz:(zgd kvs).length<=sizeLine:=by
    have h1:=Paired.length kd;have h2:=zie ps;lia
  have hn:=I.hok.fresh (al18q s.heap.objs.size);have I1:=I.laid (a:=s.heap.objs.size) (o:=.dK (zgd kvs)) (t':=tk) kp (al18q _) (znc lz (al54q.mpr (al36q (al26q I.big))) kd hD);obtain⟨ob,I2⟩:=I1.frozen zb;rw[zmu] at I2;exact⟨.ref s.heap.objs.size,_,I2,rfl,q _ ob hn⟩
end
end L2
namespace Dm
open PySem PySem.NumText L2
structure TelF (K:ty0q) (H:Hp) (p pm pu pt pf:ty1q) (lo hi:Int) (us:List Str) (ads:List ty1q) (ts:List Tie) (af:List ty1q) (fs:List Fnd):Prop where
  tel:Tel K H p pu pt (.ref pm) (.ref pf) us ads ts
  m:SqT K H pm [.int lo,.int hi]
  f:SqL K H pf (af.map V.ref)
  ft:Tups H af (fs.map fndV)
  fu:∀f∈fs,f.u∈us
  fl:fs.length<=60
section
variable {K:ty0q}{H H':Hp}{p pm pu pt pf:ty1q}{lo hi:Int}{us:List Str}{ads:List ty1q}{ts:List Tie}{af:List ty1q}{fs:List Fnd}
theorem TelF.same (h:TelF K H p pm pu pt pf lo hi us ads ts af fs) (s:Same H H'):TelF K H' p pm pu pt pf lo hi us ads ts af fs:=⟨h.tel.same s,s.tup h.m,s.seq h.f,h.ft.same s,h.fu,h.fl⟩
theorem TelF.flen (h:TelF K H p pm pu pt pf lo hi us ads ts af fs):af.length=fs.length:=by have:=h.ft.len;rw[al1q] at this;exact this
end
theorem zsn (f:Fnd):atI (fndV f) 0=some (.str f.n):=rfl
theorem zso (f:Fnd):atI (fndV f) 1=some (.str f.u):=rfl
theorem zsp (f:Fnd):atI (fndV f) 2=some (.int f.lo):=rfl
theorem zsq (f:Fnd):atI (fndV f) 3=some (.int f.hi):=rfl
abbrev Fz:=List (Fnd×ty1q)
def fwOf (ts:List Tie) (z:Fz):Str->Fz:=fun k=>z.filter fun p=>decide (labs ts p.1.u=k)
theorem zt5 {ts:List Tie}{z:Fz}{i:Nat}{f:Fnd}{r:ty1q}{k:Str}(h:z[i]? = some (f,r)):fwOf ts (z.take (i+1)) k=fwOf ts (z.take i) k++(if labs ts f.u=k then [(f,r)] else []):=by
  unfold fwOf;rw[al9q,h,al91q]
  congr 1
  by_cases c:labs ts f.u=k
  · rw[al11q c];simp[c]
  · rw[al7q c];simp[c]
theorem zov {ts:List Tie}{z:Fz}{k:Str}:(fwOf ts z k).length<=z.length:=al48q _ _
structure Fw (H:Hp) (pd:ty1q) (ob:Obj) (keys:List Str) (fw:Str->Fz) (ad:Str->ty1q):Prop where
  d:H pd=some (.frz ob (.dK (dV keys fun k=>.ref (ad k))))
  l:∀k∈keys,H (ad k)=some (.lst ((fw k).map fun p=>V.ref p.2))
theorem Fw.same {H H':Hp}{pd:ty1q}{ob:Obj}{keys:List Str}{fw:Str->Fz}{ad:Str->ty1q}(b:Fw H pd ob keys fw ad) (s:Same H H'):Fw H' pd ob keys fw ad:=
  ⟨s _ _ b.d,fun k hk=>s _ _ (b.l k hk)⟩
theorem zav {H:Hp}{pd:ty1q}{ob:Obj}{keys:List Str}{f:Str->V}(h:H pd=some (.frz ob (.dK (dV keys f)))) {k:Str}(hk:k∈keys):DGet H pd (.str k) (some (f k)):=by
  have:=zba (f:=f) hk;exact .inl ⟨_,Sum.inr k,.inr ⟨ob,h⟩,rfl,this.symm⟩
def loL (lo:Int) (L:Fz):List IS:=(lo,"")::L.map fun p=>(p.1.lo,p.1.n)
def hiL (hi:Int) (L:Fz):List IS:=(hi,"")::L.map fun p=>(p.1.hi,p.1.n)
def MaxP (l:List IS) (m:IS):Prop:=m∈l/\∀q∈l,gtP q m=false
def MinP (l:List IS) (m:IS):Prop:=m∈l/\∀q∈l,gtP m q=false
structure Bd (H:Hp) (pd:ty1q) (ob:Obj) (keys:List Str) (v:Str->IS) (ad:Str->ty1q):Prop where
  d:H pd=some (.frz ob (.dK (dV keys fun k=>.ref (ad k))))
  e:∀k∈keys,H (ad k)=some (.tup [.int (v k).1,.str (v k).2])
theorem Bd.same {H H':Hp}{pd:ty1q}{ob:Obj}{keys:List Str}{v:Str->IS}{ad:Str->ty1q}(b:Bd H pd ob keys v ad) (s:Same H H'):Bd H' pd ob keys v ad:=
  ⟨s _ _ b.d,fun k hk=>s _ _ (b.e k hk)⟩
theorem zt6 {lo:Int}{L:Fz}{m:IS}(h:MaxP (loL lo L) m) (y:Int):m.1<=y↔lo<=y/\∀p∈L,p.1.lo<=y:=by
  obtain⟨h1,h2⟩:=h;unfold loL at h1 h2;constructor
  · intro h;refine⟨?_,fun p hp=>?_⟩
    · have:=zg2 (h2 (lo,"") (by simp));have:lo<=m.1:=this;lia
    · have:=zg2 (h2 (p.1.lo,p.1.n) (al5q _ (al27q.mpr ⟨p,hp,rfl⟩)));have:p.1.lo<=m.1:=this;lia
  · rintro ⟨a,b⟩;rcases al14q.mp h1 with rfl | h1
    · exact a
    · obtain⟨p,hp,rfl⟩:=al27q.mp h1;exact b p hp
theorem zt7 {hi:Int}{L:Fz}{m:IS}(h:MinP (hiL hi L) m) (y:Int):y<=m.1↔y<=hi/\∀p∈L,y<=p.1.hi:=by
  obtain⟨h1,h2⟩:=h;unfold hiL at h1 h2;constructor
  · intro h;refine⟨?_,fun p hp=>?_⟩
    · have:=zg2 (h2 (hi,"") (by simp));have:m.1<=hi:=this;lia
    · have:=zg2 (h2 (p.1.hi,p.1.n) (al5q _ (al27q.mpr ⟨p,hp,rfl⟩)));have:m.1<=p.1.hi:=this;lia
  · rintro ⟨a,b⟩;rcases al14q.mp h1 with rfl | h1
    · exact a
    · obtain⟨p,hp,rfl⟩:=al27q.mp h1;exact b p hp
def YrAt (H:Hp) (py:ty1q) (oy:Obj) (keys:List Str) (yr:Str->Int):Prop:=H py=some (.frz oy (.dK (dV keys fun k=>.int (yr k))))
theorem zif {ks:List Str}{f:Str->V}(h:ks.Nodup):zgd (dV ks f)=dV ks f:=by
  have go:∀(r pre:List Str),(pre++r).Nodup->(dV r f).foldl (fun d p=>putK d p.1 p.2) (dV pre f)=dV (pre++r) f:=by
    intro r
    induction r with
    | nil=>intro pre _;rw[al53q];rfl
    | cons x r ih=>
      intro pre nd;have e:pre++x::r=(pre++[x])++r:=by simp
      have hx:x ∉ pre:=fun z=>by
        rw[al108q] at nd;exact nd.2.2 x z x (by simp) rfl
      show (dV r f).foldl (fun d p=>putK d p.1 p.2) (putK (dV pre f) (Sum.inr x) (f x))=_;have e2:putK (dV pre f) (Sum.inr x) (f x)=dV (pre++[x]) f:=by
        rw[zdj hx];refine zbd fun z _=>?_
        by_cases c:z=x
        · rw[al11q c,c]
        · rw[al7q c]
      rw[e2,ih (pre++[x]) (by rw[←e];exact nd),←e]
  have:=go ks [] (by simpa using h);rw[List.nil_append] at this;exact this
def mxI (i j:Int):Int:=if j > i then j else i
def mnI (i j:Int):Int:=if j<i then j else i
def lowF (ts:List Tie) (fs:List Fnd) (lo:Int) (k:Str):Int:=fs.foldl (fun m f=>if labs ts f.u=k then mxI m f.lo else m) lo
def ze3 (ts:List Tie) (fs:List Fnd) (hi:Int) (k:Str):Int:=fs.foldl (fun m f=>if labs ts f.u=k then mnI m f.hi else m) hi
theorem zjp {us:List Str}{ts:List Tie}(nd:us.Nodup) (hts:∀t∈ts,t.a∈us/\t.b∈us) {ds ms:List Str}(dn:ds.Nodup) (dm:∀z,z∈ds↔z∈us.map (labs ts)) (pm:ms.Perm ds) (rs:zhz ms):ms=keysOf ts (srt us):=by
  have kn:=zaj (ts:=ts) nd;have kl:=zn7 (ts:=ts) nd;have e1:ms=srt ds:=zkx pm rs;have e2:keysOf ts (srt us)=srt (keysOf ts (srt us)):=by
    have e:(keysOf ts (srt us)).filter (fun _=>true)=keysOf ts (srt us):=List.filter_eq_self.mpr fun _ _=>rfl
    have:=zlz (p:=fun _=>true) (List.Perm.refl (keysOf ts (srt us))) kl;rw[e] at this;exact this.symm
  rw[e1,e2];refine zqy dn kn fun z=>?_
  rw[dm,keys_mem,al27q];constructor
  · rintro ⟨y,hy,rfl⟩;exact⟨zgv hy hts,zdk ts y⟩
  · rintro ⟨h1,h2⟩;exact⟨z,h1,h2⟩
theorem zcn {us:List Str}{ts:List Tie}(hts:∀t∈ts,t.a∈us/\t.b∈us) {x:Str}(hx:x∈us):labs ts x∈keysOf ts (srt us):=zbu hts hx
def loS (f:Str->Int) (q:Lrow):Str->Int:=fun z=>if z=q.1 then mxI (f q.1) (f q.2.1+q.2.2.1) else f z
def loP (ls:List Lrow) (f:Str->Int):Str->Int:=ls.foldl loS f
def loI (ls:List Lrow) (f:Str->Int):Nat->Str->Int
  | 0=>f
  | n+1=>loP ls (loI ls f n)
theorem zig {us:List Str}{ts:List Tie}{ads:List ty1q}(ht:∀t∈ts,t.a∈us/\t.b∈us):∀q∈lnkL ts (ts.zip ads),q.1∈keysOf ts (srt us)/\q.2.1∈keysOf ts (srt us):=by
  intro q hq;unfold lnkL at hq;obtain⟨p,hp,rfl⟩:=al27q.mp hq;have hp:=(al32q.mp hp).1;have:=al109q (a:=p.1) (b:=p.2) hp;exact⟨zbu ht (ht _ this.1).1,zbu ht (ht _ this.1).2⟩
def okK (lo hi:Int) (yr:Str->Int) (k:Str):Bool:=decide (lo<=yr k)&&decide (yr k<=hi)
def okF (ts:List Tie) (yr:Str->Int) (f:Fnd):Bool:=decide (f.lo<=yr (labs ts f.u))&&decide (yr (labs ts f.u)<=f.hi)
def okL (yr:Str->Int) (q:Lrow):Bool:=decide (yr q.2.1+q.2.2.1<=yr q.1)
def lawB (lo hi:Int) (keys:List Str) (ts:List Tie) (fs:List Fnd) (lr:List Lrow) (yr:Str->Int):Bool:=keys.all (okK lo hi yr)&&fs.all (okF ts yr)&&lr.all (okL yr)
theorem lawB_iff {lo hi:Int}{keys:List Str}{ts:List Tie}{fs:List Fnd}{lr:List Lrow}{yr:Str->Int}:lawB lo hi keys ts fs lr yr=true↔(∀k∈keys,okK lo hi yr k=true)/\(∀f∈fs,okF ts yr f=true)/\∀q∈lr,okL yr q=true:=by
  unfold lawB;rw[al42q,al42q,al52q,al52q,al52q,and_assoc]
theorem okK_iff {lo hi:Int}{yr:Str->Int}{k:Str}:okK lo hi yr k=true↔lo<=yr k/\yr k<=hi:=by
  unfold okK;rw[al42q,al39q,al39q]
theorem okF_iff {ts:List Tie}{yr:Str->Int}{f:Fnd}:okF ts yr f=true↔f.lo<=yr (labs ts f.u)/\yr (labs ts f.u)<=f.hi:=by
  unfold okF;rw[al42q,al39q,al39q]
theorem okL_iff {yr:Str->Int}{q:Lrow}:okL yr q=true↔yr q.2.1+q.2.2.1<=yr q.1:=by
  unfold okL;rw[al39q]
theorem zge {α β:Type}:∀{as:List α}{bs:List β},bs.length=as.length->∀a∈as,∃b,(a,b)∈as.zip bs
  | [],_,_,a,h=>by cases h
  | x::as,[],h,_,_=>by simp at h
  | x::as,y::bs,h,a,ha=>by
    rcases al14q.mp ha with rfl | ha
    · exact⟨y,by simp⟩
    · obtain⟨b,hb⟩:=zge (as:=as) (bs:=bs) (by simpa using h) a ha;exact⟨b,by simp[hb]⟩
theorem Paired.mono {α β:Type}{F G:α->β->Prop}{as:List α}{bs:List β}(h:Paired F as bs) (k:∀a,∀b∈bs,F a b->G a b):Paired G as bs:=by
  induction h with
  | nil=>exact .nil
  | cons h _ ih=>exact .cons (k _ _ (by simp) h) (ih fun a b hb f=>k a b (al5q _ hb) f)
end Dm
namespace L2
open PySem
theorem DEq.allL {K:ty0q}{H:Hp}{n:Nat}{a b:ty1q}{xs ys:List V}(hx:SqL K H a xs) (hy:SqL K H b ys) (hl:xs.length=ys.length) (h:∀(i:Nat) x y,xs[i]? = some x->ys[i]? = some y->DEq K H n x y true):DEq K H (n+1) (.ref a) (.ref b) true:=by
  have:=DEq.lst (n:=n) (fun _=>true) hx hy hl h;rw[al52q.mpr fun _ _=>rfl] at this;exact this
end L2
namespace L2
open PySem PySem.W PyProof.Rows
structure Good (N:Nat) (p:Array Nat):Prop where
  sz:p.size=N
  lt:∀i,i<N->p.getD i 0<N
  inj:∀i j,i<N->j<N->p.getD i 0=p.getD j 0->i=j
end L2
namespace L2
open PySem PySem.Spec PyProof.Rows
end L2
namespace Dm
open PySem PySem.NumText L2
theorem Rc.refl {ln:Ln}{s:Str}:Rc ln s 0 s:=⟨[],.nil,rfl⟩
abbrev Tr:=Tie×ty1q
abbrev Rw:=Str->List (Str×Tr)
def rwOf (ts:List Tie) (z:List Tr):Rw:=fun k=>(z.filter fun p=>decide (p.1.k≠SAME/\labs ts p.1.a=k)).map fun p=>(labs ts p.1.b,p)
theorem zxl {ts:List Tie}{z:List Tr}{k:Str}:za1 ts z k=(rwOf ts z k).map fun q=>(q.1,q.2.2):=by unfold za1 rwOf;rw[al75q];rfl
theorem rw_mem {ts:List Tie}{z:List Tr}{k l:Str}{b:Tr}:(l,b)∈rwOf ts z k↔b∈z/\b.1.k≠SAME/\labs ts b.1.a=k/\labs ts b.1.b=l:=by
  unfold rwOf;rw[al27q];constructor
  · rintro ⟨p,hp,e⟩;rw[al32q,al39q] at hp;cases e;exact⟨hp.1,hp.2.1,hp.2.2,rfl⟩
  · rintro ⟨h1,h2,h3,h4⟩;exact⟨b,by rw[al32q,al39q];exact⟨h1,h2,h3⟩,by rw[h4]⟩
abbrev Chn:=Int×Str×List Tr
inductive Up (R:Rw) (F:Str->IS->Prop):Str->Chn->Prop
  | bare {k:Str}{m:IS}(h:F k m):Up R F k (m.1,m.2,[])
  | up {k l:Str}{c:Chn}{b:Tr}(u:Up R F l c) (h:(l,b)∈R k):Up R F k (c.1+zx b.1,c.2.1,c.2.2++[b])
inductive Dn (R:Rw) (F:Str->IS->Prop):Str->Chn->Prop
  | bare {k:Str}{m:IS}(h:F k m):Dn R F k (m.1,m.2,[])
  | dn {k l:Str}{c:Chn}{b:Tr}(u:Dn R F k c) (h:(l,b)∈R k):Dn R F l (c.1-zx b.1,c.2.1,b::c.2.2)
def LoIs (R:Rw) (F:Str->IS->Prop) (k:Str) (m:Int):Prop:=(∃c,Up R F k c/\c.1=m)/\∀c,Up R F k c->c.1<=m
def HiIs (R:Rw) (F:Str->IS->Prop) (k:Str) (m:Int):Prop:=(∃c,Dn R F k c/\c.1=m)/\∀c,Dn R F k c->m<=c.1
variable {R:Rw}{F G:Str->IS->Prop}{k:Str}{keys:List Str}
theorem LoIs.uniq {m n:Int}(h:LoIs R F k m) (h':LoIs R F k n):m=n:=by
  obtain⟨⟨c,u,e⟩,a⟩:=h;obtain⟨⟨c',u',e'⟩,a'⟩:=h';have h1:=a _ u';have h2:=a' _ u;lia
theorem HiIs.uniq {m n:Int}(h:HiIs R F k m) (h':HiIs R F k n):m=n:=by
  obtain⟨⟨c,u,e⟩,a⟩:=h;obtain⟨⟨c',u',e'⟩,a'⟩:=h';have h1:=a _ u';have h2:=a' _ u;lia
theorem zt8 {f:Str->Int}(h0:∀k m,F k m->k∈keys->m.1<=f k) (cl:∀k l b,(l,b)∈R k->k∈keys/\l∈keys) (h1:∀k l b,(l,b)∈R k->f l+zx b.1<=f k) {c:Chn}(hk:k∈keys) (u:Up R F k c):c.1<=f k:=by
  induction u with
  | bare h=>exact h0 _ _ h hk
  | up u h ih=>
    have:=ih (cl _ _ _ h).2;have:=h1 _ _ _ h;show _+_<=_;lia
theorem zxm {f:Str->Int}(h0:∀k m,F k m->k∈keys->f k<=m.1) (cl:∀k l b,(l,b)∈R k->k∈keys/\l∈keys) (h1:∀k l b,(l,b)∈R k->f l<=f k-zx b.1) {c:Chn}(hk:k∈keys) (u:Dn R F k c):f k<=c.1:=by
  induction u with
  | bare h=>exact h0 _ _ h hk
  | dn u h ih=>
    have:=ih (cl _ _ _ h).1;have:=h1 _ _ _ h;show _<=_-_;lia
theorem zt9 {d:Chn}(hd:Dn R G k d):∀{c:Chn},Up R F k c->d.1<c.1->∃k' c' m,(k'=k\/∃l b,(l,b)∈R k')/\Up R F k' c'/\G k' m/\m.1<c'.1:=by
  induction hd with
  | bare h=>exact fun u hl=>⟨_,_,_,.inl rfl,u,h,hl⟩
  | @dn k l c b u h ih=>
    intro c' u' hl;have hl:c.1-zx b.1<c'.1:=hl;obtain⟨k',c'',m,h1,h2⟩:=ih (u'.up h) (show c.1<c'.1+zx b.1 by lia);refine⟨k',c'',m,?_,h2⟩;rcases h1 with rfl | h1
    · exact .inr ⟨_,_,h⟩
    · exact .inr h1
theorem zxn {f g:Str->Int}(cl:∀k l b,(l,b)∈R k->k∈keys/\l∈keys) (hf:∀k∈keys,LoIs R F k (f k)) (hg:∀k∈keys,HiIs R G k (g k)):(∃k∈keys,g k<f k)↔∃k∈keys,∃c m,Up R F k c/\G k m/\m.1<c.1:=by
  constructor
  · rintro ⟨k,hk,hl⟩;obtain⟨⟨c,u,e⟩,_⟩:=hf k hk;obtain⟨⟨d,v,e'⟩,_⟩:=hg k hk;obtain⟨k',c',m,h1,h2,h3,h4⟩:=zt9 v u (by lia);refine⟨k',?_,c',m,h2,h3,h4⟩;rcases h1 with rfl | ⟨l,b,h⟩
    · exact hk
    · exact (cl _ _ _ h).1
  · rintro ⟨k,hk,c,m,u,h,hl⟩;have h1:=(hf k hk).2 _ u;have h2:=(hg k hk).2 _ (Dn.bare h);exact⟨k,hk,by have h2:g k<=m.1:=h2;lia⟩
theorem Rc.cons {ln:Ln}{k l:Str}{r:ty1q}(e:(l,r)∈ln k):∀{n:Nat}{s:Str},Rc ln l n s->Rc ln k (n+1) s
  | 0,s,h=>by rw[h.zero];exact Rc.step Rc.refl e
  | n+1,s,h=>by
    obtain⟨u,r',h1,h2⟩:=h.succ;exact (Rc.cons e h1).step h2
theorem Rc.short {ln:Ln}{keys:List Str}(cl:∀k∈keys,∀l r,(l,r)∈ln k->l∈keys) (nr:NoR ln keys) {k s:Str}{n:Nat}(hk:k∈keys) (h:Rc ln k n s):n<keys.length:=by
  obtain⟨rs,w,e⟩:=h;obtain⟨vs,v0,v1,st⟩:=w.seq;rw[e] at v1 st;have hk:∀i,i<=n->vs i∈keys:=by
    intro i
    induction i with
    | zero=>intro _;rw[v0];exact hk
    | succ i ih=>
      intro hi;obtain⟨r,_,q⟩:=st i (by lia);exact cl _ (ih (by lia)) _ _ q
  have go:∀i d,i+d<=n->Rc ln (vs i) d (vs (i+d)):=by
    intro i d
    induction d with
    | zero=>intro _;exact Rc.refl
    | succ d ih=>
      intro hi;obtain⟨r,_,q⟩:=st (i+d) (by lia);exact (ih (by lia)).step q
  have main:∀i j,i<j->j<=n->vs i≠vs j:=fun i j hij hj e=>by
    have:=go i (j-i) (by lia);rw[show i+(j-i)=j by lia,←e] at this;exact nr _ (hk i (by lia)) _ (by lia) this
  have nd:((List.range (n+1)).map vs).Nodup:=zbq fun i j hi hj e=>by
    rcases Nat.lt_trichotomy i j with c | c | c
    · exact absurd e (main i j c (by lia))
    · exact c
    · exact absurd e.symm (main j i c (by lia))
  have:=zbn (us:=keys) nd fun x hx=>by
    obtain⟨i,hi,rfl⟩:=al27q.mp hx;exact hk i (by have:=al69q.mp hi;lia)
  rw[al1q,al58q] at this;lia
def lnR (R:Rw):Ln:=fun k=>(R k).map fun q=>(q.1,q.2.2)
theorem zco {l:Str}{b:Tr}(h:(l,b)∈R k):(l,b.2)∈lnR R k:=al27q.mpr ⟨(l,b),h,rfl⟩
theorem zv6 {l:Str}{r:ty1q}(h:(l,r)∈lnR R k):∃t,(l,(t,r))∈R k:=by
  obtain⟨⟨l',t,r'⟩,h',e⟩:=al27q.mp h;cases e;exact⟨t,h'⟩
theorem Up.rc {c:Chn}(u:Up R F k c):∃s,Rc (lnR R) k c.2.2.length s:=by
  induction u with
  | bare h=>exact⟨_,Rc.refl⟩
  | up u h ih=>
    obtain⟨s,q⟩:=ih;refine⟨s,?_⟩;show Rc _ _ (_++[_]).length _;rw[al20q];exact Rc.cons (zco h) q
theorem Dn.rc {c:Chn}(cl:∀k l b,(l,b)∈R k->k∈keys/\l∈keys) (u:Dn R F k c) (hk:k∈keys):∃s∈keys,Rc (lnR R) s c.2.2.length k:=by
  induction u with
  | bare h=>exact⟨_,hk,Rc.refl⟩
  | dn u h ih=>
    obtain⟨s,hs,q⟩:=ih (cl _ _ _ h).1;exact⟨s,hs,q.step (zco h)⟩
theorem zsr (cl:∀k l b,(l,b)∈R k->k∈keys/\l∈keys):∀k∈keys,∀l r,(l,r)∈lnR R k->l∈keys:=fun k _ l r h=>by
  obtain⟨t,h⟩:=zv6 h;exact (cl _ _ _ h).2
theorem Up.short {c:Chn}(cl:∀k l b,(l,b)∈R k->k∈keys/\l∈keys) (nr:NoR (lnR R) keys) (hk:k∈keys) (u:Up R F k c):c.2.2.length<keys.length:=by
  obtain⟨s,q⟩:=u.rc;exact q.short (zsr cl) nr hk
theorem Dn.short {c:Chn}(cl:∀k l b,(l,b)∈R k->k∈keys/\l∈keys) (nr:NoR (lnR R) keys) (hk:k∈keys) (u:Dn R F k c):c.2.2.length<keys.length:=by
  obtain⟨s,hs,q⟩:=u.rc cl hk;exact q.short (zsr cl) nr hs
structure Rung (R:Rw) (F:Str->IS->Prop) (keys:List Str) (n:Nat) (M:List Str) (v:Str->Chn):Prop where
  nd:M.Nodup
  sub:∀k∈M,k∈keys
  is:∀k∈M,Up R F k (v k)/\(v k).2.2.length=n
  all:∀k∈keys,∀c,Up R F k c->c.2.2.length=n->k∈M/\c.1<=(v k).1
theorem Rung.zero {v:Str->Chn}(nd:keys.Nodup) (h:∀k∈keys,(v k).2.2 = []/\F k ((v k).1,(v k).2.1)) (hu:∀k m m',F k m->F k m'->m.1=m'.1):Rung R F keys 0 keys v:=by
  refine⟨nd,fun _ h=>h,fun k hk=>⟨?_,by rw[(h k hk).1];rfl⟩,fun k hk c u e=>⟨hk,?_⟩⟩
  · have:=Up.bare (R:=R) (h k hk).2;rw[←(h k hk).1] at this;exact this
  · cases u with
    | bare h'=>exact Int.le_of_eq (hu _ _ _ h' (h k hk).2)
    | up u h'=>
      have e:(_++[_]).length=0:=e;simp at e
structure Grw (R:Rw) (M:List Str) (v:Str->Chn) (k:Str) (z:List (Str×Tr)) (has:Prop) (c:Chn):Prop where
  no:¬has->∀l b,(l,b)∈z->l ∉ M
  yes:has->∃l b,(l,b)∈z/\l∈M/\c=((v l).1+zx b.1,(v l).2.1,(v l).2.2++[b])
  max:has->∀l b,(l,b)∈z->l∈M->(v l).1+zx b.1<=c.1
theorem Rung.next {n:Nat}{M M':List Str}{v v':Str->Chn}(cl:∀k l b,(l,b)∈R k->k∈keys/\l∈keys) (r:Rung R F keys n M v) (nd:M'.Nodup) (sub:∀k∈M',k∈keys) (h:∀k∈keys,Grw R M v k (R k) (k∈M') (v' k)):Rung R F keys (n+1) M' v':=by
  refine⟨nd,sub,fun k hk=>?_,fun k hk c u e=>?_⟩
  · obtain⟨l,b,h1,h2,h3⟩:=(h k (sub k hk)).yes hk;obtain⟨u,e⟩:=r.is l h2;rw[h3];refine⟨u.up h1,?_⟩;show (_++[_]).length=_;rw[al20q,e];rfl
  · cases u with
    | bare h'=>exact absurd e (by show ¬([]:List Tr).length=n+1;simp)
    | @up _ l c b u h'=>
      have e:(c.2.2++[b]).length=n+1:=e;rw[al20q] at e;have e:c.2.2.length+1=n+1:=e;obtain⟨h1,h2⟩:=r.all l (cl _ _ _ h').2 c u (by lia);have hM:k∈M':=al33q fun z=>(h k hk).no z l b h' h1
      refine⟨hM,?_⟩;have:=(h k hk).max hM l b h' h1;show c.1+_<=_;lia
theorem Rung.stop {n:Nat}{v:Str->Chn}(cl:∀k l b,(l,b)∈R k->k∈keys/\l∈keys) (r:Rung R F keys n [] v):∀k∈keys,∀c,Up R F k c->c.2.2.length<n:=by
  have no:∀k∈keys,∀c,Up R F k c->c.2.2.length≠n:=fun k hk c u e=>al43q (r.all k hk c u e).1
  intro k hk c u
  induction u with
  | bare h=>
    have:=no _ hk _ (Up.bare h);show 0<n;have:(0:Nat)≠n:=this;lia
  | @up k l c b u h ih=>
    have h1:=ih (cl _ _ _ h).2;have h2:=no _ hk _ (u.up h);have h2:(c.2.2++[b]).length≠n:=h2;show (c.2.2++[b]).length<n;rw[al20q] at h2 ⊢;have h2:c.2.2.length+1≠n:=h2;show c.2.2.length+1<n;lia
theorem zss {f:Str->Int}{q:Lrow}(z:Str):f z<=loS f q z:=by
  unfold loS mxI;split
  · rename_i h;rw[h];split<;>lia
  · lia
theorem zv7 {f:Str->Int}{q:Lrow}:f q.2.1+q.2.2.1<=loS f q q.1:=by
  unfold loS mxI;rw[al11q rfl];split<;>lia
theorem zst (ls:List Lrow):∀{f:Str->Int}(z:Str),f z<=loP ls f z:=by
  induction ls with
  | nil=>intro f z;exact al63q _
  | cons q ls ih=>intro f z;exact Int.le_trans (zss z) (ih (f:=loS f q) z)
theorem zv8 {ls:List Lrow}:∀{f f':Str->Int}{q:Lrow},q∈ls->(∀z,f z<=f' z)->f q.2.1+q.2.2.1<=loP ls f' q.1:=by
  induction ls with
  | nil=>intro f f' q h;cases h
  | cons p ls ih=>
    intro f f' q h hf;rcases al14q.mp h with rfl | h
    · have h1:=hf q.2.1;have h2:=zv7 (f:=f') (q:=q);have h3:=zst ls (f:=loS f' q) q.1;have:loP (q::ls) f' q.1=loP ls (loS f' q) q.1:=rfl;lia
    · exact ih (f':=loS f' p) h fun z=>Int.le_trans (hf z) (zss z)
structure Lks (R:Rw) (ls:List Lrow):Prop where
  to:∀k l b,(l,b)∈R k->∃q∈ls,q.1=k/\q.2.1=l/\q.2.2.1=zx b.1
  of:∀q∈ls,∃b,(q.2.1,b)∈R q.1/\zx b.1=q.2.2.1
theorem zgf {ts:List Tie}{z:List Tr}:Lks (rwOf ts z) (lnkL ts z):=by
  refine⟨fun k l b h=>?_,fun q h=>?_⟩
  · obtain⟨h1,h2,h3,h4⟩:=rw_mem.mp h;exact⟨(labs ts b.1.a,labs ts b.1.b,zx b.1,b.2),al27q.mpr ⟨b,by rw[al32q,al39q];exact⟨h1,h2⟩,rfl⟩,h3,h4,rfl⟩
  · obtain⟨p,hp,rfl⟩:=al27q.mp h;rw[al32q,al39q] at hp;exact⟨p,rw_mem.mpr ⟨hp.1,hp.2,rfl,rfl⟩,rfl⟩
theorem zv9 {ls:List Lrow}{f:Str->Int}(L:Lks R ls) (cl:∀k l b,(l,b)∈R k->k∈keys/\l∈keys) (nr:NoR (lnR R) keys) (h0:∀k∈keys,∃m,F k m/\m.1=f k) (hu:∀k m m',F k m->F k m'->m.1=m'.1) (hk:k∈keys):LoIs R F k (loI ls f keys.length k):=by
  have ex:∀(rs:List Lrow) (g:Str->Int),(∀q∈rs,q∈ls)->(∀k∈keys,∃c,Up R F k c/\c.1=g k)->∀k∈keys,∃c,Up R F k c/\c.1=loP rs g k:=by
    intro rs
    induction rs with
    | nil=>intro g _ h;exact h
    | cons q rs ih=>
      intro g hs h;refine ih (loS g q) (fun q' h'=>hs q' (al5q _ h')) fun k hk=>?_
      unfold loS mxI
      by_cases e:k=q.1
      · rw[al11q e]
        by_cases e2:g q.2.1+q.2.2.1 > g q.1
        · rw[al11q e2];obtain⟨b,h1,h2⟩:=L.of q (hs q (by simp));obtain⟨c,u,e3⟩:=h q.2.1 (cl _ _ _ h1).2;refine⟨_,u.up (e▸h1),?_⟩;show c.1+zx b.1=_;rw[e3,h2]
        · rw[al7q e2,←e];exact h k hk
      · rw[al7q e];exact h k hk
  have ex2:∀n,∀k∈keys,∃c,Up R F k c/\c.1=loI ls f n k:=by
    intro n
    induction n with
    | zero=>
      intro k hk;obtain⟨m,h1,h2⟩:=h0 k hk;exact⟨_,Up.bare h1,h2⟩
    | succ n ih=>exact ex ls (loI ls f n) (fun _ h=>h) ih
  have mono:∀n z,loI ls f n z<=loI ls f (n+1) z:=fun n z=>zst ls z
  have mono2:∀n m,n<=m->∀z,loI ls f n z<=loI ls f m z:=by
    intro n m h
    induction h with
    | refl=>intro z;exact al63q _
    | step _ ih=>intro z;exact Int.le_trans (ih z) (mono _ z)
  have le:∀{k:Str}{c:Chn},Up R F k c->k∈keys->c.1<=loI ls f c.2.2.length k:=by
    intro k c u
    induction u with
    | @bare k m h=>
      intro hk;obtain⟨m',h1,h2⟩:=h0 k hk;show m.1<=f k;rw[←h2,hu _ _ _ h h1];exact al63q _
    | @up k l c b u h ih=>
      intro hk;have:=ih (cl _ _ _ h).2;obtain⟨q,hq,e1,e2,e3⟩:=L.to _ _ _ h;show c.1+zx b.1<=loI ls f (c.2.2++[b]).length k;rw[al20q];show _<=loP ls (loI ls f c.2.2.length) k;have:=zv8 (f:=loI ls f c.2.2.length) hq (fun z=>al63q _);rw[e1,e2,e3] at this;lia
  refine⟨ex2 _ k hk,fun c u=>?_⟩;have h1:=le u hk;have h2:=u.short cl nr hk;exact Int.le_trans h1 (mono2 _ _ (by lia) k)
def ChAt (H0 H:Hp) (a:ty1q) (c:Chn):Prop:=∃l,H a=some (.tup [.int c.1,.str c.2.1,.ref l])/\H l=some (.lst (c.2.2.map fun p=>V.ref p.2))/\H0 l=none
def cdO (fz:Bool) (o:Obj) (keys:List Str) (ad:Str->ty1q):HO:=if fz then .frz o (.dK (dV keys fun k=>.ref (ad k))) else .dK (dV keys fun k=>.ref (ad k))
section
variable {H0 H H':Hp}{a pd:ty1q}{c:Chn}
theorem ChAt.same (h:ChAt H0 H a c) (s:Same H H'):ChAt H0 H' a c:=by
  obtain⟨l,h1,h2,h3⟩:=h;exact⟨l,s _ _ h1,s _ _ h2,h3⟩
theorem ChAt.put {kv:List (Key×V)}{o:HO}(h:ChAt H0 H a c) (hd:H pd=some (.dK kv)):ChAt H0 (upd H pd o) a c:=by
  obtain⟨l,h1,h2,h3⟩:=h;exact⟨l,by rw[zl (zcu h1 hd (by intro z;cases z))];exact h1,by rw[zl (zcu h2 hd (by intro z;cases z))];exact h2,h3⟩
theorem ChAt.any (h:ChAt H0 H a c):ChAt (fun _=>none) H a c:=by
  obtain⟨l,h1,h2,_⟩:=h;exact⟨l,h1,h2,rfl⟩
theorem ChAt.old {H1:Hp}(h:ChAt H1 H a c) (s:Same H0 H1):ChAt H0 H a c:=by
  obtain⟨l,h1,h2,h3⟩:=h;exact⟨l,h1,h2,s.free h3⟩
end
theorem zrb {H:Hp}{pd:ty1q}{ob:Obj}{keys:List Str}{f:Str->V}(h:H pd=some (.frz ob (.dK (dV keys f)))) {k:Str}(hk:k ∉ keys):DGet H pd (.str k) none:=.inl ⟨_,Sum.inr k,.inr ⟨ob,h⟩,rfl,(zd0 hk).symm⟩
theorem zbm {ts:List Tie}{z:List Tr}:za1 ts z=lnR (rwOf ts z):=funext fun k=>zxl
theorem zwa {ts:List Tie}{z:List Tr}{k:Str}:(rwOf ts z k).length<=z.length:=by
  unfold rwOf;rw[al1q];exact al48q _ _
theorem zow {K:ty0q}{H:Hp}{p pu pt:ty1q}{x y:V}{us:List Str}{ads:List ty1q}{ts:List Tie}(h:Tel K H p pu pt x y us ads ts) {k l:Str}{b:Tr}(hb:(l,b)∈rwOf ts (ts.zip ads) k):H b.2=some (.tup (tieV b.1))/\TOk us b.1:=by
  have hz:=(rw_mem.mp hb).1;obtain⟨i,hi⟩:=al68q.mp hz;obtain⟨h1,h2⟩:=al85q.mp hi;exact⟨zak h.tt h2 (by rw[al10q,h1];rfl),h.ok _ (al6q h1)⟩
theorem ze4 {us:List Str}{ts:List Tie}{ads:List ty1q}(ht:∀t∈ts,t.a∈us/\t.b∈us):∀k l b,(l,b)∈rwOf ts (ts.zip ads) k->k∈keysOf ts (srt us)/\l∈keysOf ts (srt us):=fun k l b h=>by
  obtain⟨h1,h2,h3,h4⟩:=rw_mem.mp h;have hm:=(al109q (a:=b.1) (b:=b.2) h1).1;rw[←h3,←h4];exact⟨zbu ht (ht _ hm).1,zbu ht (ht _ hm).2⟩
theorem zox {R:Rw}{k l:Str}{r:ty1q}{j:Nat}(h:(lnR R k)[j]? = some (l,r)):∃t,(R k)[j]? = some (l,(t,r)):=by
  unfold lnR at h;rw[al10q] at h;cases e:(R k)[j]? with
  | none=>rw[e] at h;cases h
  | some q=>
    rw[e] at h;obtain⟨l',t,r'⟩:=q;cases h;exact⟨t,rfl⟩
theorem zjq {R:Rw}{k:Str}:(lnR R k).length=(R k).length:=by unfold lnR;rw[al1q]
section
variable {R:Rw}{M:List Str}{v:Str->Chn}{k:Str}{z:List (Str×Tr)}{has has':Prop}{c c':Chn}{l:Str}{b:Tr}
theorem Grw.nil (h:¬has):Grw R M v k [] has c:=⟨fun _ l b h=>(al43q h).elim,fun h'=>absurd h' h,fun h'=>absurd h' h⟩
theorem zaq {α:Type}{xs:List α}{x y:α}(h:y∈xs++[x]):y∈xs\/y=x:=by
  rcases al28q.mp h with h | h
  · exact .inl h
  · exact .inr (by simpa using h)
theorem Grw.skip (h:Grw R M v k z has c) (hl:l ∉ M):Grw R M v k (z++[(l,b)]) has c:=by
  refine⟨fun hn l' b' h'=>?_,fun hy=>?_,fun hy l' b' h' hm=>?_⟩
  · rcases zaq h' with h' | h'
    · exact h.no hn l' b' h'
    · cases h';exact hl
  · obtain⟨l',b',h1,h2⟩:=h.yes hy;exact⟨l',b',al55q _ h1,h2⟩
  · rcases zaq h' with h' | h'
    · exact h.max hy l' b' h' hm
    · cases h';exact absurd hm hl
theorem Grw.stay (h:Grw R M v k z has c) (hh:has) (le:(v l).1+zx b.1<=c.1):Grw R M v k (z++[(l,b)]) has c:=by
  refine⟨fun hn=>absurd hh hn,fun hy=>?_,fun hy l' b' h' hm=>?_⟩
  · obtain⟨l',b',h1,h2⟩:=h.yes hy;exact⟨l',b',al55q _ h1,h2⟩
  · rcases zaq h' with h' | h'
    · exact h.max hy l' b' h' hm
    · cases h';exact le
theorem Grw.take (h:Grw R M v k z has c) (hl:l∈M) (hh:has') (ge:has->c.1<(v l).1+zx b.1) (e:c'=((v l).1+zx b.1,(v l).2.1,(v l).2.2++[b])):Grw R M v k (z++[(l,b)]) has' c':=by
  subst e;refine⟨fun hn=>absurd hh hn,fun hy=>⟨l,b,by simp,hl,rfl⟩,fun hy l' b' h' hm=>?_⟩;show _<=(v l).1+zx b.1;rcases zaq h' with h' | h'
  · by_cases hc:has
    · have:=h.max hc l' b' h' hm;have:=ge hc;lia
    · exact absurd hm (h.no hc l' b' h')
  · cases h';exact al63q _
theorem Grw.congr (h:Grw R M v k z has c) (e:has↔has') (e':c=c'):Grw R M v k z has' c':=by
  subst e';exact⟨fun hn=>h.no fun z=>hn (e.mp z),fun hy=>h.yes (e.mpr hy),fun hy=>h.max (e.mpr hy)⟩
end
structure UpSt (R:Rw) (F:Str->IS->Prop) (keys done:List Str) (v:Str->Chn):Prop where
  is:∀k∈keys,Up R F k (v k)
  ge:∀k∈keys,∀m,F k m->m.1<=(v k).1
  le:∀k∈done,∀l b,(l,b)∈R k->(v l).1+zx b.1<=(v k).1
structure DnSt (R:Rw) (F:Str->IS->Prop) (keys done:List Str) (v:Str->Chn):Prop where
  is:∀k∈keys,Dn R F k (v k)
  ge:∀k∈keys,∀m,F k m->(v k).1<=m.1
  le:∀k∈done,∀l b,(l,b)∈R k->(v l).1<=(v k).1-zx b.1
section
variable {R:Rw}{F:Str->IS->Prop}{keys done:List Str}{v:Str->Chn}
theorem UpSt.lo (h:UpSt R F keys done v) (cl:∀k l b,(l,b)∈R k->k∈keys/\l∈keys) (all:∀k∈keys,k∈done) {k:Str}(hk:k∈keys):LoIs R F k (v k).1:=
  ⟨⟨_,h.is k hk,rfl⟩,fun c u=>zt8 (f:=fun z=>(v z).1) (keys:=keys) (fun k m hf hk=>h.ge k hk m hf) cl (fun k l b hb=>h.le k (all k (cl _ _ _ hb).1) l b hb) hk u⟩
theorem DnSt.hi (h:DnSt R F keys done v) (cl:∀k l b,(l,b)∈R k->k∈keys/\l∈keys) (all:∀k∈keys,k∈done) {k:Str}(hk:k∈keys):HiIs R F k (v k).1:=
  ⟨⟨_,h.is k hk,rfl⟩,fun c u=>zxm (f:=fun z=>(v z).1) (keys:=keys) (fun k m hf hk=>h.ge k hk m hf) cl (fun k l b hb=>h.le k (all k (cl _ _ _ hb).1) l b hb) hk u⟩
end
theorem lowF_le {ts:List Tie}{fs:List Fnd}{lo y:Int}{k:Str}:lowF ts fs lo k<=y↔lo<=y/\∀f∈fs,labs ts f.u=k->f.lo<=y:=by
  unfold lowF
  induction fs generalizing lo with
  | nil=>simp
  | cons f fs ih=>
    rw[al175q,ih]
    by_cases e:labs ts f.u=k
    · rw[al11q e];unfold mxI;constructor
      · rintro ⟨h1,h2⟩;refine⟨by split at h1<;>lia,fun g hg e'=>?_⟩;rcases al14q.mp hg with rfl | hg
        · split at h1<;>lia
        · exact h2 g hg e'
      · rintro ⟨h1,h2⟩;have:=h2 f (by simp) e;exact⟨by split<;>lia,fun g hg e'=>h2 g (al5q _ hg) e'⟩
    · rw[al7q e];constructor
      · rintro ⟨h1,h2⟩;refine⟨h1,fun g hg e'=>?_⟩;rcases al14q.mp hg with rfl | hg
        · exact absurd e' e
        · exact h2 g hg e'
      · rintro ⟨h1,h2⟩;exact⟨h1,fun g hg e'=>h2 g (al5q _ hg) e'⟩
theorem highF_ge {ts:List Tie}{fs:List Fnd}{hi y:Int}{k:Str}:y<=ze3 ts fs hi k↔y<=hi/\∀f∈fs,labs ts f.u=k->y<=f.hi:=by
  unfold ze3
  induction fs generalizing hi with
  | nil=>simp
  | cons f fs ih=>
    rw[al175q,ih]
    by_cases e:labs ts f.u=k
    · rw[al11q e];unfold mnI;constructor
      · rintro ⟨h1,h2⟩;refine⟨by split at h1<;>lia,fun g hg e'=>?_⟩;rcases al14q.mp hg with rfl | hg
        · split at h1<;>lia
        · exact h2 g hg e'
      · rintro ⟨h1,h2⟩;have:=h2 f (by simp) e;exact⟨by split<;>lia,fun g hg e'=>h2 g (al5q _ hg) e'⟩
    · rw[al7q e];constructor
      · rintro ⟨h1,h2⟩;refine⟨h1,fun g hg e'=>?_⟩;rcases al14q.mp hg with rfl | hg
        · exact absurd e' e
        · exact h2 g hg e'
      · rintro ⟨h1,h2⟩;exact⟨h1,fun g hg e'=>h2 g (al5q _ hg) e'⟩
def FlF (ts:List Tie) (lo:Int) (z:Fz) (k:Str) (m:IS):Prop:=MaxP (loL lo (fwOf ts z k)) m
def CeF (ts:List Tie) (hi:Int) (z:Fz) (k:Str) (m:IS):Prop:=MinP (hiL hi (fwOf ts z k)) m
theorem zsu {ts:List Tie}{fs:List Fnd}{af:List ty1q}{k:Str}(hl:af.length=fs.length) (P:Fnd->Prop):(∀p∈fwOf ts (fs.zip af) k,P p.1)↔∀f∈fs,labs ts f.u=k->P f:=by
  unfold fwOf;constructor
  · intro h f hf e;obtain⟨b,hb⟩:=zge (bs:=af) hl f hf;exact h (f,b) (al32q.mpr ⟨hb,al15q e⟩)
  · intro h p hp;rw[al32q,al39q] at hp;exact h p.1 (al109q (a:=p.1) (b:=p.2) hp.1).1 hp.2
theorem FlF.low {ts:List Tie}{fs:List Fnd}{af:List ty1q}{lo:Int}{k:Str}{m:IS}(hl:af.length=fs.length) (h:FlF ts lo (fs.zip af) k m):m.1=lowF ts fs lo k:=by
  have h1:=fun y=>zt6 h y
  have h2:=fun y=>(h1 y).trans ((and_congr_right fun _=>zsu hl (fun f=>f.lo<=y)).trans lowF_le.symm)
  have a:=(h2 m.1).mp (al63q _);have b:=(h2 (lowF ts fs lo k)).mpr (al63q _);lia
theorem CeF.high {ts:List Tie}{fs:List Fnd}{af:List ty1q}{hi:Int}{k:Str}{m:IS}(hl:af.length=fs.length) (h:CeF ts hi (fs.zip af) k m):m.1=ze3 ts fs hi k:=by
  have h1:=fun y=>zt7 h y
  have h2:=fun y=>(h1 y).trans ((and_congr_right fun _=>zsu hl (fun f=>y<=f.hi)).trans highF_ge.symm)
  have a:=(h2 m.1).mp (al63q _);have b:=(h2 (ze3 ts fs hi k)).mpr (al63q _);lia
section
variable {R:Rw}{F:Str->IS->Prop}{keys done:List Str}{v:Str->Chn}{u:Str}{c:Chn}
theorem UpSt.set (h:UpSt R F keys done v) (hu:u ∉ done) (low:∀k∈done,∀l b,(l,b)∈R k->l≠u) (up:Up R F u c) (gt:(v u).1<=c.1):UpSt R F keys done (fun z=>if z=u then c else v z):=by
  refine⟨fun k hk=>?_,fun k hk m hm=>?_,fun k hk l b hb=>?_⟩
  · by_cases e:k=u
    · rw[al11q e,e];exact up
    · rw[al7q e];exact h.is k hk
  · by_cases e:k=u
    · rw[al11q e];have:=h.ge k hk m hm;rw[e] at this;lia
    · rw[al7q e];exact h.ge k hk m hm
  · rw[al7q (low k hk l b hb),al7q (fun z=>hu (z▸hk):¬k=u)];exact h.le k hk l b hb
theorem UpSt.snoc (h:UpSt R F keys done v) (hz:∀l b,(l,b)∈R u->(v l).1+zx b.1<=(v u).1):UpSt R F keys (done++[u]) v:=
  ⟨h.is,h.ge,fun k hk l b hb=>by
    rcases zaq hk with z | z
    · exact h.le k z l b hb
    · rw[z] at hb ⊢;exact hz l b hb⟩
theorem DnSt.set (h:DnSt R F keys done v) (hu:u ∉ done) (dn:Dn R F u c) (lt:c.1<=(v u).1):DnSt R F keys done (fun z=>if z=u then c else v z):=by
  refine⟨fun k hk=>?_,fun k hk m hm=>?_,fun k hk l b hb=>?_⟩
  · by_cases e:k=u
    · rw[al11q e,e];exact dn
    · rw[al7q e];exact h.is k hk
  · by_cases e:k=u
    · rw[al11q e];have:=h.ge k hk m hm;rw[e] at this;lia
    · rw[al7q e];exact h.ge k hk m hm
  · have h1:=h.le k hk l b hb;rw[al7q (fun z=>hu (z▸hk):¬k=u)]
    by_cases e:l=u
    · rw[al11q e];rw[e] at h1;lia
    · rw[al7q e];exact h1
theorem DnSt.snoc (h:DnSt R F keys done v) (hz:∀l b,(l,b)∈R u->(v l).1<=(v u).1-zx b.1):DnSt R F keys (done++[u]) v:=
  ⟨h.is,h.ge,fun k hk l b hb=>by
    rcases zaq hk with z | z
    · exact h.le k z l b hb
    · rw[z] at hb ⊢;exact hz l b hb⟩
end
theorem Bn.keep {H H':Hp}{pc pd:ty1q}{ob:Obj}{kv:List (Key×V)}{keys:List Str}{ln:Ln}{ad:Str->ty1q}{bs:Str->List ty1q}(b:Bn H pd ob keys ln ad bs) (hpc:H pc=some (.dK kv)) (kp:∀b o,b≠pc->H b=some o->H' b=some o):Bn H' pd ob keys ln ad bs:=
  ⟨kp _ _ (zcu b.d hpc (by intro z;cases z)) b.d,fun k hk=>kp _ _ (zcu (b.l k hk) hpc (by intro z;cases z)) (b.l k hk),fun k hk=>Paired.mapP (b.e k hk) fun _ _ h=>kp _ _ (zcu h hpc (by intro z;cases z)) h⟩
theorem zoy {ln:Ln}{keys os:List Str}(O:Ord ln keys os) {i:Nat}{u:Str}(hu:os[i]? = some u):u ∉ os.take i/\(∀l r,(l,r)∈ln u->l≠u)/\∀k∈os.take i,∀l r,(l,r)∈ln k->l≠u:=by
  have hi:=zag hu;have fr:u ∉ os.take i:=by
    have:=zay O.nd i hi;rw[show os[i]=u from (al8q.mp hu).2] at this;exact this
  refine⟨fr,fun l r h z=>fr (z▸O.low i u hu l r h),fun k hk l r h z=>?_⟩;obtain⟨j,hj⟩:=al68q.mp hk;rw[List.getElem?_take] at hj;split at hj
  · have:=O.low j k hj l r h;rw[z] at this;exact fr ((List.take_prefix_take_left (al127q (by assumption))).subset this)
  · cases hj
theorem zua {ln:Ln}{keys os:List Str}(O:Ord ln keys os) {i:Nat}{u:Str}(hu:os.reverse[i]? = some u):u ∉ os.reverse.take i/\∀l r,(l,r)∈ln u->l ∉ os.reverse.take i/\l≠u:=by
  have hi:=zag hu;rw[al100q] at hi;rw[List.getElem?_reverse hi] at hu;have lo:=zoy O hu;have dis:∀x∈os.take (os.length-1-i+1),x ∉ os.reverse.take i:=fun x hx hr=>by
    rw[List.take_reverse,al191q] at hr;have e:os.length-1-i+1=os.length-i:=by lia
    rw[e] at hx;have nd:=O.nd;rw[←List.take_append_drop (os.length-i) os,al108q] at nd;exact nd.2.2 x hx x hr rfl
  have tk:os.take (os.length-1-i+1)=os.take (os.length-1-i)++[u]:=by rw[al9q,hu];rfl
  rw[tk] at dis;exact⟨dis u (by simp),fun l r h=>⟨dis l (al55q _ (O.low _ u hu l r h)),lo.2.1 l r h⟩⟩
def zxo (R:Rw) (F G:Str->IS->Prop) (keys:List Str):Prop:=∀k∈keys,∀c m,Up R F k c->G k m->c.1<=m.1
def zxp (R:Rw) (F G:Str->IS->Prop) (keys:List Str) (c:Chn) (w:Str):Prop:=∃k m,k∈keys/\Up R F k c/\G k m/\m.2=w/\m.1<c.1/\∀k'∈keys,∀c' m',Up R F k' c'->G k' m'->c'.2.2.length<c.2.2.length->c'.1<=m'.1
def zub (H:Hp) (q:ty1q) (c:Chn) (w:Str):Prop:=∃l,H q=some (.tup [.str c.2.1,.ref l,.str w])/\H l=some (.lst (c.2.2.map fun p=>V.ref p.2))
def zc0 (lo hi:Int) (us:List Str) (ads:List ty1q) (ts:List Tie) (af:List ty1q) (fs:List Fnd):Prop:=zxo (rwOf ts (ts.zip ads)) (FlF ts lo (fs.zip af)) (CeF ts hi (fs.zip af)) (keysOf ts (srt us))
def zgg (lo hi:Int) (us:List Str) (ads:List ty1q) (ts:List Tie) (af:List ty1q) (fs:List Fnd) (c:Chn) (w:Str):Prop:=zxp (rwOf ts (ts.zip ads)) (FlF ts lo (fs.zip af)) (CeF ts hi (fs.zip af)) (keysOf ts (srt us)) c w
theorem zoz (x:IS):∀l:List IS,∃m,MaxP (x::l) m
  | []=>⟨x,by simp,fun q hq=>by rw[show q=x by simpa using hq];exact zcm x⟩
  | y::l=>by
    obtain⟨m,h1,h2⟩:=zoz x l
    by_cases c:gtP y m=true
    · refine⟨y,by simp,fun q hq=>?_⟩;rcases al14q.mp hq with e | hq
      · rw[e];exact zoo (h2 x (by simp)) c
      · rcases al14q.mp hq with e | hq
        · rw[e];exact zcm y
        · exact zoo (h2 q (al5q _ hq)) c
    · refine⟨m,?_,fun q hq=>?_⟩
      · rcases al14q.mp h1 with e | h1
        · rw[e];simp
        · exact al5q _ (al5q _ h1)
      · rcases al14q.mp hq with e | hq
        · rw[e];exact h2 x (by simp)
        · rcases al14q.mp hq with e | hq
          · rw[e];simpa using c
          · exact h2 q (al5q _ hq)
theorem zo0 (x:IS):∀l:List IS,∃m,MinP (x::l) m
  | []=>⟨x,by simp,fun q hq=>by rw[show q=x by simpa using hq];exact zcm x⟩
  | y::l=>by
    obtain⟨m,h1,h2⟩:=zo0 x l
    by_cases c:gtP m y=true
    · refine⟨y,by simp,fun q hq=>?_⟩;rcases al14q.mp hq with e | hq
      · rw[e];exact zjo (h2 x (by simp)) c
      · rcases al14q.mp hq with e | hq
        · rw[e];exact zcm y
        · exact zjo (h2 q (al5q _ hq)) c
    · refine⟨m,?_,fun q hq=>?_⟩
      · rcases al14q.mp h1 with e | h1
        · rw[e];simp
        · exact al5q _ (al5q _ h1)
      · rcases al14q.mp hq with e | hq
        · rw[e];exact h2 x (by simp)
        · rcases al14q.mp hq with e | hq
          · rw[e];simpa using c
          · exact h2 q (al5q _ hq)
section
variable {lo hi:Int}{us:List Str}{ads:List ty1q}{ts:List Tie}{af:List ty1q}{fs:List Fnd}{f g:Str->Int}
theorem ze5 (hl:af.length=fs.length) (k:Str):∃m,FlF ts lo (fs.zip af) k m/\m.1=lowF ts fs lo k:=by
  obtain⟨m,h⟩:=zoz (lo,"") ((fwOf ts (fs.zip af) k).map fun p=>(p.1.lo,p.1.n));have h:FlF ts lo (fs.zip af) k m:=h;exact⟨m,h,h.low hl⟩
theorem zsv (hl:af.length=fs.length) (k:Str):∃m,CeF ts hi (fs.zip af) k m/\m.1=ze3 ts fs hi k:=by
  obtain⟨m,h⟩:=zo0 (hi,"") ((fwOf ts (fs.zip af) k).map fun p=>(p.1.hi,p.1.n));have h:CeF ts hi (fs.zip af) k m:=h;exact⟨m,h,h.high hl⟩
theorem zwb (hts:∀t∈ts,t.a∈us/\t.b∈us) (hl:af.length=fs.length) (nr:NoR (za1 ts (ts.zip ads)) (keysOf ts (srt us))) {k:Str}(hk:k∈keysOf ts (srt us)):LoIs (rwOf ts (ts.zip ads)) (FlF ts lo (fs.zip af)) k (loI (lnkL ts (ts.zip ads)) (lowF ts fs lo) (keysOf ts (srt us)).length k):=
  zv9 zgf (ze4 hts) (by rw[←zbm];exact nr) (fun k _=>ze5 hl k) (fun k m m' h h'=>by rw[h.low hl,h'.low hl]) hk
theorem zep (hts:∀t∈ts,t.a∈us/\t.b∈us) (hf:∀k∈keysOf ts (srt us),LoIs (rwOf ts (ts.zip ads)) (FlF ts lo (fs.zip af)) k (f k)) (hg:∀k∈keysOf ts (srt us),HiIs (rwOf ts (ts.zip ads)) (CeF ts hi (fs.zip af)) k (g k)) (no:zc0 lo hi us ads ts af fs):∀k∈keysOf ts (srt us),f k<=g k:=fun k hk=>by
  refine Int.not_lt.mp fun z=>?_
  obtain⟨k',hk',c,m,u,h,hl⟩:=(zxn (ze4 hts) hf hg).mp ⟨k,hk,z⟩;have:=no k' hk' c m u h;lia
theorem zgh (hts:∀t∈ts,t.a∈us/\t.b∈us) (hfu:∀f∈fs,f.u∈us) (hl:af.length=fs.length) (hf:∀k∈keysOf ts (srt us),LoIs (rwOf ts (ts.zip ads)) (FlF ts lo (fs.zip af)) k (f k)) (hg:∀k∈keysOf ts (srt us),HiIs (rwOf ts (ts.zip ads)) (CeF ts hi (fs.zip af)) k (g k)) (no:zc0 lo hi us ads ts af fs) :
    lawB lo hi (keysOf ts (srt us)) ts fs (lnkL ts (ts.zip ads)) f=true/\lawB lo hi (keysOf ts (srt us)) ts fs (lnkL ts (ts.zip ads)) g=true:=by
  have le:=zep hts hf hg no;have cl:=ze4 (ads:=ads) hts;have a1:∀k∈keysOf ts (srt us),lowF ts fs lo k<=f k:=fun k hk=>by
    obtain⟨m,h1,h2⟩:=ze5 (ts:=ts) (lo:=lo) hl k;have:m.1<=f k:=(hf k hk).2 _ (Up.bare h1);lia
  have a2:∀k∈keysOf ts (srt us),g k<=ze3 ts fs hi k:=fun k hk=>by
    obtain⟨m,h1,h2⟩:=zsv (ts:=ts) (hi:=hi) hl k;have:g k<=m.1:=(hg k hk).2 _ (Dn.bare h1);lia
  have b1:∀k,lo<=lowF ts fs lo k/\∀f∈fs,labs ts f.u=k->f.lo<=lowF ts fs lo k:=fun k=>lowF_le.mp (al63q _)
  have b2:∀k,ze3 ts fs hi k<=hi/\∀f∈fs,labs ts f.u=k->ze3 ts fs hi k<=f.hi:=fun k=>highF_ge.mp (al63q _)
  have inn:∀y:Str->Int,(∀k∈keysOf ts (srt us),f k<=y k/\y k<=g k)->(∀q∈lnkL ts (ts.zip ads),y q.2.1+q.2.2.1<=y q.1)->lawB lo hi (keysOf ts (srt us)) ts fs (lnkL ts (ts.zip ads)) y=true:=fun y hy hq=>by
    rw[lawB_iff];refine⟨fun k hk=>okK_iff.mpr ?_,fun z hz=>okF_iff.mpr ?_,fun q h=>okL_iff.mpr (hq q h)⟩
    · have h1:=a1 k hk;have h2:=a2 k hk;have h3:=(b1 k).1;have h4:=(b2 k).1;have:=hy k hk;lia
    · have hk:=zcn (ts:=ts) hts (hfu z hz);have h1:=a1 _ hk;have h2:=a2 _ hk;have h3:=(b1 _).2 z hz rfl;have h4:=(b2 _).2 z hz rfl;have:=hy _ hk;lia
  refine⟨inn f (fun k hk=>⟨al63q _,le k hk⟩) fun q h=>?_,inn g (fun k hk=>⟨le k hk,al63q _⟩) fun q h=>?_⟩
  · obtain⟨b,h1,h2⟩:=(zgf (ts:=ts) (z:=ts.zip ads)).of q h;obtain⟨⟨c,u,e⟩,_⟩:=hf _ (cl _ _ _ h1).2;have:c.1+zx b.1<=f q.1:=(hf _ (cl _ _ _ h1).1).2 _ (u.up h1);lia
  · obtain⟨b,h1,h2⟩:=(zgf (ts:=ts) (z:=ts.zip ads)).of q h;obtain⟨⟨c,u,e⟩,_⟩:=hg _ (cl _ _ _ h1).1;have:g q.2.1<=c.1-zx b.1:=(hg _ (cl _ _ _ h1).2).2 _ (u.dn h1);lia
end
end Dm
namespace L2
open PySem PySem.Spec PyProof.Rows
theorem zo1 {c:TT}{t u:TS}{D:Ends}{σ:St}{H:Hp}(P:St->Hp->Prop) (b:Bool) (ht:∀Q':Bool->Hp->Prop,(∀H',Same H H'->Q' b H')->c σ H Q') (h1:b=true->∀H',Same H H'->(∀σ' H',P σ' H'->D.nx σ' H')->t D σ H') (h2:b=false->∀H',Same H H'->(∀σ' H',P σ' H'->D.nx σ' H')->u D σ H')
    (hn:∀σ' H',P σ' H'->D.nx σ' H'):tIfS c t u D σ H:=by
  refine zbs b ht fun H' s=>?_
  cases b with
  | true=>exact iteT (h1 rfl H' s hn)
  | false=>exact iteF (h2 rfl H' s hn)
end L2
namespace Dm
open PySem PySem.NumText L2
theorem zih {ts:List Tie}{fs:List Fnd}{lo:Int}{k:Str}{f:Fnd}:lowF ts (fs++[f]) lo k=if labs ts f.u=k then mxI (lowF ts fs lo k) f.lo else lowF ts fs lo k:=by
  unfold lowF;rw[al152q];rfl
structure Dt (R:Rw) (keys:List Str) (f g h:Str->Int) (one:Str) (y:Int):Prop where
  bd:∀k∈keys,f k<=h k/\h k<=g k
  at_:h one=y
  ln:∀k l b,(l,b)∈R k->h l+zx b.1<=h k
theorem dt_of {R:Rw}{F F' G:Str->IS->Prop}{keys:List Str}{f g h:Str->Int}{one:Str}{y:Int}{lw:Str->Int}(cl:∀k l b,(l,b)∈R k->k∈keys/\l∈keys) (nr:NoR (lnR R) keys) (ho:one∈keys) (hf:∀k∈keys,LoIs R F k (f k)) (hg:∀k∈keys,HiIs R G k (g k)) (hh:∀k∈keys,LoIs R F' k (h k)) (le:∀k∈keys,f k<=g k) (hy:f one<=y/\y<=g one)
    (hF:∀k,∃m,F k m/\m.1=lw k) (hF1:∀k m,F k m->m.1=lw k) (hF':∀k,∃m,F' k m/\m.1=if one=k then mxI (lw k) y else lw k) (hF1':∀k m,F' k m->m.1=if one=k then mxI (lw k) y else lw k):Dt R keys f g h one y:=by
  have lwf:∀k∈keys,lw k<=f k:=fun k hk=>by
    obtain⟨m,h1,h2⟩:=hF k;have:m.1<=f k:=(hf k hk).2 _ (Up.bare h1);lia
  have lwh:∀k∈keys,lw k<=h k/\(one=k->y<=h k):=fun k hk=>by
    obtain⟨m,h1,h2⟩:=hF' k;have h3:m.1<=h k:=(hh k hk).2 _ (Up.bare h1);unfold mxI at h2;refine⟨?_,fun e=>?_⟩
    · split at h2
      · split at h2<;>lia
      · lia
    · rw[al11q e] at h2;split at h2<;>lia
  have lnh:∀k l b,(l,b)∈R k->h l+zx b.1<=h k:=fun k l b hb=>by
    obtain⟨⟨c,u,e⟩,_⟩:=hh l (cl _ _ _ hb).2;have:c.1+zx b.1<=h k:=(hh k (cl _ _ _ hb).1).2 _ (u.up hb);lia
  have lnf:∀k l b,(l,b)∈R k->f l+zx b.1<=f k:=fun k l b hb=>by
    obtain⟨⟨c,u,e⟩,_⟩:=hf l (cl _ _ _ hb).2;have:c.1+zx b.1<=f k:=(hf k (cl _ _ _ hb).1).2 _ (u.up hb);lia
  have lng:∀k l b,(l,b)∈R k->g l+zx b.1<=g k:=fun k l b hb=>by
    obtain⟨⟨c,u,e⟩,_⟩:=hg k (cl _ _ _ hb).1;have:g l<=c.1-zx b.1:=(hg l (cl _ _ _ hb).2).2 _ (u.dn hb);lia
  refine⟨fun k hk=>⟨?_,?_⟩,?_,lnh⟩
  · obtain⟨⟨c,u,e⟩,_⟩:=hf k hk;rw[←e];exact zt8 (f:=h) (keys:=keys) (fun k m hm hk=>by rw[hF1 k m hm];exact (lwh k hk).1) cl lnh hk u
  · obtain⟨⟨c,u,e⟩,_⟩:=hh k hk;rw[←e];refine zt8 (f:=g) (keys:=keys) (fun k m hm hk=>?_) cl lng hk u;have h1:=hF1' k m hm;have h2:=lwf k hk;have h3:=le k hk
    by_cases e:one=k
    · rw[al11q e] at h1;unfold mxI at h1;subst e;split at h1<;>lia
    · rw[al7q e] at h1;lia
  · have ge:=(lwh one ho).2 rfl;obtain⟨⟨c,u,e⟩,_⟩:=hh one ho;have main:∀{k:Str}{c:Chn},Up R F' k c->k∈keys->c.1<=f k\/(k=one/\c.1<=y)\/∃n,1<=n/\Rc (lnR R) k n one:=by
      intro k c u
      induction u with
      | @bare k m hm=>
        intro hk;have h1:=hF1' k m hm;have h2:=lwf k hk
        by_cases e:one=k
        · rw[al11q e] at h1;unfold mxI at h1;refine .inr (.inl ⟨e.symm,?_⟩);subst e;show m.1<=y;split at h1<;>lia
        · rw[al7q e] at h1;exact .inl (by show m.1<=f k;lia)
      | @up k l c b u hb ih=>
        intro hk;rcases ih (cl _ _ _ hb).2 with q | ⟨q,_⟩ | ⟨n,hn,q⟩
        · have:=lnf k l b hb;exact .inl (by show c.1+zx b.1<=f k;lia)
        · subst q;exact .inr (.inr ⟨1,al18q _,Rc.cons (zco hb) Rc.refl⟩)
        · exact .inr (.inr ⟨n+1,by lia,Rc.cons (zco hb) q⟩)
    rcases main u ho with q | ⟨_,q⟩ | ⟨n,hn,q⟩
    · lia
    · lia
    · exact absurd q (nr one ho n hn)
theorem zk7 {lo hi:Int}{us:List Str}{ads:List ty1q}{ts:List Tie}{af:List ty1q}{fs:List Fnd}{f g h:Str->Int}{one:Str}{y:Int}(hts:∀t∈ts,t.a∈us/\t.b∈us) (hfu:∀f∈fs,f.u∈us) (hl:af.length=fs.length) (hf:∀k∈keysOf ts (srt us),LoIs (rwOf ts (ts.zip ads)) (FlF ts lo (fs.zip af)) k (f k)) (hg:∀k∈keysOf ts (srt us),HiIs (rwOf ts (ts.zip ads)) (CeF ts hi (fs.zip af)) k (g k)) (d:Dt (rwOf ts (ts.zip ads)) (keysOf ts (srt us)) f g h one y) :
    lawB lo hi (keysOf ts (srt us)) ts fs (lnkL ts (ts.zip ads)) h=true:=by
  have a1:∀k∈keysOf ts (srt us),lowF ts fs lo k<=f k:=fun k hk=>by
    obtain⟨m,h1,h2⟩:=ze5 (ts:=ts) (lo:=lo) hl k;have:m.1<=f k:=(hf k hk).2 _ (Up.bare h1);lia
  have a2:∀k∈keysOf ts (srt us),g k<=ze3 ts fs hi k:=fun k hk=>by
    obtain⟨m,h1,h2⟩:=zsv (ts:=ts) (hi:=hi) hl k;have:g k<=m.1:=(hg k hk).2 _ (Dn.bare h1);lia
  have b1:∀k,lo<=lowF ts fs lo k/\∀f∈fs,labs ts f.u=k->f.lo<=lowF ts fs lo k:=fun k=>lowF_le.mp (al63q _)
  have b2:∀k,ze3 ts fs hi k<=hi/\∀f∈fs,labs ts f.u=k->ze3 ts fs hi k<=f.hi:=fun k=>highF_ge.mp (al63q _)
  rw[lawB_iff];refine⟨fun k hk=>okK_iff.mpr ?_,fun z hz=>okF_iff.mpr ?_,fun q hq=>okL_iff.mpr ?_⟩
  · have h1:=a1 k hk;have h2:=a2 k hk;have h3:=(b1 k).1;have h4:=(b2 k).1;have:=d.bd k hk;lia
  · have hk:=zcn (ts:=ts) hts (hfu z hz);have h1:=a1 _ hk;have h2:=a2 _ hk;have h3:=(b1 _).2 z hz rfl;have h4:=(b2 _).2 z hz rfl;have:=d.bd _ hk;lia
  · obtain⟨b,h1,h2⟩:=(zgf (ts:=ts) (z:=ts.zip ads)).of q hq;have:=d.ln _ _ _ h1;lia
section
variable {ts:List Tie}{ads:List ty1q}{us:List Str}{fs:List Fnd}{af:List ty1q}{lo hi:Int}{h f g:Str->Int}
theorem zsw (hts:∀t∈ts,t.a∈us/\t.b∈us) (hl:af.length=fs.length) (W:lawB lo hi (keysOf ts (srt us)) ts fs (lnkL ts (ts.zip ads)) h=true) {k:Str}{c:Chn}(u:Up (rwOf ts (ts.zip ads)) (FlF ts lo (fs.zip af)) k c):k∈keysOf ts (srt us)->c.1<=h k:=by
  obtain⟨w1,w2,w3⟩:=lawB_iff.mp W
  induction u with
  | @bare k m hm=>
    intro hk;show m.1<=h k;rw[hm.low hl];exact lowF_le.mpr ⟨(okK_iff.mp (w1 k hk)).1,fun f hf e=>by have:=(okF_iff.mp (w2 f hf)).1;rw[e] at this;exact this⟩
  | @up k l c b u hb ih=>
    intro hk;obtain⟨q,hq,e1,e2,e3⟩:=(zgf (ts:=ts) (z:=ts.zip ads)).to k l b hb;have:=okL_iff.mp (w3 q hq);rw[e1,e2,e3] at this;have:=ih (ze4 (ads:=ads) hts k l b hb).2;show c.1+zx b.1<=h k;lia
theorem zsx (hts:∀t∈ts,t.a∈us/\t.b∈us) (hl:af.length=fs.length) (W:lawB lo hi (keysOf ts (srt us)) ts fs (lnkL ts (ts.zip ads)) h=true) {k:Str}{c:Chn}(u:Dn (rwOf ts (ts.zip ads)) (CeF ts hi (fs.zip af)) k c):k∈keysOf ts (srt us)->h k<=c.1:=by
  obtain⟨w1,w2,w3⟩:=lawB_iff.mp W
  induction u with
  | @bare k m hm=>
    intro hk;show h k<=m.1;rw[hm.high hl];exact highF_ge.mpr ⟨(okK_iff.mp (w1 k hk)).2,fun f hf e=>by have:=(okF_iff.mp (w2 f hf)).2;rw[e] at this;exact this⟩
  | @dn k l c b u hb ih=>
    intro hl';obtain⟨q,hq,e1,e2,e3⟩:=(zgf (ts:=ts) (z:=ts.zip ads)).to k l b hb;have:=okL_iff.mp (w3 q hq);rw[e1,e2,e3] at this;have:=ih (ze4 (ads:=ads) hts k l b hb).1;show h l<=c.1-zx b.1;lia
theorem zsy (hts:∀t∈ts,t.a∈us/\t.b∈us) (hl:af.length=fs.length) (W:lawB lo hi (keysOf ts (srt us)) ts fs (lnkL ts (ts.zip ads)) h=true) {k:Str}(hk:k∈keysOf ts (srt us)) {x y:Int}(hf:LoIs (rwOf ts (ts.zip ads)) (FlF ts lo (fs.zip af)) k x) (hg:HiIs (rwOf ts (ts.zip ads)) (CeF ts hi (fs.zip af)) k y):x<=h k/\h k<=y:=by
  obtain⟨⟨c,u,e⟩,_⟩:=hf;obtain⟨⟨c',u',e'⟩,_⟩:=hg;have:=zsw hts hl W u hk;have:=zsx hts hl W u' hk;lia
theorem zo2 (hts:∀t∈ts,t.a∈us/\t.b∈us) (hl:af.length=fs.length) (W:lawB lo hi (keysOf ts (srt us)) ts fs (lnkL ts (ts.zip ads)) h=true) {c:Chn}{w:Str}(r:zgg lo hi us ads ts af fs c w):False:=by
  obtain⟨k,m,hk,u,gm,_,lt,_⟩:=r;have:=zsw hts hl W u hk;have:=zsx hts hl W (Dn.bare gm) hk;have:h k<=m.1:=this;lia
theorem zwc (hts:∀t∈ts,t.a∈us/\t.b∈us) (hfu:∀f∈fs,f.u∈us) (hl:af.length=fs.length) (nr:NoR (za1 ts (ts.zip ads)) (keysOf ts (srt us))) (no:zc0 lo hi us ads ts af fs)
    (hf:∀k∈keysOf ts (srt us),LoIs (rwOf ts (ts.zip ads)) (FlF ts lo (fs.zip af)) k (f k)) (hg:∀k∈keysOf ts (srt us),HiIs (rwOf ts (ts.zip ads)) (CeF ts hi (fs.zip af)) k (g k)) {k:Str}(hk:k∈keysOf ts (srt us)) {y:Int}(h1:f k<=y) (h2:y<=g k) :
    ∃h,lawB lo hi (keysOf ts (srt us)) ts fs (lnkL ts (ts.zip ads)) h=true/\h k=y:=by
  have lk:labs ts k=k:=al17q (al32q.mp hk).2;have lf':(af++[0]).length=(fs++[(⟨"",k,y,y⟩:Fnd)]).length:=by rw[al20q,al20q,hl];rfl
  have lo':∀z,lowF ts (fs++[(⟨"",k,y,y⟩:Fnd)]) lo z=if k=z then mxI (lowF ts fs lo z) y else lowF ts fs lo z:=fun z=>by
    rw[zih];show (if labs ts k=z then _ else _)=_;rw[lk]
  have nr':=nr;rw[zbm] at nr';have D:Dt (rwOf ts (ts.zip ads)) (keysOf ts (srt us)) f g _ k y:=dt_of (ze4 hts) nr' hk hf hg (fun z hz=>zwb (lo:=lo) (af:=af++[0]) (fs:=fs++[(⟨"",k,y,y⟩:Fnd)]) hts lf' nr hz) (zep hts hf hg no) ⟨h1,h2⟩ (fun z=>ze5 hl z) (fun z m hm=>hm.low hl) (fun z=>by rw[←lo'];exact ze5 lf' z) (fun z m hm=>by rw[←lo'];exact hm.low lf');exact⟨_,zk7 hts hfu hl hf hg D,D.at_⟩
end
def za4 (lo:Int) (n:Nat):List Int:=(List.range n).map fun i=>lo+(i:Nat)
def zbh (k:Str) (ys:List Int) (kv:List (Str×Int)):List (List (Str×Int)):=ys.map fun y=>kv++[(k,y)]
def zbf (ys:List Int):List Str->List (List (Str×Int))
  | []=>[[]]
  | k::ks=>(zbf ys ks).flatMap (zbh k ys)
def fnv (kv:List (Str×Int)) (k:Str):Int:=(kv.lookup k).getD 0
theorem yrs_mem {lo:Int}{n:Nat}{y:Int}:y∈za4 lo n↔lo<=y/\y<lo+n:=by
  unfold za4;rw[al27q];constructor
  · rintro ⟨i,hi,rfl⟩;have:=al69q.mp hi;lia
  · rintro ⟨h1,h2⟩;exact⟨(y-lo).toNat,al69q.mpr (by lia),by lia⟩
theorem zk8 {ys:List Int}:∀{ks:List Str},(zbf ys ks).length=ys.length ^ ks.length
  | []=>rfl
  | k::ks=>by
    unfold zbf;rw[List.length_flatMap,show (fun x=>(zbh k ys x).length)=fun _:List (Str×Int)=>ys.length from funext fun _=>al1q _];rw[List.map_const',List.sum_replicate_nat,zk8,al57q,Nat.pow_succ]
theorem ze6 {ys:List Int}:∀{ks:List Str}{kv:List (Str×Int)},kv∈zbf ys ks->kv.map Prod.fst=ks.reverse
  | [],kv,h=>by
    have:kv = []:=by simpa[zbf] using h
    rw[this];rfl
  | k::ks,kv,h=>by
    unfold zbf at h;obtain⟨kv',h1,h2⟩:=List.mem_flatMap.mp h;obtain⟨y,_,rfl⟩:=al27q.mp h2;rw[al16q,ze6 h1,List.reverse_cons];rfl
theorem zk9 {ys:List Int}{h:Str->Int}:∀{ks:List Str},(∀k∈ks,h k∈ys)->(ks.reverse.map fun k=>(k,h k))∈zbf ys ks
  | [],_=>by simp[zbf]
  | k::ks,hh=>by
    unfold zbf;refine List.mem_flatMap.mpr ⟨_,zk9 (fun z hz=>hh z (al5q _ hz)),?_⟩;rw[List.reverse_cons,al16q];exact al27q.mpr ⟨h k,hh k (al37q ..),rfl⟩
theorem zjr:∀{kv:List (Str×Int)},(kv.map Prod.fst).Nodup->(kv.map Prod.fst).map (fun k=>(k,fnv kv k))=kv
  | [],_=>rfl
  | (k,y)::kv,nd=>by
    rw[al56q] at nd;obtain⟨n1,n2⟩:=al76q.mp nd;rw[al56q,al56q];refine List.cons_eq_cons.mpr ⟨?_,?_⟩
    · unfold fnv;rw[List.lookup_cons_self];rfl
    · refine Eq.trans (al87q fun z hz=>?_) (zjr n2);unfold fnv;rw[al189q,show (z == k)=false from al54q.mpr fun e=>n1 (e▸hz)]
theorem zwd {ks:List Str}(nd:ks.Nodup) {h:Str->Int}:∀k∈ks,fnv (ks.map fun k=>(k,h k)) k=h k:=fun k hk=>by
  have e:(ks.map fun k=>(k,h k)).map Prod.fst=ks:=by rw[al75q];exact List.map_id'' (fun _=>rfl) _
  have:=zjr (kv:=ks.map fun k=>(k,h k)) (by rw[e];exact nd);rw[e] at this;have:=List.map_inj_left.mp this k hk;exact (Prod.mk.inj this).2
theorem zdq:∀{ds I:List Int},ds.Nodup->(∀x∈ds,x∈I)->ds.length<=I.length
  | [],_,_,_=>al73q _
  | d::ds,I,nd,h=>by
    obtain⟨n1,n2⟩:=al76q.mp nd;have hd:=h d (al37q ..);have:=zdq (I:=I.erase d) n2 fun x hx=>(al161q (fun z:x=d=>n1 (z▸hx))).mpr (h x (al5q _ hx))
    rw[al134q hd] at this;have:0<I.length:=List.length_pos_of_mem hd;rw[al57q];lia
theorem zo3 {lo:Int}{n:Nat}:(za4 lo n).Nodup:=by
  unfold za4;exact List.Pairwise.map _ (fun a b h e=>by lia) List.pairwise_lt_range
theorem zjs {lo:Int}{n:Nat}:(za4 lo n).length=n:=by unfold za4;rw[al1q,al58q]
theorem zo4 {ms:List Int}{a b:Int}(ab:a<=b) (nd:ms.Nodup) (hm:∀y,y∈ms↔a<=y/\y<=b) (hp:ms.Pairwise (·<=·)):ms.length=(b-a+1).toNat/\ms[0]? = some a/\∃r,ms=r++[b]:=by
  have e:∀y,y∈ms↔y∈za4 a (b-a+1).toNat:=fun y=>by rw[hm,yrs_mem];lia
  have l1:=zdq nd fun x hx=>(e x).mp hx
  have l2:=zdq zo3 fun x hx=>(e x).mpr hx
  rw[zjs] at l1 l2;refine⟨by lia,?_,?_⟩
  · cases ms with
    | nil=>have:=(hm a).mpr ⟨al63q _,ab⟩;cases this
    | cons x r=>
      have h1:=(hm x).mp (al37q ..);rcases al14q.mp ((hm a).mpr ⟨al63q _,ab⟩) with rfl | z
      · rfl
      · have:=(al60q.mp hp).1 a z;have:x=a:=by lia
        rw[this];rfl
  · rcases List.eq_nil_or_concat ms with rfl | ⟨r,x,rfl⟩
    · have:=(hm a).mpr ⟨al63q _,ab⟩;cases this
    · have h1:=(hm x).mp (by simp);have h2:b∈r++[x]:=by rw[←List.concat_eq_append];exact (hm b).mpr ⟨ab,al63q _⟩
      rw[List.concat_eq_append] at *;rcases al28q.mp h2 with z | z
      · have:=(List.pairwise_append.mp hp).2.2 b z x (by simp);have:x=b:=by lia
        exact⟨r,by rw[this]⟩
      · simp at z;exact⟨r,by rw[z]⟩
def zo5 (x:Str):List Str:=(Txt.split x " ").filter fun y=>!decide (y = "")
def zo6:List Str->Bool
  | []=>true
  | y::_=>Txt.startswith y ";"
theorem zrc (x:Str) (ks:List Str):inV (.str x) (ks.map V.str)=decide (x∈ks):=by
  unfold inV
  induction ks with
  | nil=>rfl
  | cons k r ih=>
    rw[al56q,al103q,ih];show ((k == x)||decide (x∈r))=_
    by_cases h:k=x
    · subst h;simp
    · rw[al54q.mpr h,Bool.false_or];exact al84q.mpr ⟨fun z=>al5q _ z,fun z=>(al14q.mp z).resolve_left fun e=>h e.symm⟩
structure PassLn (y:Str):Prop where
  pass:zo6 (zo5 y)=true
  feed:10 ∉ co y
  len:y.length<=900
instance (y:Str):Decidable (PassLn y):=decidable_of_iff (zo6 (zo5 y)=true/\10 ∉ co y/\y.length<=900) ⟨fun h=>⟨h.1,h.2.1,h.2.2⟩,fun h=>⟨h.pass,h.feed,h.len⟩⟩
end Dm
namespace L2
open PySem PySem.Spec PyProof.Rows
structure UnderV (bm:List ty3q):Prop where
  v:bm.contains (.type "ValueError")=true
  b:bm.contains (.type "BaseException")=true
  a:bm.contains (.type "AttributeError")=false
  n:bm.contains (.type "NameError")=false
def XObj (h:Heap) (C:ty1q) (bm:List ty3q):Prop:=∃nm q N bs hdct sn sub ab col dd k0 k1 k2 k3 k5,h.get? C=some (excClassObj nm q C N bs bm hdct sn sub ab col dd k0 k1 k2 k3 k5 "ValueError.__new__")
theorem ze7 {C:ty1q}{bm:List ty3q}{T:String}{b:Bool}(h:bm.contains (.type T)=b):(Value.ref C::bm).contains (.type T)=b:=by
  rw[List.contains_cons,h];rfl
section
variable {prog:ty4q}{w:World}{A:Around}{h:Heap}{g:Array GenState}{d:Drawn}{t:Nat}{os:OsState}{C:ty1q}{bm:List ty3q}
theorem zuc {R:Result->ty2q->Prop}(U:UnderV bm) (x:XObj h C bm) {us:List ty3q}(hz:us.length<=sizeLine)
    (k:R (.ok (.ret (.ref (h.objs.size+1)))) { heap:=(h.push { cls:=.type "tuple",data:=.seq us.toArray }).push { cls:=.ref C,data:=.fields #[.ref h.objs.size,.none,.none,.none,.bool false,.none] },gens:=g,drawn:=d,toks:=t,os:=os }) :
    codeAny (model prog w) A (.builtin "ValueError.__new__" ⟨.ref C::us,[]⟩) R { heap:=h,gens:=g,drawn:=d,toks:=t,os:=os }:=by
  obtain⟨a1,a2,a3,a4,a5,a6,a7,a8,a9,b1,b2,b3,b4,b5,b6,e⟩:=x;have F:=PySem.F.excBase_ValueError;have f1:=F.ends;have c1:=ze7 (C:=C) U.v;have c2:=ze7 (C:=C) U.a;have c3:=ze7 (C:=C) U.n;refine codeAny_builtinAt F.entry ?_;unfold Builtin.«BaseException.__new__»;refine PySem.wpAt_bind (show PySem.wpAt (model prog w) _ _ (stack >>= _) _ _ _ from PySem.wpAt_bind (PySem.wpAt_stack fun p below=>PySem.wpAt_of_wpAny ?_))
  wp_walk
  refine PySem.wpAt_of_wpAny ?_;rw[F.owner]
  repeat (first
    | with_reducible refine wpAny_madeHere_exc F.canon e ?_
    | with_reducible refine al99q e ?_
    | (with_reducible refine al168q e ?_
       first | rw[c1] | rw[c2] | rw[c3])
    | wp_step)
  show R _ _;rw[al82q];exact k
theorem zo7 {M:Model}{E:ty90q}(U:UnderV bm) (x:XObj h C bm) {us:List ty3q}{Q:Unit->ty2q->Prop}(k:Q () { heap:=h,gens:=g,drawn:=d,toks:=t,os:=os }) :
    wpAny M A (checkBuiltinCall "ValueError.__new__" ⟨.ref C::us,[]⟩) Q E { heap:=h,gens:=g,drawn:=d,toks:=t,os:=os }:=by
  obtain⟨a1,a2,a3,a4,a5,a6,a7,a8,a9,b1,b2,b3,b4,b5,b6,e⟩:=x;exact wpAny_check_new_subU PySem.F.excBase_ValueError U.v .base e k
theorem zo8 {E:ty90q}{vI:ty3q}{us:List ty3q}{Q:Fin->ty2q->Prop}(U:UnderV bm) (x:XObj h C bm) (hz:us.length<=sizeLine)
    (lk:PySem.W.Looks (model prog w) h (typeLookup (.ref C) "__init__") (some (vI))) (bd:∀self,PySem.W.Looks (model prog w) h (bindSpecial (vI) self) (vI,[self]))
    (k:∀h' e,h.objs.size<=e->Heap.MadeExcOf h h' e (.ref C) us->wpAny (model prog w) A (call (vI) (.ref e::us)) (fun r s'=>r = .none/\Q (.done (.ret (.ref e))) s') E { heap:=h',gens:=g,drawn:=d,toks:=t,os:=os }) :
    wpAny (model prog w) A (Builtin.«type.__call__» ⟨.ref C::us,[]⟩) Q E { heap:=h,gens:=g,drawn:=d,toks:=t,os:=os }:=by
  have x':=x;obtain⟨a1,a2,a3,a4,a5,a6,a7,a8,a9,b1,b2,b3,b4,b5,b6,e⟩:=x';have F:=PySem.F.excBase_ValueError
  repeat (first | with_reducible refine al99q e ?_ | with_reducible refine wpAny_madeBy_exc e ?_ | wp_step)
  refine codeAny_call_builtin_code (al179q _ F.quiet) (zo7 U x ?_);refine zuc U x hz ?_;show wpAny (model prog w) _ _ _ _ _;have kp:∀b o,h.get? b=some o->((h.push { cls:=.type "tuple",data:=.seq us.toArray }).push { cls:=.ref C,data:=.fields #[.ref h.objs.size,.none,.none,.none,.bool false,.none] }).get? b=some o:=
    fun b o q=>al4q _ (al4q _ q)
  have hget:((h.push { cls:=.type "tuple",data:=.seq us.toArray }).push { cls:=.ref C,data:=.fields #[.ref h.objs.size,.none,.none,.none,.bool false,.none] }).get? (h.objs.size+1) =
      some { cls:=.ref C,data:=.fields #[.ref h.objs.size,.none,.none,.none,.bool false,.none] }:=by heap_get
  have ht:((h.push { cls:=.type "tuple",data:=.seq us.toArray }).push { cls:=.ref C,data:=.fields #[.ref h.objs.size,.none,.none,.none,.bool false,.none] }).get? h.objs.size =
      some { cls:=.type "tuple",data:=.seq us.toArray }:=al4q _ (Heap.get?_push_at rfl rfl)
  have made:Heap.MadeExcOf h ((h.push { cls:=.type "tuple",data:=.seq us.toArray }).push { cls:=.ref C,data:=.fields #[.ref h.objs.size,.none,.none,.none,.bool false,.none] }) (h.objs.size+1) (.ref C) us:=
    ⟨kp,al81q (al104q _),h.objs.size,hget,al81q (al18q _),ht⟩
  have go:=k _ _ (al104q _) made;have e1:=kp _ _ e;have lk1:=lk.keeps kp;have bd1:=fun self=>(bd self).keeps kp
  generalize (h.push { cls:=.type "tuple",data:=.seq us.toArray }).push { cls:=.ref C,data:=.fields #[.ref h.objs.size,.none,.none,.none,.bool false,.none] } = h1 at hget go e1 lk1 bd1;have cC:(Value.ref C::bm).contains (.ref C)=true:=by simp
  unfold isInstance
  repeat (first | with_reducible refine al99q hget ?_ | (with_reducible refine al168q e1 ?_;rw[cC]) | wp_step)
  show wpAny (model prog w) _ (typeLookup (.ref C) _) _ _ _;refine lk1.at (al47q (al0q ((bd1 _).at ?_)));refine al0q (al49q go (fun r s' hr=>?_) fun _ _ z=>z);obtain⟨rfl,q⟩:=hr
  wp_walk
  exact q
theorem zla {E:ty90q}{vI:ty3q}{us:List ty3q}{Q:ty90q}(U:UnderV bm) (x:XObj h C bm) (hz:us.length<=sizeLine)
    (lk:PySem.W.Looks (model prog w) h (typeLookup (.ref C) "__init__") (some (vI))) (bd:∀self,PySem.W.Looks (model prog w) h (bindSpecial (vI) self) (vI,[self]))
    (k:∀h' e,h.objs.size<=e->Heap.MadeExcOf h h' e (.ref C) us->wpAny (model prog w) (A.under (.builtin "type.__call__" ⟨.ref C::us,[]⟩)) (call (vI) (.ref e::us)) (fun r s'=>r = .none/\Q (.ref e) s') E { heap:=h',gens:=g,drawn:=d,toks:=t,os:=os }) :
    wpAny (model prog w) A (call (.ref C) us) Q E { heap:=h,gens:=g,drawn:=d,toks:=t,os:=os }:=by
  have x':=x;obtain⟨a1,a2,a3,a4,a5,a6,a7,a8,a9,b1,b2,b3,b4,b5,b6,e⟩:=x';have f1:=tc_lookup;have f2:=tc_bind (.ref C);have hT:({ heap:=h,gens:=g,drawn:=d,toks:=t,os:=os }:ty2q).TypeIs (.ref C) "type":=⟨_,e,rfl⟩;refine al154q (al197q (show wpAny (model prog w) _ (callAny (.ref C) _) _ _ _ from ?_))
  repeat (any_goals (first | assumption | with_reducible refine al99q e ?_ | wp_step))
  refine⟨rfl,codeAny_call_builtin_at (al179q _ (by decide +kernel)) entry_typeCall (wpAny_check_type_call_sub e (zo8 U x hz lk bd fun h' e' hs hm=>?_))⟩;exact k h' e' hs hm
end
section
variable {prog:ty4q}{w:World}{A:Around}{E:ty90q}{s:ty2q}{env:Env}{bm:List ty3q}
theorem zgi {y:Sem ty3q}{Q:Flow->ty2q->Prop}(U:UnderV bm) (hh:A.handled=none)
    (k:wpAny (model prog w) A y (fun v s1=>∃e C oe vs,v = .ref e/\XObj s1.heap C bm/\s1.heap.get? e=some oe/\oe.cls = .ref C/\oe.data = .fields vs/\vs[1]? = some .none/\E (.ref e) s1) E s) :
    wpAny (model prog w) A (raiseStmt env (some y) none) Q E s:=by
  unfold raiseStmt;refine al0q (al49q k (fun v s1 k1=>?_) fun _ _ z=>z);obtain⟨e,C,oe,vs,rfl,⟨a1,a2,a3,a4,a5,a6,a7,a8,a9,b1,b2,b3,b4,b5,b6,o⟩,he,hc,hd,h1,hE⟩:=k1;have cB:=ze7 (C:=C) U.b;obtain⟨hp,g,d,tk,os⟩:=s1
  repeat (first
    | (with_reducible refine al99q he ?_;rw[hc])
    | with_reducible refine al99q o ?_
    | (with_reducible refine al168q o ?_;rw[cB])
    | wp_step)
  rw[hd];refine al2q ?_;rw[h1];refine al2q ?_;rw[al7q (by decide)];exact al2q (wpAny_raiseNew_none hh hE)
theorem zl6 {x:Str}{C:ty1q}{vI:ty3q}{np cpos pos:Pos}{a:PySem.Expr}{as:List PySem.Expr}{Q:Flow->ty2q->Prop}(U:UnderV bm) (hh:A.handled=none)
    (hst:starEach (a::as) env=(false,eval a env)::starEach as env) (hpl:(backTo cpos (starEach as env)).any (·.1)=false)
    (k:wpAny (model prog w) A (eval (.Name x np) env) (fun f s1=>f = .ref C/\wpAny (model prog w) A (spliced (backTo cpos (starEach (a::as) env)))
      (fun us s2=>us.length<=sizeLine/\XObj s2.heap C bm/\PySem.W.Looks (model prog w) s2.heap (typeLookup (.ref C) "__init__") (some (vI))/\(∀self,PySem.W.Looks (model prog w) s2.heap (bindSpecial (vI) self) (vI,[self]))/\
        ∀h' e,s2.heap.objs.size<=e->Heap.MadeExcOf s2.heap h' e (.ref C) us->wpAny (model prog w) (A.under (.builtin "type.__call__" ⟨.ref C::us,[]⟩)) (call (vI) (.ref e::us))
          (fun r s3=>r = .none/\∃oe vs,XObj s3.heap C bm/\s3.heap.get? e=some oe/\oe.cls = .ref C/\oe.data = .fields vs/\vs[1]? = some .none/\E (.ref e) s3) E { s2 with heap:=h' }) E s1) E s) :
    wpAny (model prog w) A (exec (.Raise (some (.Call (.Name x np) (a::as) [] cpos)) none pos) env) Q E s:=by
  rw[arm_exec_Raise];simp only [evalOpt,Option.map];refine al0q (al114q (zgi U hh (al0q (al49q (wpAny_Call_ofName (al49q k (fun f s1 k1=>?_) fun _ _ z=>z)) (fun v s3 k3=>al0q (al114q (al2q k3))) fun _ _ z=>z))));obtain⟨rfl,k1⟩:=k1;unfold callWith;have any:(backTo cpos (starEach (a::as) env)).any (·.1)=false:=by
    rw[hst];show (false||(backTo cpos (starEach as env)).any (·.1))=false;rw[hpl];rfl
  rw[hst] at k1 ⊢;refine al0q (al47q (al156q (al49q k1 (fun us s2 k2=>al0q (al114q ?_)) fun _ _ z=>z)));obtain⟨hz,xo,lk,bd,go⟩:=k2;obtain⟨hp,g,d,tk,os⟩:=s2;rw[hst] at any;simp only [any];have xo':=xo;obtain⟨a1,a2,a3,a4,a5,a6,a7,a8,a9,b1,b2,b3,b4,b5,b6,o⟩:=xo';refine al0q (wpAny_keeperOf_exc o ?_);refine al0q (zla U xo hz lk bd fun h' e hs hm=>al49q (go h' e hs hm) (fun r s3 q=>?_) fun _ _ z=>z);obtain⟨r0,oe,vs,q⟩:=q;exact⟨r0,al0q (al47q (wpAny_point (al2q ⟨e,C,oe,vs,rfl,q⟩)))⟩
end
theorem zgj {o:Obj}{vs:Array ty3q}(h:o.data = .fields vs) (f:Array ty3q->Array ty3q):Obj.mapFields f o = { o with data:=.fields (f vs) }:=by
  obtain⟨c,d,dt,sl⟩:=o;cases h;rfl
structure Gone (fs:List ty1q) (e T:ty1q) (xs:List ty1q) (oe:Obj) (vs:Array ty3q) (h h':Heap):Prop where
  keep:∀b o,b≠e->b ∉ fs->b ∉ xs->h.get? b=some o->h'.get? b=some o
  slot:∀b o,b∈fs->h.get? b=some o->∃sl,h'.get? b=some { o with slots:=sl }
  new:h.get? T=none
  exc:h'.get? e=some { oe with data:=.fields (vs.setIfInBounds 1 (.ref T)) }
  ent:∃oT ts,h'.get? T=some oT/\oT.data = .fields ts/\ts[3]? = some .none
section
variable {M:Model}{A:Around}{E:ty90q}{s:ty2q}
theorem entry_new {base:Heap}{env:Env}{outer:List Env}{L e:ty1q}{oe:Obj}{vs:Array ty3q}{head:ty3q}{nx:Bool}{Q:Unit->ty2q->Prop}
    (hfr:A.frames=some (env::outer)) (hl:s.heap.FunFrames base (env::outer)) (hf:env.frame=some L) (he:s.heap.get? e=some oe) (hd:oe.data = .fields vs) (hz:1<vs.size)
    (k:∀h',Gone (frs (env::outer)) e s.heap.objs.size [] oe vs s.heap h'->Q () { s with heap:=h' }) :
    wpAny M A (do let a ←frameOf env;let pl ←entryPlaceOf L nx;let b ←EntryCells.newEntry head a .none (rawInt L) .none pl;setField (.ref e) 1 b) (fun _ s'=>wpAny M A (setFlight (.ref e) none) Q E s') E s:=by
  have nf:∀b∈frs (env::outer),∃o,s.heap.get? b=some o/\∀us,o.data≠.fields us:=fun b hb=>(hl.mem hb).2
  have ne:e ∉ frs (env::outer):=fun hm=>by
    obtain⟨o,ho,hn⟩:=nf e hm;rw[he] at ho;cases ho;exact hn vs hd
  refine al0q (wpAny_frameOf_fun hfr hl hf fun h1 s1=>?_);obtain⟨z1,k1,u1⟩:=s1;refine al0q (wpAny_entryPlaceOf fun pl hpl=>?_);unfold EntryCells.newEntry newFields;refine al0q (al40q ?_ (hpl.sizeOk5 _ _ _ _ _));have e1:h1.get? e=some oe:=(k1 e ne).trans he;generalize hN:({ cls:=.type "traceback",dict:=none,data:=.fields ([head,.ref L,.none,rawInt L,.none]++(if pl.isEmpty then List.replicate 6 Value.none else pl)).toArray }:Obj)=N;have dN:N.data = .fields ([head,.ref L,.none,rawInt L,.none]++(if pl.isEmpty then List.replicate 6 Value.none else pl)).toArray:=by rw[←hN]
  generalize hts:([head,.ref L,.none,rawInt L,.none]++(if pl.isEmpty then List.replicate 6 Value.none else pl)).toArray=ts at dN;have zt:3<ts.size:=by rw[←hts];simp
  have fN:N.isFreed=false:=al62q dN;have e2:=al4q (h:=h1) N e1;refine al71q e2 hd hz ?_;have Te:h1.objs.size≠e:=al143q (al13q e1);have e3:=al31q (Obj.mapFields (·.setIfInBounds 1 (Value.ref h1.objs.size))) e2 (al62q (al59q hd _));rw[zgj hd] at e3;have t3:=(al29q (h1.push N) (Obj.mapFields (·.setIfInBounds 1 (Value.ref h1.objs.size))) (al36q Te)).trans (al12q h1 fN);unfold setFlight;refine al0q (al142q e3 rfl (x:=.ref h1.objs.size) (by simp[hz]) ?_);rw[al11q (show (Value.ref h1.objs.size != Value.none)=true from by simp)];refine al71q t3 dN zt (k _ ?_);have t4:=al31q (Obj.mapFields (·.setIfInBounds 3 ((none:Option ty1q).elim Value.none fun f=>rawInt f))) t3 (al62q (al59q dN _));have oth:∀b o,b≠e->h1.get? b=some o->(((h1.push N).update e (Obj.mapFields (·.setIfInBounds 1 (Value.ref h1.objs.size)))).update h1.objs.size (Obj.mapFields (·.setIfInBounds 3 ((none:Option ty1q).elim Value.none fun f=>rawInt f)))).get? b=some o:=fun b o hb q=>by
    rw[al29q _ _ (al143q (al13q q)),al29q _ _ (al36q hb)];exact al4q _ q
  refine⟨fun b o hb hn _ q=>oth b o hb ((k1 b hn).trans q),fun b o hb q=>?_,al81q (al18q _),?_,?_⟩
  · obtain⟨sl,q1⟩:=u1 b o q;exact⟨sl,oth b _ (fun z=>ne (z▸hb)) q1⟩
  · rw[al29q _ _ Te,e3,z1]
  · rw[←z1];exact⟨_,_,t4,al59q dN _,by simp[zt]⟩
theorem zjt {base:Heap}{env:Env}{outer:List Env}{L e:ty1q}{oe:Obj}{vs:Array ty3q}{Q:Unit->ty2q->Prop}
    (hfr:A.frames=some (env::outer)) (hl:s.heap.FunFrames base (env::outer)) (hf:env.frame=some L) (he:s.heap.get? e=some oe) (hd:oe.data = .fields vs) (h1:vs[1]? = some .none)
    (k:∀h',Gone (frs (env::outer)) e s.heap.objs.size [] oe vs s.heap h'->Q () { s with heap:=h' }):wpAny M A (leaving env (.ref e)) Q E s:=by
  unfold leaving noteFrame;simp only [hf];refine al0q (al0q (al142q he hd h1 ?_));rw[al7q (by decide)];exact entry_new hfr hl hf he hd (al38q.mp h1).1 k
theorem zl7 {base:Heap}{env:Env}{outer:List Env}{L e T:ty1q}{oe oT:Obj}{vs ts:Array ty3q}{Q:Unit->ty2q->Prop}
    (hfr:A.frames=some (env::outer)) (hl:s.heap.FunFrames base (env::outer)) (hf:env.frame=some L) (he:s.heap.get? e=some oe) (hd:oe.data = .fields vs) (h1:vs[1]? = some (.ref T))
    (hT:s.heap.get? T=some oT) (dT:oT.data = .fields ts) (h3:ts[3]? = some .none) (ne:T≠e)
    (k:∀h',Gone (frs (env::outer)) e s.heap.objs.size [T] oe vs s.heap h'->Q () { s with heap:=h' }):wpAny M A (leaving env (.ref e)) Q E s:=by
  unfold leaving noteFrame;simp only [hf];refine al0q (al0q (al142q he hd h1 ?_));rw[al11q (show (Value.ref T != Value.none)=true from by simp)];refine al0q (al142q hT dT h3 ?_);rw[al7q (show ¬((Value.none == rawInt L)=true) from by simp[rawInt])];have z3:=(al38q.mp h3).1;refine al0q (al71q hT dT z3 ?_);have oth:∀b,b≠T->(s.heap.update T (Obj.mapFields (·.setIfInBounds 3 Value.none))).get? b=s.heap.get? b:=fun b hb=>al29q _ _ (al36q hb)
  have self:=al31q (Obj.mapFields (·.setIfInBounds 3 Value.none)) hT (al62q (al59q dT _));have nf:T ∉ frs (env::outer):=fun hm=>by
    obtain⟨_,o,ho,hn⟩:=hl.mem hm;rw[hT] at ho;cases ho;exact hn ts dT
  have sz:(s.heap.update T (Obj.mapFields (·.setIfInBounds 3 Value.none))).objs.size=s.heap.objs.size:=Heap.size_after_update ..;refine entry_new (s:={ s with heap:=s.heap.update T (Obj.mapFields (·.setIfInBounds 3 Value.none)) }) hfr (hl.of_keeps fun b o hb hn=>⟨o,(oth b fun z=>?_).trans hb,rfl⟩) hf ((oth e ne.symm).trans he) hd (al38q.mp h1).1 fun h' G=>?_
  · subst z;rw[hT] at hb;cases hb;exact hn ts dT
  · have e1:(s.heap.update T (Obj.mapFields (·.setIfInBounds 3 Value.none))).objs.size=s.heap.objs.size:=sz;have G:=G;dsimp only at G;rw[e1] at G;refine k h' ⟨fun b o hb hn hx q=>G.keep b o hb hn (by simp) ((oth b fun z=>hx (by simp[z])).trans q),fun b o hb q=>G.slot b o hb ((oth b fun z=>nf (z▸hb)).trans q),al81q (al18q _),G.exc,G.ent⟩
end
def Fly (H:Hp) (h0 h:Heap) (e:ty1q) (cls:ty3q) (dc:Option ty1q):Prop:=
  ∃(oe:Obj) (vs:Array ty3q) (T:ty1q) (oT:Obj) (ts:Array ty3q),h.get? e=some oe/\oe.cls=cls/\oe.dict=dc/\oe.data = .fields vs/\vs[1]? = some (.ref T)/\T≠e/\h.get? T=some oT/\oT.data = .fields ts/\ts[3]? = some .none/\
    H e=none/\H T=none/\h0.objs.size<=e/\h0.objs.size<=T
def zxq (H:Hp) (h0 h:Heap) (e:ty1q) (cls:ty3q) (dc:Option ty1q):Prop:=
  ∃(oe:Obj) (vs:Array ty3q),h.get? e=some oe/\oe.cls=cls/\oe.dict=dc/\oe.data = .fields vs/\vs[1]? = some .none/\H e=none/\h0.objs.size<=e
def CX1 (P:ty4q) (w:World):CXT:=fun outer H s E u s'=>∃(e:ty1q) (cls:ty3q) (dc:Option ty1q) (H':Hp),u = .ref e/\s'.os=s.os/\AllBare s'.gens/\Un (frs outer) [] H H' s.heap s'.heap/\HOk P w H' s'.heap/\
  Fly H' s.heap s'.heap e cls dc/\E cls dc H'
def XeIs (X:Cx) (E:XK):Prop:=X.xe=(fun u s'=>wpAny (model X.prog X.w) X.A (leaving X.env u) (fun _ s''=>CX1 X.prog X.w X.outer X.H₀ X.s₀ E u s'') (fun u' s''=>CX1 X.prog X.w X.outer X.H₀ X.s₀ E u' s'') s')/\
  X.stack=X.env::X.outer/\X.env.frame=some X.env.locals/\X.ex = []
theorem zg3 {P:ty4q}{w:World}{K:ty0q}{mg:Str->Option ty3q}{base:Heap}{N:List Str}{qual:Str}{scope:Scope}{f:ty1q}{cd:ty3q}{A:Around}{outer:List Env}{s:ty2q}{H:Hp}{E:XK} :
    XeIs (cxOf (CX1 P w) P w K mg base N qual scope f cd A outer s H E) E:=⟨rfl,rfl,rfl,rfl⟩
section
variable {X:Cx}{pins:ty91q}{σ:St}{H:Hp}{s:ty2q}{E:XK}{e:ty1q}{cls:ty3q}{dc:Option ty1q}
theorem zo9 {h':Heap}{T:ty1q}{xs:List ty1q}{oe:Obj}{vs:Array ty3q}(I:Inv X pins σ H s) (x:XeIs X E) (G:Gone (frs (X.env::X.outer)) e T xs oe vs s.heap h') (hc:oe.cls=cls) (hdc:oe.dict=dc) (hz:1<vs.size)
    (He:H e=none) (nz:X.s₀.heap.objs.size<=e) (hxz:∀b∈xs,H b=none/\X.s₀.heap.objs.size<=b) (hTe:T≠e) (hsz:s.heap.objs.size<=T) (hE:E cls dc H) :
    CX1 X.prog X.w X.outer X.H₀ X.s₀ E (.ref e) { s with heap:=h' }:=by
  obtain⟨x1,x2,x3,x4⟩:=x;have ne:X.s₀.heap.get? e=none:=al81q nz;have hx:∀b∈xs,H b=none/\X.s₀.heap.get? b=none:=fun b hb=>⟨(hxz b hb).1,al81q (hxz b hb).2⟩
  have nL:∀b o,X.s₀.heap.get? b=some o->b≠X.env.locals:=fun b o q z=>absurd (al13q q) (Nat.not_lt.mpr (z▸I.ok.above))
  have fr:∀b,b∈frs (X.env::X.outer)->b=X.env.locals\/b∈frs X.outer:=fun b hb=>by
    unfold frs at hb;rw[al86q,x3] at hb;exact al14q.mp hb
  have fr2:∀b,b∈frs X.outer->b∈frs (X.env::X.outer):=fun b hb=>by
    unfold frs;rw[al86q,x3];exact al5q _ hb
  have notx:∀b o,X.s₀.heap.get? b=some o->b≠e/\b ∉ xs:=fun b o q=>⟨fun z=>(by rw[z,ne] at q;cases q),fun z=>(by rw[(hx b z).2] at q;cases q)⟩
  have HT:H T=none:=I.hok.fresh hsz;have sf:∀b∈frs (X.env::X.outer),H b=none:=by
    have:=I.stkFree;rw[x2] at this;exact this
  refine⟨e,cls,dc,H,rfl,I.os,I.bare,?_,?_,?_,hE⟩
  · refine⟨fun b o q n nf _=>?_,fun b o q n nf _=>?_,fun b o q n _=>I.base.free b o q n (by rw[x4];simp),fun b o q _=>?_,I.base.tups,I.base.frzs,I.base.tbls⟩
    · exact G.keep b o (notx b o q).1 (fun z=>(fr b z).elim (nL b o q) nf) (notx b o q).2 (I.base.keep b o q n nf (by rw[x4];simp))
    · obtain⟨sl,z⟩:=I.base.slot b o q n nf (by rw[x4];simp);obtain⟨sl',z'⟩:=G.slot b _ (fr2 b nf) z;exact⟨sl',z'⟩
    · obtain⟨o',z⟩:=I.base.there b o q (by rw[x4];simp)
      by_cases hb:b∈frs (X.env::X.outer)
      · obtain⟨sl,z'⟩:=G.slot b _ hb z;exact⟨_,z'⟩
      · exact⟨_,G.keep b _ (notx b o q).1 hb (notx b o q).2 z⟩
  · intro a o q;refine (I.hok a o q).stay (fun b u hb z=>?_) (fun _ z=>z) fun _ _ z=>z
    have Hb:H b≠none:=by
      rcases hb with z | z
      · rw[z,q];simp
      · rw[z];simp
    exact G.keep b u (fun z=>Hb (z▸He)) (fun z=>Hb (sf b z)) (fun z=>Hb (hx b z).1) z
  · obtain⟨oT,ts,t1,t2,t3⟩:=G.ent;refine⟨_,_,T,oT,ts,G.exc,hc,hdc,rfl,by simp[hz],hTe,t1,t2,t3,He,HT,nz,al44q I.sz hsz⟩
theorem zlb (I:Inv X pins σ H s) (x:XeIs X E) (r:zxq H X.s₀.heap s.heap e cls dc) (hE:E cls dc H):X.xe (.ref e) s:=by
  obtain⟨oe,vs,he,hc,hdc,hd,h1,He,ne⟩:=r;have x':=x;obtain⟨x1,x2,x3,x4⟩:=x';rw[x1];have fr:=I.ok.frames;have st:=I.stack;rw[x2] at fr st;exact zjt fr st x3 he hd h1 fun h' G=>zo9 I x G hc hdc (al38q.mp h1).1 He ne (fun b hb=>absurd hb (by simp)) (al143q (al13q he)) (al18q _) hE
theorem zwe (I:Inv X pins σ H s) (x:XeIs X E) (r:Fly H X.s₀.heap s.heap e cls dc) (hE:E cls dc H):X.xe (.ref e) s:=by
  obtain⟨oe,vs,T,oT,ts,he,hc,hdc,hd,h1,hTe,hT,dT,h3,He,HT,ne,nT⟩:=r;have x':=x;obtain⟨x1,x2,x3,x4⟩:=x';rw[x1];have fr:=I.ok.frames;have st:=I.stack;rw[x2] at fr st;refine zl7 fr st x3 he hd h1 hT dT h3 hTe fun h' G=>zo9 I x G hc hdc (al38q.mp h1).1 He ne (fun b hb=>?_) (al143q (al13q he)) (al18q _) hE
  rw[al74q] at hb;subst hb;exact⟨HT,nT⟩
theorem zxr (x:XeIs X E):zhe (CX1 X.prog X.w) X E:=by
  intro pins σ H s u s' I h;obtain⟨e,cls,dc,H',rfl,os,bare,un,hok,fl,hE⟩:=h;have I':=I.call' os un hok bare (ch:=[]) (fun b z=>absurd z (by simp));obtain⟨oe,vs,T,oT,ts,he,hc,hdc,hd,h1,hTe,hT,dT,h3,He,HT,ne,nT⟩:=fl;exact zwe I' x ⟨oe,vs,T,oT,ts,he,hc,hdc,hd,h1,hTe,hT,dT,h3,He,HT,al44q I.sz ne,al44q I.sz nT⟩ hE
end
def HasX (P:ty4q) (w:World) (K:ty0q) (mg:Str->Option ty3q) (base:Heap) (x:Str) (ps:List Str) (k:Nat) (sp:Sp):Prop:=
  ∃(f:ty1q) (fd:FuncData),mg x=some (.ref f)/\PySem.W.keepIn K (.ref f)=true/\(∃oc od osl,K.lookup f=some ⟨oc,od,.func fd,osl⟩)/\(∀us:List ty3q,us.length=ps.length->bindArgs fd ⟨us,[]⟩=pure (ps.zip us))/\FnOk P w K mg base (CX1 P w) k f fd ps sp
section
variable {P:ty4q}{w:World}{K:ty0q}{mg:Str->Option ty3q}{base:Heap}
theorem Df.hasX {x:Str}{st:Stmt}{N ps:List Str}{k:Nat}{sp:Sp}(D:Df K mg x st ps) (S:FnScope N ps (zj st)) (len:∀vs H Q E,sp vs H Q E->vs.length=ps.length)
    (body:∀(f:ty1q) (cdv:ty3q) (A:Around) (outer:List Env) (s:ty2q) (H:Hp) (vs:List V) (Q:VK) (E:XK),Room k (A.deeper (envOfC x (zj st) s.heap.objs.size f cdv))->sp vs H Q E->
      ∃t,PSs (cxOf (CX1 P w) P w K mg base N x (zj st) f cdv A outer s H E) (zbo st) t/\t { nx:=fun _ H'=>Q .non H',rt:=Q } (start N vs) H):HasX P w K mg base x ps (k+1) sp:=by
  obtain⟨f,fd,F,a,b⟩:=D;obtain⟨oc,od,kV,doc,pm,an,cdv,ct,osl,e,lk,hcd⟩:=id F.ex;subst e;exact⟨f,_,a,F.kp,⟨oc,od,osl,lk⟩,b,zvj lk hcd S len (body f cdv)⟩
end
section
variable {X:Cx}{k:Nat}{ps:List Str}{sp:Sp}{E:XK}{C:ty1q}{m x:Str}{p pos apos:Pos}{o e:Expr}{es:List Expr}{t:TA}{ta:TE}
theorem zsz (F:HasX X.prog X.w X.K X.mg X.base x ps k sp) (xe:XeIs X E) (hr:Room k X.A) (hg:Gl X x) (ha:PA X (e::es) t) (hdb:(x == ("__debug__" : Str))=false:=by decide)
    (he:starEach (e::es) X.env=(false,eval e X.env)::starEach es X.env:=by rfl) (hpl:(backTo pos (starEach es X.env)).any (·.1)=false:=by rfl):PE X (.Call (.Name x p) (e::es) [] pos) (zqi sp [] E t):=by
  obtain⟨f,fd,a,kp,_,b,G⟩:=F;exact zm5 G hr hg a kp (.all b) .nil (zxr xe) ha hdb he hpl
end
section
variable {prog:ty4q}{w:World}{A:Around}{E:ty90q}{h:Heap}{g:Array GenState}{d:Drawn}{t:Nat}{os:OsState}{C:ty1q}{bm:List ty3q}
theorem zl8 {M:Model}{Q:Unit->ty2q->Prop}{e:ty1q}{oe:Obj}{us:List ty3q}(U:UnderV bm) (x:XObj h C bm) (he:h.get? e=some oe) (hc:oe.cls = .ref C) (k:Q () { heap:=h,gens:=g,drawn:=d,toks:=t,os:=os }) :
    wpAny M A (checkBuiltinCall "ValueError.__init__" ⟨.ref e::us,[]⟩) Q E { heap:=h,gens:=g,drawn:=d,toks:=t,os:=os }:=by
  obtain⟨a1,a2,a3,a4,a5,a6,a7,a8,a9,b1,b2,b3,b4,b5,b6,o⟩:=x;have F:=PySem.F.excBase_ValueError;have c1:=ze7 (C:=C) U.v;have hs:=F.noStar;simp only [checkBuiltinCall,F.initKind,F.initSplit,F.initRow]
  repeat (first
    | (with_reducible refine al99q he ?_;rw[hc])
    | with_reducible refine al99q o ?_
    | (with_reducible refine al168q o ?_;rw[c1])
    | wp_step)
  refine wpAny_onRaise ?_;have st:∀(a b:String) (n:Nat),Bind.check ⟨.positional,"*","ValueError",.self,[⟨"args",.varPos,false⟩]⟩ a b n (List.map (fun x=>x.fst) ({ pos:=Value.ref e::us }:Args).kw)=pure ():=fun a b n=>check_star_args _ _ _ _ _ _
  rw[st];exact al2q k
theorem zwf {Q:ty90q}{e t0:ty1q}{oe:Obj}{vs:Array ty3q}{us:List ty3q}(U:UnderV bm) (x:XObj h C bm) (hz:us.length<=sizeLine) (he:h.get? e=some oe) (hc:oe.cls = .ref C) (hd:oe.data = .fields vs) (h0:vs[0]? = some (.ref t0))
    (k:∀h',(∀b o,b≠e->h.get? b=some o->h'.get? b=some o)->h'.get? e=some { oe with data:=.fields (vs.setIfInBounds 0 (.ref h.objs.size)) }->Q .none { heap:=h',gens:=g,drawn:=d,toks:=t,os:=os }) :
    wpAny (model prog w) A (call (.builtin "ValueError.__init__") (.ref e::us)) Q E { heap:=h,gens:=g,drawn:=d,toks:=t,os:=os }:=by
  have F:=PySem.F.excBase_ValueError;refine al154q (al94q F.init.plain F.initEntry (zl8 U x he hc ?_));unfold Builtin.«BaseException.__init__»
  wp_walk
  rw[hd];refine al2q ?_;rw[h0];refine al2q (al0q ?_);have he2:=al4q (h:=h) { cls:=.type "tuple",data:=.seq us.toArray } he;have z0:=(al38q.mp h0).1;refine al71q he2 hd z0 ?_;have e3:=al31q (Obj.mapFields (·.setIfInBounds 0 (Value.ref h.objs.size))) he2 (al62q (al59q hd _));rw[zgj hd] at e3;have go:=k _ (fun b o hb q=>(al29q _ _ (al36q hb)).trans (al4q _ q)) e3
  wp_walk
  exact go
end
def zfp:List ty3q->Bool
  | [.type a,.type b,.type c,.type d]=>a == "ValueError" && (b == "Exception" && (c == "BaseException" && d == "object"))
  | .ref _::r=>zfp r
  | _=>false
theorem ze8:∀{l:List ty3q},zfp l=true->l = [.type "ValueError",.type "Exception",.type "BaseException",.type "object"]\/∃c r,l = .ref c::r/\zfp r=true
  | [.type a,.type b,.type c,.type d],e=>by
    simp only [zfp,al42q,beq_iff_eq] at e;obtain⟨rfl,rfl,rfl,rfl⟩:=e;exact .inl rfl
  | .ref c::r,e=>.inr ⟨c,r,rfl,by unfold zfp at e;exact e⟩
theorem zlc (self:ty3q):∀{l:List ty3q},zfp l=true->refuseLoop self "__setattr__" l=pure ()
  | [],e=>by cases e
  | v::r,e=>by
    rcases ze8 e with h | ⟨c,r',h,e'⟩
    · rw[h];exact PySem.F.store_ValueError.passes self
    · cases h;rw[refuseLoop_ref];exact zlc self e'
theorem zii:∀{l:List ty3q},zfp l=true->l.contains (.type "object")=true
  | [],e=>by cases e
  | v::r,e=>by
    rcases ze8 e with h | ⟨c,r',h,e'⟩
    · rw[h];decide +kernel
    · cases h;rw[List.contains_cons,zii e',Bool.or_true]
def zju (K:ty0q) (C:ty1q):Bool:=(PySem.W.clsIn K C).any fun cd=>zfp cd.mro
structure XCls (K:ty0q) (C:ty1q):Prop where
  hd:PySem.W.hasDictIn K C=true
  po:zju K C=true
  sa:PySem.W.findIn K (.ref C) "__setattr__" = some (some (.builtin "object.__setattr__"))
section
variable {prog:ty4q}{w:World}{A:Around}{E:ty90q}{R:Result->ty2q->Prop}{s:ty2q}{K:ty0q}{x C:ty1q}{name:Str}{v:ty3q}
theorem zpa {ox:Obj}{od:Option Obj}{tk:Tok}{r:Option ty3q}(X:K.In s.heap) (I:PySem.W.InstAt s.heap x ox C od) (hp:(PySem.W.clsIn K C).any (fun cd=>zfp cd.mro)=true) (ht:PySem.W.takerIn K C name=some r)
    (h:∀b,wpAny (model prog w) A.in1 (match r with | some a=>Builtin.ObjectAttr.setByDescriptor a (.ref x) v | none=>Builtin.ObjectAttr.storeInOwnDict (.ref x) (.ref C) (.str name tk) name v b)
      (fun fin s'=>match fin with | .done f=>R (.ok f) s' | .again c'=>c'.quiet=true/\codeAny (model prog w) A c' R s') (fun e s'=>R (.error e) s') s) :
    codeAny (model prog w) A (.call (.builtin "object.__setattr__") ⟨[.ref x,.str name tk,v],[]⟩) R s:=by
  have SF:=PySem.F.store_object;obtain⟨cd,hc,ho⟩:=PySem.W.any_some hp;have ne:cd.mro.isEmpty=false:=by cases q:cd.mro with | nil=>rw[q] at ho;cases ho | cons _ _=>rfl
  have sub:PySem.W.Looks (model prog w) s.heap (isInstance (.ref x) (.type "object")) true:=I.type.andThen (PySem.W.looks_mroIn X (by unfold PySem.W.mroIn;rw[hc,Option.bind_some,al7q (by rw[ne];decide),zii ho]));refine al94q SF.slot.plain SF.entry (@PySem.W.check_slot (model prog w) _ _ s "object.__setattr__" "object" "__setattr__" (.ref x) [.str name tk,v] [] _ SF.kind SF.split sub (SF.args (.ref x) (.str name tk) v) ?_);obtain⟨attr,ha,hr⟩:=Option.bind_eq_some_iff.mp ht;have hm:PySem.W.Looks (model prog w) s.heap (mroOf (.ref C)) cd.mro:=(PySem.W.looks_clsIn X hc).andThen .now;have L3:PySem.W.Looks (model prog w) s.heap (Builtin.ObjectAttr.storeTaker? attr) r:=by
    cases attr with
    | none=>cases hr;exact .now
    | some a=>
      obtain⟨b,hb,rfl⟩:=Option.map_eq_some_iff.mp hr;refine (PySem.W.looks_takesIn X hb).andThen ?_;cases b<;>exact .now
  rw[PySem.W.osa_eq,refuse_eq];refine al0q (al0q (I.type.here (al0q (hm.here ?_))));rw[zlc _ ho];refine al2q (al0q (I.type.here (al0q ((PySem.W.looks_findIn X ha).here (al0q (L3.here ?_))))));exact h _
theorem xset {oe:Obj}{vs:Array ty3q}{Q:Unit->ty2q->Prop}(X:K.In s.heap) (he:s.heap.get? x=some oe) (hcl:oe.cls = .ref C) (hdn:oe.dict=none) (hdt:oe.data = .fields vs) (c:XCls K C) (ht:PySem.W.takerIn K C name=some none)
    (h:∀h' tk,(∀b o,b≠x->s.heap.get? b=some o->h'.get? b=some o)->h'.get? x=some { oe with dict:=some s.heap.objs.size }->h'.Ns1 s.heap.objs.size (fun y=>if y=name then some v else none)->Q () { s with heap:=h',toks:=tk }) :
    wpAny (model prog w) A (setAttr (.ref x) name v) Q E s:=by
  have J:PySem.W.InstAt s.heap x oe C none:=⟨he,hcl,by unfold PySem.W.notCls;rw[hdt],by rw[hdn];trivial⟩;refine PySem.W.set_plain X J c.sa (zpa (s:={ s with toks:=s.toks+1 }) (r:=none) X J c.po ht fun b=>?_);obtain⟨cd,hc,hd'⟩:=PySem.W.any_some c.hd;obtain⟨oc,od,odt,osl⟩:=oe;dsimp only at hcl hdn hdt;subst hcl hdn hdt;refine al0q (al2q (al0q (al0q (wpAny_loadPart he (al0q (PySem.W.Looks.here (s:={ s with toks:=s.toks+1 }) (PySem.W.looks_clsIn X hc) ?_))))));rw[hd'];have hx₁:(s.heap.push { cls:=.type "dict",data:=.dict #[] }).get? x=some { cls:=Value.ref C,data:=Data.fields vs,slots:=osl }:=al4q _ he;have hxs:x≠s.heap.objs.size:=al26q (al13q he);rw[al7q (by decide)];show wpAny (model prog w) _ (if (!true || !typeHasDict (Value.ref C))=true then pure none else _) _ _ _;rw[al7q (by simp[typeHasDict])];refine al0q (wpAny_alloc' ?_);refine al0q (wpAny_update' hx₁ ?_);refine al2q ?_;have hgd:((s.heap.push { cls:=.type "dict",data:=.dict #[] }).update x fun o=>{ cls:=o.cls,dict:=some s.heap.objs.size,data:=o.data,slots:=o.slots }).get? s.heap.objs.size
      = some { cls:=.type "dict",data:=.dict #[] }:=
    (Heap.get?_update_ne _ _ _ _ hxs.symm).trans (Heap.get?_push_at rfl rfl)
  have hnd:((s.heap.push { cls:=.type "dict",data:=.dict #[] }).update x fun o=>{ cls:=o.cls,dict:=some s.heap.objs.size,data:=o.data,slots:=o.slots }).Ns s.heap.objs.size (fun _=>none):=
    ⟨_,#[],_,hgd,rfl,fun e he=>absurd he (by simp),fun _=>rfl⟩
  show wpAny _ _ (Builtin.ObjectAttr.storeInDict s.heap.objs.size (.str name s.toks) name v) _ _ _;unfold Builtin.ObjectAttr.storeInDict Builtin.ObjectAttr.newKeyGuard;refine al0q (al2q (al0q (wpAny_nsSet1 (Heap.Ns1.of_empty hnd) fun h' hn' hs=>?_)));obtain⟨oD,esD,epD,hoD,hdD,hcD⟩:=hn'.count (Within.cons name v Within.nil);refine al0q (wpAny_lookBehind hoD (by rw[hdD];exact pastItsLine_dict (al44q hcD (by rw[al57q,List.length_nil,al140q];lia))) ?_);refine al2q (h h' _ (fun b o hb q=>?_) ?_ hn')
  · exact (hs.2 b (al26q (al13q q))).trans ((Heap.get?_update_ne _ _ _ _ hb).trans (al4q _ q))
  · exact (hs.2 x hxs).trans (al31q _ hx₁ rfl)
end
def excO (e C:ty1q) (dc:Option ty1q):HO:=.ext fun h=>∃oe vs t0,h.get? e=some oe/\oe.cls = .ref C/\oe.dict=dc/\oe.data = .fields vs/\vs[0]? = some (.ref t0)/\vs[1]? = some .none
section
variable {X:Cx}{pins:ty91q}{σ:St}{H:Hp}{s:ty2q}{a C:ty1q}{dc:Option ty1q}{f:Str}{A:Around}{E:ty90q}
theorem zpb {P:ty4q}{w:World}{h:Heap}{oe:Obj}{vs:Array ty3q}{t0:ty1q}(h1:h.get? a=some oe) (h2:oe.cls = .ref C) (h3:oe.dict=dc) (h4:oe.data = .fields vs) (h5:vs[0]? = some (.ref t0)) (h6:vs[1]? = some .none):ObjOk P w H h a (excO a C dc):=
  ⟨⟨oe,vs,t0,h1,h2,h3,h4,h5,h6⟩,⟨oe,h1⟩,fun g1 g2 ⟨oe',vs',t0',q1,q2⟩ k=>⟨oe',vs',t0',k _ q1,q2⟩⟩
theorem zjv {y:V}{u:ty3q}{Q:Unit->ty2q->Prop}(I:Inv X pins σ H s) (e:H a=some (excO a C none)) (c:XCls X.K C) (n:NoAttr X.K C f) (ry:RelV y u)
    (h:∀d s',H d=none->Inv X pins σ (upd (upd H d (.xd [(f,y)])) a (excO a C (some d))) s'->Q () s'):wpAny (model X.prog X.w) A (setAttr (.ref a) f u) Q E s:=by
  obtain⟨⟨oe,vs,t0,h1,h2,h3,h4,h5,h6⟩,_,_⟩:=(show ObjOk X.prog X.w H s.heap a (excO a C none) from I.hok a _ e);refine xset I.kIn h1 h2 h3 h4 c n.taker fun h' tk k hx hns=>?_
  have hd:=I.hok.fresh (al18q s.heap.objs.size);have hne:s.heap.objs.size≠a:=al143q (al13q h1);have fr:oe.isFreed=false:=al62q h4;have u1:(h'.update a fun _=>oe).get? a=some oe:=al31q _ hx fr;have u2:∀b,b≠a->(h'.update a fun _=>oe).get? b=h'.get? b:=fun b hb=>al29q _ _ (al36q hb)
  have I1:=I.laid (a:=s.heap.objs.size) (o:=.xd [(f,y)]) (h':=h'.update a fun _=>oe) (t':=tk) (fun b o q=>by
    by_cases hb:b=a
    · subst hb;rw[h1] at q;cases q;exact u1
    · rw[u2 b hb];exact k b o hb q) (al18q _) ⟨_,hns.at fun o q=>by rw[u2 _ hne];exact q,fun g=>by
        by_cases hg:g=f
        · rw[al11q hg];subst hg;rw[al189q,al163q];exact ry
        · rw[al7q hg,al189q,al54q.mpr hg];exact True.intro⟩
  have I2:=I1.write (x:=a) (e:=a) (o:=excO a C (some s.heap.objs.size)) (h':=h') (t':=tk) (by rw[zl hne.symm,e];exact True.intro) (.inl rfl) (fun b o hb q=>by rw[u2 b hb] at q;exact q) ⟨_,hx⟩ (zpb hx h2 rfl h4 h5 h6);exact h _ _ hd I2
end
structure XBase (K:ty0q) (D:ty1q):Prop where
  rd:PySem.W.readsIn K D (.type "type")=true
  ga:PySem.W.specialIn K (.ref D) "__getattribute__" = some (some (.builtin "type.__getattribute__"))
  fc:PySem.W.findCls K (.ref D) (.type "type") "__init__" = some (.val (.builtin "ValueError.__init__"))
def XObjK (K:ty0q) (C:ty1q) (bm:List ty3q):Prop:=∃nm q N bs hdct sn sub ab col dd k0 k1 k2 k3 k5,K.lookup C=some (excClassObj nm q C N bs bm hdct sn sub ab col dd k0 k1 k2 k3 k5 "ValueError.__new__")
theorem XObjK.in {K:ty0q}{C:ty1q}{bm:List ty3q}{h:Heap}(x:XObjK K C bm) (X:K.In h):XObj h C bm:=by
  obtain⟨a1,a2,a3,a4,a5,a6,a7,a8,a9,b1,b2,b3,b4,b5,b6,e⟩:=x;exact⟨a1,a2,a3,a4,a5,a6,a7,a8,a9,b1,b2,b3,b4,b5,b6,X _ _ e⟩
def zwg (K:ty0q) (t:TA):TE:=fun σ H Q=>t σ H fun xs H1=>∃a C dc bm rest,xs = .ref a::rest/\H1 a=some (excO a C dc)/\XObjK K C bm/\UnderV bm/\rest.length<=sizeLine/\Q .non H1
def zxs (K:ty0q) (ta tv:TE) (f:Str):TS:=fun D σ H=>tv σ H fun y H1=>ta σ H1 fun x H2=>∃a C,x = .ref a/\H2 a=some (excO a C none)/\XCls K C/\NoAttr K C f/\
  ∀d,H2 d=none->D.nx σ (upd (upd H2 d (.xd [(f,y)])) a (excO a C (some d)))
theorem zwh {H:Hp}{a:ty1q}{o:HO}(h:H a=some o):upd H a o=H:=by
  funext b;unfold upd
  by_cases e:b=a
  · rw[al11q e,e,h]
  · rw[al7q e]
section
variable {X:Cx}{o e value:Expr}{es:List Expr}{x f:Str}{p pos pos' apos:Pos}{ta tv:TE}{t:TA}{D:ty1q}
theorem zud (ha:PE X o ta) (hv:PE X value tv) (hs:swapsWith value (some (.Attribute o f pos')) pos.line X.env=pure false):PS X (.Assign [.Attribute o f pos'] value pos) (zxs X.K ta tv f):=by
  intro pins s σ H D I h;refine plainObj_wpAny_Assign_Attribute (thn (hv pins s σ H _ I h) fun u s1 ⟨y,H1,I1,ry,q⟩=>thn (ha pins s1 σ H1 _ I1 q) fun ov s2 hq0=>?_) hs;obtain⟨x,H2,I2,rx,a,C,ex,ea,c,n,q2⟩:=hq0;subst ex;obtain rfl:ov=Value.ref a:=rx;exact zjv I2 ea c n ry fun d s3 hd I3=>⟨σ,_,I3,q2 d hd⟩
theorem zrd {pins:ty91q}{s:ty2q}{σ:St}{H:Hp}{a C:ty1q}{dc:Option ty1q}{bm:List ty3q}{us:List ty3q}{Q:VK}(I:Inv X pins σ H s) (e:H a=some (excO a C dc)) (xo:XObjK X.K C bm) (U:UnderV bm) (hz:us.length<=sizeLine) (q:Q .non H) :
    wpAny (model X.prog X.w) X.A (call (.builtin "ValueError.__init__") (.ref a::us)) (EP X pins σ Q) X.xe s:=by
  obtain⟨⟨oe,vs,t0,h1,h2,h3,h4,h5,h6⟩,_,_⟩:=(show ObjOk X.prog X.w H s.heap a (excO a C dc) from I.hok a _ e);obtain⟨hp,g,d,tk,os⟩:=s;refine zwf U (xo.in I.kIn) hz h1 h2 h4 h5 fun h' k hx=>?_
  have z0:=(al38q.mp h5).1;have I2:=I.write (x:=a) (e:=a) (o:=excO a C dc) (h':=h') (t':=tk) (by rw[e];exact True.intro) (.inl rfl) (fun b o hb z=>k b o hb z) ⟨_,hx⟩ (zpb (t0:=hp.objs.size) hx h2 h3 rfl (by simp[z0]) (by rw[Array.getElem?_setIfInBounds_ne (by decide)];exact h6));rw[zwh e] at I2;exact⟨.non,H,I2,rfl,q⟩
theorem zre {pl:Sem Bool}(hg:Gl X x) (hm:X.mg x=some (.ref D)) (b:XBase X.K D) (ha:PA X (e::es) t) (hdb:(x == ("__debug__" : Str))=false:=by decide)
    (hst:starEach (e::es) X.env=(false,eval e X.env)::starEach es X.env:=by rfl) (hpl:(backTo pos (starEach es X.env)).any (·.1)=false:=by rfl)
    (ht:eval (.Call (.Attribute (.Name x p) "__init__" apos) (e::es) [] pos) X.env=(do
      let ov ←eval (.Name x p) X.env
      standAt apos.atName
      let (f,first) ←holding [ov] (getMethod ov "__init__" pl)
      callWith pos f first (backTo pos (starEach (e::es) X.env)) (backToKw pos (keywordEach [] X.env))):=by rfl) :
    PE X (.Call (.Attribute (.Name x p) "__init__" apos) (e::es) [] pos) (zwg X.K t):=by
  intro pins s σ H Q I h;refine PySem.W.methodCall_KW (pl:=pl) (zds I hg hm ?_ hdb) ht;refine PySem.W.method_cls I.kIn b.ga (PySem.W.cls_value I.kIn b.rd b.fc (by decide +kernel) ?_);have hA:=ha pos pins _ σ H _ (I.tok (s.toks+1)) h;rw[hst] at hA ⊢;refine al144q (by show (false||(backTo pos (starEach es X.env)).any (·.1))=false;rw[hpl]<;>rfl) (al156q ?_);refine thn hA fun us s2 hq0=>?_
  obtain⟨vs,H2,I2,r2,a,C,dc,bm,rest,ev,ea,xo,U,hz,q⟩:=hq0;subst ev;cases r2 with
  | cons r1 r2=>
    cases r1;exact zrd I2 ea xo U (by rw[←r2.length];exact hz) q
end
def del (H:Hp) (e:ty1q):Hp:=fun b=>if b=e then none else H b
theorem zg4 {H:Hp}{e:ty1q}:del H e e=none:=by unfold del;rw[al11q rfl]
theorem ze9 {H:Hp}{e b:ty1q}(h:b≠e):del H e b=H b:=by unfold del;rw[al7q h]
structure XMk (K:ty0q) (C f:ty1q) (bm:List ty3q):Prop where
  obj:XObjK K C bm
  un:UnderV bm
  init:PySem.W.findIn K (.ref C) "__init__" = some (some (.ref f))
  fn:PySem.W.isFn K (.ref f)=true
section
variable {X:Cx}{pins:ty91q}{σ:St}{H:Hp}{s:ty2q}
theorem Inv.drop {e:ty1q}{φ:Heap->Prop}(I:Inv X pins σ H s) (he:H e=some (.ext φ)):Inv X pins σ (del H e) s:=by
  refine I.un (h':=s.heap) (t':=s.toks) ⟨fun _ _ q _ _ _=>q,fun b o q _ _ _=>⟨o.slots,q⟩,fun b o _ n _=>?_,fun b o q _=>⟨o,q⟩,fun b xs q=>?_,fun b o u q=>?_,fun b ps q=>⟨#[],?_⟩⟩ fun a o q=>?_
  · by_cases z:b=e
    · rw[z];exact zg4
    · rw[ze9 z];exact n
  · rw[ze9 (fun z=>by rw[z,he] at q;cases q)];exact q
  · rw[ze9 (fun z=>by rw[z,he] at q;cases q)];exact q
  · rw[ze9 (fun z=>by rw[z,he] at q;cases q),Array.append_empty];exact q
  · have na:a≠e:=fun z=>by rw[z,zg4] at q;cases q
    rw[ze9 na] at q;refine (I.hok a o q).stay (fun _ _ _ z=>z) (fun b z=>?_) fun b xs z=>?_
    · rw[ze9 (fun w=>by rw[w,he] at z;cases z)];exact z
    · rw[ze9 (fun w=>by rw[w,he] at z;cases z)];exact z
end
def zs0 (C:ty1q) (sp:Sp) (dvs:List V) (E E1:XK) (t:TA):TS:=fun _ σ H=>t σ H fun vs H1=>∀e,H1 e=none->sp (.ref e::(vs++dvs)) (upd H1 e (excO e C none)) (fun v H2=>v = .non/\∃dc,H2 e=some (excO e C dc)/\E (.ref C) dc (del H2 e)) E1
section
variable {X:Cx}{CX:CXT}{k:Nat}{f C:ty1q}{fd:FuncData}{ps:List Str}{sp:Sp}{dvs:List V}{ds:List ty3q}{E E1:XK}{x:Str}{p pos cpos:Pos}{e:Expr}{es:List Expr}{t:TA}{bm:List ty3q}
theorem zrf (M:XMk X.K C f bm) (F:FnOk X.prog X.w X.K X.mg X.base CX k f fd ps sp) (hr:Room (k+1) X.A) (xe:XeIs X E) (hx:zhe CX X E1) (hg:Gl X x) (hm:X.mg x=some (.ref C)) (hb:Binds X.K fd ps ds) (hd:Vals dvs ds) (hps:ps.length<=1000) (ha:PA X (e::es) t)
    (hdb:(x == ("__debug__" : Str))=false:=by decide) (he:starEach (e::es) X.env=(false,eval e X.env)::starEach es X.env:=by rfl) (hpl:(backTo cpos (starEach es X.env)).any (·.1)=false:=by rfl) :
    PS X (.Raise (some (.Call (.Name x p) (e::es) [] cpos)) none pos) (zs0 C sp dvs E E1 t):=by
  intro pins s σ H D I h;refine zl6 (vI:=.ref f) M.un hr.hd he hpl (zds I hg hm ⟨rfl,thn (ha cpos pins s σ H _ I h) fun us s2 hq0=>?_⟩ hdb);obtain⟨vs,H1,I1,r,q⟩:=hq0;have fr:∀a,s2.heap.objs.size<=a->H1 a=none:=fun a h=>I1.hok.fresh h
  have q0:=q _ (fr _ (al18q _));have l0:=F.len _ _ _ _ q0;rw[al57q,al20q] at l0;have rl:=r.length;refine⟨by rw[al140q];lia,M.obj.in I1.kIn,PySem.W.looks_findIn I1.kIn M.init,fun self=>PySem.W.bind_fn I1.kIn self (beq_iff_eq.mp M.fn),fun h' ex hs hmd=>?_⟩;have hq:=q ex (fr ex hs);obtain⟨t0,h1,_,_⟩:=hmd.there;have I2:=I1.laid (a:=ex) (o:=excO ex C none) (h':=h') (t':=s2.toks) hmd.keeps hs (zpb h1 rfl rfl rfl rfl rfl);have r2:Vals (V.ref ex::(vs++dvs)) (Value.ref ex::(us++ds)):=.cons rfl (r.append hd);have hl:(Value.ref ex::us++ds).length=ps.length:=by
    have e:=r2.length;rw[F.len _ _ _ _ hq] at e;exact e.symm
  refine al154q (al129q (F.run _ X.stack _ _ ⟨Value.ref ex::us,[]⟩ (Value.ref ex::(us++ds)) _ _ E1 (hr.make C us []) (I2.env0.make C us []) (hb _ (Value.ref ex::us) I2.kIn hl) r2 hq) fun r s' hq'=>?_);cases r with
  | error e=>exact hx pins σ _ _ e s' I2 hq'
  | ok fl=>
    cases fl with
    | ret u=>
      obtain⟨v,H',I3,rv,ev,dc,he',hE⟩:=I2.after hq';subst ev;obtain⟨⟨oe,ws,t1,g1,g2,g3,g4,g5,g6⟩,_,_⟩:=(show ObjOk X.prog X.w H' s'.heap ex (excO ex C dc) from I3.hok ex _ he');have I4:=I3.drop he';exact⟨rv,oe,ws,M.obj.in I3.kIn,g1,g2,g4,g6,zlb I4 xe ⟨oe,ws,g1,g2,g3,g4,g6,zg4,al44q I1.sz hs⟩ hE⟩
    | next=>exact False.elim hq'
    | brk=>exact False.elim hq'
    | cont=>exact False.elim hq'
end
section
variable {M:Model}{A:Around}{E:ty90q}{s:ty2q}
theorem zpc {base:Heap}{env:Env}{outer:List Env}{L e T:ty1q}{oe oT:Obj}{vs ts:Array ty3q}{Q:Unit->ty2q->Prop}
    (hfr:A.frames=some (env::outer)) (hl:s.heap.FunFrames base (env::outer)) (hf:env.frame=some L) (he:s.heap.get? e=some oe) (hd:oe.data = .fields vs) (h1:vs[1]? = some (.ref T))
    (hT:s.heap.get? T=some oT) (dT:oT.data = .fields ts) (h3:ts[3]? = some .none) (ne:T≠e)
    (k:∀h',Gone (frs (env::outer)) e s.heap.objs.size [T] oe vs s.heap h'->Q () { s with heap:=h' }) :
    wpAny M A (noteFrame (.ref e) env) (fun _ s'=>wpAny M A (setFlight (.ref e) none) Q E s') E s:=by
  unfold noteFrame;simp only [hf];refine al0q (al142q he hd h1 ?_);rw[al11q (show (Value.ref T != Value.none)=true from by simp)];refine al0q (al142q hT dT h3 ?_);rw[al7q (show ¬((Value.none == rawInt L)=true) from by simp[rawInt])];have z3:=(al38q.mp h3).1;refine al0q (al71q hT dT z3 ?_);have oth:∀b,b≠T->(s.heap.update T (Obj.mapFields (·.setIfInBounds 3 Value.none))).get? b=s.heap.get? b:=fun b hb=>al29q _ _ (al36q hb)
  have self:=al31q (Obj.mapFields (·.setIfInBounds 3 Value.none)) hT (al62q (al59q dT _));have nf:T ∉ frs (env::outer):=fun hm=>by
    obtain⟨_,o,ho,hn⟩:=hl.mem hm;rw[hT] at ho;cases ho;exact hn ts dT
  have sz:(s.heap.update T (Obj.mapFields (·.setIfInBounds 3 Value.none))).objs.size=s.heap.objs.size:=Heap.size_after_update ..;refine entry_new (s:={ s with heap:=s.heap.update T (Obj.mapFields (·.setIfInBounds 3 Value.none)) }) hfr (hl.of_keeps fun b o hb hn=>⟨o,(oth b fun z=>?_).trans hb,rfl⟩) hf ((oth e ne.symm).trans he) hd (al38q.mp h1).1 fun h' G=>?_
  · subst z;rw[hT] at hb;cases hb;exact hn ts dT
  · have e1:(s.heap.update T (Obj.mapFields (·.setIfInBounds 3 Value.none))).objs.size=s.heap.objs.size:=sz;have G:=G;dsimp only at G;rw[e1] at G;refine k h' ⟨fun b o hb hn hx q=>G.keep b o hb hn (by simp) ((oth b fun z=>hx (by simp[z])).trans q),fun b o hb q=>G.slot b o hb ((oth b fun z=>nf (z▸hb)).trans q),al81q (al18q _),G.exc,G.ent⟩
end
def Met (X:Cx) (pins:ty91q) (H:Hp) (h:Heap) (e:ty1q) (cls:ty3q) (dc:Option ty1q):Prop:=
  ∃(oe:Obj) (vs:Array ty3q) (T:ty1q) (oT:Obj) (ts:Array ty3q),h.get? e=some oe/\oe.cls=cls/\oe.dict=dc/\oe.data = .fields vs/\vs[1]? = some (.ref T)/\T≠e/\h.get? T=some oT/\oT.data = .fields ts/\ts[3]? = some .none/\FpOk X pins H e/\FpOk X pins H T
section
variable {X:Cx}{pins:ty91q}{σ:St}{H:Hp}{s:ty2q}{E:XK}
theorem zue {Q:Unit->ty2q->Prop}{E':ty90q}{u:ty3q}{s':ty2q}(I:Inv X pins σ H s) (x2:X.stack=X.env::X.outer) (x3:X.env.frame=some X.env.locals) (h:CX1 X.prog X.w X.stack H s E u s')
    (k:∀e cls dc H' h',u = .ref e->Inv X pins σ H' { s' with heap:=h' }->Met X pins H' h' e cls dc->E cls dc H'->Q () { s' with heap:=h' }) :
    wpAny (model X.prog X.w) X.A (noteFrame u X.env) (fun _ s1=>wpAny (model X.prog X.w) X.A (setFlight u none) Q E' s1) E' s':=by
  obtain⟨e,cls,dc,H',rfl,os,bare,un,hok,fl,hE⟩:=h;have I':=I.call' os un hok bare (ch:=[]) (fun b z=>absurd z (by simp));obtain⟨oe,vs,T,oT,ts,he,hc,hdc,hd,h1,hTe,hT,dT,h3,He,HT,ne,nT⟩:=fl;have fr:=I'.ok.frames;have st:=I'.stack;rw[x2] at fr st;refine zpc fr st x3 he hd h1 hT dT h3 hTe fun h' G=>?_
  have F1:FpOk X pins H' e:=I.fpOk ne He;have F2:FpOk X pins H' T:=I.fpOk nT HT;have sf:∀b∈frs (X.env::X.outer),H' b=none:=by
    have:=I'.stkFree;rw[x2] at this;exact this
  have U:Un (frs X.stack) [e,T] H' H' s'.heap h':=by
    rw[x2];refine⟨fun b o q n nf nx=>G.keep b o (fun z=>nx (by simp[z])) nf (fun z=>nx (by rw[al74q.mp z];simp)) q,fun b o q n hb nx=>G.slot b o hb q,fun b o q n _=>n,fun b o q nx=>?_,fun _ _ z=>z,fun _ _ _ z=>z,fun _ ps z=>⟨#[],by rw[Array.append_empty];exact z⟩⟩
    by_cases hb:b∈frs (X.env::X.outer)
    · obtain⟨sl,z⟩:=G.slot b o hb q;exact⟨_,z⟩
    · exact⟨o,G.keep b o (fun z=>nx (by simp[z])) hb (fun z=>nx (by rw[al74q.mp z];simp)) q⟩
  have hok':HOk X.prog X.w H' h':=fun a o q=>by
    refine (hok a o q).stay (fun b u hb z=>?_) (fun _ z=>z) fun _ _ z=>z
    have Hb:H' b≠none:=by
      rcases hb with z | z
      · rw[z,q];simp
      · rw[z];simp
    exact G.keep b u (fun z=>Hb (z▸He)) (fun z=>Hb (sf b z)) (fun z=>Hb (by rw[al74q.mp z];exact HT)) z
  have I2:Inv X pins σ H' { s' with heap:=h' }:=I'.call' (s':={ s' with heap:=h' }) (ch:=[e,T]) rfl U hok' I'.bare fun b hb=>by
    have F:FpOk X pins H' b:=by
      rcases al14q.mp hb with z | z
      · rw[z];exact F1
      · rw[al74q.mp z];exact F2
    exact⟨F.2.2.2.1,F.2.1,F.2.2.2.2.1,F.2.2.2.2.2⟩
  obtain⟨oT',ts',t1,t2,t3⟩:=G.ent;have hTn:s'.heap.objs.size≠e:=al143q (al13q he);exact k e cls dc H' h' rfl I2 ⟨_,_,s'.heap.objs.size,oT',ts',G.exc,hc,hdc,rfl,by simp[(al38q.mp h1).1],hTn,t1,t2,t3,F1,I'.fpOk (al18q _) (hok.fresh (al18q _))⟩ hE
end
structure XCatch (K:ty0q) (D:ty1q):Prop where
  nt:PySem.W.instIn K (.ref D) (.type "tuple")=some false
  ty:PySem.W.isClsIn K D=true
  ex:PySem.W.mroIn K D (.type "BaseException")=some true
section
variable {M:Model}{A:Around}{E:ty90q}{s:ty2q}{K:ty0q}{e C D:ty1q}{oe:Obj}{b:Bool}
theorem zrg {Q:Bool->ty2q->Prop}(X:K.In s.heap) (he:s.heap.get? e=some oe) (hc:oe.cls = .ref C) (cd:XCatch K D) (hs:PySem.W.mroIn K C (.ref D)=some b) (h:Q b s):wpAny M A (excMatches (.ref e) (.ref D)) Q E s:=by
  have L1:=PySem.W.looks_instIn (M:=M) X cd.nt;have L3:=PySem.W.looks_mroIn (M:=M) X cd.ex;have L4:=PySem.W.looks_mroIn (M:=M) X hs;have L5:PySem.W.Looks M s.heap (typeOf (.ref e)) (.ref C):=hc▸(PySem.W.Looks.ld he).andThen .now;unfold excMatches;refine al0q (L1.here ?_);dsimp only;rw[al7q (by decide)];refine al0q (al2q ?_);simp only [al147q,List.forIn_nil];have L6:PySem.W.Looks M s.heap (isExcClass (.ref D)) true:=by
    unfold isExcClass;refine PySem.W.Looks.andThen (a:=true) ?_ ?_
    · obtain⟨c,hc⟩:=Option.isSome_iff_exists.mp cd.ty;unfold PySem.W.clsIn at hc;split at hc
      · rename_i hk;exact (PySem.W.Looks.ld (part:=_) (X _ _ hk)).andThen .now
      · cases hc
    · exact L3
  refine al0q (al0q (al0q (L6.here ?_)));rw[al7q (by decide)];refine al2q (al2q (al0q (L5.here (al0q (al0q (al0q (L4.here ?_)))))));cases b with
  | true=>rw[al11q rfl];exact al2q (al2q (al2q h))
  | false=>rw[al7q (by decide)];exact al2q (al2q (al2q h))
end
def Cx.inTry (X:Cx) (pn:ty91q) (xe:ty90q):Cx:={ X with pn:=pn,xe:=xe }
def Cx.inSuite (X:Cx) (v:ty3q) (xe:ty90q):Cx:={ X with A:=X.A.mark (some v),calm:=false,xe:=xe }
structure XFn (X:Cx):Prop where
  st:X.stack=X.env::X.outer
  fr:X.env.frame=some X.env.locals
  ex:X.ex = []
def zwi (X:Cx) (Es:St->XK):Prop:=∀(pins:ty91q) (σ:St) (H:Hp) (s:ty2q) (u:ty3q) (s':ty2q),Inv X pins σ H s->CX1 X.prog X.w X.stack H s (Es σ) u s'->X.xe u s'
abbrev TH:=Ends->St->ty1q->Option ty1q->Hp->Prop
def PH (X:Cx) (hs:List ExceptHandler) (th:TH):Prop:=
  ∀(pins:ty91q) (s:ty2q) (σ:St) (H:Hp) (D:Ends) (e C:ty1q) (dc:Option ty1q),Inv X pins σ H s->Met X pins H s.heap e (.ref C) dc->th D σ C dc H->wpAny (model X.prog X.w) X.A (handleBy (.ref e) X.env hs) (SP X pins D) X.xe s
def zxt:TH:=fun _ _ _ _ _=>False
def thNo (K:ty0q) (Dc:ty1q) (ts:TS) (thr:TH):TH:=fun D σ C dc H=>∃b,PySem.W.mroIn K C (.ref Dc)=some b/\
  if b=true then ts D σ H else thr D σ C dc H
def sTry (tb:(St->XK)->TS) (th:TH):TS:=fun D σ H=>tb (fun σ' cls dc H'=>∃C,cls = .ref C/\th D σ' C dc H') D σ H
def zwj (sp:Sp) (dvs:List V) (Es:St->XK) (t:TA):TE:=fun σ H Q=>t σ H fun vs H1=>sp (vs++dvs) H1 Q (Es σ)
section
variable {X:Cx}{pins:ty91q}{σ:St}{H:Hp}{s:ty2q}
theorem zij {v:ty3q}{xe:ty90q}(I:Inv X pins σ H s):Inv (X.inSuite v xe) pins σ H s:=
  ⟨⟨I.ok.mod,I.ok.kind,I.ok.glob,I.ok.blt,I.ok.above,I.ok.inj,I.ok.has,I.ok.cab,(fun z=>absurd z al19q),I.ok.frames,I.ok.stk,I.ok.exf,I.ok.bs,I.ok.bsz,I.ok.noex,I.ok.exfs,I.ok.funs,I.ok.frf⟩,
    I.os,I.bare,I.base,I.loc,I.cell,I.free,I.freeC,I.pin,I.hok,I.len⟩
theorem zca {v:ty3q}{xe:ty90q}(ok:X.Ok) (I:Inv (X.inSuite v xe) pins σ H s):Inv X pins σ H s:=⟨ok,I.os,I.bare,I.base,I.loc,I.cell,I.free,I.freeC,I.pin,I.hok,I.len⟩
theorem zuf {xe:ty90q}(I:Inv X pins σ H s):Inv (X.inTry (X.pn++pins) xe) [] σ H s:=
  ⟨⟨I.ok.mod,I.ok.kind,I.ok.glob,I.ok.blt,I.ok.above,I.ok.inj,I.ok.has,I.ok.cab,I.ok.hd,I.ok.frames,I.ok.stk,I.ok.exf,I.ok.bs,I.ok.bsz,I.ok.noex,I.ok.exfs,I.ok.funs,I.ok.frf⟩,
    I.os,I.bare,I.base,I.loc,I.cell,I.free,I.freeC,fun p hp=>I.pin p ((al28q.mp hp).elim id fun z=>absurd z (by simp)),I.hok,I.len⟩
theorem zcp {pins':ty91q}{xe:ty90q}(ok:X.Ok) (I:Inv (X.inTry (X.pn++pins) xe) pins' σ H s):Inv X pins σ H s:=
  ⟨ok,I.os,I.bare,I.base,I.loc,I.cell,I.free,I.freeC,fun p hp=>I.pin p (al55q _ hp),I.hok,I.len⟩
end
section
variable {X:Cx}{CX:CXT}{k i:Nat}{f Dc:ty1q}{ps:List Str}{sp:Sp}{x n:Str}{p pos hpos:Pos}{e:Expr}{es:List Expr}{t:TA}{Es:St->XK}{b₀:Stmt}{suite body:List Stmt}{h₀:ExceptHandler}{rest hs:List ExceptHandler}{ts:TS}{thr th:TH}{tb:(St->XK)->TS}
theorem zs1 (F:HasX X.prog X.w X.K X.mg X.base x ps k sp) (xe:zwi X Es) (hr:Room k X.A) (hg:Gl X x) (ha:PA X (e::es) t) (hdb:(x == ("__debug__" : Str))=false:=by decide)
    (he:starEach (e::es) X.env=(false,eval e X.env)::starEach es X.env:=by rfl) (hpl:(backTo pos (starEach es X.env)).any (·.1)=false:=by rfl):PE X (.Call (.Name x p) (e::es) [] pos) (zwj sp [] Es t):=by
  obtain⟨f,fd,a,kp,_,b,G⟩:=F;intro pins s σ H Q I h;refine al176q (zds I hg a ?_ hdb);refine PySem.W.callWith_K (h₀:=X.base) I.ok.mod.kin kp (thn (ha pos pins s σ H _ I h) fun us s1 ⟨vs,H1,I1,r,q⟩=>⟨I1.kIn,?_⟩) he hpl;have r2:Vals (vs++[]) (us++[]):=r.append .nil;have hl:(us++[]).length=ps.length:=by rw[←r2.length];exact G.len _ _ _ _ q
  refine al154q (al129q (G.run X.A X.stack s1 H1 ⟨us,[]⟩ (us++[]) (vs++[]) Q (Es σ) hr I1.env0 ((Binds.all b) s1 us I1.kIn hl) r2 q) fun r s' hq=>?_);cases r with
  | error e=>exact xe pins σ H1 s1 e s' I1 hq
  | ok fl=>
    cases fl with
    | ret u=>exact I1.after hq
    | next=>exact False.elim hq
    | brk=>exact False.elim hq
    | cont=>exact False.elim hq
theorem zs2 (x:XFn X) (hb:∀pn xe (Es:St->XK),zwi (X.inTry pn xe) Es->PSs (X.inTry pn xe) body (tb Es)) (hh:PH X (h₀::hs) th):PS X (.Try body (h₀::hs) [] [] pos) (sTry tb th):=by
  intro pins s σ H D I h;refine wpAny_Try_except ?_;refine al49q (hb (X.pn++pins) (fun e s₁=>wpAny (model X.prog X.w) X.A (noteFrame e X.env) (fun _ s₂=>wpAny (model X.prog X.w) X.A (setFlight e none) (fun _ s₃=>wpAny (model X.prog X.w) X.A (handleBy e X.env (h₀::hs)) (SP X pins D) X.xe s₃) X.xe s₂) X.xe s₁)
    (fun σ' cls dc H'=>∃C,cls = .ref C/\th D σ' C dc H') (fun pins' σ' H' s' u s'' I' hcx=>?_) [] s σ H D (zuf I) h) (fun fl s1 q=>?_) fun _ _ z=>z
  · refine zue (zcp I.ok I') x.st x.fr hcx fun e cls dc H2 h' hu I2 met hE=>?_
    subst hu;obtain⟨C,rfl,hth⟩:=hE;exact hh pins _ σ' H2 D e C dc I2 met hth
  · cases fl with
    | next=>
      obtain⟨σ',H',J,q⟩:=q;exact al173q ⟨σ',H',zcp I.ok J,q⟩
    | brk=>
      obtain⟨σ',H',J,q⟩:=q;exact⟨σ',H',zcp I.ok J,q⟩
    | cont=>
      obtain⟨σ',H',J,q⟩:=q;exact⟨σ',H',zcp I.ok J,q⟩
    | ret u=>
      obtain⟨v,σ',H',J,r,q⟩:=q;exact⟨v,σ',H',zcp I.ok J,r,q⟩
theorem zs3:PH X [] zxt:=fun _ _ _ _ _ _ _ _ _ _ h=>h.elim
theorem zwk (xf:XFn X) (hg:Gl X x) (hm:X.mg x=some (.ref Dc)) (cd:XCatch X.K Dc)
    (hsu:∀v xe,PSs (X.inSuite v xe) (b₀::suite) ts) (hr:PH X rest thr) (hdb:(x == ("__debug__" : Str))=false:=by decide) :
    PH X (.ExceptHandler (some (.Name x p)) none (b₀::suite) hpos::rest) (thNo X.K Dc ts thr):=by
  intro pins s σ H D e C dc I met h;obtain⟨oe,vs,T,oT,tvs,he,hc,hdc,hd,h1,hTe,hT,dT,h3,F1,F2⟩:=met;obtain⟨b,hb,h⟩:=h;refine wpAny_handleBy_cons (codeAny_handlers_test (zds (X:=X.inSuite (.ref e) X.xe) (zij I) hg hm ?_ hdb)) (by intro q;cases q);refine zrg (K:=X.K) I.kIn he hc cd hb ?_;cases b with
  | false=>
    rw[al7q (by decide)] at h;exact hr pins s σ H D e C dc I ⟨oe,vs,T,oT,tvs,he,hc,hdc,hd,h1,hTe,hT,dT,h3,F1,F2⟩ h
  | true=>
    rw[al11q rfl] at h;refine codeAny_handlers_suite ?_;refine wpAny_setFlight_none he hd h1 hT dT (al38q.mp h3).1 ?_;have oth:∀b,b≠T->(s.heap.update T (Obj.mapFields (·.setIfInBounds 3 .none))).get? b=s.heap.get? b:=fun b hb=>al29q _ _ (al36q hb)
    have I1:Inv X pins σ H { s with heap:=s.heap.update T (Obj.mapFields (·.setIfInBounds 3 .none)) }:=I.turnedL (t':=s.toks) (ch:=[T]) (fun b o hb q=>by rw[oth b (fun z=>hb (by simp[z]))];exact q) fun b hb=>by rw[al74q.mp hb];exact F2
    refine thn (hsu (.ref e) _ pins _ _ _ D (zij I1) h) fun fl s3 q=>?_
    cases fl with
    | next=>
      obtain⟨σ',H',J,q⟩:=q;exact⟨_,H',zca I.ok J,q⟩
    | brk=>
      obtain⟨σ',H',J,q⟩:=q;exact⟨_,H',zca I.ok J,q⟩
    | cont=>
      obtain⟨σ',H',J,q⟩:=q;exact⟨_,H',zca I.ok J,q⟩
    | ret u=>
      obtain⟨v,σ',H',J,r,q⟩:=q;exact⟨v,_,H',zca I.ok J,r,q⟩
end
end L2
namespace L2
def XOk (K:ty0q) (C:PySem.Addr):Prop:=∃bm,XObjK K C bm/\UnderV bm
end L2
namespace L2
open PySem
def zld (K:ty0q) (C:ty1q):Bool:=match K.lookup C with
  | some ⟨.type t,_,.cls cd,sl⟩=>t == "type" && ((match cd.mro with | .ref c::bm=>c == C&&(bm.contains (.type "ValueError")&&(bm.contains (.type "BaseException")&&(!bm.contains (.type "AttributeError") && !bm.contains (.type "NameError")))) | _=>false)&&(!cd.hasDel &&
      (match sl.toList with | [_,_,_,_,some (.builtin i),_]=>i == "ValueError.__new__" | _=>false)))
  | _=>false
theorem zwl {K:ty0q}{C:ty1q}(h:zld K C=true):XOk K C:=by
  unfold zld at h;split at h
  · rename_i t dd cd sl hk;rw[al42q,al42q,al42q] at h;obtain⟨h1,h2,h3,h4⟩:=h;split at h2
    · rename_i c bm hm;split at h4
      · rename_i k0 k1 k2 k3 i k5 hs;simp only [al42q,beq_iff_eq,Bool.not_eq_true'] at h1 h2 h3 h4;obtain⟨rfl,a1,a2,a3,a4⟩:=h2;subst h1 h4;refine⟨bm,⟨cd.name,cd.qualname,cd.ns,cd.bases,cd.hasDict,cd.slotNames,cd.subclasses,cd.abstract,cd.collection,dd,k0,k1,k2,k3,k5,?_⟩,⟨a1,a2,a3,a4⟩⟩;rw[hk];obtain⟨x1,x2,x3,x4,x5,x6,x7,x8,x9,y1,y2⟩:=cd;dsimp only at hm h3;subst hm h3;obtain⟨l⟩:=sl;dsimp only at hs;subst hs;rfl
      · cases h4
    · cases h2
  · cases h
end L2
namespace L2
open PySem PySem.Spec PyProof.Rows
end L2
namespace L2
open PySem
def xchk (C:ty1q) (o:Obj):Bool:=(match o with
  | ⟨.type t,_,.cls cd,sl⟩=>t == "type" && ((match cd.mro with | .ref c::bm=>c == C&&(bm.contains (.type "ValueError")&&(bm.contains (.type "BaseException")&&(!bm.contains (.type "AttributeError") && !bm.contains (.type "NameError")))) | _=>false)&&(!cd.hasDel &&
      (match sl.toList with | [_,_,_,_,some (.builtin i),_]=>i == "ValueError.__new__" | _=>false)))
  | _=>false)&&(match o.data with | .cls cd=>zfp cd.mro | _=>false)
theorem zpd {K:ty0q}{C:ty1q}{c0:ty3q}{dd:Option ty1q}{cd:ClassData}{sl:Array (Option ty3q)}(l:K.lookup C=some ⟨c0,dd,.cls cd,sl⟩) (h:xchk C ⟨c0,dd,.cls cd,sl⟩=true):zld K C=true/\zju K C=true:=by
  unfold xchk at h;rw[al42q] at h;refine⟨?_,?_⟩
  · unfold zld;rw[l];cases c0<;>first | exact h.1 | (have:=h.1;cases this)
  · unfold zju PySem.W.clsIn;rw[l];exact h.2
theorem xcls_of {K:ty0q}{C:ty1q}{c0:ty3q}{dd:Option ty1q}{cd:ClassData}{sl:Array (Option ty3q)}(l:K.lookup C=some ⟨c0,dd,.cls cd,sl⟩) (h:xchk C ⟨c0,dd,.cls cd,sl⟩=true) (h1:PySem.W.hasDictIn K C=true)
    (h2:PySem.W.findIn K (.ref C) "__setattr__" = some (some (.builtin "object.__setattr__"))):XCls K C:=⟨h1,(zpd l h).2,h2⟩
theorem xok_at {K:ty0q}{C:ty1q}{c0:ty3q}{dd:Option ty1q}{cd:ClassData}{sl:Array (Option ty3q)}(l:K.lookup C=some ⟨c0,dd,.cls cd,sl⟩) (h:xchk C ⟨c0,dd,.cls cd,sl⟩=true):XOk K C:=zwl (zpd l h).1
end L2
namespace L2
open PySem PySem.Spec PyProof.Rows
section
variable {X:Cx}{k:Nat}{C:ty1q}{ps:List Str}{sp:Sp}{E:XK}{x:Str}{p pos cpos:Pos}{e:Expr}{es:List Expr}{t:TA}
theorem zpe (M:HasM X.prog X.w X.K X.mg X.base C "__init__" ps k sp) (xo:XOk X.K C) (hr:Room (k+1) X.A) (xe:XeIs X E) (hg:Gl X x) (hm:X.mg x=some (.ref C)) (hps:ps.length<=1000) (ha:PA X (e::es) t)
    (hdb:(x == ("__debug__" : Str))=false:=by decide) (he:starEach (e::es) X.env=(false,eval e X.env)::starEach es X.env:=by rfl) (hpl:(backTo cpos (starEach es X.env)).any (·.1)=false:=by rfl) :
    PS X (.Raise (some (.Call (.Name x p) (e::es) [] cpos)) none pos) (zs0 C sp [] E (fun _ _ _=>False) t):=by
  obtain⟨f,fd,m,b,F⟩:=M;obtain⟨bm,xo,U⟩:=xo;exact zrf ⟨xo,U,m.at_,m.fn⟩ F hr xe (fun _ _ _ _ _ _ _ z=>z.elim) hg hm (.all b) .nil hps ha hdb he hpl
end
section
variable {prog:ty4q}{w:World}{A:Around}{E:ty90q}{s:ty2q}{env:Env}{bm:List ty3q}
theorem zjw {x:Str}{C:ty1q}{vI:ty3q}{np cpos pos:Pos}{Q:Flow->ty2q->Prop}(U:UnderV bm) (hh:A.handled=none)
    (k:wpAny (model prog w) A (eval (.Name x np) env) (fun f s2=>f = .ref C/\XObj s2.heap C bm/\PySem.W.Looks (model prog w) s2.heap (typeLookup (.ref C) "__init__") (some vI)/\(∀self,PySem.W.Looks (model prog w) s2.heap (bindSpecial vI self) (vI,[self]))/\
        ∀h' e,s2.heap.objs.size<=e->Heap.MadeExcOf s2.heap h' e (.ref C) []->wpAny (model prog w) (A.under (.builtin "type.__call__" ⟨[.ref C],[]⟩)) (call vI [.ref e])
          (fun r s3=>r = .none/\∃oe vs,XObj s3.heap C bm/\s3.heap.get? e=some oe/\oe.cls = .ref C/\oe.data = .fields vs/\vs[1]? = some .none/\E (.ref e) s3) E { s2 with heap:=h' }) E s) :
    wpAny (model prog w) A (exec (.Raise (some (.Call (.Name x np) [] [] cpos)) none pos) env) Q E s:=by
  rw[arm_exec_Raise];simp only [evalOpt,Option.map];refine al0q (al114q (zgi U hh (al0q (al49q (wpAny_Call_ofName (al49q k (fun f s2 k2=>?_) fun _ _ z=>z)) (fun v s3 k3=>al0q (al114q (al2q k3))) fun _ _ z=>z))));obtain⟨rfl,xo,lk,bd,go⟩:=k2;unfold callWith;refine al0q (al47q (PySem.evalArgs_none (al0q (al114q ?_))));obtain⟨hp,g,d,tk,os⟩:=s2;have any:(backTo cpos (starEach [] env)).any (·.1)=false:=rfl;simp only [any];have xo':=xo;obtain⟨a1,a2,a3,a4,a5,a6,a7,a8,a9,b1,b2,b3,b4,b5,b6,o⟩:=xo';refine al0q (wpAny_keeperOf_exc o ?_);refine al0q (zla (us:=[]) U xo (al73q _) lk bd fun h' e hs hm=>al49q (go h' e hs hm) (fun r s3 q=>?_) fun _ _ z=>z);obtain⟨r0,oe,vs,q⟩:=q;exact⟨r0,al0q (al47q (wpAny_point (al2q ⟨e,C,oe,vs,rfl,q⟩)))⟩
end
def zug (C:ty1q) (E:XK):TS:=fun _ _ H=>E (.ref C) none H
section
variable {X:Cx}{k:Nat}{C:ty1q}{E:XK}{x:Str}{p pos cpos:Pos}
theorem zpf (xo:XOk X.K C) (hi:PySem.W.findIn X.K (.ref C) "__init__" = some (some (.builtin "ValueError.__init__"))) (hr:Room k X.A) (xe:XeIs X E) (hg:Gl X x) (hm:X.mg x=some (.ref C)) (hdb:(x == ("__debug__" : Str))=false:=by decide) :
    PS X (.Raise (some (.Call (.Name x p) [] [] cpos)) none pos) (zug C E):=by
  obtain⟨bm,xo,U⟩:=xo;intro pins s σ H D I h;have F:=PySem.F.excBase_ValueError;refine zjw (vI:=.builtin "ValueError.__init__") U hr.hd (zds I hg hm ⟨rfl,xo.in I.kIn,PySem.W.looks_findIn I.kIn hi,fun self=>PySem.W.Looks.of_pure (F.init.bind self),fun h' e hs hmd=>?_⟩ hdb);obtain⟨t0,h1,_,_⟩:=hmd.there;have I2:Inv X pins σ H { s with heap:=h' }:=I.kept (t':=s.toks) hmd.keeps;have Fp:FpOk X pins H e:=I.fpOk hs (I.hok.fresh hs);obtain⟨hp,g,d,tk,os⟩:=s;refine zwf (us:=[]) U (xo.in I2.kIn) (al73q _) h1 rfl rfl rfl fun h'' kk hx=>?_
  have I3:Inv X pins σ H { heap:=h'',gens:=g,drawn:=d,toks:=tk,os:=os }:=I2.turnedL (t':=tk) (ch:=[e]) (fun b o hb q=>kk b o (fun z=>hb (by simp[z])) q) fun b hb=>by rw[al74q.mp hb];exact Fp
  exact⟨rfl,_,_,xo.in I3.kIn,hx,rfl,rfl,rfl,zlb I3 xe ⟨_,_,hx,rfl,rfl,rfl,rfl,Fp.1,al44q I.sz hs⟩ h⟩
end
open Sem (wp)
namespace Rv
theorem slot_next:Slot "list_reverseiterator" "__next__" "list_reverseiterator.__next__":=
  .of (owner:="list_reverseiterator") (n:="__next__") (by rw[al174q,al121q];kernel_rfl) (by decide +kernel) (by decide +kernel) (by decide +kernel)
    (by first | exact .inl (by decide +kernel) | exact .inr (by decide +kernel)) (by rw[al97q];kernel_rfl)
theorem slot_iter:Slot "list_reverseiterator" "__iter__" "list_reverseiterator.__iter__":=
  .of (owner:="list_reverseiterator") (n:="__iter__") (by rw[al174q,al121q];kernel_rfl) (by decide +kernel) (by decide +kernel) (by decide +kernel)
    (by first | exact .inl (by decide +kernel) | exact .inr (by decide +kernel)) (by rw[al97q];kernel_rfl)
theorem entry_next:entryFor table "list_reverseiterator.__next__" = some Builtin.«list_reverseiterator.__next__»:=al190q (by kernel_rfl)
theorem entry_iter:entryFor table "list_reverseiterator.__iter__" = some Builtin.«dict_keyiterator.__iter__»:=
  entryFor_alias (id':="dict_keyiterator.__iter__") (by kernel_rfl) (by first | rfl | decide +kernel | (unfold String.splitOn;simp +decide [String.splitOnAux])) (by decide +kernel) (by kernel_rfl)
theorem owner:Manifest.owners.lookup (String.ofList ['r','o','t','a','r','e','t','i','e','s','r','e','v','e','r','_','t','s','i','l'].reverse)=some Manifest.sig_list_reverseiterator:=by kernel_rfl
theorem args_next (a:ty3q):argsOk "list_reverseiterator.__next__" ⟨[a],[]⟩:=by
  unfold argsOk;rw[signature?_of (id:="list_reverseiterator.__next__") (n:="__txen__".toList) (o:="rotaretiesrever_tsil".toList) (by kernel_rfl) owner]
  kernel_rfl
theorem args_iter (a:ty3q):argsOk "list_reverseiterator.__iter__" ⟨[a],[]⟩:=by
  unfold argsOk;rw[signature?_of (id:="list_reverseiterator.__iter__") (n:="__reti__".toList) (o:="rotaretiesrever_tsil".toList) (by kernel_rfl) owner]
  kernel_rfl
theorem mro_reversed:mroOf (.type "reversed")=pure [.type "reversed",.type "object"]:=by rw[mroOf_type];kernel_rfl
theorem zl9:typeLookup (.type "reversed") "__new__" = pure (some (.builtin "reversed.__new__")):=by rw[al174q,al121q];kernel_rfl
theorem made:Bind.madeBy (.type "reversed")=pure (some "reversed.__new__"):=madeBy_type mro_reversed zl9 (by decide +kernel)
theorem typeCall (a:ty3q):checkTypeCall "reversed" ⟨[a],[]⟩=pure ():=by kernel_rfl
theorem newCall (a:ty3q):checkBuiltinCall "reversed.__new__" ⟨[.type "reversed",a],[]⟩=pure ():=by kernel_rfl
theorem entry_new:entryFor table "reversed.__new__" = some Builtin.«reversed.__new__»:=al190q (by kernel_rfl)
theorem sub_no:isSubtype (.type "list_reverseiterator") (.type "reversed")=pure false:=by rw[al97q];kernel_rfl
theorem sub_self:isSubtype (.type "reversed") (.type "reversed")=pure true:=by rw[al97q];kernel_rfl
theorem sub_dict:isSubtype (.type "dict") (.type "dict")=pure true:=by rw[al97q];kernel_rfl
end Rv
def IsRev (h:Heap) (it l:ty1q) (j:Int):Prop:=∃o,h.get? it=some o/\o.cls = .type "list_reverseiterator"/\o.data = .fields #[.ref l,.int j 0]
theorem IsRev.typeIs {s:ty2q}{it l:ty1q}{j:Int}(x:IsRev s.heap it l j):s.TypeIs (.ref it) "list_reverseiterator":=let ⟨o,ho,hc,_⟩:=x;⟨o,ho,hc⟩
theorem IsRev.at {h h':Heap}{it l:ty1q}{j:Int}(x:IsRev h it l j) (e:∀o,h.get? it=some o->h'.get? it=some o):IsRev h' it l j:=let ⟨o,ho,r⟩:=x;⟨o,e _ ho,r⟩
section
variable {prog:ty4q}{w:World}{A:Around}{E:ty90q}{s:ty2q}
theorem zle {it l:ty1q}{j:Int}{Q:ty90q}(hit:IsRev s.heap it l j) (h:Q (.ref it) s):wpAny (model prog w) A (pyIter (.ref it)) Q E s:=by
  refine al183q hit.typeIs Rv.slot_iter (al50q Rv.slot_iter hit.typeIs Rv.entry_iter ?_ (Rv.args_iter _));show wpAny _ _ (ret (.ref it)) _ _ s;exact al2q ⟨_,rfl,"list_reverseiterator",_,hit.typeIs,Rv.slot_next.lookup,h⟩
theorem zrh {it l:ty1q}{j:Nat}{items:Array ty3q}{x:ty3q}{Q:Option ty3q->ty2q->Prop}(hit:IsRev s.heap it l (j:Int)) (hl:s.heap.IsList l items) (hx:items[j]? = some x)
    (hQ:∀h',IsRev h' it l ((j:Int)-1)->Heap.SameBut it s.heap h'->Q (some x) { s with heap:=h' }):wpAny (model prog w) A (pyNext (.ref it)) Q E s:=by
  obtain⟨o,ho,hc,hd⟩:=id hit;obtain⟨ol,hol,_,nl,hdl⟩:=hl;unfold pyNext;refine al0q (al133q (al70q (name:=Str.ofString "__next__") hit.typeIs Rv.slot_next (al50q Rv.slot_next hit.typeIs Rv.entry_next ?_ (Rv.args_next _))));show wpAny _ _ (field (.ref it) 1 >>= _) _ _ s;refine al0q (al142q ho hd (x:=.int j 0) rfl ?_);show wpAny _ _ (if (j:Int)<0 then _ else _) _ _ s;rw[al7q (by lia)];show wpAny _ _ (field (.ref it) 0 >>= _) _ _ s;refine al0q (al142q ho hd (x:=.ref l) rfl ?_);refine al0q (al88q hol hdl ?_);simp only [al150q,hx];refine al0q (al71q ho hd (by simp) (al2q ⟨x,rfl,al2q (hQ _ ?_ (al65q ..))⟩));exact⟨_,al31q _ ho (al62q (al59q hd _)),(Obj.cls_mapFields ..).trans hc,by rw[al59q hd];simp[rawInt]⟩
theorem zuh {it l:ty1q}{j:Int}{Q:Option ty3q->ty2q->Prop}(hh:A.handled=none) (hit:IsRev s.heap it l j) (hj:j<0)
    (hQ:∀h',(∀b o,s.heap.get? b=some o->h'.get? b=some o)->Q none { s with heap:=h' }):wpAny (model prog w) A (pyNext (.ref it)) Q E s:=by
  obtain⟨o,ho,hc,hd⟩:=id hit;unfold pyNext;refine al0q (al133q (al70q (name:=Str.ofString "__next__") hit.typeIs Rv.slot_next (al50q Rv.slot_next hit.typeIs Rv.entry_next ?_ (Rv.args_next _))));show wpAny _ _ (field (.ref it) 1 >>= _) _ _ s;refine al0q (al142q ho hd (x:=.int j 0) rfl ?_);show wpAny _ _ (if j<0 then _ else _) _ _ s;rw[al11q hj];refine al0q (al102q (al0q ?_));show wpAny _ _ (newExc (.type "StopIteration") [] >>= _) _ _ _;refine al0q ?_;simp only [newExc,newTuple];refine al0q (al40q ?_ (by size_fits));refine al0q (m:=firstArgMember _ _) (al159q (a:=Value.none) (by first | rfl | (simp only [firstArgMember];rfl)) ?_);refine al40q ?_ (by size_fits);simp only [raiseNew];refine al0q (wpAny_handled ?_);rw[show A.in1.handled=none from hh];refine al0q (al2q (wpAny_throw ?_));refine al0q (al93q (T:="StopIteration") (b:=true) ⟨_,al12q _ rfl,rfl⟩ isSubtype_stop ?_);exact al2q (hQ _ fun b o e=>al4q _ (al4q _ e))
end
def Irv (K:ty0q) (a:ty1q) (xs:List V):It:=
  ⟨fun i H=>SqL K H a xs/\i<xs.length,fun i H x H'=>H'=H/\xs.reverse[i]? = some x,fun i _=>xs.length<=i⟩
theorem zri {P:ty4q}{w:World}{K:ty0q}{tg:Expr}(a it:ty1q) (xs:List V):Turn P w K tg (Irv K a xs) [it] it (fun i h=>IsRev h it a ((xs.length:Int)-1-i)) where
  mem:=by simp
  obj:=fun i h st b hb=>by
    have e:b=it:=by simpa using hb
    subst e;obtain⟨o,e,c,d⟩:=st;exact⟨o,e,fun v z=>by rw[d] at z;cases z⟩
  keep:=fun i h h' st k=>st.at fun o e=>k it (by simp) o e
  item:=by
    intro X hP hw hK hc i pins s σ H E I hf st hg;subst hP hw hK;obtain⟨hq,hi⟩:=hg;obtain⟨its,rv,p,hz⟩:=I.list hq;have hx:xs[xs.length-1-i]? = some (xs[xs.length-1-i]'(by lia)):=al3q _;obtain⟨u,hu,ru⟩:=rv.get hx;obtain⟨f0,f1,f2,f3,f4,f5⟩:=hf it (by simp);have ej:(xs.length:Int)-1-i=((xs.length-1-i:Nat):Int):=by lia
    rw[ej] at st;refine zrh st p.isList (x:=u) (by simpa using hu) fun h' st' sb=>?_
    have I1:Inv X pins σ H { s with heap:=h' }:=I.turned (t':=s.toks) (fun b o hb e=>(sb.2 b hb).trans e) f0 f1 f3 f4 f5;obtain⟨o,e,c,d⟩:=id st';refine⟨u,rfl,zmy (s:={ s with heap:=h' }) e c d (by decide) ⟨_,H,I1,ru,⟨rfl,?_⟩,?_,fun b hb=>(hf b hb).1⟩⟩
    · rw[List.getElem?_reverse hi];exact hx
    · show IsRev h' it a ((xs.length:Int)-1-(i+1:Nat));have:(xs.length:Int)-1-(i+1:Nat)=((xs.length-1-i:Nat):Int)-1:=by lia
      rw[this];exact st'
  done:=by
    intro X hP hw hK hc i pins s σ H E I hf st hg;subst hP hw hK;have hg:xs.length<=i:=hg;exact zuh (I.ok.hd hc) st (by lia) fun h' eb=>⟨rfl,I.kept (t':=s.toks) eb⟩
  self:=fun _ _ _ _ _ st h=>zle st h
def zma (l:ty1q) (n:Nat):Obj:={ cls:=.type "list_reverseiterator",data:=.fields #[.ref l,rawInt ((n:Int)-1)] }
theorem zmb (l:ty1q) (items:Array ty3q) :
    Meets (Builtin.«list.__reversed__» ⟨[.ref l],[]⟩) (fun _ R s=>s.heap.IsList l items/\R (.ok (.ret (.ref s.heap.objs.size))) { s with heap:=s.heap.push (zma l items.size) }):=
  .of_wp fun prog w A R s h=>by
    obtain⟨hl,h⟩:=h;obtain⟨o,ho,hc,n,hd⟩:=hl
    wp_walk
    rw[hd]
    wp_walk
    exact⟨_,rfl,h⟩
theorem zpg (l:ty1q) (items:Array ty3q) :
    Meets (Builtin.«reversed.__new__» ⟨[.type "reversed",.ref l],[]⟩) (fun _ R s=>s.heap.IsList l items/\R (.ok (.ret (.ref s.heap.objs.size))) { s with heap:=s.heap.push (zma l items.size) }):=
  .of_wp fun prog w A R s h=>by
    obtain⟨hl,h⟩:=h;have hT:=hl.typeIs;have hk:=al162q.lookup;have hb:=al162q.bind (.ref l);have sub:=Rv.sub_self
    wp_walk
    refine al129q (al94q al162q.plain F.entry_list_reversed (al162q.check _ _ _ _ _ _ _ _ hT (F.args_list_reversed_1 _) (zmb l items prog w A.in1
      (wants (fun v s1=>v = .ref s.heap.objs.size/\s1 = { s with heap:=s.heap.push (zma l items.size) }) (fun e s'=>R (.error e) s')) s ⟨hl,rfl,rfl⟩))) fun r s1 hr=>?_
    cases r with
    | error e=>exact hr
    | ok fl=>
      cases fl with
      | ret obj=>
        obtain⟨rfl,rfl⟩:=hr;exact al2q ⟨_,rfl,h⟩
      | _=>exact hr.elim
section
variable {prog:ty4q}{w:World}{A:Around}{E:ty90q}{s:ty2q}
theorem zrj {l:ty1q}{items:Array ty3q}{Q:ty90q}(hl:s.heap.IsList l items)
    (h:Q (.ref s.heap.objs.size) { s with heap:=s.heap.push (zma l items.size) }):wpAny (model prog w) A (call (.type "reversed") [.ref l]) Q E s:=by
  have hct:=Rv.typeCall (.ref l);have hmade:=Rv.made;have hmro:=Rv.mro_reversed;refine al154q (al197q ?_);show wpAny (model prog w) _ (callAny (.type "reversed") _) _ _ _;refine al2q ⟨al179q _ (by decide +kernel),al51q F.entry_type_call ?_⟩;rw[Around.under_plain (weight_type_call_type "reversed" [.ref l] []) (units_type_call_type "reversed" [.ref l] [])];have h1:(Value.type "reversed" == Value.type "type")=false:=by decide +kernel
  have h2:((Manifest.find? "reversed").bind (·.mro.findSome? fun t=>(Manifest.find? t).bind fun b=>if b.noNew then some true else if b.attrs.any (·.1 == "__new__") then some false else none)).getD false=false:=by decide +kernel
  repeat (any_goals first | wp_step | assumption)
  refine al129q (al94q (by decide +kernel) Rv.entry_new (al159q (Rv.newCall _) (zpg l items prog w A.in1
    (wants (fun obj s1=>obj = .ref s.heap.objs.size/\s1 = { s with heap:=s.heap.push (zma l items.size) }) E) s ⟨hl,rfl,rfl⟩))) fun r s1 hr=>?_
  cases r with
  | error e=>exact hr
  | ok fl=>
    cases fl with
    | ret obj=>
      obtain⟨rfl,rfl⟩:=hr;have hT:({ s with heap:=s.heap.push (zma l items.size) }:ty2q).TypeIs (.ref s.heap.objs.size) "list_reverseiterator":=⟨_,al12q _ rfl,rfl⟩;have hsub:=Rv.sub_no
      repeat (any_goals first | wp_step | assumption)
    | _=>exact hr.elim
end
def iRev (K:ty0q) (te:TE):TI:=fun σ H R=>te σ H fun x H1=>∃l xs,x = .ref l/\SqL K H1 l xs/\R (Irv K l xs) H1
section
variable {X:Cx}{tg:Expr}
theorem zwm {e:Expr}{te:TE}{p pos:Pos}(hg:Gl X "reversed") (hm:X.mg "reversed" = none) (he:PE X e te) (hs:starEach [e] X.env = [(false,eval e X.env)]:=by rfl) :
    PI X tg (.Call (.Name "reversed" p) [e] [] pos) (iRev X.K te):=by
  intro pins s σ H R I h;refine Call_ (zhb I hg hm boot_reversed (al112q (thn (za he zd hs pos pins s σ H (fun vs H1=>match vs with | [x]=>∃l xs,x = .ref l/\SqL X.K H1 l xs/\R (Irv X.K l xs) H1 | _=>False) I h) fun us s1 hq0=>?_) (by rw[hs];rfl) rfl));obtain⟨vs,H1,I1,r1,q1⟩:=hq0
  match vs,q1 with
  | [x],q1=>
    obtain⟨l,xs,rfl,hl,q⟩:=q1;obtain⟨u,rfl,ru⟩:=zc4 r1;cases ru;obtain⟨its,rv,pl,hz⟩:=I1.list hl;have hn:=rv.length;refine zrj pl.isList (zle (j:=(its.toArray.size:Int)-1) ⟨_,al12q _ rfl,rfl,rfl⟩ ?_);refine⟨s1.heap.objs.size,[s1.heap.objs.size],_,_,H1,rfl,I1.kept (t':=s1.toks) fun b o e=>al4q _ e,zri l _ xs,⟨_,al12q _ rfl,rfl,?_⟩,fun b hb=>?_,q⟩
    · show Data.fields #[.ref l,rawInt ((its.toArray.size:Int)-1)] = .fields #[.ref l,.int ((xs.length:Int)-1-(0:Nat)) 0];rw[al24q,hn];simp[rawInt]
    · have e:b=s1.heap.objs.size:=by simpa using hb
      subst e;exact I1.fpOk (al18q _) (I1.hok.fresh (al18q _))
theorem zui {e:Expr}{te:TE}{p pos:Pos}(K:ty0q) (h:X.K=K) (hg:Gl X "reversed") (hm:X.mg "reversed" = none) (he:PE X e te) (hs:starEach [e] X.env = [(false,eval e X.env)]:=by rfl) :
    PI X tg (.Call (.Name "reversed" p) [e] [] pos) (iRev K te):=h▸zwm hg hm he hs
theorem zuj {K:ty0q}{a:ty1q}{xs:List V}{g:TG}{tb:TS}{D:Ends}{σ:St}{H:Hp}(Pv:Nat->St->Hp->Prop) (h0:Pv 0 σ H) (hl:∀i σ H,i<=xs.length->Pv i σ H->SqL K H a xs)
    (hs:∀i x σ H,xs.reverse[i]? = some x->Pv i σ H->g x σ H fun σ2 H2=>tb { D with nx:=Pv (i+1),ct:=Pv (i+1),bk:=D.nx } σ2 H2) (hd:∀σ H,Pv xs.length σ H->D.nx σ H) :
    ∃W:Nat->Nat->St->Hp->Prop,(∃m,W 0 m σ H)/\∀i m σ H,W i m σ H->
      ((Irv K a xs).stop i H/\D.nx σ H)\/((Irv K a xs).go i H/\∃N:St->Hp->Prop,(∀σ' H',N σ' H'->∃m',m'<m/\W (i+1) m' σ' H')/\∀x H',(Irv K a xs).yld i H x H'->g x σ H' fun σ2 H2=>tb { D with nx:=N,ct:=N,bk:=D.nx } σ2 H2):=by
  refine⟨fun i m σ H=>m=xs.length-i/\i<=xs.length/\Pv i σ H,⟨xs.length,by simp,al73q _,h0⟩,?_⟩;rintro i m σ H ⟨rfl,hi,p⟩;have q:=hl i σ H hi p
  by_cases hlt:i<xs.length
  · refine .inr ⟨⟨q,hlt⟩,Pv (i+1),fun σ' H' p'=>⟨xs.length-(i+1),by lia,rfl,hlt,p'⟩,fun x H' y=>?_⟩;obtain⟨e,y⟩:=y;subst e;exact hs i x σ _ y p
  · have e:i=xs.length:=by lia
    subst e;exact .inl ⟨al18q _,hd σ H p⟩
end
theorem zph (a b:ty1q) (ha:(a == sysModules)=false) (hb:(b == sysModules)=false) (es:Array DictEntry) (ep ep':Nat) :
    Meets (Builtin.«dict.__ne__» ⟨[.ref a,.ref b],[]⟩) (fun _ R s=>RawD s.heap a es ep/\RawD s.heap b #[] ep'/\R (.ok (.ret (.bool (!decide (es.size=0))))) s):=
  .of_wp fun prog w A R s h=>by
    obtain⟨h1,h2,h⟩:=h;have t1:=h1.typeIs;have t2:=h2.typeIs;obtain⟨o1,g1,c1,d1⟩:=h1;obtain⟨o2,g2,c2,d2⟩:=h2;have sub:=Rv.sub_dict
    wp_walk
    rw[d1];refine al2q ?_;show wpAny _ _ (dictEntries b >>= _) _ _ _;refine al0q (al184q g2 d2 ?_)
    by_cases e:es.size=0
    · rw[al7q (by rw[e];simp)];rw[al15q e] at h;have e':es = #[]:=al139q e;subst e';refine al0q (al196q g1 d1 ?_);simp
      wp_walk
      exact⟨_,rfl,h⟩
    · rw[al11q (by simp[e])];rw[al22q e] at h;refine al0q (al102q (al2q ?_));exact al2q ⟨_,rfl,h⟩
section
variable {X:Cx}
theorem zuk (hu:X.A.units+9<cLine):OpR X (compareOp .NotEq) (fun x y H Q=>∃p q kvs,x = .ref p/\y = .ref q/\Rd H p (.dK kvs)/\H q=some (.dK [])/\Q (.bl (!decide (kvs = []))) H):=by
  intro pins s σ H x y v u Q I rx ry h;obtain⟨p,q,kvs,rfl,rfl,hp,hq,k⟩:=h;cases rx;cases ry;obtain⟨z,hs,vs,rel,o,es,ep,e,ex,dt,kk,pr,nd⟩:=zer I.hok hp;obtain⟨z',hs',vs',rel',o',es',ep',e',ex',dt',kk',pr',nd'⟩:=zer I.hok (.inl hq);have l1:kvs.length=vs.length:=Paired.length rel;have l2:es.size=vs.length:=by rw[←pr.length];simp
  have l3 : [].length=vs'.length:=Paired.length rel';have l4:es'.size=vs'.length:=by rw[←pr'.length];simp
  have e0:es' = #[]:=al139q (by rw[l4,←l3];rfl);subst e0;refine richCompare_meets_room (op:=.NotEq) ⟨o,e,ex.1⟩ ⟨o',e',ex'.1⟩ PySem.F.slot_dict_ne PySem.F.entry_dict_ne (PySem.F.args_dict_ne_2 _ _) (zph p q hs hs' es ep ep') ⟨⟨o,e,ex,dt⟩,⟨o',e',ex',dt'⟩,?_⟩ (by lia);refine⟨(fun x=>nomatch x),.bl (!decide (kvs = [])),H,I,?_,k⟩;show Value.bool _=Value.bool _
  congr 2
  exact al84q.mpr ⟨fun z=>al107q (by lia),fun z=>by rw[z] at l1;simp at l1;lia⟩
end
section
variable {X:Cx}
theorem zpi (K:ty0q) (hK:X.K=K):OpR X (binaryOp .Add) (fun x y H Q=>∃l b xs zs,x = .ref l/\y = .ref b/\SqL K H l xs/\SqL K H b zs/\xs.length+zs.length<=sizeLine/\∀p,H p=none->Q (.ref p) (upd H p (.lst (xs++zs)))):=by
  subst hK;intro pins s σ H x y v u Q I rx ry h;obtain⟨l,b,xs,zs,rfl,rfl,hH,hB,hz,q⟩:=h;cases rx;cases ry;obtain⟨its,r,hl,z⟩:=I.list hH;obtain⟨its2,r2,hl2,z2⟩:=I.list hB;have e1:=r.length;have e2:=r2.length;obtain⟨⟨cls,dd,data,sl⟩,ho,hc,n,hd⟩:=hl.isList;obtain⟨⟨cls2,dd2,data2,sl2⟩,ho2,hc2,n2,hd2⟩:=hl2.isList;simp only at hc hd hc2 hd2;subst hc hd hc2 hd2;have e:its.toArray++its2.toArray=(its++its2).toArray:=by simp
  refine concat_meets ⟨_,ho,rfl⟩ ⟨_,ho2,rfl⟩ noFill_list_add seq_list_add PySem.F.slot_list_add PySem.F.entry_list_add (PySem.F.args_list_add_2 _ _) (list_addW l b its.toArray its2.toArray n n2 dd dd2 sl sl2 (by rw[al24q,al24q];lia)) ⟨ho,ho2,?_⟩;rw[e];exact⟨.ref _,_,I.lnew (t':=s.toks) (r.append r2) (by rw[al20q];lia),rfl,q _ I.fresh⟩
end
end L2
namespace PySem
open Sem (wp)
end PySem
namespace L2
open PySem PySem.Spec PyProof.Rows
section
open SeqAt
end
end L2
namespace Dm
open PySem PySem.NumText L2
theorem zrk {ns:List Int}{a b:Nat}:∃cs:List Int,cutV (ns.map V.int) (some (a:Int)) (some (b:Int))=cs.map V.int/\cs.length<=b-a:=by
  refine⟨((ns.drop (HT.sIx (ns.map V.int).length 0 (some (a:Int)))).take (HT.sIx (ns.map V.int).length (ns.map V.int).length (some (b:Int))-HT.sIx (ns.map V.int).length 0 (some (a:Int)))),?_,?_⟩
  · unfold cutV;rw[al192q,List.map_drop]
  · rw[al25q,List.length_drop];unfold HT.sIx;dsimp only;rw[al7q (by lia),al7q (by lia),al1q];lia
structure SD where
  us:List Str
  ts:List Tie
  fs:List Fnd
section
variable {K:ty0q}
theorem zmc {H:Hp}{n:Nat}{A B:ty1q}{as bs:List ty1q}{wss:List (List V)}(hA:H A=some (.lst (as.map V.ref))) (hB:H B=some (.lst (bs.map V.ref))) (ta:Tups H as wss) (tb:Tups H bs wss) (fl:∀ws∈wss,∀v∈ws,zch v=true):DEq K H (n+2) (.ref A) (.ref B) true:=by
  have l1:=ta.len;have l2:=tb.len;refine DEq.allL (n:=n+1) (SqL.of hA) (SqL.of hB) (by rw[al1q,al1q];lia) fun i x y ex ey=>?_
  rw[al10q] at ex ey;cases e1:as[i]? with
  | none=>rw[e1] at ex;cases ex
  | some u=>
    cases e2:bs[i]? with
    | none=>rw[e2] at ey;cases ey
    | some v=>
      rw[e1] at ex;rw[e2] at ey;cases ex;cases ey;obtain⟨ws,h1,h2⟩:=Paired.get' ta e1;obtain⟨ws',h3,h4⟩:=Paired.get' tb e2;rw[h1] at h3;cases h3;have hf:=fl ws (al6q h1);have:=DEq.flatT (K:=K) (n:=n) (SqT.of h2) (SqT.of h4) hf hf
      rwa [zgs hf] at this
end
end Dm
namespace L2
open PySem PySem.Spec PyProof.Rows Dm
section
open SeqAt AutoSeq1 MeetsSeq MeetsSeq2 MeetsSeq3 SeqRoads2
variable {prog:ty4q}{w:World}
def EqW (prog:ty4q) (w:World) (A:Around) (s:ty2q) (y x:ty3q) (b:Bool):Prop:=∀(E:ty90q) (Q:Bool->ty2q->Prop),Q b s->wpAny (model prog w) A (eqBool y x) Q E s
theorem zlf (l:ty1q) (its:Array ty3q) (n:Nat) (dd:Option ty1q) (sl:Array (Option ty3q)) (x:ty3q) (e:ty3q->Bool):∀(m i:Nat),its.size-i=m->MeetsIn prog w (Builtin.«list.__contains__.loop» ⟨[.ref l,x,rawInt i],[]⟩)
    (fun A R s=>s.heap.get? l=some { cls:=.type "list",dict:=dd,data:=.seq its n,slots:=sl }/\(∀y,y∈its->EqW prog w A.in1 s y x (e y))/\R (.ok (.ret (.bool ((its.toList.drop i).any e)))) s)
  | 0,i,hk=>fun A R s ⟨hl,he,h⟩=>by
    obtain⟨hp,g,d,tk,os⟩:=s;rw[show its.toList.drop i = [] by simp;lia] at h
    wp_walk using (wpAny_loadPart' hl)
    rw[show its[((i:Nat):Int).toNat]? = none by simp;lia]
    wp_walk
    exact h
  | m+1,i,hk=>fun A R s ⟨hl,he,h⟩=>by
    obtain⟨hp,g,d,tk,os⟩:=s;have hlt:i<its.size:=by lia
    rw[show its.toList.drop i=its[i]::its.toList.drop (i+1) by simp[List.drop_eq_getElem_cons,hlt],al103q] at h
    wp_walk using (wpAny_loadPart' hl)
    rw[show its[((i:Nat):Int).toNat]? = some its[i] by simp[hlt]];refine al0q (he _ (Array.getElem_mem hlt) _ _ ?_)
    by_cases hb:e its[i]=true
    · rw[hb] at h ⊢
      wp_walk
      exact h
    · have hb:e its[i]=false:=by simpa using hb
      rw[hb] at h ⊢
      wp_walk
      rw[show ((i:Int)+1)=((i+1:Nat):Int) by push_cast;rfl];refine⟨al66q al169q _,al51q entry_contains_loop ?_⟩;rw[al41q al169q _];exact zlf l its n dd sl x e m (i+1) (by lia) A R _ ⟨hl,he,by simpa using h⟩
theorem zul {A:Around}{E:ty90q}{s:ty2q}{l:ty1q}{its:Array ty3q}{x:ty3q}{Q:ty90q}(e:ty3q->Bool) (hl:s.heap.IsList l its) (he:∀y,y∈its->EqW prog w A.in1 s y x (e y))
    (h:Q (.bool (!its.any e)) s):wpAny (model prog w) A (compareOp .NotIn x (.ref l)) Q E s:=by
  obtain⟨⟨cls,dd,data,sl⟩,ho,hc,n,hd⟩:=id hl;have hc:cls = .type "list":=hc;have hd:data = .seq its n:=hd;subst hc hd;show wpAny _ A (contains (.ref l) x >>= fun b=>pure (.bool (!b))) Q E s;refine al0q (wpAny_contains_slot ⟨_,ho,rfl⟩ F.slot_list_contains (al49q (call_meetsIn (S:=fun A R s=>s.heap.get? l=some { cls:=.type "list",dict:=dd,data:=.seq its n,slots:=sl }/\(∀y,y∈its->EqW prog w A.in1 s y x (e y))/\R (.ok (.ret (.bool (its.any e)))) s) F.slot_list_contains ⟨_,ho,rfl⟩ F.entry_list_contains (F.args_list_contains_2 _ _) (fun A R s ⟨hl,he,h⟩=>?_) (Q:=fun v s'=>∃b,v = .bool b/\Q (.bool (!b)) s') ⟨ho,he,_,rfl,h⟩) (fun v s' hv=>?_) fun _ _ z=>z))
  · obtain⟨hp,g,d,tk,os⟩:=s
    wp_walk using (wpAny_loadPart' hl)
    refine⟨al66q al169q _,al51q entry_contains_loop ?_⟩;rw[al41q al169q _];exact zlf l its n dd sl x e _ 0 rfl A R _ ⟨hl,he,by simpa using h⟩
  · obtain⟨b,rfl,hq⟩:=hv;exact al72q (al2q hq)
end
section
variable {X:Cx}{pins:ty91q}{σ:St}{H:Hp}{s:ty2q}
theorem zrl {A:Around}{i j:Int}{u v:ty3q}(ru:RelV (.int i) u) (rv:RelV (.int j) v):SeqAt.EqAt A s u v (decide (i=j)):=by
  have:=zm8 (A:=A) (s:=s) ru rv rfl rfl;rw[show eqV (.int i) (.int j)=decide (i=j) by
    show (i == j)=_
    by_cases h:i=j
    · subst h;simp
    · rw[al22q h];exact al54q.mpr h] at this
  exact this
theorem zpj {A:Around}{f g:Str->Int}{all:List Str}{vb:List (Key×ty3q)}(rb:KV (dV all fun k=>.int (g k)) vb):∀{ks:List Str}{va:List (Key×ty3q)},(∀k∈ks,k∈all)->KV (dV ks fun k=>.int (f k)) va->PySem.W.KeqHits A s vb va (ks.all fun k=>decide (f k=g k))
  | [],_,_,.nil=>.nil
  | k::ks,_,hm,.cons h t=>by
    rename_i q qs;obtain⟨e,rv⟩:=h;obtain⟨qk,qv⟩:=q;have e:Sum.inr k=qk:=e;subst e;obtain⟨y,hy,ry⟩:=RelO.some_of (v:=.int (g k)) (o:=valueAt vb (Sum.inr k)) (by rw[←zba (ks:=all) (f:=fun k=>.int (g k)) (hm k (al37q ..))];exact rb.val _);rw[List.all_cons];exact .hit hy (zrl rv ry) (zpj rb (fun z hz=>hm z (al5q _ hz)) t)
theorem zum {A:Around}{a b:ty1q}{f g:Str->Int}{keys:List Str}(I:Inv X pins σ H s) (ha:Rd H a (.dK (dV keys fun k=>.int (f k)))) (hb:Rd H b (.dK (dV keys fun k=>.int (g k)))) (hu:A.units<cLine):EqW X.prog X.w A s (.ref a) (.ref b) (keys.all fun k=>decide (f k=g k)):=by
  by_cases e:a=b
  · subst e;have e1:(dV keys fun k=>.int (f k))=dV keys fun k=>.int (g k):=by
      rcases ha with ha | ⟨o,ha⟩<;>rcases hb with hb | ⟨o',hb⟩<;>rw[ha] at hb<;>injection hb with hb<;>injection hb<;>(try contradiction)
      rename_i h;injection h
    have:(keys.all fun k=>decide (f k=g k))=true:=al52q.mpr fun k hk=>al15q (by
      have h1:=zba (f:=fun k=>V.int (f k)) hk;rw[e1,zba (f:=fun k=>V.int (g k)) hk] at h1;exact (V.int.inj (al46q h1)).symm)
    rw[this];exact fun E Q q=>SeqAt.EqAt.same _ X.prog X.w E Q q
  · intro E Q q;obtain⟨_,s1,va,ra,da⟩:=zer I.hok ha;obtain⟨_,s2,vb,rb,db⟩:=zer I.hok hb;unfold eqBool;refine al47q ?_;refine wpAny_ite_split (fun hab=>absurd (by have:=eq_of_beq hab;injection this) e) (fun _=>?_);refine al0q ?_;have hl:va.length=vb.length:=by
      have h1:=ra.length;have h2:=rb.length;unfold dV at h1 h2;rw[al1q] at h1 h2;lia
    refine PySem.W.keq_eq (Q:=fun v s'=>wpAny (model X.prog X.w) _ (truthOfDropped v) Q E s') s1 s2 da db hu (fun _=>zpj rb (fun _ h=>h) ra) ?_;rw[hl,al163q,Bool.true_and];exact al72q q
def zwn (K:ty0q):R2:=fun x y H Q=>∃(a p:ty1q) (zs:List ty1q) (keys:List Str) (g:Str->Int) (f:ty1q->Str->Int),x = .ref a/\y = .ref p/\SqL K H p (zs.map V.ref)/\Rd H a (.dK (dV keys fun k=>.int (g k)))/\(∀z∈zs,Rd H z (.dK (dV keys fun k=>.int (f z k))))/\Q (.bl (!zs.any fun z=>keys.all fun k=>decide (f z k=g k))) H
theorem zrm (K:ty0q) (hK:X.K=K) (hu:X.A.units+10<cLine):OpR X (compareOp .NotIn) (zwn K):=by
  subst hK;intro pins s σ H x y v u Q I rx ry h;obtain⟨a,p,zs,keys,g,f,rfl,rfl,hp,ha,hz,q⟩:=h;cases rx;cases ry;have h1:=zcl X.A;obtain⟨its,r,pl,hs⟩:=I.list hp;have items:∀z,z∈its.toArray->EqW X.prog X.w X.A.in1 s z (.ref a) (absE (fun v=>match v with | .ref z=>keys.all fun k=>decide (f z k=g k) | _=>false) z):=fun z hz'=>by
    obtain⟨x',hx',rz⟩:=zjc r (by simpa using hz');rw[zjd rz];obtain⟨b,hb,rfl⟩:=al27q.mp hx';cases rz;exact zum I (hz b hb) ha (by lia)
  refine zul _ pl.isList items ⟨.bl _,H,I,rfl,?_⟩;rw[show its.toArray.any (absE (fun v=>match v with | .ref z=>keys.all fun k=>decide (f z k=g k) | _=>false))=its.any (absE (fun v=>match v with | .ref z=>keys.all fun k=>decide (f z k=g k) | _=>false)) by simp,zgr r,List.any_map];exact q
end
end L2
namespace L2
open PySem PySem.Spec PyProof.Rows
section
variable {X:Cx}{pos:Pos}
theorem sset {i:Nat}{x:Str}{e:Expr}{te:TE}{pos':Pos}(hN:X.N.Nodup) (he:PE X e te) (hi:X.N[i]? = some x:=by rfl) (hx:Loc X.env.scope x:=by first | exact Or.inl rfl | exact Or.inr rfl) (hs:swapsWith e (some (.Name x pos')) pos.line X.env=pure false:=by rfl) (hf:X.fn x=true\/X.env.scope.names.lookup x=some .local:=by first | exact .inl rfl | exact .inr rfl | assumption):PS X (.Assign [.Name x pos'] e pos) (tAsg te (zn i)):=zvd hN hi hx he hs hf
theorem gnm {i:Nat}{x:Str}(hN:X.N.Nodup) (hi:X.N[i]? = some x:=by rfl) (hx:Loc X.env.scope x:=by first | exact Or.inl rfl | exact Or.inr rfl) (hf:X.fn x=true\/X.env.scope.names.lookup x=some .local:=by first | exact .inl rfl | exact .inr rfl | assumption):PG X (.Name x pos) (zn i):=zbg hN hi hx hf
theorem pix {a b:Expr}{ta tb:TE}{r:R2}(hr:IxR X r) (ha:PE X a ta) (hb:PE X b tb) (hs:zm7 b:=by exact fun _ _=>rfl):PE X (.Subscript a b pos) (tOp r ta tb):=zw8 hr ha hb hs
end
section
variable {X:Cx}{x:Str}{ps:List Str}{k:Nat}{sp:Sp}{e:Expr}{es:List Expr}{t:TA}{p pos:Pos}
theorem pfn (F:Has X.prog X.w X.K X.mg X.base x ps k sp) (ha:PA X (e::es) t) (hr:Room k X.A:=by exact Room.mono (by assumption) (by decide)) (hg:Gl X x:=by rfl) (hdb:(x == ("__debug__" : Str))=false:=by decide)
    (he:starEach (e::es) X.env=(false,eval e X.env)::starEach es X.env:=by rfl) (hpl:(backTo pos (starEach es X.env)).any (·.1)=false:=by rfl):PE X (.Call (.Name x p) (e::es) [] pos) (zqi sp [] E0 t):=zxd F hr hg ha hdb he hpl
end
theorem fsc {N P:List Str}{sc:Scope}(h1:sc.kind = .function:=by rfl) (h2:sc.isCoroutine=false:=by rfl) (h3:sc.isGenerator=false:=by rfl) (h4:N.Nodup:=by decide +kernel) (h5:N.take P.length=P:=by rfl) (h6:∀x∈P,sc.names.lookup x=some .local\/sc.names.lookup x=some .cell:=by decide +kernel) (h7:∀y∈sc.names,y.2≠.free:=by decide +kernel):FnScope N P sc:=⟨h1,h2,h3,h4,h5,h6,h7⟩
def riT (t:SetTable) (n:Nat):Prop:=n<=3->t.plain=true->t.mask=7/\t.dummies = #[]/\t.place.size=n/\t.place.toList.Pairwise (· < ·)
theorem zlg {t:SetTable}(hd:t.dummies = #[]) {ha:Nat->Int}{h:Int}{j:Nat}{d:Option Nat}:∀(f:Nat) (p:SetTable.Probe),p.dummy=none->SetTable.probe.go t ha h f p=some (.empty j d)->d=none/\t.slot j = .empty
  | 0,p,_,e=>by cases e
  | f+1,p,hp,e=>by
    have adv:(t.advance p).dummy=none:=by
      unfold SetTable.advance;split<;>exact hp
    unfold SetTable.probe.go at e;cases hs:t.slot p.j with
    | empty=>
      rw[hs] at e;simp only [Option.some.injEq,SetTable.Met.empty.injEq] at e;obtain⟨rfl,rfl⟩:=e;exact⟨hp,hs⟩
    | dummy=>
      unfold SetTable.slot SetTable.has at hs;rw[hd] at hs;dsimp only at hs;split at hs
      · cases hs
      · simp at hs
    | live i=>
      rw[hs] at e;dsimp only at e;split at e
      · cases e
      · exact zlg hd f _ adv e
theorem zmd {t:SetTable}(hd:t.dummies = #[]) {h:Int}{j:Nat}{wd:Bool}(e:t.freeSlot h=some (j,wd)):t.place[SetTable.below t.place j]?≠some j:=by
  unfold SetTable.freeSlot at e;split at e
  · next j' d he=>
    obtain⟨rfl,hs⟩:=zlg hd _ _ rfl he;have e:j'=j:=by
      have:=Prod.mk.inj (al46q e);exact this.1
    subst e;intro z;unfold SetTable.slot at hs;dsimp only at hs;rw[al11q (by rw[z];exact al163q _)] at hs;cases hs
  · cases e
theorem zik (a b j:Nat):SetTable.below #[a,b] j=if b<j then 2 else if a<j then 1 else 0:=by
  unfold SetTable.below;show SetTable.below.go #[a,b] j 2 0 2=_;unfold SetTable.below.go;simp;split
  · unfold SetTable.below.go;simp
  · unfold SetTable.below.go;simp;split<;>(unfold SetTable.below.go;rfl)
theorem zjx (a b c j:Nat):SetTable.below #[a,b,c] j=if b<j then (if c<j then 3 else 2) else if a<j then 1 else 0:=by
  unfold SetTable.below;show SetTable.below.go #[a,b,c] j 3 0 3=_;unfold SetTable.below.go;simp;split
  · unfold SetTable.below.go;simp;split<;>(unfold SetTable.below.go;simp)
  · unfold SetTable.below.go;simp;split<;>(unfold SetTable.below.go;simp)
theorem zrn:∀(l:List Nat) (j:Nat),l.length<=2->l.Pairwise (· < ·)->l.toArray[SetTable.below l.toArray j]?≠some j->(SetTable.insertAt l.toArray (SetTable.below l.toArray j) j).toList.Pairwise (· < ·)/\(SetTable.insertAt l.toArray (SetTable.below l.toArray j) j).size=l.length+1
  | [],j,_,_,_=>by
    rw[show SetTable.below ([]:List Nat).toArray j=0 from rfl];exact⟨al181q _ _,rfl⟩
  | [a],j,_,_,n=>by
    rw[show ([a]:List Nat).toArray = #[a] from rfl,zdn] at n ⊢
    by_cases c:a<j
    · rw[al11q c];exact⟨by simp[SetTable.insertAt,c],by simp[SetTable.insertAt]⟩
    · rw[al7q c] at n ⊢;have:a≠j:=fun z=>n (by rw[z];rfl)
      exact⟨by simp[SetTable.insertAt];lia,by simp[SetTable.insertAt]⟩
  | [a,b],j,_,p,n=>by
    have hab:a<b:=by simpa using p
    rw[show ([a,b]:List Nat).toArray = #[a,b] from rfl,zik] at n ⊢
    by_cases c:b<j
    · rw[al11q c];refine⟨?_,by simp[SetTable.insertAt]⟩;simp[SetTable.insertAt];lia
    · rw[al7q c] at n ⊢
      by_cases c2:a<j
      · rw[al11q c2] at n ⊢;have:b≠j:=fun z=>n (by rw[z];rfl)
        refine⟨?_,by simp[SetTable.insertAt]⟩;simp[SetTable.insertAt];lia
      · rw[al7q c2] at n ⊢;have:a≠j:=fun z=>n (by rw[z];rfl)
        refine⟨?_,by simp[SetTable.insertAt]⟩;simp[SetTable.insertAt];lia
theorem zme:∀(l:List Nat) (i:Nat),l.length<=3->l.Pairwise (· < ·)->i<=l.length->SetTable.below l.toArray (if i=0 then 0 else l.toArray.getD (i-1) 0+1)=i
  | [],i,_,_,h=>by
    have:i=0:=by simpa using h
    subst this;rfl
  | [a],i,_,_,h=>by
    have h:i<=1:=h;rw[show ([a]:List Nat).toArray = #[a] from rfl,zdn]
    match i,h with
    | 0,_=>simp
    | 1,_=>simp
  | [a,b],i,_,p,h=>by
    have h:i<=2:=h;have hab:a<b:=by simpa using p
    rw[show ([a,b]:List Nat).toArray = #[a,b] from rfl,zik]
    match i,h with
    | 0,_=>simp
    | 1,_=>simp;lia
    | 2,_=>simp
  | [a,b,c],i,_,p,h=>by
    have h:i<=3:=h;have hp:(a<b/\a<c)/\b<c:=by simpa using p
    rw[show ([a,b,c]:List Nat).toArray = #[a,b,c] from rfl,zjx]
    match i,h with
    | 0,_=>simp
    | 1,_=>simp;lia
    | 2,_=>simp;lia
    | 3,_=>simp;lia
theorem zpk {t:SetTable}{n:Nat}(hf:t.fits n=true) (h3:n<=3) (h:riT t n) (hdr:(!t.plain&&decide (n > 1))=false):∀i,i<=n->SetTable.below t.place (zbl t i)=i:=by
  cases hp:t.plain with
  | false=>
    rw[hp] at hdr;exact zia hf (by simpa using hdr)
  | true=>
    obtain⟨_,_,hs,hr⟩:=h h3 hp;intro i hi;have:=zme t.place.toList i (by rw[al34q];lia) hr (by rw[al34q];lia);rw[Array.toArray_toList] at this;exact this
theorem zxu {prog:ty4q}{w:World}:TbK (intKind prog w) Value.int riT where
  is:=intKind_is prog w
  sc:=fun _ _=>rfl
  z:=fun _ _=>⟨rfl,rfl,rfl,List.Pairwise.nil⟩
  add:=fun t es k tk h h3 hp=>by
    rw[show offP (plainKind (Value.int k tk)) (layNew t es ((intKind prog w).hash k) (.int k tk)).2.1=(layNew t es ((intKind prog w).hash k) (.int k tk)).2.1 from rfl] at hp ⊢;unfold layNew at hp ⊢;split at hp
    · next j wd e=>
      dsimp only at hp ⊢;unfold SetTable.orStandIn at hp ⊢;split at hp
      · next hf=>
        rw[al11q hf];have hp:t.plain=true:=hp;obtain⟨h1,h2,h4,h5⟩:=h (by lia) hp;have fe:=zmd h2 e;have rp:=zrn t.place.toList j (by rw[al34q];lia) h5 (by simpa using fe);rw[Array.toArray_toList,al34q] at rp;refine⟨h1,?_,?_,rp.1⟩
        · show (if SetTable.has t.dummies j then _ else t.dummies) = #[];rw[h2];rfl
        · show (SetTable.insertAt _ _ _).size=_;rw[rp.2,h4]
      · cases hp
    · cases hp
  rel:=fun t es h hf full h3 hp=>by
    have hpt:t.plain=true:=by
      cases c:t.plain with
      | true=>rfl
      | false=>rw[zcy t es _ c] at hp;cases hp
    obtain⟨h1,h2,h4,_⟩:=h h3 hpt;unfold SetTable.tooFull SetTable.fill at full;rw[h1,h2,h4] at full;have:=al17q full;simp at this;lia
section
variable {prog:ty4q}{w:World}{A:Around}{E:ty90q}{s:ty2q}
theorem zpl:∀{vs:List ty3q},(∀v∈vs,∃x t,v=Value.int x t)->∃ks,IntsAre vs ks
  | [],_=>⟨[],.nil⟩
  | v::vs,h=>by
    obtain⟨x,t,rfl⟩:=h v (al37q ..);obtain⟨ks,hk⟩:=zpl fun v hv=>h v (al5q _ hv)
    exact⟨x::ks,.cons x t hk⟩
theorem zro {vs:List ty3q}{ks:List Int}(h:IntsAre vs ks):(∀y,y∈ks↔∃t,Value.int y t∈vs)/\vs.length=ks.length:=by
  induction h with
  | nil=>exact⟨fun y=>⟨fun z=>(al43q z).elim,fun ⟨t,z⟩=>(al43q z).elim⟩,rfl⟩
  | cons x t _ ih=>
    refine⟨fun y=>⟨fun z=>?_,fun ⟨u,z⟩=>?_⟩,by rw[al57q,al57q,ih.2]⟩
    · rcases al14q.mp z with rfl | z
      · exact⟨t,al37q ..⟩
      · obtain⟨u,hu⟩:=(ih.1 y).mp z;exact⟨u,al5q _ hu⟩
    · rcases al14q.mp z with e | z
      · cases e;exact al37q ..
      · exact al5q _ ((ih.1 y).mpr ⟨u,z⟩)
theorem zjy {a:ty1q}{S:Int->Bool}{n:Nat}{Q:ty90q}(hh:A.handled=none) (hS:SetL (intKind prog w) riT s.heap a S n (ledW w)) (h64:n<=3)
    (hQ:∀(D:ty1q) (out:Array ty3q) (ks ms:List Int) (h':Heap) (d:Drawn) (tk c:Nat),IntsAre out.toList ms->ms.Perm ks->ms.Pairwise (·<=·)->ks.length=n->(∀y,y∈ks↔S y=true)->
      (∀b o,s.heap.get? b=some o->h'.get? b=some o)->s.heap.objs.size<=D->h'.get? D=some (seqObj "list" out c)->Q (.ref D) { s with heap:=h',drawn:=d,toks:=tk }) :
    wpAny (model prog w) A (call (.builtin "sorted") [.ref a]) Q E s:=by
  obtain⟨o,es,ep,t,ho,hex,hd,hel,hmem,hb,hf,hn,hld,hpl⟩:=hS;have hr:RawS s.heap a es ep t:=⟨⟨o,ho,hex,hd⟩,hf⟩;have hsz:es.size<=sizeLine:=al185q hb;refine Calls.call_function_entry kind_sorted plain_sorted entry_sorted (args_sorted1 _) ?_;unfold Builtin.«sorted»;refine al0q (m:=checkCount "sorted" 1 1 _) (al2q ?_);refine al0q (ze2 (A:=A.in1) hh hr hsz hld (zpk hf (by lia) hpl) fun vs h1 d tk p k sz=>?_);have hvl:vs.length=n:=by rw[p.length_eq,al1q,al34q,hn]
  have hint:∀v∈vs,∃x t,v=Value.int x t:=by
    intro v hv;obtain⟨e,he,rfl⟩:=al27q.mp (p.mem_iff.mp hv);obtain⟨⟨kx,hk,_⟩,_⟩:=hel e he;obtain⟨t,e2⟩:=Value.isInt_shape hk;exact⟨kx,t,e2⟩
  obtain⟨ks,hks⟩:=zpl hint;obtain⟨hkm,hkl⟩:=zro hks;refine al0q (wpAny_newList ?_ (by rw[hvl,al140q];lia));have hoL:(h1.push (seqObj "list" vs.toArray 0)).get? h1.objs.size=some (seqObj "list" vs.toArray 0):=al12q _ rfl;show wpAny _ _ _ _ _ { s with heap:=h1.push (seqObj "list" vs.toArray 0),drawn:=d,toks:=tk };refine al0q (al47q (al50q slot_list_sort ⟨_,hoL,rfl⟩ entry_list_sort (list_sort_tree hoL hks (by lia) fun out ms b1 b2 b3=>⟨_,rfl,?_⟩) (args_list_sort _)));obtain⟨c,hc⟩:=sortedHeap_at (out:=out) hoL;refine al2q ⟨_,rfl,hQ h1.objs.size _ ks ms _ d tk c b1 b2 b3 (by lia) (fun y=>?_) (fun b o e=>?_) (al127q sz) hc⟩
  · rw[hkm y,hmem y];constructor
    · rintro ⟨t,ht⟩;obtain⟨e,he,e2⟩:=al27q.mp (p.mem_iff.mp ht);exact⟨e,he,by rw[e2];exact intKind_is _ _ _ _⟩
    · rintro ⟨e,he,hk⟩;obtain⟨t,e2⟩:=Value.isInt_shape hk;exact⟨t,p.mem_iff.mpr (al27q.mpr ⟨e,he,e2⟩)⟩
  · have e1:=k b o e;have hlt:=al13q e1;have e2:(h1.push (seqObj "list" vs.toArray 0)).get? b=some o:=al4q _ e1;rw[sortedHeap_old (al26q hlt) (al13q e2)];exact e2
end
section
variable {X:Cx}
def zmf (P:ty4q) (w:World) (D:ty1q) (ds:List Int):HO:=setG (intKind P w) riT D ds
theorem zpm {P:ty4q}{w:World}{K:ty0q}(hP:X.prog=P) (hw:X.w=w) (hK:X.K=K) (hc:X.calm=true):zbr X (.type "set") (fun xs H Q=>∃(p:ty1q) (ys:List Int),xs = [.ref p]/\SqL K H p (ys.map V.int)/\ys.length<=1000/\
    ∀(D:ty1q) (ds:List Int),H D=none->ds.Nodup->(∀y,y∈ds↔y∈ys)->ds.length<=ys.length->Q (.ref D) (upd H D (zmf P w D ds))):=by
  subst hP hw hK;exact zib zxu V.int 0 (fun _ _ h=>h) hc
theorem zjz {ds ks:List Int}(hn:ds.Nodup) (hs:∀x∈ds,x∈ks) (hl:ks.length=ds.length):ks.Perm ds:=by
  induction ds generalizing ks with
  | nil=>rw[al107q hl]
  | cons d ds ih=>
    obtain⟨h1,h2⟩:=al76q.mp hn;have hd:=hs d (al37q ..);have:=ih h2 (ks:=ks.erase d) (fun x hx=>(al161q (fun z:x=d=>h1 (z▸hx))).mpr (hs x (al5q _ hx))) (by rw[al134q hd,hl];rfl);exact (List.perm_cons_erase hd).trans (this.cons d)
theorem zfa {P:ty4q}{w:World}(hP:X.prog=P) (hw:X.w=w) (hc:X.calm=true):zbr X (.builtin "sorted") (fun xs H Q=>∃(D:ty1q) (ds:List Int),xs = [.ref D]/\H D=some (zmf P w D ds)/\ds.Nodup/\ds.length<=3/\
    ∀(p:ty1q) (ms:List Int),H p=none->ms.Perm ds->ms.Pairwise (·<=·)->Q (.ref p) (upd H p (.lst (ms.map V.int)))):=by
  subst hP hw;intro pins s σ H xs us Q I r h;obtain⟨D,ds,rfl,hD,nd,h64,q⟩:=h;obtain⟨u,rfl,ru⟩:=zc4 r;cases ru;obtain⟨hS,_⟩:=(show ObjOk X.prog X.w H s.heap D (zmf X.prog X.w D ds) from I.hok D _ hD);refine zjy (I.ok.hd hc) hS h64 fun p out ks ms h' d tk c b1 b2 b3 hkl hmem kp hp hg=>?_
  have hperm:ks.Perm ds:=zjz nd (fun x hx=>(hmem x).mpr (al15q hx)) hkl;have hm:ms.length=ds.length:=(b2.trans hperm).length_eq;have hs:sizeLine=16777216:=al140q;have I2:=I.laid (t':=tk) (h':=h') (a:=p) (o:=.lst (ms.map V.int)) kp hp ⟨by rw[al1q];lia,out.toList,c,zeu b1,by rw[hg]⟩;exact⟨.ref p,_,I2.drawn,rfl,q _ ms (I.hok.fresh hp) (b2.trans hperm) b3⟩
end
theorem zpn {P:ty4q}{w:World}{K:ty0q}{tg:Expr}(it:ty1q) (lo:Int) (n:Nat):Turn P w K tg (Itr lo n) [it] it (fun i h=>IsLongIter h it (lo+(i:Nat) * 1) ((n:Int)-(i:Nat)) 1) where
  mem:=by simp
  obj:=fun i h st b hb=>by
    have e:b=it:=by simpa using hb
    subst e;exact⟨_,st,fun v z=>by
      have z':Data.fields _=Data.cell v:=z;cases z'⟩
  keep:=fun i h h' st k=>k it (by simp) _ st
  item:=by
    intro X hP hw hK hc i pins s σ H E I hf st hg;subst hP hw hK;obtain⟨f0,f1,f2,f3,f4,f5⟩:=hf it (by simp);have W:=Walks.longrange (prog:=X.prog) (w:=X.w) (I.ok.hd hc) it lo 1 n;refine W.item i s _ _ hg st fun v h' tk hv st' kk=>?_
    obtain⟨t,rfl⟩:=hv;have I1:Inv X pins σ H { s with heap:=h',toks:=tk }:=I.turned (fun b o hb e=>kk b o (by simpa using hb) e) f0 f1 f3 f4 f5;refine⟨_,rfl,zmy (s:={ s with heap:=h',toks:=tk }) (n:="longrange_iterator") st' rfl rfl (by decide) ⟨.int (lo+i),H,I1,⟨t,?_⟩,⟨rfl,rfl⟩,st',fun b hb=>(hf b hb).1⟩⟩;rw[Int.mul_one]
  done:=by
    intro X hP hw hK hc i pins s σ H E I hf st hg;subst hP hw hK;obtain⟨f0,f1,f2,f3,f4,f5⟩:=hf it (by simp);exact wpAny_pyNext_long_end (I.ok.hd hc) st (by have:n<=i:=hg;lia) fun h' eb=>⟨rfl,I.turned (t':=s.toks) (fun b o hb e=>eb b o hb e) f0 f1 f3 f4 f5⟩
  self:=fun _ _ _ _ _ st h=>wpAny_pyIter_longiter st h
section
variable {X:Cx}{tg:Expr}
theorem zpo {pins:ty91q}{σ:St}{H:Hp}{s:ty2q}{R:It->Hp->Prop}{E:ty90q}{lo hi:Int}{t u v:Tok}{tk:Nat}(I:Inv X pins σ H s)
    (q:R (Itr lo (hi-lo).toNat) H):wpAny (model X.prog X.w) X.A (pyIter (.ref s.heap.objs.size)) (PIE X pins σ tg R) E { s with heap:=s.heap.push { cls:=.type "range",data:=.fields #[.int lo t,.int hi u,.int 1 v] },toks:=tk }:=by
  have I1:Inv X pins σ H { s with heap:=s.heap.push { cls:=.type "range",data:=.fields #[.int lo t,.int hi u,.int 1 v] },toks:=tk }:=I.kept fun b o e=>al4q _ e
  have e1:lo+((0:Nat):Int) * 1=lo:=by simp
  have e2:(((hi-lo).toNat:Nat):Int)-((0:Nat):Int)=Builtin.Range.rangeSize lo hi 1:=by rw[rangeSize_one];split<;>lia
  have fp:∀b∈[(s.heap.push { cls:=.type "range",data:=.fields #[.int lo t,.int hi u,.int 1 v] }).objs.size],FpOk X pins H b:=fun b hb=>by
    have e:b=(s.heap.push { cls:=.type "range",data:=.fields #[.int lo t,.int hi u,.int 1 v] }).objs.size:=by simpa using hb
    subst e;exact I1.fpOk (al18q _) (I1.hok.fresh (al18q _))
  cases hb:Builtin.Range.small lo hi 1 with
  | true=>
    refine wpAny_pyIter_range (IsRange.new ..) hb ?_;refine⟨(s.heap.push { cls:=.type "range",data:=.fields #[.int lo t,.int hi u,.int 1 v] }).objs.size,[(s.heap.push { cls:=.type "range",data:=.fields #[.int lo t,.int hi u,.int 1 v] }).objs.size],_,_,H,rfl,
      I1.kept (t':=tk) fun b o e=>al4q _ e,zfw _ lo (hi-lo).toNat,?_,fp,q⟩
    show IsRangeIter _ _ (lo+((0:Nat):Int) * 1) ((((hi-lo).toNat:Nat):Int)-((0:Nat):Int)) 1;rw[e1,e2];exact al12q _ rfl
  | false=>
    refine wpAny_pyIter_longrange (IsRange.new ..) hb ?_;refine⟨(s.heap.push { cls:=.type "range",data:=.fields #[.int lo t,.int hi u,.int 1 v] }).objs.size,[(s.heap.push { cls:=.type "range",data:=.fields #[.int lo t,.int hi u,.int 1 v] }).objs.size],_,_,H,rfl,
      I1.kept (t':=tk) fun b o e=>al4q _ e,zpn _ lo (hi-lo).toNat,?_,fp,q⟩
    show IsLongIter _ _ (lo+((0:Nat):Int) * 1) ((((hi-lo).toNat:Nat):Int)-((0:Nat):Int)) 1;rw[e1,e2];exact al12q _ rfl
def zxv (ta:TA):TI:=fun σ H R=>ta σ H fun vs H1=>∃i j:Int,vs = [.int i,.int j]/\R (Itr i (j-i).toNat) H1
theorem zgk {a b:Expr}{ta:TA}{p pos:Pos}(hg:Gl X "range") (hm:X.mg "range" = none) (ha:PA X [a,b] ta) (hs:starEach [a,b] X.env = [(false,eval a X.env),(false,eval b X.env)]:=by rfl) (hs2:starEach [b] X.env = [(false,eval b X.env)]:=by rfl) :
    PI X tg (.Call (.Name "range" p) [a,b] [] pos) (zxv ta):=by
  intro pins s σ H R I h;refine Call_ (zhb I hg hm boot_range (al112q (thn (ha pos pins s σ H _ I h) fun us s1 hq0=>?_) (by rw[hs,hs2]) (by rw[hs2];rfl)));obtain⟨vs,H1,I1,r1,q1⟩:=hq0;obtain⟨i,j,e,q⟩:=q1;subst e;cases r1 with
  | cons r rr=>
    cases rr with
    | cons r' rr=>
      cases rr;obtain⟨t,rfl⟩:=r;obtain⟨t',rfl⟩:=r';exact call_range_2 (zpo I1 q)
end
end L2
namespace LK47
open PySem L2 Dm PySem.NumText
def top (i:Nat):Stmt:=PySem.Challenge.pw_digmatrix_k47_whole_small_frames.main.body.getD i (.Pass ⟨0,0,0,0⟩)
structure Tx (K:ty0q) (mg:Str->Option ty3q) (w:World) (zk:ty1q) (zo:ty1q) (zg:ty1q) (zm:ty1q):Prop where
 zj5:mg "DigError" = some (.ref zk)
 zj6:XBase K zk
 zwy:mg "Round" = some (.ref zo)
 zwz:XCls K zo
 zw0:XOk K zo
 zmr:DfM K zo "Round.__init__" "__init__" (zjb (top 2) 0) ["self","ties"]
 zr4:NoAttr K zo "ties"
 zfe:mg "NoDating" = some (.ref zg)
 zj7:XCatch K zg
 zj8:XCls K zg
 zff:XOk K zg
 zdc:DfM K zg "NoDating.__init__" "__init__" (zjb (top 3) 0) ["self","row"]
 zfg:NoAttr K zg "row"
 zit:mg "NoYear" = some (.ref zm)
 zp8:XCatch K zm
 zp9:XOk K zm
 zqa:PySem.W.findIn K (.ref zm) "__init__" = some (some (.builtin "ValueError.__init__"))
 zcq:PySem.W.mroIn K zg (.ref zg)=some true
 zd6:PySem.W.mroIn K zm (.ref zm)=some true
 zj9:Df K mg "one_names" (top 6) ["units","ties"]
 zka:Df K mg "join_ones" (top 7) ["names","first","second"]
 zwx:Df K mg "ones" (top 8) ["units","ties"]
 zfq:Df K mg "ties_beneath" (top 9) ["telling"]
 zej:Df K mg "shortest_round" (top 11) ["telling"]
 zfh:Df K mg "round_through" (top 12) ["start","beneath"]
 zfr:Df K mg "refuse_round" (top 13) ["telling"]
 zu1:Df K mg "order" (top 14) ["telling"]
 ziu:Df K mg "least_free" (top 15) ["beneath","placed"]
 zmn:Df K mg "rests_on" (top 16) ["lowers","placed"]
 zr5:Df K mg "gap_of" (top 18) ["tie"]
 zfs:Df K mg "finds_within" (top 19) ["telling"]
 zr6:Df K mg "floors" (top 20) ["telling"]
 zmo:Df K mg "ceilings" (top 21) ["telling"]
 zg6:Df K mg "bare_chains" (top 22) ["bounds"]
 zr7:Df K mg "led_up" (top 23) ["chain","tie"]
 zek:Df K mg "one_tie_longer" (top 24) ["beneath","chains"]
 zel:Df K mg "impossible_row" (top 25) ["telling"]
 zem:Df K mg "refuse_undated" (top 26) ["telling"]
 zkb:Df K mg "chains_up" (top 28) ["telling"]
 zg7:Df K mg "chains_down" (top 29) ["telling"]
 zmp:Df K mg "led_down" (top 30) ["chain","tie"]
 zu2:Df K mg "spans" (top 32) ["telling"]
 zr8:Df K mg "dating" (top 33) ["telling","name","year"]
 zft:Df K mg "_law_cell_at" (top 35) ["_law_script","_law_k"]
 zkc:Df K mg "_law_part" (top 36) ["_law_cell","_law_k","_law_many"]
 ziv:Df K mg "_law_names" (top 37) ["_law_one","_law_other"]
 zg8:Df K mg "_law_number" (top 38) ["_law_cell"]
 zmq:Df K mg "_law_tie" (top 39) ["_law_names_here","_law_places","_law_many","_law_cell","_law_around"]
 zkd:Df K mg "_law_ties" (top 40) ["_law_names_here","_law_places","_law_many","_law_cells","_law_around"]
 ziw:Df K mg "_law_small" (top 41) ["_law_script"]
 zke:Df K mg "_law_ones" (top 42) ["_law_telling"]
 zix:Df K mg "_law_links" (top 43) ["_law_telling"]
 ziy:Df K mg "_law_keeps" (top 44) ["_law_telling","_law_years"]
 zfi:Df K mg "_law_all_ways" (top 45) ["_law_telling","_law_names_here"]
 zen:Df K mg "_law_each_year" (top 46) ["_law_telling","_law_names_here","_law_ways"]
 zkf:Df K mg "_law_told" (top 47) ["_law_telling"]
 zxx:Df K mg "law" (top 48) ["_law_script"]
 min:mg "min" = none
 list:mg "list" = none
 sorted:mg "sorted" = none
 all:mg "all" = none
 reversed:mg "reversed" = none
 range:mg "range" = none
 len:mg "len" = none
 max:mg "max" = none
 dict:mg "dict" = none
 set:mg "set" = none
theorem Tx.ex {K:ty0q}{mg:Str->Option ty3q}{w:World}{zk:ty1q}{zo:ty1q}{zg:ty1q}{zm:ty1q}(T:Tx K mg w zk zo zg zm):∃zk,∃zo,∃zg,∃zm,Tx K mg w zk zo zg zm:=⟨_,_,_,_,T⟩
theorem sc_one_names:FnScope ["units","ties","names","unit","tie"] ["units","ties"] (zj (top 6)):=fsc
theorem sc_join_ones:FnScope ["names","first","second","least","unit"] ["names","first","second"] (zj (top 7)):=fsc
theorem sc_ones:FnScope ["units","ties","names","members","unit"] ["units","ties"] (zj (top 8)):=fsc
theorem sc_ties_beneath:FnScope ["telling","names","beneath","members","tie"] ["telling"] (zj (top 9)):=fsc
theorem sc_shortest_round:FnScope ["telling","beneath","shortest","name","ties"] ["telling"] (zj (top 11)):=fsc
theorem sc_round_through:FnScope ["start","beneath","met","ways","longer","name","ties","lower","tie"] ["start","beneath"] (zj (top 12)):=fsc
theorem sc_refuse_round:FnScope ["telling","ties"] ["telling"] (zj (top 13)):=fsc
theorem sc_order:FnScope ["telling","beneath","placed"] ["telling"] (zj (top 14)):=fsc
theorem sc_least_free:FnScope ["beneath","placed","free"] ["beneath","placed"] (zj (top 15)):=fsc
theorem zj0:FnScope ["lowers","placed"] ["lowers","placed"] (zj (top 16)):=fsc
theorem zpp:FnScope ["tie"] ["tie"] (zj (top 18)):=fsc
theorem sc_finds_within:FnScope ["telling","names","within","members","find"] ["telling"] (zj (top 19)):=fsc
theorem sc_floors:FnScope ["telling","within","starts","name"] ["telling"] (zj (top 20)):=fsc
theorem sc_ceilings:FnScope ["telling","within","ends","name"] ["telling"] (zj (top 21)):=fsc
theorem sc_bare_chains:FnScope ["bounds","chains","name"] ["bounds"] (zj (top 22)):=fsc
theorem zpq:FnScope ["chain","tie"] ["chain","tie"] (zj (top 23)):=fsc
theorem sc_one_tie_longer:FnScope ["beneath","chains","longer","name","lower","tie","chain"] ["beneath","chains"] (zj (top 24)):=fsc
theorem sc_impossible_row:FnScope ["telling","beneath","ends","chains","name"] ["telling"] (zj (top 25)):=fsc
theorem sc_refuse_undated:FnScope ["telling","row"] ["telling"] (zj (top 26)):=fsc
theorem sc_chains_up:FnScope ["telling","beneath","chains","name","lower","tie","chain"] ["telling"] (zj (top 28)):=fsc
theorem sc_chains_down:FnScope ["telling","beneath","chains","name","lower","tie","chain"] ["telling"] (zj (top 29)):=fsc
theorem zj1:FnScope ["chain","tie"] ["chain","tie"] (zj (top 30)):=fsc
theorem sc_spans:FnScope ["telling","ups","downs"] ["telling"] (zj (top 32)):=fsc
theorem sc_dating:FnScope ["telling","name","year","one","finds","chains"] ["telling","name","year"] (zj (top 33)):=fsc
theorem zfb:FnScope ["_law_script","_law_k"] ["_law_script","_law_k"] (zj (top 35)):=fsc
theorem zil:FnScope ["_law_cell","_law_k","_law_many"] ["_law_cell","_law_k","_law_many"] (zj (top 36)):=fsc
theorem sc__law_names:FnScope ["_law_one","_law_other","_law_signs","_law_size","_law_at","_law_turned","_law_names_here","_law_k","_law_name","_law_j","_law_number_here"] ["_law_one","_law_other"] (zj (top 37)):=fsc
theorem sc__law_number:FnScope ["_law_cell","_law_some"] ["_law_cell"] (zj (top 38)):=fsc
theorem sc__law_tie:FnScope ["_law_names_here","_law_places","_law_many","_law_cell","_law_around","_law_a","_law_b","_law_kind"] ["_law_names_here","_law_places","_law_many","_law_cell","_law_around"] (zj (top 39)):=fsc
theorem sc__law_ties:FnScope ["_law_names_here","_law_places","_law_many","_law_cells","_law_around","_law_ties_here","_law_cell","_law_tie_here"] ["_law_names_here","_law_places","_law_many","_law_cells","_law_around"] (zj (top 40)):=fsc
theorem sc__law_small:FnScope ["_law_script","_law_names_here","_law_places","_law_many","_law_first","_law_frame","_law_ties_here","_law_tie_here","_law_finds","_law_k","_law_cell","_law_low"] ["_law_script"] (zj (top 41)):=fsc
theorem sc__law_ones:FnScope ["_law_telling","_law_label","_law_name","_law_k","_law_tie_here","_law_least"] ["_law_telling"] (zj (top 42)):=fsc
theorem sc__law_links:FnScope ["_law_telling","_law_label","_law_links_here","_law_tie_here"] ["_law_telling"] (zj (top 43)):=fsc
theorem sc__law_keeps:FnScope ["_law_telling","_law_years","_law_label","_law_one","_law_find","_law_link"] ["_law_telling","_law_years"] (zj (top 44)):=fsc
theorem sc__law_all_ways:FnScope ["_law_telling","_law_names_here","_law_ways","_law_name","_law_more","_law_way"] ["_law_telling","_law_names_here"] (zj (top 45)):=fsc
theorem sc__law_each_year:FnScope ["_law_telling","_law_names_here","_law_ways","_law_name","_law_year","_law_found"] ["_law_telling","_law_names_here","_law_ways"] (zj (top 46)):=fsc
theorem sc__law_told:FnScope ["_law_telling","_law_found"] ["_law_telling"] (zj (top 47)):=fsc
theorem sc_law:FnScope ["_law_script","_law_telling","_law_names_here","_law_ways","_law_found","_law_due","_law_name","_law_years"] ["_law_script"] (zj (top 48)):=fsc
theorem zcw:FnScope ["self","row"] ["self","row"] (zj (zjb (top 3) 0)):=fsc
section
variable {P:ty4q}{w:World}{K:ty0q}{mg:Str->Option ty3q}{base:Heap}{zk:ty1q}{zo:ty1q}{zg:ty1q}{zm:ty1q}
local macro_rules | `(tactic| walk_at "rd")=>`(tactic| repeat (first | refine⟨_,rfl,?_⟩ | refine⟨_,_,rfl,rfl,?_⟩ | refine⟨_,_,_,rfl,?_⟩))
local macro_rules | `(tactic| walk_at "rd")=>`(tactic| repeat (first | refine⟨_,rfl,?_⟩ | refine⟨_,_,rfl,rfl,?_⟩ | refine⟨_,_,_,rfl,?_⟩))
inductive sp_cell' (vs:List V) (H:Hp) (Q:VK):Prop
 | mk (a:ty1q) (ns:List Int) (i:Int) (_:vs = [.ref a,.int i]) (_:SqL K H a (ns.map V.int)) (_:0<=i) (_:Q (.int (zb0 ns i)) H)
def zun:Sp:=fun vs H Q _=>sp_cell' (K:=K) vs H Q
theorem zan (T:Tx K mg w zk zo zg zm):Has P w K mg base "_law_cell_at" ["_law_script","_law_k"] 1 (zun (K:=K)):=by
 refine T.zft.has zfb (fun vs H Q E h=>?_) (fun f cdv A outer s H vs Q E hr h=>?_)
 ·obtain⟨a,ns,i,rfl,_⟩:=h;rfl
 ·obtain⟨a,ns,i,rfl,ha,h0,k⟩:=h;refine⟨_,(zc (zaz (zw zll (pv 1) (zap (za0 K rfl) (by rfl) T.len al198q (za (pv 0) zd)) (zae _)) (zf (zy (pix (zab K rfl) (pv 0) (pv 1)))) zz)
   (zf (zy ze))),?_⟩
  refine⟨_,rfl,_,rfl,a,_,rfl,.inl ha,_,_,rfl,rfl,_,rfl,?_⟩;refine ite2 (fun c=>?_) (fun c=>?_)
  ·have c:=al17q c;rw[al1q] at c;have hi:i.toNat<ns.length:=by lia
   refine⟨_,rfl,_,rfl,a,_,i,.int (zb0 ns i),rfl,rfl,ha,?_,k⟩;have e:zb0 ns i=ns[i.toNat]:=by unfold zb0;rw[al30q,al3q hi];rfl
   have:=zbk (xs:=ns.map V.int) (j:=i.toNat) (v:=.int (zb0 ns i)) (by rw[e];simp[hi]);rw[al166q h0] at this;exact this
  ·have c:¬i<((ns.map V.int).length:Int):=fun z=>c (al15q z)
   rw[al1q] at c;have e:zb0 ns i=0:=by unfold zb0;rw[al30q,al149q (by lia)];rfl
   rw[e] at k;exact k
def zuo:Sp:=fun vs H Q _=>∃c k m:Int,vs = [.int c,.int k,.int m]/\0<m/\Q (.int (pt c k m)) H
theorem zv (T:Tx K mg w zk zo zg zm):Has P w K mg base "_law_part" ["_law_cell","_law_k","_law_many"] 1 zuo:=by
 refine T.zkc.has zil (fun vs H Q E h=>?_) (fun f cdv A outer s H vs Q E hr h=>?_)
 ·obtain⟨c,i,m,rfl,_⟩:=h;rfl
 ·obtain⟨c,i,m,rfl,hm,k⟩:=h;refine⟨_,(zf (zy (zah zdd (zah zdd (zah zkj (zah zdd (zah zkj (zah zbb (zah zdd (pv 0) ze) ze) (zah zbb ze (zah zkj ze (pv 1)))) ze) (zah zbb (pv 1) ze)) ze) (pv 2)))),?_⟩;have b1:=al126q c (show (99991:Int)≠0 by decide);have b2:=al120q c (show (0:Int)<99991 by decide);have b3:=al126q ((c%99991+17) * (48271+7919 * i)) (show (65537:Int)≠0 by decide);have b4:=al120q ((c%99991+17) * (48271+7919 * i)) (show (0:Int)<65537 by decide)
  walk_at "rd"
  refine⟨(by decide:(0:Int)<99991),?_⟩
  walk_at "rd"
  refine⟨.inl ⟨by decide,by decide⟩,?_⟩
  walk_at "rd"
  refine⟨.inl ⟨by lia,by lia⟩,?_⟩
  walk_at "rd"
  refine⟨(by decide:(0:Int)<65537),?_⟩
  walk_at "rd"
  refine⟨.inl ⟨by lia,by lia⟩,?_⟩
  walk_at "rd"
  refine⟨(by decide:(0:Int)<8191),?_⟩
  walk_at "rd"
  exact⟨hm,k⟩
theorem c56:CPow 10 56:=⟨by decide,by decide,by decide⟩
theorem m56:(0:Int)<10 ^ (56:Int).toNat:=by decide
theorem zwo (z:Int) (one at':Int) (k j:Nat) (h:z=nmI one at' k j):atI NAMES.cps.toList (z%37)=some (nmN one at' k j):=by
 obtain⟨h0,h1⟩:=ix37 z;subst h;have:=zbk (xs:=co NAMES) (j:=(nmI one at' k j%37).toNat) (v:=nmN one at' k j) (by unfold nmN;rw[al30q,al3q h1];rfl);rw[al166q h0] at this;exact this
def zpr:Sp:=fun vs H Q _=>∃one other:Int,vs = [.int one,.int other]/\∀(p:ty1q) (xs:List Str) (H':Hp),xs.length=8->xs.Nodup->(∀x∈xs,zfk x=true)->H p=none->H' p=some (.lst (xs.map V.str))->Same H H'->Q (.ref p) H'
theorem zim (T:Tx K mg w zk zo zg zm):Has P w K mg base "_law_names" ["_law_one","_law_other"] 2 zpr:=by
 refine T.ziv.has sc__law_names (fun vs H Q E h=>?_) (fun f cdv A outer s H vs Q E hr h=>?_)
 ·obtain⟨one,other,rfl,_⟩:=h;rfl
 ·obtain⟨one,other,rfl,k⟩:=h;refine⟨_,(zc (sset (i:=2) sc__law_names.nd zaw)
   (zc (sset (i:=3) sc__law_names.nd (zah zbb ze (pfn (zv T) (za (pv 0) (za ze (za ze zd))))))
   (zc (sset (i:=4) sc__law_names.nd (pfn (zv T) (za (pv 1) (za ze (za (pv 3) zd)))))
   (zc (sset (i:=5) sc__law_names.nd (pfn (zv T) (za (pv 1) (za ze (za ze zd)))))
   (zc (sset (i:=6) sc__law_names.nd (zad zd))
   (zc (zac al21q rfl (zcj (by rfl) T.range (za ze zd)) (gnm (i:=7) sc__law_names.nd) (zc (sset (i:=8) sc__law_names.nd zaw)
    (zc (zac al21q rfl (zcj (by rfl) T.range (za ze zd)) (gnm (i:=9) sc__law_names.nd) (zc (sset (i:=10) sc__law_names.nd (pfn (zv T) (za (pv 0) (za (zah zbb (pv 9) ze) (za ze zd)))))
     (zc (zaz (PW.pt (zeq (zw zdu (pv 9) (pv 4) (zae _)) (zc3 (zw zdu (pv 5) ze (zae _))))) (zf (sset (i:=10) sc__law_names.nd (zah zbb (pv 10) (pv 7)))) zz)
     (zf (sset (i:=8) sc__law_names.nd (zah zln (pv 8) (pix zvm (pv 2) (zah zdd (pv 10) ze))))))))
    (zf (zaz (zw zdu (pv 5) ze (zae _)) (zf (zat (zbz K rfl PySem.F.plainAttrs_list PySem.F.slot_list_append PySem.F.type_list_append zar (pv 6) (za (zde zsf (pv 8) zi4 (zc5 (pv 3))) zd)))) (zf (zat (zbz K rfl PySem.F.plainAttrs_list PySem.F.slot_list_append PySem.F.type_list_append zar (pv 6) (za (zde zsf (pv 8) zi4 (zc5 (zah zbb ze (zah zdd (zah zbb (pv 3) (pv 7)) ze)))) zd)))))))))
   (zf (zy (pv 6))))))))),?_⟩
  walk_at "rd"
  refine⟨by decide,?_⟩
  walk_at "rd"
  obtain⟨s1,s2⟩:=zb5 one 0 12 (by decide);have hs:∃size:Nat,1+pt one 0 12=(size:Int)/\1<=size/\size<=12:=⟨(1+pt one 0 12).toNat,by lia,by lia,by lia⟩;obtain⟨size,es,z1,z2⟩:=hs;rw[es];refine⟨by lia,?_⟩;obtain⟨a1,a2⟩:=zb5 other 1 (size:Int) (by lia);generalize pt other 1 (size:Int)=at' at a1 a2
  walk_at "rd"
  refine⟨by decide,?_⟩;generalize pt other 20 2=tu;refine⟨by decide,fun p hp=>?_⟩;refine⟨8,rfl,by decide,by decide,zck (lo:=0) (n:=8) (fun i σ H'=>∃v7 v8 v9 v10,σ = [some (.int one),some (.int other),some (.str NAMES),some (.int size),some (.int at'),some (.int tu),some (.ref p),v7,v8,v9,v10]/\Same H H'/\
   H' p=some (.lst (((List.range i).map (nf8 one at' (decide (tu=0)) size)).map V.str))) ⟨none,none,none,none,(by rw[←es];rfl),Same.new hp,zb⟩ ?_ ?_⟩
  ·rintro i σ H1 hi ⟨v7,v8,v9,v10,rfl,q1,q2⟩;simp only [Int.zero_add];refine⟨12,rfl,by decide,by decide,zck (lo:=0) (n:=12) (fun j σ H2=>∃v9 v10,σ = [some (.int one),some (.int other),some (.str NAMES),some (.int size),some (.int at'),some (.int tu),some (.ref p),some (.int i),some (.str (zb6 ((List.range j).map (nmN one at' (if decide (tu=0)=true then i else 0))))),v9,v10]/\H2=H1)
    ⟨v9,v10,by rw[zvy];rfl,rfl⟩ ?_ ?_⟩
   ·rintro j σ H2 hj ⟨v9,v10,rfl,rfl⟩;simp only [Int.zero_add]
    walk_at "rd"
    refine⟨by decide,?_⟩
    try dsimp only [zn]
    refine zcx (decide ((j:Int)=at'/\tu=0)) (fun Q' hQ=>?_) (ite2 (fun c=>?_) (fun c=>?_))
    ·refine⟨_,rfl,_,rfl,rfl,_,rfl,?_⟩;refine ite2 (fun c=>?_) (fun c=>?_)
     ·have c:(j:Int)=at':=V.int.inj (al17q c);refine⟨_,rfl,rfl,_,rfl,?_⟩;have e:decide (V.int tu=V.int 0)=decide ((j:Int)=at'/\tu=0):=al84q.mpr ⟨fun z=>⟨c,V.int.inj z⟩,fun z=>by rw[z.2]⟩;rw[e];exact hQ
     ·rw[al22q (fun z=>c (al15q (al67q V.int z.1)))] at hQ;exact hQ
    all_goals
     walk_at "rd"
     refine⟨(by decide:(0:Int)<37),NAMES,_,nmN one at' (if decide (tu=0)=true then i else 0) j,rfl,rfl,by decide,?_,?_⟩
    ·refine zwo _ one at' _ j ?_;obtain⟨c1,c2⟩:=al17q c;unfold nmI;rw[al11q c1,al11q (al15q c2)]
    ·refine⟨_,_,rfl,rfl,?_,some (.int j),some (.int (pt one ((j:Int)+2) 37+i)),?_,rfl⟩
     ·rw[zdg,al1q,al58q];exact al44q (show j+1<=100 by lia) (by decide)
     ·rw[show (⟨#[nmN one at' (if decide (tu=0)=true then i else 0) j]⟩:Str)=zb6 [nmN one at' (if decide (tu=0)=true then i else 0) j] from rfl,zhw,List.range_succ,al16q];rfl
    ·refine zwo _ one at' _ j ?_;have c:¬((j:Int)=at'/\tu=0):=fun z=>c (al15q z)
     unfold nmI
     by_cases c1:(j:Int)=at'
     ·rw[al11q c1,al7q (fun z=>c ⟨c1,al17q z⟩)];simp
     ·rw[al7q c1]
    ·refine⟨_,_,rfl,rfl,?_,some (.int j),some (.int (pt one ((j:Int)+2) 37)),?_,rfl⟩
     ·rw[zdg,al1q,al58q];exact al44q (show j+1<=100 by lia) (by decide)
     ·rw[show (⟨#[nmN one at' (if decide (tu=0)=true then i else 0) j]⟩:Str)=zb6 [nmN one at' (if decide (tu=0)=true then i else 0) j] from rfl,zhw,List.range_succ,al16q];rfl
   ·rintro σ H2 ⟨v9,v10,rfl,rfl⟩;have hlen:((zb6 (nmC one at' (if decide (tu=0)=true then i else 0) 12)).length:Nat)=12:=by rw[zdg,zdz]
    have hfin:∀x:Str,x=nf8 one at' (decide (tu=0)) size i->((List.range i).map (nf8 one at' (decide (tu=0)) size)).map V.str++[V.str x]=((List.range (i+1)).map (nf8 one at' (decide (tu=0)) size)).map V.str:=fun x e=>by
     rw[List.range_succ,al16q,al16q,e];rfl
    have hq2:(((List.range i).map (nf8 one at' (decide (tu=0)) size)).map V.str).length<sizeLine:=by
     rw[al1q,al1q,al58q];exact zq (by lia)
    refine⟨_,rfl,rfl,_,rfl,?_⟩;refine ite2 (fun c=>?_) (fun c=>?_)
    ·have c:tu=0:=V.int.inj (al17q c);refine⟨_,rfl,.inl ⟨rfl,_,SqL.of q2⟩,_,rfl,_,rfl,_,rfl,_,rfl,(by show (zb6 (nmC one at' (if decide (tu=0)=true then i else 0) 12)).length<=sizeLine;rw[hlen];decide),p,_,_,rfl,rfl,q2,hq2,?_⟩;refine⟨_,_,_,_,rfl,q1.upd hp,?_⟩;rw[zb]
     congr 2
     refine hfin _ ?_;show Txt.slice (zb6 (nmC one at' (if decide (tu=0)=true then i else 0) 12)) none (some (size:Int))=_;rw[zf3 _ _ (by lia) (by rw[zdz];lia)];unfold nf8;rw[al15q c];rfl
    ·have c:¬tu=0:=fun z=>c (al15q (al67q V.int z))
     refine⟨_,rfl,.inl ⟨rfl,_,SqL.of q2⟩,_,rfl,?_⟩
     walk_at "rd"
     refine⟨(by decide:(0:Int)<12),?_⟩;refine⟨_,_,rfl,rfl,_,rfl,_,rfl,(by show (zb6 (nmC one at' (if decide (tu=0)=true then i else 0) 12)).length<=sizeLine;rw[hlen];decide),p,_,_,rfl,rfl,q2,hq2,?_⟩;refine⟨_,_,_,_,rfl,q1.upd hp,?_⟩;rw[zb]
     congr 2
     refine hfin _ ?_;show Txt.slice (zb6 (nmC one at' (if decide (tu=0)=true then i else 0) 12)) none (some (1+((size:Int)+(i:Int))%12))=_;have e:1+((size:Int)+(i:Int))%12=((1+(size+i)%12:Nat):Int):=by lia
     rw[e,zf3 _ _ (by lia) (by rw[zdz];lia)];unfold nf8;rw[al22q c];rfl
  ·rintro σ H1 ⟨v7,v8,v9,v10,rfl,q1,q2⟩;obtain⟨n1,n2,n3⟩:=zn8 (one:=one) (tu:=decide (tu=0)) a1 a2 z1 z2;exact⟨_,rfl,k p _ H1 n3 n1 n2 hp q2 q1⟩
def zps:Sp:=fun vs H Q _=>∃c:Int,vs = [.int c]/\∀(z:Int) (H':Hp),0<=z->z<10 ^ 56->Same H H'->Q (.int z) H'
theorem zg5 (T:Tx K mg w zk zo zg zm):Has P w K mg base "_law_number" ["_law_cell"] 2 zps:=by
 refine T.zg8.has sc__law_number (fun vs H Q E h=>?_) (fun f cdv A outer s H vs Q E hr h=>?_)
 ·obtain⟨c,rfl,_⟩:=h;rfl
 ·obtain⟨c,rfl,k⟩:=h;refine⟨_,(zc (sset (i:=1) sc__law_number.nd (zad (za (zah zdd (pv 0) (zah zr9 ze ze)) (za (pfn (zv T) (za (pv 0) (za ze (za ze zd)))) (za (pfn (zv T) (za (pv 0) (za ze (za ze zd)))) zd)))))
   (zf (zy (pix (zab K rfl) (pv 1) (pfn (zv T) (za (pv 0) (za ze (za ze zd)))))))),?_⟩
  walk_at "rd"
  refine⟨c56,?_⟩
  walk_at "rd"
  refine⟨m56,?_⟩
  walk_at "rd"
  refine⟨by decide,?_⟩
  walk_at "rd"
  refine⟨by decide,(by show 3<=sizeLine;decide),fun p1 hp1=>?_⟩
  walk_at "rd"
  refine⟨by decide,?_⟩;obtain⟨b1,b2⟩:=zb5 c 62 3 (by decide);obtain⟨d1,d2⟩:=zb5 c 60 7 (by decide);obtain⟨d3,d4⟩:=zb5 c 61 2000 (by decide);have d5:=al126q c (show (10 ^ (56:Int).toNat:Int)≠0 by decide);have d6:=al120q c m56;have e56:(10:Int) ^ (56:Int).toNat=10 ^ 56:=rfl;rw[e56] at d5 d6;have h4:pt c 62 3=0\/pt c 62 3=1\/pt c 62 3=2:=by lia
  rcases h4 with h4 | h4 | h4
  all_goals
   rw[h4];refine⟨p1,_,_,_,rfl,rfl,SqL.of zb,rfl,k _ _ ?_ ?_ (Same.new hp1)⟩
  ·exact d5
  ·exact d6
  ·exact d1
  ·lia
  ·exact d3
  ·lia
def zin:List V:=[.str "over",.str "cuts",.str "fills",.str "after",.str "after",.str "same",.str "over"]
theorem zrp {i:Int}(h0:0<=i) (h1:i<7):∃kd:Str,atI zin i=some (.str kd)/\(kd = "after"\/kd∈zjg):=by
 have h:i=0\/i=1\/i=2\/i=3\/i=4\/i=5\/i=6:=by lia
 rcases h with rfl | rfl | rfl | rfl | rfl | rfl | rfl
 ·exact⟨_,rfl,.inr (by decide +kernel)⟩
 ·exact⟨_,rfl,.inr (by decide +kernel)⟩
 ·exact⟨_,rfl,.inr (by decide +kernel)⟩
 ·exact⟨_,rfl,.inl rfl⟩
 ·exact⟨_,rfl,.inl rfl⟩
 ·exact⟨_,rfl,.inr (by decide +kernel)⟩
 ·exact⟨_,rfl,.inr (by decide +kernel)⟩
theorem zpt:(Str.ofString "same" : Str)∈zjg:=by decide +kernel
theorem zpu:(Str.ofString "over" : Str)∈zjg:=by decide +kernel
theorem zup:¬(Str.ofString "over" : Str)=SAME:=by decide +kernel
def Down (pl:Str->Int) (t:Tie):Prop:=(t.k=SAME->pl t.a=pl t.b)/\(¬t.k=SAME->pl t.b<pl t.a)
theorem zlh {ps:List Int}{i:Nat}(h:i<ps.length):atI (ps.map V.int) (i:Int)=some (.int ps[i]):=zbk (by simp[h])
theorem zpv {xs:List Str}{i:Nat}(h:i<xs.length):atI (xs.map V.str) (i:Int)=some (.str xs[i]):=zbk (by simp[h])
inductive sp_tie8' (vs:List V) (H:Hp) (Q:VK):Prop
 | mk (pn pp:ty1q) (xs:List Str) (ps:List Int) (m:Nat) (c:Int) (ar:Bool) (_:vs = [.ref pn,.ref pp,.int m,.int c,.bl ar]) (_:SqL K H pn (xs.map V.str)) (_:SqL K H pp (ps.map V.int)) (_:xs.length=8) (_:xs.Nodup) (_:ps.length=8) (_:1<=m) (_:m<=8) (_:∀(p:ty1q) (t:Tie) (H':Hp),TOk (xs.take m) t->(ar=false->Down (plc xs ps) t)->H p=none->H' p=some (.tup (tieV t))->Same H H'->Q (.ref p) H')
def zuq:Sp:=fun vs H Q _=>sp_tie8' (K:=K) vs H Q
theorem zmg (T:Tx K mg w zk zo zg zm):Has P w K mg base "_law_tie" ["_law_names_here","_law_places","_law_many","_law_cell","_law_around"] 3 (zuq (K:=K)):=by
 refine T.zmq.has sc__law_tie (fun vs H Q E h=>?_) (fun f cdv A outer s H vs Q E hr h=>?_)
 ·obtain⟨pn,pp,xs,ps,m,c,ar,rfl,_⟩:=h;rfl
 ·obtain⟨pn,pp,xs,ps,m,c,ar,rfl,hn,hp,lx,nd,lp,m1,m8,k⟩:=h;refine⟨_,(zc (sset (i:=5) sc__law_tie.nd (pfn (zv T) (za (pv 3) (za ze (za (pv 2) zd)))))
   (zc (sset (i:=6) sc__law_tie.nd (pfn (zv T) (za (pv 3) (za ze (za (pv 2) zd)))))
   (zc (sset (i:=7) sc__law_tie.nd (pix (zab K rfl) (zad (za zaw (za zaw (za zaw (za zaw (za zaw (za zaw (za zaw zd)))))))) (pfn (zv T) (za (pv 3) (za ze (za ze zd))))))
   (zc (zaz (PW.pt (zeq (zfv (zhc (pv 4))) (zc3 (zw zll (pix (zab K rfl) (pv 1) (pv 5)) (pix (zab K rfl) (pv 1) (pv 6)) (zae _))))) (zf (zve (i:=5) (j:=6) rfl sc__law_tie.nd rfl rfl (by decide) rfl rfl (za (pv 6) (za (pv 5) zd)) rfl)) zz)
   (zc (zaz (PW.pt (zeq (zfv (zhc (pv 4))) (zc3 (zw zdu (pix (zab K rfl) (pv 1) (pv 5)) (pix (zab K rfl) (pv 1) (pv 6)) (zae _))))) (zf (sset (i:=7) sc__law_tie.nd zaw)) (zf (zaz (PW.pt (zeq (zfv (zhc (pv 4))) (zc3 (zw zdu (pv 7) zaw (zae _))))) (zf (sset (i:=7) sc__law_tie.nd zaw)) zz)))
   (zc (zaz (zw zdu (pv 7) zaw (zae _)) (zf (zy (zao (za (pv 7) (za (pix (zab K rfl) (pv 0) (pv 5)) (za (pix (zab K rfl) (pv 0) (pv 6)) (za (pix (zab K rfl) (zad (za (pfn (zv T) (za (pv 3) (za ze (za ze zd)))) (za (pfn (zg5 T) (za (pv 3) zd)) zd))) (pfn (zv T) (za (pv 3) (za ze (za ze zd))))) zd))))))) zz)
   (zf (zy (zao (za (pv 7) (za (pix (zab K rfl) (pv 0) (pv 5)) (za (pix (zab K rfl) (pv 0) (pv 6)) zd)))))))))))),?_⟩
  have hm:(0:Int)<(m:Int):=by lia
  refine⟨_,rfl,_,rfl,_,_,_,rfl,hm,?_⟩;obtain⟨a0,ea,la⟩:∃a:Nat,pt c 30 m=(a:Int)/\a<m:=⟨(pt c 30 m).toNat,by have:=zb5 c 30 m hm;lia,by have:=zb5 c 30 m hm;lia⟩;rw[ea]
  try dsimp only [zn]
  refine⟨_,rfl,_,rfl,_,_,_,rfl,hm,?_⟩;obtain⟨b0,eb,lb⟩:∃a:Nat,pt c 31 m=(a:Int)/\a<m:=⟨(pt c 31 m).toNat,by have:=zb5 c 31 m hm;lia,by have:=zb5 c 31 m hm;lia⟩;rw[eb]
  try dsimp only [zn]
  refine⟨(by show 7<=sizeLine;decide),fun p1 hp1=>?_⟩;refine⟨_,rfl,_,_,_,rfl,by decide,?_⟩;obtain⟨kd,ek,hk⟩:=zrp (zb5 c 33 7 (by decide)).1 (zb5 c 33 7 (by decide)).2;have s1:Same H (upd H p1 (.lst zin)):=Same.new hp1;refine⟨p1,zin,_,_,rfl,rfl,SqL.of zb,ek,?_⟩
  try dsimp only [zn]
  show tSeq _ _ _ _ (upd H p1 (.lst zin));generalize upd H p1 (.lst zin)=H1 at s1;have pa:=zlh (ps:=ps) (i:=a0) (by lia);have pb:=zlh (ps:=ps) (i:=b0) (by lia);refine zsm (fun σ'=>∃a b:Nat,σ' = [some (.ref pn),some (.ref pp),some (.int m),some (.int c),some (.bl ar),some (.int a),some (.int b),some (.str kd)]/\a<m/\b<m/\(ar=false->∀(h1:a<ps.length) (h2:b<ps.length),ps[b]<=ps[a]))
   (!ar&&decide (ps[a0]<ps[b0])) (fun Q' hQ=>?_) (fun e=>⟨_,⟨b0,a0,rfl,lb,la,fun ea h1 h2=>by rw[ea] at e;have:=al17q e;lia⟩,fun h=>⟨_,rfl,_,rfl,_,_,rfl,h⟩⟩)
   (fun e=>⟨_,⟨a0,b0,rfl,la,lb,fun ea h1 h2=>by rw[ea] at e;have:=al92q e;lia⟩,fun h=>h⟩) ?_
  ·refine⟨_,rfl,ar,rfl,?_⟩;cases ar with
   | true=>exact iteF hQ
   | false=>
    refine iteT ?_;exact⟨_,rfl,_,rfl,pp,_,_,_,rfl,rfl,s1.seq hp,pa,_,rfl,_,rfl,pp,_,_,_,rfl,rfl,s1.seq hp,pb,_,_,rfl,rfl,_,rfl,hQ⟩
  clear pa pb la lb ea eb;rintro σ' ⟨a,b,rfl,ham,hbm,hlt⟩;have pa:=zlh (ps:=ps) (i:=a) (by lia);have pb:=zlh (ps:=ps) (i:=b) (by lia);have xa:=zpv (xs:=xs) (i:=a) (by lia);have xb:=zpv (xs:=xs) (i:=b) (by lia);have hle:ar=false->ps[b]<=ps[a]:=fun e=>hlt e _ _
  have ma:xs[a]∈xs.take m:=al124q.mpr ⟨a,by lia,rfl⟩;have mb:xs[b]∈xs.take m:=al124q.mpr ⟨b,by lia,rfl⟩;have la:=zsj (xs:=xs) (ps:=ps) nd (i:=a) (x:=xs[a]) (p:=ps[a]) (al3q _) (al3q _);have lb:=zsj (xs:=xs) (ps:=ps) nd (i:=b) (x:=xs[b]) (p:=ps[b]) (al3q _) (al3q _);dsimp only;refine zsm (fun σ'=>∃kd':Str,σ' = [some (.ref pn),some (.ref pp),some (.int m),some (.int c),some (.bl ar),some (.int a),some (.int b),some (.str kd')]/\(kd' = "after"\/kd'∈zjg)/\(ar=false->(kd'=SAME->ps[a]=ps[b])/\(¬kd'=SAME->ps[b]<ps[a])))
   (!ar&&decide (ps[a]=ps[b])) (fun Q' hQ=>?_) (fun e=>?_) (fun e=>?_) ?_
  ·refine⟨_,rfl,ar,rfl,?_⟩;cases ar with
   | true=>exact iteF hQ
   | false=>
    refine iteT ?_;refine⟨_,rfl,_,rfl,pp,_,_,_,rfl,rfl,s1.seq hp,pa,_,rfl,_,rfl,pp,_,_,_,rfl,rfl,s1.seq hp,pb,rfl,_,rfl,?_⟩;have e:decide (V.int ps[a]=V.int ps[b])=decide (ps[a]=ps[b]):=al84q.mpr ⟨V.int.inj,al67q V.int⟩;rw[e];exact hQ
  ·exact⟨_,⟨"same",rfl,.inr zpt,fun ea=>⟨fun _=>by rw[ea] at e;exact al17q e,fun z=>absurd rfl z⟩⟩,fun h=>h⟩
  ·have c1:ar=false->¬ps[a]=ps[b]:=fun ea z=>by rw[ea] at e;exact al92q e z
   have tst:∀Q':Bool->Hp->Prop,Q' (!ar&&decide (kd=SAME)) H1->tAnd (tNot (tB (tVar 4))) (ztb (tOp rEq (tVar 7) (tC (V.str (Str.ofString "same"))))) [some (.ref pn),some (.ref pp),some (.int m),some (.int c),some (.bl ar),some (.int a),some (.int b),some (.str kd)] H1 Q':=fun Q' hQ=>by
    refine⟨_,rfl,ar,rfl,?_⟩;cases ar with
    | true=>exact iteF hQ
    | false=>
     refine iteT ?_;refine⟨_,rfl,rfl,_,rfl,?_⟩;have e:decide (V.str kd=V.str "same")=decide (kd=SAME):=al84q.mpr ⟨V.str.inj,al67q V.str⟩;rw[e];exact hQ
   by_cases c2:(!ar&&decide (kd=SAME))=true
   ·refine⟨_,⟨"over",rfl,.inr zpu,fun ea=>⟨fun z=>absurd z zup,fun _=>by have:=hle ea;have:=c1 ea;lia⟩⟩,fun h=>zcx (!ar&&decide (kd=SAME)) tst ?_⟩;rw[c2];exact iteT h
   ·refine⟨_,⟨kd,rfl,hk,fun ea=>⟨fun z=>absurd (by rw[ea];exact al15q z) c2,fun _=>by have:=hle ea;have:=c1 ea;lia⟩⟩,fun h=>zcx (!ar&&decide (kd=SAME)) tst ?_⟩;rw[Bool.eq_false_iff.mpr c2];exact iteF h
  clear hk ek;rintro σ' ⟨kd',rfl,hk',hdn⟩;have fin:∀g,TieOk (xs.take m) (tieV ⟨kd',xs[a],xs[b],g⟩)->TOk (xs.take m) ⟨kd',xs[a],xs[b],g⟩/\(ar=false->Down (plc xs ps) ⟨kd',xs[a],xs[b],g⟩):=fun g h3=>
   ⟨⟨h3,ma,mb⟩,fun e=>⟨fun z=>by show plc xs ps xs[a]=plc xs ps xs[b];rw[la,lb];exact (hdn e).1 z,fun z=>by show plc xs ps xs[b]<plc xs ps xs[a];rw[la,lb];exact (hdn e).2 z⟩⟩
  refine⟨_,rfl,rfl,_,rfl,?_⟩;refine ite2 (fun c3=>?_) (fun c3=>?_)
  ·have c3:kd' = "after":=V.str.inj (al17q c3);refine⟨_,rfl,_,rfl,_,rfl,pn,_,_,_,rfl,rfl,s1.seq hn,xa,_,rfl,_,rfl,pn,_,_,_,rfl,rfl,s1.seq hn,xb,?_⟩;refine⟨_,rfl,_,_,_,rfl,by decide,?_⟩;refine⟨_,rfl,c,rfl,fun z H2 z0 z1 s2=>?_⟩;refine⟨(by show 2<=sizeLine;decide),fun p2 hp2=>?_⟩;have s3:=Same.new (o:=.lst [.int (pt c 34 5),.int z]) hp2;refine⟨_,rfl,_,_,_,rfl,by decide,?_⟩;obtain⟨d1,d2⟩:=zb5 c 34 5 (by decide);obtain⟨v,hv,hv'⟩:=zsh (u:=.int (pt c 34 5)) (v:=.int z) (zb5 c 35 2 (by decide)).1 (zb5 c 35 2 (by decide)).2;obtain⟨g,rfl,g0,g1⟩:∃g:Int,v = .int g/\0<=g/\zku g:=by
    rcases hv' with rfl | rfl
    ·exact⟨_,rfl,d1,by unfold zku;lia⟩
    ·exact⟨_,rfl,z0,by unfold zku;lia⟩
   refine⟨p2,_,_,_,rfl,rfl,SqL.of zb,hv,(by show 4<=sizeLine;decide),fun p3 hp3=>?_⟩;have tok:TieOk (xs.take m) (tieV ⟨kd',xs[a],xs[b],some g⟩):=by rw[c3];exact .after ma mb g0 g1
   obtain⟨f1,f2⟩:=fin (some g) tok;exact k p3 _ _ f1 f2 (s1.free (s2.free (s3.free hp3))) zb (s1.trans (s2.trans (s3.trans (Same.new hp3))))
  ·have c3:¬kd' = "after":=fun z=>c3 (al15q (al67q V.str z))
   refine⟨_,rfl,_,rfl,_,rfl,pn,_,_,_,rfl,rfl,s1.seq hn,xa,_,rfl,_,rfl,pn,_,_,_,rfl,rfl,s1.seq hn,xb,(by show 3<=sizeLine;decide),fun p3 hp3=>?_⟩;have tok:TieOk (xs.take m) (tieV ⟨kd',xs[a],xs[b],none⟩):=.plain (hk'.resolve_left c3) ma mb;obtain⟨f1,f2⟩:=fin none tok;exact k p3 _ _ f1 f2 (s1.free hp3) zb (s1.trans (Same.new hp3))
inductive sp_ties8' (vs:List V) (H:Hp) (Q:VK):Prop
 | mk (pn pp pc:ty1q) (xs:List Str) (ps:List Int) (m:Nat) (cs:List Int) (ar:Bool) (_:vs = [.ref pn,.ref pp,.int m,.ref pc,.bl ar]) (_:SqL K H pn (xs.map V.str)) (_:SqL K H pp (ps.map V.int)) (_:SqL K H pc (cs.map V.int)) (_:xs.length=8) (_:xs.Nodup) (_:(∀x∈xs,zfk x=true)) (_:ps.length=8) (_:m<=8) (_:cs.length<=100) (_:∀(p:ty1q) (ads:List ty1q) (ts:List Tie) (H':Hp),(∀t∈ts,TOk (xs.take m) t)->(ar=false->∀t∈ts,Down (plc xs ps) t)->ts.Nodup->ts.length<=cs.length->H p=none->H' p=some (.lst (ads.map V.ref))->Tups H' ads (ts.map tieV)->Same H H'->Q (.ref p) H')
def zrq:Sp:=fun vs H Q _=>sp_ties8' (K:=K) vs H Q
theorem zj2 (T:Tx K mg w zk zo zg zm):Has P w K mg base "_law_ties" ["_law_names_here","_law_places","_law_many","_law_cells","_law_around"] 4 (zrq (K:=K)):=by
 refine T.zkd.has sc__law_ties (fun vs H Q E h=>?_) (fun f cdv A outer s H vs Q E hr h=>?_)
 ·obtain⟨pn,pp,pc,xs,ps,m,cs,ar,rfl,_⟩:=h;rfl
 ·obtain⟨pn,pp,pc,xs,ps,m,cs,ar,rfl,hn,hp,hc,lx,nd,nm,lp,m8,lc,k⟩:=h;refine⟨_,(zc (sset (i:=5) sc__law_ties.nd (zad zd))
   (zc (zac al21q rfl (zr K rfl (pv 3)) (gnm (i:=6) sc__law_ties.nd) (zf (zaz (zw zqg (pv 2) ze (zae _)) (zc (sset (i:=7) sc__law_ties.nd (pfn (zmg T) (za (pv 0) (za (pv 1) (za (pv 2) (za (pv 6) (za (pv 4) zd)))))))
     (zf (zaz (zw (zdw K rfl (hu11 hr)) (pv 7) (pv 5) (by with_unfolding_all rfl)) (zf (zat (zbz K rfl PySem.F.plainAttrs_list PySem.F.slot_list_append PySem.F.type_list_append zar (pv 5) (za (pv 7) zd)))) zz))) zz)))
   (zf (zy (pv 5))))),?_⟩
  refine⟨by decide,fun p hp0=>?_⟩;have nmm:∀x∈xs.take m,zfk x=true:=fun x hx=>nm x (al131q hx)
  refine⟨_,rfl,pc,rfl,⟨_,(Same.new hp0).seq hc⟩,zaa (xs:=cs.map V.int) (fun i σ H'=>∃v6 v7 ads ts,σ = [some (.ref pn),some (.ref pp),some (.int m),some (.ref pc),some (.bl ar),some (.ref p),v6,v7]/\Same H H'/\H' p=some (.lst (ads.map V.ref))/\Tups H' ads (ts.map tieV)/\
   (∀t∈ts,TOk (xs.take m) t)/\(ar=false->∀t∈ts,Down (plc xs ps) t)/\ts.Nodup/\ts.length<=i)
   ⟨none,none,[],[],rfl,Same.new hp0,zb,.nil,by simp,by simp,by simp,al18q _⟩ (fun i σ H' _ h=>by obtain⟨_,_,_,_,_,q,_⟩:=h;exact q.seq hc) ?_ ?_⟩
  ·rintro i x σ H1 hx ⟨v6,v7,ads,ts,rfl,q,hp1,tp,hok,hdn,tnd,hlt⟩;have hi:=zag hx;rw[al1q] at hi;have hlen:ads.length=ts.length:=by have:=tp.len;rw[al1q] at this;exact this
   obtain⟨c,rfl⟩:∃z,x=V.int z:=by
    rw[al10q] at hx;cases e:cs[i]? with
    | none=>rw[e] at hx;cases hx
    | some z=>rw[e] at hx;exact⟨z,(al46q hx).symm⟩
   try dsimp only [zn]
   refine⟨_,rfl,_,_,rfl,rfl,_,rfl,?_⟩;refine ite2 (fun c1=>?_) (fun c1=>?_)
   ·have c1:=al17q c1;refine⟨_,rfl,_,rfl,_,rfl,_,rfl,_,rfl,pn,pp,xs,ps,m,c,ar,rfl,q.seq hn,q.seq hp,lx,nd,lp,by lia,m8,fun p4 t H4 tok dn fp4 e4 s4=>?_⟩;have q4:=q.trans s4;have tp4:=tp.same s4;have hp4:=s4 _ _ hp1;have hw:∀vs∈ts.map tieV,∀v∈vs,Wd v:=fun vs hv=>by
     obtain⟨u,hu,rfl⟩:=al27q.mp hv;exact ((hok u hu).ok.words nmm).1
    try dsimp only [zn]
    refine⟨_,rfl,_,rfl,p,_,_,rfl,.inl (SqL.of hp4),tp4.deq (n:=7) hw e4 (tok.ok.words nmm).1,_,rfl,?_⟩;rw[al11q rfl,tp4.anyE];refine ite2 (fun c3=>?_) (fun c3=>?_)
    ·have c3:tieV t ∉ ts.map tieV:=by simpa using c3
     refine⟨_,rfl,.inl ⟨rfl,_,SqL.of hp4⟩,_,rfl,p,_,_,rfl,rfl,hp4,by rw[al1q];exact zq (by lia),?_⟩;refine⟨_,_,ads++[p4],ts++[t],rfl,q4.upd hp0,?_,?_,?_,?_,?_,?_⟩
     ·rw[zb,al16q];rfl
     ·rw[al16q];exact Tups.snoc (tp4.stay (zaf hp4)) (zaf hp4 _ _ e4)
     ·intro u hu;rcases al28q.mp hu with hu | hu
      ·exact hok u hu
      ·have:u=t:=by simpa using hu
       subst this;exact tok
     ·intro e u hu;rcases al28q.mp hu with hu | hu
      ·exact hdn e u hu
      ·have:u=t:=by simpa using hu
       subst this;exact dn e
     ·rw[al108q];refine⟨tnd,by simp,fun a ha b hb e=>?_⟩;simp at hb;subst hb;subst e;exact c3 (al27q.mpr ⟨a,ha,rfl⟩)
     ·rw[al20q];exact Nat.succ_le_succ hlt
    ·exact⟨_,_,ads,ts,rfl,q4,hp4,tp4,hok,hdn,tnd,by lia⟩
   ·exact⟨_,_,ads,ts,rfl,q,hp1,tp,hok,hdn,tnd,by lia⟩
  ·rintro σ H1 ⟨v6,v7,ads,ts,rfl,q,hp1,tp,hok,hdn,tnd,hlt⟩;rw[al1q] at hlt;exact⟨_,rfl,k p ads ts _ hok hdn tnd hlt hp0 hp1 tp q⟩
inductive sp_join' (vs:List V) (H:Hp) (Q:VK):Prop
 | mk (pd:ty1q) (us:List Str) (lab:Str->Str) (f s:Str) (_:vs = [.ref pd,.str f,.str s]) (_:H pd=some (.dK (dN us lab))) (_:us.Nodup) (_:us.length<=1000) (_:∀H':Hp,H' pd=some (.dK (dN us (jn lab f s)))->(∀b o,b≠pd->H b=some o->H' b=some o)->Q .non H')
def zur:Sp:=fun vs H Q _=>sp_join' vs H Q
theorem zj3 (T:Tx K mg w zk zo zg zm):Has P w K mg base "join_ones" ["names","first","second"] 1 zur:=by
 refine T.zka.has sc_join_ones (fun vs H Q E h=>?_) (fun f cdv A outer s H vs Q E hr h=>?_)
 ·obtain⟨pd,us,lab,f,s,rfl,_⟩:=h;rfl
 ·obtain⟨pd,us,lab,f,s',rfl,hd,nd,hl,k⟩:=h;have hu:=zbp hr;refine⟨_,(zc (sset (i:=3) sc_join_ones.nd (zap (zgb rfl) (by rfl) T.min al188q (za (pv 1) (za (pv 2) zd))))
   (zf (zac al21q rfl (zr K rfl (za2 (zd7 rfl) (by rfl) T.list al113q (za (pv 0) zd))) (gnm (i:=4) sc_join_ones.nd) (zf (zaz (zw (zf1 K rfl) (zp hu (pv 0) (pv 4) (fun _ _=>rfl)) (zao (za (pv 1) (za (pv 2) zd))) (by with_unfolding_all rfl)) (zf (za8 hu (pv 0) (pv 4) (pv 3) rfl)) zz))))),?_⟩
  refine⟨_,rfl,_,rfl,_,_,rfl,?_⟩;refine⟨_,rfl,pd,_,rfl,hd,fun l hl'=>?_⟩;rw[ztv];have npl:pd≠l:=zi hd hl';refine⟨l,rfl,⟨_,SqL.of zb⟩,zaa (xs:=us.map V.str) (fun i σ H'=>∃v4,σ = [some (.ref pd),some (.str f),some (.str s'),some (.str (minS f s')),v4]/\(∀b o,b≠pd->H b=some o->H' b=some o)/\H' l=some (.lst (us.map V.str))/\
   H' pd=some (.dK (dN us fun x=>if x∈us.take i then jn lab f s' x else lab x)))
   ⟨none,rfl,fun b o _ e=>Same.new hl' _ _ e,zb,?_⟩ (fun i σ H' _ h=>by obtain⟨_,_,_,q,_⟩:=h;exact SqL.of q) ?_ ?_⟩
  ·rw[zl npl,hd,zct (f:=fun x=>if x∈us.take 0 then jn lab f s' x else lab x) (g:=lab) fun x _=>by simp]
  ·rintro i x σ H1 hx ⟨v4,rfl,kp,hl1,hd1⟩;rw[al10q] at hx;cases eu:us[i]? with
   | none=>rw[eu] at hx;cases hx
   | some u=>
    rw[eu] at hx;cases hx;have hu':u∈us:=al6q eu;have hi:=zag eu;have hfr:u ∉ us.take i:=by
     have:=zay nd i hi;rw[show us[i]=u from (al8q.mp eu).2] at this;exact this
    have hg:=DGet.k (k:=Sum.inr u) hd1;rw[zb1 hu',al7q hfr] at hg;dsimp only [zn];refine zbs (decide (lab u=f\/lab u=s')) (fun Q' hQ=>?_) (fun H2 t2=>?_)
    ·refine⟨_,rfl,_,rfl,pd,_,rfl,hg,_,rfl,_,rfl,(by show 2<=sizeLine;decide),fun p hp=>?_⟩;refine⟨p,_,rfl,.inr (SqT.of zb),rfl,rfl,_,rfl,?_⟩;have e:inV (.str (lab u)) [.str f,.str s']=decide (lab u=f\/lab u=s'):=by
      rw[show ([.str f,.str s']:List V) = [f,s'].map V.str from rfl,zrc];apply al84q.mpr;simp
     show Q' (inV (.str (lab u)) [.str f,.str s']) _;rw[e];exact hQ _ (Same.new hp)
    ·have hd2:=t2 _ _ hd1;have kp2:∀b o,b≠pd->H b=some o->H2 b=some o:=fun b o n e=>t2 _ _ (kp b o n e)
     refine ite2 (fun c=>?_) (fun c=>?_)
     ·have c:=al17q c;refine⟨_,rfl,_,rfl,_,rfl,pd,_,rfl,DPut.k (k:=Sum.inr u) hd2 (by rw[zhy];exact zq hl),?_⟩;refine⟨_,rfl,fun b o n e=>by rw[zl n];exact kp2 b o n e,?_,?_⟩
      ·rw[zl npl.symm];exact t2 _ _ hl1
      ·rw[zb,zn4 hu']
       congr 2
       refine zct fun z hz=>?_
       have ht:z∈us.take (i+1)↔z∈us.take i\/z=u:=by
        rw[al9q,eu];simp
       by_cases e:z=u
       ·subst e;rw[al11q rfl,al11q (ht.mpr (.inr rfl))];exact (al11q c).symm
       ·rw[al7q e]
        by_cases e2:z∈us.take i
        ·rw[al11q e2,al11q (ht.mpr (.inl e2))]
        ·rw[al7q e2,al7q (fun q=>(ht.mp q).elim e2 e)]
     ·have c:¬(lab u=f\/lab u=s'):=fun z=>c (al15q z)
      refine⟨_,rfl,kp2,t2 _ _ hl1,?_⟩;rw[hd2]
      congr 2
      refine zct fun z hz=>?_
      have ht:z∈us.take (i+1)↔z∈us.take i\/z=u:=by
       rw[al9q,eu];simp
      by_cases e:z=u
      ·subst e;rw[al7q hfr,al11q (ht.mpr (.inr rfl))];exact (al7q c).symm
      ·by_cases e2:z∈us.take i
       ·rw[al11q e2,al11q (ht.mpr (.inl e2))]
       ·rw[al7q e2,al7q (fun q=>(ht.mp q).elim e2 e)]
  ·rintro σ H1 ⟨v4,rfl,kp,hl1,hd1⟩;refine k _ ?_ kp;rw[hd1,al1q,al23q]
   congr 2
   exact zct fun z hz=>al11q hz
inductive sp_lab' (vs:List V) (H:Hp) (Q:VK):Prop
 | mk (pu pt:ty1q) (us:List Str) (ads:List ty1q) (ts:List Tie) (_:vs = [.ref pu,.ref pt]) (_:SqL K H pu (us.map V.str)) (_:SqL K H pt (ads.map V.ref)) (_:Tups H ads (ts.map tieV)) (_:us.Nodup) (_:us.length<=1000) (_:(∀t∈ts,t.a∈us/\t.b∈us)) (_:∀(pd:ty1q) (H':Hp),H pd=none->H' pd=some (.dK (dN us (labs ts)))->Same H H'->Q (.ref pd) H')
def zwp:Sp:=fun vs H Q _=>sp_lab' (K:=K) vs H Q
theorem zcb (T:Tx K mg w zk zo zg zm):Has P w K mg base "one_names" ["units","ties"] 2 (zwp (K:=K)):=by
 refine T.zj9.has sc_one_names (fun vs H Q E h=>?_) (fun f cdv A outer s H vs Q E hr h=>?_)
 ·obtain⟨pu,pt,us,ads,ts,rfl,_⟩:=h;rfl
 ·obtain⟨pu,pt,us,ads,ts,rfl,hu1,ht1,tp,nd,hl,hts,k⟩:=h;have hu:=zbp hr;refine⟨_,(zc (sset (i:=2) sc_one_names.nd za7)
   (zc (zac al21q rfl (zr K rfl (pv 0)) (gnm (i:=3) sc_one_names.nd) (zf (za8 hu (pv 2) (pv 3) (pv 3) rfl)))
   (zc (zac al21q rfl (zr K rfl (pv 1)) (gnm (i:=4) sc_one_names.nd) (zf (zaz (zw zdu (pix (zh K rfl) (pv 4) ze) zaw (zae _)) (zf (zat (pfn (zj3 T) (za (pv 2) (za (zp hu (pv 2) (pix (zh K rfl) (pv 4) ze) (fun _ _=>rfl)) (za (zp hu (pv 2) (pix (zh K rfl) (pv 4) ze) (fun _ _=>rfl)) zd)))))) zz)))
   (zf (zy (pv 2)))))),?_⟩
  have hlen:ads.length=ts.length:=by have:=tp.len;rw[al1q] at this;exact this
  refine fun pd hpd=>?_
  have s0:=Same.new (o:=.dK []) hpd;refine⟨_,rfl,pu,rfl,⟨_,s0.seq hu1⟩,zaa (xs:=us.map V.str) (fun i σ H'=>∃v3,σ = [some (.ref pu),some (.ref pt),some (.ref pd),v3,none]/\Same H H'/\H' pd=some (.dK (dN (us.take i) id)))
   ⟨none,rfl,s0,zb⟩ (fun i σ H' _ h=>by obtain⟨_,_,q,_⟩:=h;exact q.seq hu1) ?_ ?_⟩
  ·rintro i x σ H1 hx ⟨v3,rfl,q,hd⟩;rw[al10q] at hx;cases eu:us[i]? with
   | none=>rw[eu] at hx;cases hx
   | some u=>
    rw[eu] at hx;cases hx;have hi:=zag eu;have hfr:u ∉ us.take i:=by
     have:=zay nd i hi;rw[show us[i]=u from (al8q.mp eu).2] at this;exact this
    dsimp only [zn];refine⟨_,rfl,_,rfl,_,rfl,pd,_,rfl,DPut.k (k:=Sum.inr u) hd (by rw[zhy,al25q];exact zq (by lia)),?_⟩;refine⟨_,rfl,q.upd hpd,?_⟩;rw[zb,al9q,eu]
    congr 2
    exact zsi hfr
  ·rintro σ H1 ⟨v3,rfl,q,hd⟩;rw[al1q,al23q] at hd;refine⟨_,rfl,pt,rfl,⟨_,q.seq ht1⟩,zaa (xs:=ads.map V.ref) (fun i σ H'=>∃v4,σ = [some (.ref pu),some (.ref pt),some (.ref pd),v3,v4]/\Same H H'/\H' pd=some (.dK (dN us (labs (ts.take i)))))
    ⟨none,rfl,q,hd⟩ (fun i σ H' _ h=>by obtain⟨_,_,q,_⟩:=h;exact q.seq ht1) ?_ ?_⟩
   ·rintro i x σ H2 hx ⟨v4,rfl,q2,hd2⟩;obtain⟨r,t,rfl,ht,_,hr⟩:=zc8 tp hx;have hr2:=q2 _ _ hr;have hab:=hts t (al6q ht);dsimp only [zn];refine⟨_,rfl,r,_,_,_,rfl,rfl,SqT.of hr2,zf4 t,rfl,_,rfl,?_⟩;refine ite2 (fun c=>?_) (fun c=>?_)
    ·have c:t.k=SAME:=V.str.inj (al17q c);have g1:=DGet.k (k:=Sum.inr t.a) hd2;have g2:=DGet.k (k:=Sum.inr t.b) hd2;rw[zb1 hab.1] at g1;rw[zb1 hab.2] at g2;refine⟨_,rfl,_,rfl,_,rfl,r,_,_,_,rfl,rfl,SqT.of hr2,zf5 t,pd,_,rfl,g1,_,rfl,_,rfl,r,_,_,_,rfl,rfl,SqT.of hr2,zf6 t,pd,_,rfl,g2,?_⟩;refine⟨pd,us,_,_,_,rfl,hd2,nd,hl,fun H3 hd3 kp=>?_⟩;refine⟨_,rfl,fun b o e=>kp b o (zi e hpd) (q2 b o e),?_⟩;rw[hd3,zhx ht];unfold stp;rw[al11q c]
    ·have c:¬t.k=SAME:=fun z=>c (al15q (al67q V.str z))
     refine⟨_,rfl,q2,?_⟩;rw[hd2,zhx ht];unfold stp;rw[al7q c]
   ·rintro σ H2 ⟨v4,rfl,q2,hd2⟩;rw[al1q,hlen,al23q] at hd2;exact⟨_,rfl,k pd _ hpd hd2 q2⟩
abbrev Lsts (H:Hp):List ty1q->List (List Str)->Prop:=Paired fun a g=>H a=some (.lst (g.map V.str))
theorem zpw {H:Hp}{ad:Str->ty1q}{g:Str->List Str}:∀{ks:List Str},(∀k∈ks,H (ad k)=some (.lst ((g k).map V.str)))->Lsts H (ks.map ad) (ks.map g)
 | [],_=>.nil
 | k::r,h=>.cons (h k (by simp)) (zpw fun z hz=>h z (al5q _ hz))
inductive sp_ones' (vs:List V) (H:Hp) (Q:VK):Prop
 | mk (pu pt:ty1q) (us:List Str) (ads:List ty1q) (ts:List Tie) (_:vs = [.ref pu,.ref pt]) (_:SqL K H pu (us.map V.str)) (_:SqL K H pt (ads.map V.ref)) (_:Tups H ads (ts.map tieV)) (_:us.Nodup) (_:us.length<64) (_:(∀t∈ts,t.a∈us/\t.b∈us)) (_:∀(p:ty1q) (as:List ty1q) (H':Hp),H p=none->(∀a∈as,H a=none)->p ∉ as->as.Nodup->H' p=some (.lst (as.map V.ref))->Lsts H' as (zcd us ts)->Same H H'->Q (.ref p) H')
def zus:Sp:=fun vs H Q _=>sp_ones' (K:=K) vs H Q
theorem zs4 (T:Tx K mg w zk zo zg zm):Has P w K mg base "ones" ["units","ties"] 3 (zus (K:=K)):=by
 refine T.zwx.has sc_ones (fun vs H Q E h=>?_) (fun f cdv A outer s H vs Q E hr h=>?_)
 ·obtain⟨pu,pt,us,ads,ts,rfl,_⟩:=h;rfl
 ·obtain⟨pu,pt,us,ads,ts,rfl,hu1,ht1,tp,nd,hl,hts,k⟩:=h;have hu:=zbp hr;refine⟨_,(zc (sset (i:=2) sc_ones.nd (pfn (zcb T) (za (pv 0) (za (pv 1) zd))))
   (zc (sset (i:=3) sc_ones.nd za7)
   (zc (zac al21q rfl (zr K rfl (zap (zh4 (K:=K) rfl) (by rfl) T.sorted al171q (za (pv 0) zd))) (gnm (i:=4) sc_ones.nd) (zf (zat (zbz K rfl PySem.F.plainAttrs_list PySem.F.slot_list_append PySem.F.type_list_append zar (zlt (pv 3) (zp hu (pv 2) (pv 4) (fun _ _=>rfl)) (zad zd) ⟨rfl,rfl,rfl,rfl⟩) (za (pv 4) zd)))))
   (zf (zy (za2 (zd8 rfl) (by rfl) T.list al113q (za (znp K rfl PySem.F.plainAttrs_dict PySem.F.slot_dict_values PySem.F.type_dict_values zhu (pv 3)) zd))))))),?_⟩
  refine⟨_,rfl,_,rfl,pu,pt,us,ads,ts,rfl,hu1,ht1,tp,nd,by lia,hts,fun pn H1 fpn hn s1=>?_⟩
  try dsimp only [zn]
  refine fun pd hpd=>?_
  have s2:=Same.new (o:=.dK []) hpd;refine⟨_,rfl,pu,us,rfl,(s1.trans s2).seq hu1,hl,fun l ms hl' pm rs=>?_⟩;have em:=zkx pm rs;subst em;have s3:=Same.new (o:=.lst ((srt us).map V.str)) hl';have fpd:H pd=none:=s1.free hpd;have fl:H l=none:=(s1.trans s2).free hl';have n1:pd≠l:=zi zb hl';have n2:pn≠pd:=zi hn hpd;have n3:pn≠l:=zi (s2 _ _ hn) hl';refine⟨l,rfl,⟨_,SqL.of zb⟩,zaa (xs:=(srt us).map V.str) (fun i σ H'=>∃v4 ad,σ = [some (.ref pu),some (.ref pt),some (.ref pn),some (.ref pd),v4]/\Same H H'/\H' l=some (.lst ((srt us).map V.str))/\H' pn=some (.dK (dN us (labs ts)))/\
   H' pd=some (.dK (dV (keysOf ts ((srt us).take i)) fun k=>.ref (ad k)))/\(∀k∈keysOf ts ((srt us).take i),H' (ad k)=some (.lst ((zci ts ((srt us).take i) k).map V.str))/\H (ad k)=none/\ad k≠pd/\ad k≠l/\ad k≠pn)/\
   (∀k∈keysOf ts ((srt us).take i),∀k'∈keysOf ts ((srt us).take i),ad k=ad k'->k=k'))
   ⟨none,fun _=>0,rfl,s1.trans (s2.trans s3),zb,s3 _ _ (s2 _ _ hn),s3 _ _ zb,(fun k hk=>by simp[keysOf] at hk),fun k hk=>by simp[keysOf] at hk⟩ (fun i σ H' _ h=>by obtain⟨_,_,_,_,q,_⟩:=h;exact SqL.of q) ?_ ?_⟩
  ·rintro i v σ H2 hx ⟨v4,ad,rfl,q,hl2,hn2,hd2,hk2,hin⟩;rw[al10q] at hx;cases eu:(srt us)[i]? with
   | none=>rw[eu] at hx;cases hx
   | some u=>
    rw[eu] at hx;cases hx;have hu':u∈us:=srt_mem.mp (al6q eu);have hi:=zag eu;have hkl:(keysOf ts ((srt us).take i)).length<=63:=by
     have h1:(keysOf ts ((srt us).take i)).length<=((srt us).take i).length:=al48q _ _;have h2:((srt us).take i).length<=(srt us).length:=by rw[al25q];lia
     rw[zji] at h2;lia
    have hgl:∀k,(zci ts ((srt us).take i) k).length<=63:=fun k=>by
     have h1:(zci ts ((srt us).take i) k).length<=((srt us).take i).length:=al48q _ _;have h2:((srt us).take i).length<=(srt us).length:=by rw[al25q];lia
     rw[zji] at h2;lia
    have g:=DGet.k (k:=Sum.inr u) hn2;rw[zb1 hu'] at g;obtain⟨knew,gnew⟩:=zty (ts:=ts) nd eu
    try dsimp only [zn]
    refine⟨_,rfl,pd,rfl,.inl ⟨_,.inl hd2⟩,_,rfl,_,rfl,pn,_,rfl,g,by decide,fun q0 hq0=>?_⟩;have t0:=Same.new (o:=.lst []) hq0;have hd3:=t0 _ _ hd2;have nq:pd≠q0:=zi hd2 hq0;refine⟨_,Sum.inr (labs ts u),hd3,rfl,by rw[zas];exact zq (by lia),fun v hv=>?_,fun hv=>?_⟩
    ·have hmem:labs ts u∈keysOf ts ((srt us).take i):=al33q fun z=>by rw[zd0 z] at hv;cases hv
     rw[zba hmem] at hv;cases hv;obtain⟨h1,h2,h3,h4,h5⟩:=hk2 _ hmem;have hne:¬labs ts u=u:=fun e=>by rw[e] at hmem;exact knew hmem
     have h1':=t0 _ _ h1;refine⟨.inl ⟨rfl,_,SqL.of h1'⟩,_,rfl,ad (labs ts u),_,_,rfl,rfl,h1',by rw[al1q];exact zq (by have:=hgl (labs ts u);lia),?_⟩;have ks:keysOf ts ((srt us).take (i+1))=keysOf ts ((srt us).take i):=by rw[zh0 eu,al7q hne,al53q]
     refine⟨_,ad,rfl,(q.trans t0).upd h2,?_,?_,?_,?_,?_⟩
     ·rw[zl (al36q h4)];exact t0 _ _ hl2
     ·rw[zl (al36q h5)];exact t0 _ _ hn2
     ·rw[zl (al36q h3),ks];exact hd3
     ·rw[ks];intro k hk;obtain⟨b1,b2,b3,b4,b5⟩:=hk2 k hk;refine⟨?_,b2,b3,b4,b5⟩;rw[zgx eu]
      by_cases e:labs ts u=k
      ·subst e;rw[al11q rfl,zb,al16q];rfl
      ·rw[al7q e,al53q,zl (fun z=>e (hin _ hmem _ hk z.symm))];exact t0 _ _ b1
     ·rw[ks];exact hin
    ·have hmem:labs ts u ∉ keysOf ts ((srt us).take i):=fun z=>by rw[zba z] at hv;cases hv
     have he:labs ts u=u:=al33q fun z=>hmem (ztx nd hts eu z)
     rw[he];rw[he] at hmem;have e3:upd (upd H2 q0 (.lst [])) pd (.dK (putK (dV (keysOf ts ((srt us).take i)) fun k=>.ref (ad k)) (Sum.inr u) (.ref q0))) q0=some (.lst []):=by rw[zl (al36q nq),zb]
     refine⟨.inl ⟨rfl,_,SqL.of e3⟩,_,rfl,q0,_,_,rfl,rfl,e3,by decide,?_⟩;have ks:keysOf ts ((srt us).take (i+1))=keysOf ts ((srt us).take i)++[u]:=by rw[zh0 eu,al11q he]
     have nl:l≠q0:=zi hl2 hq0;have nn:pn≠q0:=zi hn2 hq0;have fq0:H q0=none:=q.free hq0;refine⟨_,fun z=>if z=u then q0 else ad z,rfl,((q.trans t0).upd fpd).upd fq0,?_,?_,?_,?_,?_⟩
     ·rw[zl nl,zl (al36q n1)];exact t0 _ _ hl2
     ·rw[zl nn,zl n2];exact t0 _ _ hn2
     ·rw[zl nq,zb,zdj hmem,ks]
      congr 2
      refine zbd fun z hz=>?_
      dsimp only
      by_cases e:z=u
      ·rw[al11q e,al11q e]
      ·rw[al7q e,al7q e]
     ·rw[ks];intro k hk;dsimp only
      by_cases e:k=u
      ·subst e;rw[al11q rfl];refine⟨?_,fq0,al36q nq,al36q nl,al36q nn⟩;rw[zb,zgx eu,al11q he,gnew he];rfl
      ·rw[al7q e];have hk':k∈keysOf ts ((srt us).take i):=by
        rcases al28q.mp hk with h | h
        ·exact h
        ·exact absurd (by simpa using h) e
       obtain⟨b1,b2,b3,b4,b5⟩:=hk2 k hk';refine⟨?_,b2,b3,b4,b5⟩;have nk:ad k≠q0:=zi b1 hq0;rw[zl nk,zl b3,zgx eu,al7q (fun z=>e (z.symm.trans he)),al53q];exact t0 _ _ b1
     ·rw[ks];intro k hk k' hk' z;dsimp only at z;have inold:∀z,z∈keysOf ts ((srt us).take i)++[u]->z≠u->z∈keysOf ts ((srt us).take i):=fun z hz e=>by
       rcases al28q.mp hz with h | h
       ·exact h
       ·exact absurd (by simpa using h) e
      by_cases e:k=u
      ·by_cases e':k'=u
       ·rw[e,e']
       ·rw[al11q e,al7q e'] at z;have:=(hk2 k' (inold _ hk' e')).1;exact absurd z.symm (zi this hq0)
      ·by_cases e':k'=u
       ·rw[al7q e,al11q e'] at z;have:=(hk2 k (inold _ hk e)).1;exact absurd z (zi this hq0)
       ·rw[al7q e,al7q e'] at z;exact hin k (inold _ hk e) k' (inold _ hk' e') z
  ·rintro σ H2 ⟨v4,ad,rfl,q,hl2,hn2,hd2,hk2,hin⟩;rw[al1q,al23q] at hd2 hk2 hin;refine⟨_,rfl,.inr (.inr (.inl ⟨rfl,.inl ⟨_,hd2⟩⟩)),pd,_,rfl,rfl,hd2,fun pv hpv=>?_⟩;have s3:=Same.new (o:=vwO pv pd) hpv;refine⟨pv,pd,_,rfl,zb,s3 _ _ hd2,fun pf hpf=>?_⟩;rw[ztw];have em:(keysOf ts (srt us)).map (fun k=>V.ref (ad k))=((keysOf ts (srt us)).map ad).map V.ref:=by rw[al75q];rfl
   rw[em];have s4:=Same.new (o:=.lst (((keysOf ts (srt us)).map ad).map V.ref)) hpf;have q4:=s3.trans s4;have knd:(keysOf ts (srt us)).Nodup:=(zez nd).sublist (al110q ..);refine k pf ((keysOf ts (srt us)).map ad) _ (q.free (s3.free hpf)) (fun a ha=>?_) (fun z=>?_) ?_ zb (zpw fun x hx=>q4 _ _ (hk2 x hx).1) (q.trans q4)
   ·obtain⟨x,hx,rfl⟩:=al27q.mp ha;exact (hk2 x hx).2.1
   ·obtain⟨x,hx,e⟩:=al27q.mp z;have:=s3 _ _ (hk2 x hx).1;rw[e,hpf] at this;cases this
   ·clear hk2 hd2 s4 q4 em;generalize keysOf ts (srt us)=ks at hin knd
    induction ks with
    | nil=>exact List.nodup_nil
    | cons x r ih=>
     rw[al76q] at knd;rw[al56q,al76q];refine⟨fun z=>?_,ih (fun a ha b hb=>hin a (al5q _ ha) b (al5q _ hb)) knd.2⟩;obtain⟨y,hy,e⟩:=al27q.mp z;have:=hin y (al5q _ hy) x (by simp) e;subst this;exact knd.1 hy
inductive sp_below' (vs:List V) (H:Hp) (Q:VK):Prop
 | mk (p pu pt:ty1q) (x y:V) (us:List Str) (ads:List ty1q) (ts:List Tie) (_:vs = [.ref p]) (_:Tel K H p pu pt x y us ads ts) (_:∀(pd:ty1q) (ob:Obj) (ad:Str->ty1q) (bs:Str->List ty1q) (H':Hp),Same H H'->H pd=none->Bn H' pd ob (keysOf ts (srt us)) (za1 ts (ts.zip ads)) ad bs->Q (.ref pd) H')
def zrr:Sp:=fun vs H Q _=>sp_below' (K:=K) vs H Q
theorem za5 (T:Tx K mg w zk zo zg zm):Has P w K mg base "ties_beneath" ["telling"] 4 (zrr (K:=K)):=by
 refine T.zfq.has sc_ties_beneath (fun vs H Q E h=>?_) (fun f cdv A outer s H vs Q E hr h=>?_)
 ·obtain⟨p,pu,pt,x,y,us,ads,ts,rfl,_⟩:=h;rfl
 ·obtain⟨p,pu,pt,x,y,us,ads,ts,rfl,hT,k⟩:=h;have hu:=zbp hr;refine⟨_,(zc (sset (i:=1) sc_ties_beneath.nd (pfn (zcb T) (za (pix (zh K rfl) (pv 0) ze) (za (pix (zh K rfl) (pv 0) ze) zd))))
   (zc (sset (i:=2) sc_ties_beneath.nd za7)
   (zc (zac al21q rfl (zr K rfl (pfn (zs4 T) (za (pix (zh K rfl) (pv 0) ze) (za (pix (zh K rfl) (pv 0) ze) zd)))) (gnm (i:=3) sc_ties_beneath.nd) (zf (za8 hu (pv 2) (pix (zab K rfl) (pv 3) ze) (zad zd) rfl)))
   (zc (zac al21q rfl (zr K rfl (pix (zh K rfl) (pv 0) ze)) (gnm (i:=4) sc_ties_beneath.nd) (zf (zaz (zw zqf (pix (zh K rfl) (pv 4) ze) zaw (zae _)) (zf (zat (zbz K rfl PySem.F.plainAttrs_list PySem.F.slot_list_append PySem.F.type_list_append zar (zp hu (pv 2) (zp hu (pv 1) (pix (zh K rfl) (pv 4) ze) (fun _ _=>rfl)) (fun _ _=>rfl)) (za (zao (za (zp hu (pv 1) (pix (zh K rfl) (pv 4) ze) (fun _ _=>rfl)) (za (pv 4) zd))) zd)))) zz)))
   (zf (zeb (zy (pv 2)))))))),?_⟩
  have hts:=hT.ends;obtain⟨hp,hu1,ht1,tp,nd,hl,tl,_⟩:=hT;have hlen:ads.length=ts.length:=by have:=tp.len;rw[al1q] at this;exact this
  refine⟨_,rfl,p,_,_,_,rfl,rfl,hp,rfl,_,rfl,p,_,_,_,rfl,rfl,hp,rfl,pu,pt,us,ads,ts,rfl,hu1,ht1,tp,nd,by lia,hts,fun pn H1 fpn hn s1=>?_⟩
  try dsimp only [zn]
  refine fun pd hpd=>?_
  have s2:=Same.new (o:=.dK []) hpd;have q2:=s1.trans s2;refine⟨_,rfl,p,_,_,_,rfl,rfl,q2.tup hp,rfl,_,rfl,p,_,_,_,rfl,rfl,q2.tup hp,rfl,pu,pt,us,ads,ts,rfl,q2.seq hu1,q2.seq ht1,tp.same q2,nd,hl,hts,fun po as H3 fpo fas npo asnd hpo hls s3=>?_⟩;have hn3:=s3 _ _ (s2 _ _ hn);have hd3:=s3 _ _ (zb (H:=H1) (a:=pd) (o:=.dK []));have q3:=q2.trans s3;have fpd:H pd=none:=s1.free hpd;have npd:pn≠pd:=zi hn hpd;have lk:as.length=(keysOf ts (srt us)).length:=by have:=Paired.length hls;unfold zcd at this;rw[al1q] at this;exact this
  have lk63:(keysOf ts (srt us)).length<=63:=by
   have:=zgy (us:=us) (ts:=ts) nd;unfold zcd at this;rw[al1q] at this;lia
  have hz:∀{i:Nat}{t:Tie}{r:ty1q},ts[i]? = some t->ads[i]? = some r->(ts.zip ads)[i]? = some (t,r):=fun h1 h2=>al85q.mpr ⟨h1,h2⟩
  generalize ek:keysOf ts (srt us)=keys at lk lk63 k;have knd:keys.Nodup:=ek▸zaj nd;have hgs:zcd us ts=keys.map (zci ts (srt us)):=by unfold zcd;rw[ek]
  refine⟨po,rfl,⟨_,SqL.of hpo⟩,zaa (xs:=as.map V.ref) (fun i σ H'=>∃(v3:Option V) (ad:Str->ty1q),σ = [some (.ref p),some (.ref pn),some (.ref pd),v3,none]/\(∀b o,b≠pd->H3 b=some o->H' b=some o)/\
   H' pd=some (.dK (dV (keys.take i) fun k=>.ref (ad k)))/\(∀k∈keys.take i,H' (ad k)=some (.lst [])/\H3 (ad k)=none)/\(∀k∈keys.take i,∀k'∈keys.take i,ad k=ad k'->k=k'))
   ⟨none,fun _=>0,rfl,fun b o _ e=>e,hd3,(fun k hk=>by simp at hk),fun k hk=>by simp at hk⟩ (fun i σ H' _ h=>by obtain⟨_,_,_,q,_⟩:=h;exact SqL.of (q _ _ (zcu hpo hd3 (by simp)) hpo)) ?_ ?_⟩
  ·rintro i v σ H4 hx ⟨v3,ad,rfl,kp,hd4,hk4,inj⟩;obtain⟨r,g,rfl,hg,har,hr⟩:=zbv hls hx;rw[hgs,al10q] at hg;cases eu:keys[i]? with
   | none=>rw[eu] at hg;cases hg
   | some u=>
    rw[eu] at hg;cases hg;have hu':u∈keys:=al6q eu;have hi:=zag eu;have hfr:u ∉ keys.take i:=by
     have:=zay knd i hi;rw[show keys[i]=u from (al8q.mp eu).2] at this;exact this
    obtain⟨gr,egr⟩:=zkz (us:=us) (ts:=ts) nd (k:=u) (ek▸hu');rw[egr] at hr;have hr4:=kp _ _ (zcu hr hd3 (by simp)) hr
    try dsimp only [zn]
    refine⟨by decide,fun q0 hq0=>?_⟩;have t0:=Same.new (o:=.lst []) hq0;have hd5:=t0 _ _ hd4;have nq:pd≠q0:=zi hd4 hq0;refine⟨_,rfl,_,rfl,r,_,_,_,rfl,rfl,SqL.of (t0 _ _ hr4),znq,pd,_,rfl,DPut.k (k:=Sum.inr u) hd5 (by rw[zas,al25q];exact zq (by lia)),?_⟩;have fq:H3 q0=none:=by
     cases e:H3 q0 with
     | none=>rfl
     | some o=>rw[kp _ _ (al36q nq) e] at hq0;cases hq0
    refine⟨_,fun z=>if z=u then q0 else ad z,rfl,fun b o n e=>by rw[zl n];exact t0 _ _ (kp b o n e),?_,?_,?_⟩
    ·rw[zb,zdj hfr,al9q,eu]
     congr 2
     refine zbd fun z hz=>?_
     dsimp only
     by_cases e:z=u
     ·rw[al11q e,al11q e]
     ·rw[al7q e,al7q e]
    ·intro k hk;rw[al9q,eu,al28q] at hk;dsimp only
     by_cases e:k=u
     ·rw[al11q e];exact⟨by rw[zl (al36q nq),zb],fq⟩
     ·rw[al7q e];have hk':k∈keys.take i:=hk.elim id fun z=>absurd (by simpa using z) e
      obtain⟨h1,h2⟩:=hk4 k hk';refine⟨?_,h2⟩;rw[zl (fun z=>by rw[z,hd4] at h1;cases h1)];exact t0 _ _ h1
    ·intro k hk k' hk' e;rw[al9q,eu,al28q] at hk hk';dsimp only at e
     by_cases c1:k=u<;>by_cases c2:k'=u
     ·rw[c1,c2]
     ·rw[al11q c1,al7q c2] at e;have h2:=(hk4 k' (hk'.elim id fun z=>absurd (by simpa using z) c2)).1;rw[←e,hq0] at h2;cases h2
     ·rw[al7q c1,al11q c2] at e;have h2:=(hk4 k (hk.elim id fun z=>absurd (by simpa using z) c1)).1;rw[e,hq0] at h2;cases h2
     ·rw[al7q c1,al7q c2] at e;exact inj k (hk.elim id fun z=>absurd (by simpa using z) c1) k' (hk'.elim id fun z=>absurd (by simpa using z) c2) e
  ·rintro σ H4 ⟨v3,ad,rfl,kp,hd4,hk4,inj⟩;rw[al1q,lk,al23q] at hd4 hk4 inj;have sq4:∀{H':Hp},(∀b o,b≠pd->H3 b=some o->H' b=some o)->Same H H':=fun kp' b o e=>kp' b o (zi e fpd) (q3 _ _ e)
   have q4:=sq4 kp;refine⟨_,rfl,p,_,_,_,rfl,rfl,q4.tup hp,rfl,pt,rfl,⟨_,q4.seq ht1⟩,zaa (xs:=ads.map V.ref) (fun i σ H'=>∃(v4:Option V) (bs:Str->List ty1q),σ = [some (.ref p),some (.ref pn),some (.ref pd),v3,v4]/\(∀b o,b≠pd->H3 b=some o->H' b=some o)/\
    H' pd=some (.dK (dV keys fun k=>.ref (ad k)))/\∀k∈keys,H' (ad k)=some (.lst ((bs k).map V.ref))/\Paired (fun b (p:Str×ty1q)=>H' b=some (.tup [.str p.1,.ref p.2])) (bs k) (za1 ts ((ts.zip ads).take i) k))
    ⟨none,fun _=>[],rfl,kp,hd4,fun k hk=>⟨(hk4 k hk).1,.nil⟩⟩ (fun i σ H' _ h=>by obtain⟨_,_,_,q,_⟩:=h;exact (sq4 q).seq ht1) ?_ ?_⟩
   ·rintro i x σ H5 hx ⟨v4,bs,rfl,kp5,hd5,hb5⟩;obtain⟨r,t,rfl,ht,har,hr⟩:=zc8 tp hx;have q5:=sq4 kp5;have hr5:=q5 _ _ hr;have hab:=hts t (al6q ht);have hit:=zag ht;have hzi:=hz ht har
    try dsimp only [zn]
    refine⟨_,rfl,r,_,_,_,rfl,rfl,SqT.of hr5,zf4 t,rfl,_,rfl,?_⟩;refine ite2 (fun c=>?_) (fun c=>?_)
    ·have c:t.k≠SAME:=by
      intro z;simp[z,SAME] at c
     have g1:=DGet.k (k:=Sum.inr t.a) (kp5 _ _ npd hn3);have g2:=DGet.k (k:=Sum.inr t.b) (kp5 _ _ npd hn3);rw[zb1 hab.1] at g1;rw[zb1 hab.2] at g2;have hka:labs ts t.a∈keys:=ek▸zbu hts hab.1;have g3:=DGet.k (k:=Sum.inr (labs ts t.a)) hd5;rw[zba hka] at g3;obtain⟨hb1,hb2⟩:=hb5 _ hka;refine⟨_,rfl,_,rfl,_,rfl,r,_,_,_,rfl,rfl,SqT.of hr5,zf5 t,pn,_,rfl,g1,pd,_,rfl,g3,?_⟩;refine⟨.inl ⟨rfl,_,SqL.of hb1⟩,_,rfl,_,rfl,r,_,_,_,rfl,rfl,SqT.of hr5,zf6 t,pn,_,rfl,g2,_,rfl,(by show 2<=sizeLine;decide),fun b0 hb0=>?_⟩;have t0:=Same.new (o:=.tup [.str (labs ts t.b),.ref r]) hb0;have hb1':=t0 _ _ hb1;have lb:(bs (labs ts t.a)).length<=900:=by
      have h1:=Paired.length hb2;have h2:=zn9 (ts:=ts) (z:=(ts.zip ads).take i) (k:=labs ts t.a);rw[al25q,al90q] at h2;lia
     refine⟨ad (labs ts t.a),_,_,rfl,rfl,hb1',by rw[al1q];exact zq (by lia),?_⟩;have st:∀b vs,H5 b=some (.tup vs)->upd (upd H5 b0 (.tup [.str (labs ts t.b),.ref r])) (ad (labs ts t.a)) (.lst ((bs (labs ts t.a)).map V.ref++[.ref b0])) b=some (.tup vs):=fun b vs e=>zaf hb1' _ _ (t0 _ _ e)
     refine⟨_,fun z=>if z=labs ts t.a then bs z++[b0] else bs z,rfl,fun b o n e=>?_,?_,fun k hk=>?_⟩
     ·rw[zl (fun z=>by rw[z,(hk4 _ hka).2] at e;cases e)];exact t0 _ _ (kp5 b o n e)
     ·rw[zl (fun z=>by rw[←z,hd5] at hb1;cases hb1)];exact t0 _ _ hd5
     ·obtain⟨b1,b2⟩:=hb5 k hk;have b2':=Paired.mapP b2 fun b p e=>st b _ e
      rw[zk1 hzi];dsimp only
      by_cases e:k=labs ts t.a
      ·subst e;rw[al11q rfl,al11q ⟨c,rfl⟩];refine⟨by rw[zb,al16q];rfl,Paired.snoc b2' ?_⟩;exact zaf hb1' _ _ zb
      ·rw[al7q e,al7q (fun z=>e z.2.symm),al53q];refine⟨?_,b2'⟩;rw[zl (fun z=>e (inj _ hk _ hka z))];exact t0 _ _ b1
    ·have c:t.k=SAME:=by
      simpa[SAME] using c
     refine⟨_,bs,rfl,kp5,hd5,fun k hk=>?_⟩;rw[zk1 hzi,al7q (fun z=>z.1 c),al53q];exact hb5 k hk
   ·rintro σ H5 ⟨v4,bs,rfl,kp5,hd5,hb5⟩;rw[al1q] at hb5;have ez:(ts.zip ads).take ads.length=ts.zip ads:=al98q (by rw[al90q];lia);rw[ez] at hb5;refine .inr ⟨pd,_,hd5,fun ob=>⟨_,rfl,k pd ob ad bs _ ?_ fpd ⟨zb,fun k hk=>?_,fun k hk=>?_⟩⟩⟩
    ·exact (sq4 kp5).upd fpd
    ·obtain⟨b1,b2⟩:=hb5 k hk;rw[zl (fun z=>by rw[z,hd5] at b1;cases b1)];exact b1
    ·obtain⟨b1,b2⟩:=hb5 k hk;refine Paired.mapP b2 fun b p e=>?_
     rw[zl (fun z=>by rw[z,hd5] at e;cases e)];exact e
inductive sp_through' (vs:List V) (H:Hp) (Q:VK):Prop
 | mk (s:Str) (pd:ty1q) (ob:Obj) (keys:List Str) (ln:Ln) (ad:Str->ty1q) (bs:Str->List ty1q) (_:vs = [.str s,.ref pd]) (_:Bn H pd ob keys ln ad bs) (_:s∈keys) (_:(∀k∈keys,∀l r,(l,r)∈ln k->l∈keys)) (_:keys.length<=63) (_:∀(p:ty1q) (rs:List ty1q) (H':Hp),Same H H'->H p=none->H' p=some (.lst (rs.map V.ref))->rs.length<=64->Shr ln s rs->Q (.ref p) H')
def zmh:Sp:=fun vs H Q _=>sp_through' vs H Q
theorem zfc (T:Tx K mg w zk zo zg zm):Has P w K mg base "round_through" ["start","beneath"] 1 zmh:=by
 refine T.zfh.has sc_round_through (fun vs H Q E h=>?_) (fun f cdv A outer s H vs Q E hr h=>?_)
 ·obtain⟨s',pd,ob,keys,ln,ad,bs,rfl,_⟩:=h;rfl
 ·obtain⟨s',pd,ob,keys,ln,ad,bs,rfl,hB,hs,hc,hk,k⟩:=h;have hu:=zbp hr;refine⟨_,(zc (sset (i:=2) sc_round_through.nd za7)
   (zc (sset (i:=3) sc_round_through.nd (zad (za (zao (za (pv 0) (za (zad zd) zd))) zd)))
   (zc (zgm al21q (zw (zjf K rfl (hu10 hr)) (pv 3) (zad zd) (zae _)) (zc (sset (i:=4) sc_round_through.nd (zad zd))
    (zc (zac al21q rfl (zr K rfl (pv 3)) (zdx K rfl rfl (za6 (gnm (i:=5) sc_round_through.nd) (za6 (gnm (i:=6) sc_round_through.nd) zdt))) (zf (zac al21q rfl (zr K rfl (zp hu (pv 1) (pv 5) (fun _ _=>rfl))) (zdx K rfl rfl (za6 (gnm (i:=7) sc_round_through.nd) (za6 (gnm (i:=8) sc_round_through.nd) zdt))) (zc (zaz (zw zdu (pv 7) (pv 0) (zae _)) (zf (zy (zah zfx (pv 6) (zad (za (pv 8) zd))))) zz)
      (zf (zaz (zfu (zes hu (pv 7) (pv 2))) (zc (za8 hu (pv 2) (pv 7) zec rfl)
       (zf (zat (zbz K rfl PySem.F.plainAttrs_list PySem.F.slot_list_append PySem.F.type_list_append zar (pv 4) (za (zao (za (pv 7) (za (zah zfx (pv 6) (zad (za (pv 8) zd))) zd))) zd))))) zz))))))
    (zf (sset (i:=3) sc_round_through.nd (pv 4))))))
   (zf (zy (zad zd)))))),?_⟩
  refine fun pm hpm=>?_
  have s0:=Same.new (o:=.dK []) hpm
  try dsimp only [zn]
  refine⟨_,rfl,by decide,fun l0 hl0=>?_⟩;have s1:=Same.new (o:=.lst []) hl0;refine⟨(by show 2<=sizeLine;decide),fun b0 hb0=>?_⟩;have s2:=Same.new (o:=.tup [.str s',.ref l0]) hb0;refine⟨(by show 1<=sizeLine;decide),fun pw hpw=>?_⟩;have s3:=Same.new (o:=.lst [.ref b0]) hpw;have q3:=s0.trans (s1.trans (s2.trans s3));have hm3:=s3 _ _ (s2 _ _ (s1 _ _ (zb (H:=H) (a:=pm) (o:=.dK []))));have hl3:=s3 _ _ (s2 _ _ (zb (H:=upd H pm (.dK [])) (a:=l0) (o:=.lst [])));have hb3:=s3 _ _ (zb (H:=upd (upd H pm (.dK [])) l0 (.lst [])) (a:=b0) (o:=.tup [.str s',.ref l0]));have hw3:=zb (H:=upd (upd (upd H pm (.dK [])) l0 (.lst [])) b0 (.tup [.str s',.ref l0])) (a:=pw) (o:=.lst [.ref b0]);generalize upd (upd (upd (upd H pm (.dK [])) l0 (.lst [])) b0 (.tup [.str s',.ref l0])) pw (.lst [.ref b0])=H3 at q3 hm3 hl3 hb3 hw3;refine⟨fun m σ H'=>∃(v4 v5 v6 v7 v8:Option V) (pw:ty1q) (wl:List ty1q) (es:List (Str×List ty1q)) (d:Nat) (M:List Str),σ = [some (.str s'),some (.ref pd),some (.ref pm),some (.ref pw),v4,v5,v6,v7,v8]/\Same H H'/\H' pm=some (.dK (dV M tru))/\
   H' pw=some (.lst (wl.map V.ref))/\Paired (zv2 H') wl es/\(∀e∈es,Wk ln s' e.2 e.1/\e.2.length=d/\e.1∈keys)/\M.Nodup/\(∀v∈M,v∈keys)/\Bf ln s' d M (es.map Prod.fst)/\(es≠[]->d<=M.length)/\
   m=2 * (keys.length-M.length)+(if es = [] then 0 else 1),⟨_,none,none,none,none,none,pw,[b0],[(s',[])],0,[],rfl,q3,hm3,hw3,.cons ⟨l0,hb3,hl3⟩ .nil,?_,by simp,by simp,Bf.zero,fun _=>al18q _,rfl⟩,?_⟩
  ·intro e he;have:e=(s',[]):=by simpa using he
   subst this;exact⟨.nil,rfl,hs⟩
  rintro m σ H4 ⟨v4,v5,v6,v7,v8,pw,wl,es,d,M,rfl,q4,hm4,hw4,pr4,ok4,nd4,sub4,bf,dle,rfl⟩;have lM:M.length<=63:=by have:=zbn nd4 sub4;lia
  refine⟨_,rfl,by decide,fun le hle=>?_⟩;have t5:=Same.new (o:=.lst []) hle;refine⟨pw,le,_,rfl,rfl,DEq.nilL (SqL.of (t5 _ _ hw4)) (SqL.of zb),_,rfl,?_⟩;have lw:wl.length=es.length:=Paired.length pr4;have q5:=q4.trans t5;have hm5:=t5 _ _ hm4;have hw5:=t5 _ _ hw4;have pr5:Paired (zv2 (upd H4 le (.lst []))) wl es:=Paired.mapP pr4 fun _ _ ⟨q,h1,h2⟩=>⟨q,t5 _ _ h1,t5 _ _ h2⟩
  have t5':=t5;generalize upd H4 le (.lst [])=H5 at q5 hm5 hw5 pr5 t5';refine ite2 (fun c=>?_) (fun c=>?_)
  ·have hes:es≠[]:=fun z=>by
    subst z;have:wl = []:=al80q.mp (by simpa using lw);subst this;simp at c
   have dM:=dle hes;refine⟨fun σ' H'=>∃m',m'<2 * (keys.length-M.length)+(if es = [] then 0 else 1)/\_,fun σ' H' h=>h,?_⟩
   try dsimp only [zn]
   refine⟨by decide,fun pl hpl=>?_⟩;have t6:=Same.new (o:=.lst []) hpl;have npl:pl≠pm:=al36q (zi hm5 hpl);have npw:pw≠pm:=zcu hw5 hm5 (by simp);have Bk:∀{H':Hp},(∀b o,b≠pm->H5 b=some o->H' b=some o)->Same H H':=fun kp b o e=>kp b o (zi e hpm) (q5 _ _ e)
   refine⟨_,rfl,pw,rfl,⟨_,SqL.of (t6 _ _ hw5)⟩,zaa (xs:=wl.map V.ref) (fun i σ H'=>∃(v5 v6 v7 v8:Option V) (ml:List ty1q) (fs:List (Str×List ty1q)),σ = [some (.str s'),some (.ref pd),some (.ref pm),some (.ref pw),some (.ref pl),v5,v6,v7,v8]/\
    Grow H5 H' pm pl ln s' keys M d ml fs/\∀u∈(es.take i).map Prod.fst,∀v r,(v,r)∈ln u->v≠s'/\v∈M++fs.map Prod.fst)
    ⟨v5,v6,v7,v8,[],[],rfl,⟨fun b o _ e=>t6 _ _ e,?_,zb,.nil,(fun e he=>(al43q he).elim),by simpa using nd4⟩,fun u hu=>by simp at hu⟩ (fun i σ H' _ h=>by obtain⟨_,_,_,_,_,_,_,g,_⟩:=h;exact SqL.of (g.kp _ _ npw hw5)) ?_ ?_⟩
   ·rw[List.map_nil,al53q];exact t6 _ _ hm5
   ·rintro i x σ H6 hx ⟨u5,u6,u7,u8,ml,fs,rfl,g,cond⟩;obtain⟨b,e,rfl,he,hbw,q,hb,hq⟩:=zbv pr5 hx;have hie:=zag he;have hem:e∈es:=al6q he;obtain⟨wk,elen,ek⟩:=ok4 e hem;have nb:b≠pm:=zcu hb hm5 (by simp);have nq:q≠pm:=zcu hq hm5 (by simp);refine⟨b,_,rfl,SqT.of (g.kp _ _ nb hb),rfl,_,_,rfl,_,_,rfl,rfl,?_⟩;have B6:=hB.same (Bk g.kp);refine⟨_,rfl,_,rfl,pd,_,rfl,B6.get ek,ad e.1,rfl,⟨_,SqL.of (B6.l _ ek)⟩,zaa (xs:=(bs e.1).map V.ref) (fun j σ H'=>∃(v7 v8:Option V) (ml:List ty1q) (fs:List (Str×List ty1q)),σ = [some (.str s'),some (.ref pd),some (.ref pm),some (.ref pw),some (.ref pl),some (.str e.1),some (.ref q),v7,v8]/\
     Grow H5 H' pm pl ln s' keys M d ml fs/\(∀u∈(es.take i).map Prod.fst,∀v r,(v,r)∈ln u->v≠s'/\v∈M++fs.map Prod.fst)/\∀p∈(ln e.1).take j,p.1≠s'/\p.1∈M++fs.map Prod.fst)
     ⟨u7,u8,ml,fs,rfl,g,cond,by simp⟩ (fun j σ H' _ h=>by obtain⟨_,_,_,_,_,g,_⟩:=h;exact SqL.of ((hB.same (Bk g.kp)).l _ ek)) ?_ ?_⟩
    ·rintro j x σ H7 hx ⟨u7,u8,ml,fs,rfl,g,cond,cond2⟩;have B7:=hB.same (Bk g.kp);obtain⟨b',⟨l,r⟩,rfl,hlr,hb',hbt⟩:=zbv (B7.e _ ek) hx;have hlm:(l,r)∈ln e.1:=al6q hlr;have hlk:l∈keys:=hc _ ek l r hlm;refine⟨b',_,rfl,SqT.of hbt,rfl,_,_,rfl,_,_,rfl,rfl,?_⟩;have hq7:=g.kp _ _ nq hq;have lfs:(M++fs.map Prod.fst).length<=63:=by
      have:=zbn g.nd (us:=keys) fun v hv=>(al28q.mp hv).elim (sub4 v) fun z=>by
       obtain⟨e',h1,rfl⟩:=al27q.mp z;exact (g.ok e' h1).2.2
      lia
     try dsimp only [zn]
     refine⟨_,rfl,_,rfl,rfl,_,rfl,?_⟩;refine ite2 (fun c1=>?_) (fun c1=>?_)
     ·have c1:l=s':=V.str.inj (al17q c1);refine⟨_,rfl,_,rfl,(by show 1<=sizeLine;decide),fun p1 hp1=>?_⟩;have w1:=Same.new (o:=.lst [.ref r]) hp1;refine⟨q,p1,_,_,rfl,rfl,w1 _ _ hq7,zb,by rw[al1q];exact zau (by show e.2.length+1<=1000;lia),fun p2 hp2=>?_⟩;have w2:=Same.new (o:=.lst (e.2.map V.ref++[.ref r])) hp2;have q7:Same H _:=(Bk g.kp).trans (w1.trans w2);refine k p2 (e.2++[r]) _ q7 (((Bk g.kp).trans w1).free hp2) (by rw[zb,al16q];rfl) (by rw[al20q];show e.2.length+1<=64;lia) (.inr ⟨by simp,c1▸wk.snoc hlm,fun j h1 h2=>bf.no j h1 ?_⟩);rw[al20q] at h2;have h2:j<e.2.length+1:=h2;lia
     ·have c1:¬l=s':=fun z=>c1 (al15q (al67q V.str z))
      have g1:=DGet.k (k:=Sum.inr l) g.m;refine⟨_,rfl,_,rfl,pm,_,rfl,g1,_,rfl,?_⟩;refine ite2 (fun c2=>?_) (fun c2=>?_)
      ·have hv:l ∉ M++fs.map Prod.fst:=fun z=>by
        rw[zba z] at c2;cases c2
       refine⟨_,rfl,_,rfl,pm,_,rfl,DPut.k (k:=Sum.inr l) g.m (by rw[zas];exact zq (by lia)),?_⟩;rw[zsk hv];have hl8:upd H7 pm (.dK (dV (M++fs.map Prod.fst++[l]) tru)) pl=some (.lst (ml.map V.ref)):=by rw[zl npl];exact g.l
       have hq8:upd H7 pm (.dK (dV (M++fs.map Prod.fst++[l]) tru)) q=some (.lst (e.2.map V.ref)):=by rw[zl nq];exact hq7
       try dsimp only [zn]
       refine⟨_,rfl,.inl ⟨rfl,_,SqL.of hl8⟩,_,rfl,_,rfl,_,rfl,(by show 1<=sizeLine;decide),fun p1 hp1=>?_⟩;have w1:=Same.new (o:=.lst [.ref r]) hp1;refine⟨q,p1,_,_,rfl,rfl,w1 _ _ hq8,zb,by rw[al1q];exact zau (by show e.2.length+1<=1000;lia),fun p2 hp2=>?_⟩;have w2:=Same.new (o:=.lst (e.2.map V.ref++[.ref r])) hp2;refine⟨(by show 2<=sizeLine;decide),fun b9 hb9=>?_⟩;have w3:=Same.new (o:=.tup [.str l,.ref p2]) hb9;have w:=w1.trans (w2.trans w3);have ml63:ml.length<=63:=by
        have h1:ml.length=fs.length:=Paired.length g.w;rw[al20q,al1q] at lfs;lia
       refine⟨pl,_,_,rfl,rfl,w _ _ hl8,by rw[al1q];exact zq (by lia),?_⟩;have g':=g.add hpl npl hv w (rs:=e.2++[r]) (q:=p2) (b:=b9) (by rw[al16q];exact w3 _ _ zb) (al36q (zi (w1 _ _ hl8) hp2)) zb ⟨wk.snoc hlm,by rw[al20q,elen];rfl,hlk⟩;have mm:∀v,v∈M++fs.map Prod.fst->v∈M++(fs++[(l,e.2++[r])]).map Prod.fst:=fun v h=>by
        rw[al16q,←al130q];exact al55q _ h
       refine⟨_,_,_,_,rfl,g',fun u hu v r' h=>⟨(cond u hu v r' h).1,mm _ (cond u hu v r' h).2⟩,zkv hlr (fun p hp=>⟨(cond2 p hp).1,mm _ (cond2 p hp).2⟩) ⟨c1,?_⟩⟩;rw[al16q,←al130q];simp
      ·have hv:l∈M++fs.map Prod.fst:=al33q fun z=>by
        rw[zd0 z] at c2;exact c2 rfl
       exact⟨_,_,ml,fs,rfl,g,cond,zkv hlr cond2 ⟨c1,hv⟩⟩
    ·rintro σ H7 ⟨u7,u8,ml,fs,rfl,g,cond,cond2⟩;have B7:=hB.same (Bk g.kp);have lb:(bs e.1).length=(ln e.1).length:=Paired.length (B7.e _ ek);rw[al1q,lb,al23q] at cond2;refine⟨_,_,_,_,ml,fs,rfl,g,fun u hu v r h=>?_⟩;rw[al192q,al9q,al10q,he,al28q] at hu;rcases hu with hu | hu
     ·exact cond u (by rw[al192q];exact hu) v r h
     ·have:u=e.1:=by simpa using hu
      subst this;exact cond2 (v,r) h
   ·rintro σ H6 ⟨u5,u6,u7,u8,ml,fs,rfl,g,cond⟩;rw[al1q,lw,al23q] at cond;refine⟨_,rfl,?_⟩
    try dsimp only [zn]
    have subN:∀v∈M++fs.map Prod.fst,v∈keys:=fun v hv=>(al28q.mp hv).elim (sub4 v) fun z=>by
     obtain⟨e',h1,rfl⟩:=al27q.mp z;exact (g.ok e' h1).2.2
    have lN:=zbn g.nd subN;refine⟨_,?_,_,_,_,_,_,pl,ml,fs,d+1,M++fs.map Prod.fst,rfl,Bk g.kp,g.m,g.l,Paired.mapP g.w fun _ _ ⟨q,_,h1,h2⟩=>⟨q,h1,h2⟩,g.ok,g.nd,subN,bf.succ (fun v hv=>?_) cond,fun hf=>?_,rfl⟩
    ·rw[al7q hes,al20q,al1q] at *;cases fs with
     | nil=>simp
     | cons a r=>
      rw[al7q (by simp)];simp only [al57q] at *;lia
    ·obtain⟨e',h1,rfl⟩:=al27q.mp hv;exact⟨e'.2,(g.ok e' h1).1,(g.ok e' h1).2.1⟩
    ·rw[al20q,al1q];have:=al167q.mpr hf;lia
  ·have hes:es = []:=by
    have:wl = []:=by simpa using c
    subst this;exact al80q.mp lw.symm
   subst hes;refine⟨by decide,fun p hp=>?_⟩;exact k p [] _ (q5.trans (Same.new hp)) (q5.free hp) zb (by simp) (.inl ⟨rfl,bf.done⟩)
inductive sp_short' (vs:List V) (H:Hp) (Q:VK):Prop
 | mk (p pu pt:ty1q) (x y:V) (us:List Str) (ads:List ty1q) (ts:List Tie) (_:vs = [.ref p]) (_:Tel K H p pu pt x y us ads ts) (_:∀(q:ty1q) (rs:List ty1q) (H':Hp),Same H H'->H q=none->H' q=some (.lst (rs.map V.ref))->rs.length<=64->Rnd (za1 ts (ts.zip ads)) (keysOf ts (srt us)) rs->Q (.ref q) H')
def zrs:Sp:=fun vs H Q _=>sp_short' (K:=K) vs H Q
theorem zef (T:Tx K mg w zk zo zg zm):Has P w K mg base "shortest_round" ["telling"] 5 (zrs (K:=K)):=by
 refine T.zej.has sc_shortest_round (fun vs H Q E h=>?_) (fun f cdv A outer s H vs Q E hr h=>?_)
 ·obtain⟨p,pu,pt,x,y,us,ads,ts,rfl,_⟩:=h;rfl
 ·obtain⟨p,pu,pt,x,y,us,ads,ts,rfl,hT,k⟩:=h;refine⟨_,(zc (sset (i:=1) sc_shortest_round.nd (pfn (za5 T) (za (pv 0) zd)))
   (zc (sset (i:=2) sc_shortest_round.nd (zad zd))
   (zc (zac al21q rfl (zbx (pv 1)) (gnm (i:=3) sc_shortest_round.nd) (zc (sset (i:=4) sc_shortest_round.nd (pfn (zfc T) (za (pv 3) (za (pv 1) zd))))
    (zf (zaz (PW.pt (zeq (zw (zjf K rfl (hu10 hr)) (pv 4) (zad zd) (zae _)) (zc3 (PW.pt (zs8 (zw (zje K rfl (hu10 hr)) (pv 2) (zad zd) (zae _)) (zmx (zw zll (zap (za0 K rfl) (by rfl) T.len al198q (za (pv 4) zd)) (zap (za0 K rfl) (by rfl) T.len al198q (za (pv 2) zd)) (zae _)))))))) (zf (sset (i:=2) sc_shortest_round.nd (pv 4))) zz))))
   (zf (zy (pv 2)))))),?_⟩
  have hts:=hT.ends;refine⟨_,rfl,p,pu,pt,x,y,us,ads,ts,rfl,hT,fun pd ob ad bs H1 s1 fpd hB=>?_⟩;have cl:=zf9 (us:=us) (ts:=ts) (ads:=ads) hts;have lk:=hT.klen;generalize keysOf ts (srt us)=keys at hB cl lk k;generalize za1 ts (ts.zip ads)=ln at hB cl k
  try dsimp only [zn]
  refine⟨by decide,fun ps hps=>?_⟩;have s2:=Same.new (o:=.lst []) hps;refine⟨_,rfl,pd,ob,_,rfl,s2 _ _ hB.d,zb9 (fun i σ H'=>∃(v3 v4:Option V) (ps:ty1q) (rs:List ty1q),σ = [some (.ref p),some (.ref pd),some (.ref ps),v3,v4]/\Same H1 H'/\H ps=none/\H' ps=some (.lst (rs.map V.ref))/\rs.length<=64/\Rnd ln (keys.take i) rs)
   ⟨none,none,ps,[],rfl,s2,s1.free hps,zb,by simp,by simpa using Rnd.nil⟩ (fun i σ H' _ h=>by obtain⟨_,_,_,_,_,q,_⟩:=h;exact q _ _ hB.d) ?_ ?_⟩
  ·rintro i kk vv σ H3 hx ⟨v3,v4,ps,rs,rfl,q3,fps,hps3,lr,hR⟩;obtain⟨u,hu,rfl,_⟩:=zjk hx;have huk:u∈keys:=al6q hu
   try dsimp only [zn]
   refine⟨_,rfl,_,rfl,u,pd,ob,keys,ln,ad,bs,rfl,hB.same q3,huk,cl,lk,fun pr xs H4 s4 fpr hpr lx hS=>?_⟩;have q4:=q3.trans s4;have hps4:=s4 _ _ hps3
   try dsimp only [zn]
   refine zbs (decide (xs≠[]/\(rs = []\/xs.length<rs.length))) (fun Q' hQ=>?_) (fun H5 t5=>?_)
   ·refine⟨_,rfl,by decide,fun e1 he1=>?_⟩;have w1:=Same.new (o:=.lst []) he1;refine⟨pr,e1,_,rfl,rfl,DEq.nilL (SqL.of (w1 _ _ hpr)) (SqL.of zb),_,rfl,?_⟩;refine ite2 (fun c=>?_) (fun c=>?_)
    ·have c:xs≠[]:=by simpa using c
     refine⟨_,rfl,by decide,fun e2 he2=>?_⟩;have w2:=Same.new (o:=.lst []) he2;have w12:=w1.trans w2;refine⟨ps,e2,_,rfl,rfl,DEq.nilL (SqL.of (w12 _ _ hps4)) (SqL.of zb),_,rfl,?_⟩;refine ite2 (fun c2=>?_) (fun c2=>?_)
     ·have c2:rs = []:=by simpa using c2
      rw[show true=decide (xs≠[]/\(rs = []\/xs.length<rs.length)) from (al15q ⟨c,.inl c2⟩).symm];exact hQ _ w12
     ·have c2:¬rs = []:=by simpa using c2
      refine⟨_,rfl,pr,_,rfl,.inl (SqL.of (w12 _ _ hpr)),_,rfl,ps,_,rfl,.inl (SqL.of (w12 _ _ hps4)),_,_,rfl,rfl,_,rfl,?_⟩;have:decide (((xs.map V.ref).length:Int)<((rs.map V.ref).length:Int))=decide (xs≠[]/\(rs = []\/xs.length<rs.length)):=by
       rw[al1q,al1q];apply al84q.mpr;constructor
       ·intro z;exact⟨c,.inr (by lia)⟩
       ·rintro ⟨_,z | z⟩
        ·exact absurd z c2
        ·lia
      rw[←this] at hQ;exact hQ _ w12
    ·have c:xs = []:=by simpa using c
     rw[show false=decide (xs≠[]/\(rs = []\/xs.length<rs.length)) from (al22q fun z=>z.1 c).symm];exact hQ _ w1
   ·have:=hR.step hS;rw[show keys.take i++[u]=keys.take (i+1) by rw[al9q,hu];rfl] at this;refine ite2 (fun c=>?_) (fun c=>?_)
    ·have c:=al17q c;rw[al11q c] at this;exact⟨_,rfl,_,_,pr,xs,rfl,q4.trans t5,(s1.trans q3).free fpr,t5 _ _ hpr,lx,this⟩
    ·have c:¬(xs≠[]/\(rs = []\/xs.length<rs.length)):=fun z=>c (al15q z)
     rw[al7q c] at this;exact⟨_,_,ps,rs,rfl,q4.trans t5,fps,t5 _ _ hps4,lr,this⟩
  ·rintro σ H3 ⟨v3,v4,ps,rs,rfl,q3,fps,hps3,lr,hR⟩;rw[zas,al23q] at hR;exact⟨_,rfl,k ps rs _ (s1.trans q3) fps hps3 lr hR⟩
theorem zmi {α:Type}(f:α->Bool) (l:List α):(l.map f).all id=l.all f:=by rw[List.all_map];rfl
inductive sp_rests' (vs:List V) (H:Hp) (Q:VK):Prop
 | mk (pl pp:ty1q) (bs:List ty1q) (L:List (Str×ty1q)) (M:List Str) (_:vs = [.ref pl,.ref pp]) (_:SqL K H pl (bs.map V.ref)) (_:Paired (fun b (p:Str×ty1q)=>H b=some (.tup [.str p.1,.ref p.2])) bs L) (_:H pp=some (.dK (dV M tru))) (_:L.length<=900) (_:∀H',Same H H'->Q (.bl (zee M L)) H')
def zrt:Sp:=fun vs H Q _=>sp_rests' (K:=K) vs H Q
theorem zmj (T:Tx K mg w zk zo zg zm):Has P w K mg base "rests_on" ["lowers","placed"] 1 (zrt (K:=K)):=by
 refine T.zmn.has zj0 (fun vs H Q E h=>?_) (fun f cdv A outer s H vs Q E hr h=>?_)
 ·obtain⟨pl,pp,bs,L,M,rfl,_⟩:=h;rfl
 ·obtain⟨pl,pp,bs,L,M,rfl,hl,pr,hm,lL,k⟩:=h;have hu:=zbp hr;refine⟨_,(zf (zy (zap (zlr K rfl rfl) (by rfl) T.all PyProof.Rows.boot_all (za (zb4 (own:=["lower","tie"]) (cap:=["placed"]) (ix:=[1]) (osc:=zj (top 16)) rfl ⟨rfl,by decide +kernel,by decide +kernel,by decide +kernel,by decide +kernel⟩ rfl (zr K rfl (pv 0)) (fun _ _ _ _=>zdx (n:=2) K rfl rfl (za6 (zbg (i:=0) (show List.Nodup (["lower","tie","placed"]:List Str) by decide +kernel) rfl (Or.inl rfl)) (za6 (zbg (i:=1) (show List.Nodup (["lower","tie","placed"]:List Str) by decide +kernel) rfl (Or.inl rfl)) zdt))) (fun _ _ _ _=>zb3) (fun _ _ _ _=>(zmw (zsd hu (pv 0) (pv 2))))) zd)))),?_⟩;have lb:bs.length=L.length:=Paired.length pr;refine⟨_,rfl,pl,rfl,⟨_,hl⟩,fun D hD=>?_⟩;refine zbi (zcs (K:=K) (a:=pl) (xs:=bs.map V.ref)) (fun i σ' ys H'=>∃w0 w1,σ' = [w0,w1,some (.ref pp)]/\ys=((L.take i).map fun p=>decide (p.1∈M)).map V.bl/\Same H H'/\H' D=some (.lst ys))
   ⟨none,none,rfl,by simp,Same.new hD,zb⟩ (fun i σ' ys H' h=>?_) (by rw[al1q];exact zau (by lia)) ?_ ?_
  ·obtain⟨_,_,_,rfl,q,hd⟩:=h;refine⟨q.seq hl,hd,?_⟩;rw[al1q,al1q,al25q];lia
  ·rintro i v σ' ys H' hx ⟨w0,w1,rfl,rfl,q,hd⟩;obtain⟨b,⟨l,r⟩,rfl,hlr,_,hb⟩:=zbv pr hx;have hix:=zag hx;refine⟨b,_,rfl,SqT.of (q _ _ hb),rfl,_,_,rfl,_,_,rfl,rfl,?_⟩
   try dsimp only [zn]
   unfold tYes;dsimp only;rw[al11q rfl];have g:=DGet.k (k:=Sum.inr l) (q _ _ hm);refine⟨_,rfl,_,rfl,pp,_,rfl,g,hd,zdy hix ⟨_,_,rfl,?_,q.upd hD,zb⟩⟩;rw[al9q,hlr,al16q,al16q]
   congr 1
   show [V.bl (valV (dV M tru) (Sum.inr l)).isSome] = [V.bl (decide (l∈M))]
   by_cases c:l∈M
   ·rw[zba c,al15q c];rfl
   ·rw[zd0 c,al22q c];rfl
  rintro σ' ys H1 ⟨w0,w1,rfl,rfl,q,hd⟩;rw[al1q,lb,al23q] at hd;refine⟨D,_,rfl,SqL.of hd,?_⟩;rw[zmi];exact k _ q
inductive sp_least' (vs:List V) (H:Hp) (Q:VK):Prop
 | mk (pd pp:ty1q) (ob:Obj) (keys:List Str) (ln:Ln) (ad:Str->ty1q) (bs:Str->List ty1q) (M:List Str) (u:Str) (r:List Str) (_:vs = [.ref pd,.ref pp]) (_:Bn H pd ob keys ln ad bs) (_:H pp=some (.dK (dV M tru))) (_:keys.length<=63) (_:(∀k∈keys,(ln k).length<=900)) (_:zd1 ln keys M=u::r) (_:∀H',Same H H'->Q (.str u) H')
def zru:Sp:=fun vs H Q _=>sp_least' vs H Q
theorem zio (T:Tx K mg w zk zo zg zm):Has P w K mg base "least_free" ["beneath","placed"] 2 zru:=by
 refine T.ziu.has sc_least_free (fun vs H Q E h=>?_) (fun f cdv A outer s H vs Q E hr h=>?_)
 ·obtain⟨pd,pp,ob,keys,ln,ad,bs,M,u,r,rfl,_⟩:=h;rfl
 ·obtain⟨pd,pp,ob,keys,ln,ad,bs,M,u,r,rfl,hB,hm,lk,ll,hf,k⟩:=h;have hu:=zbp hr;refine⟨_,(zc (zni (i:=2) (own:=["name"]) (cap:=["placed","beneath"]) (ix:=[1,0]) (osc:=zj (top 15)) rfl sc_least_free.nd rfl rfl rfl ⟨rfl,by decide +kernel,by decide +kernel,by decide +kernel,by decide +kernel⟩ rfl (zbx (pv 0)) (fun _ _ _ _=>zbg (i:=0) (show List.Nodup (["name","placed","beneath"]:List Str) by decide +kernel) rfl (Or.inl rfl)) (fun _ _ _ _=>znh (PW.pt (zeq (zfu (zes hu (pv 0) (pv 1))) (zc3 (zhc (pfn (zmj T) (za (zp hu (pv 2) (pv 0) (fun _ _=>rfl)) (za (pv 1) zd)))))))) (fun _ _ _ _=>(pv 0)))
   (zf (zy (pix (zab K rfl) (pv 2) ze)))),?_⟩
  refine⟨_,rfl,pd,ob,_,rfl,hB.d,fun D hD=>?_⟩;refine zbi (zg1 (a:=pd) (ob:=ob) (kvs:=dV keys fun k=>.ref (ad k))) (fun i σ' ys H'=>∃w0,σ' = [w0,some (.ref pp),some (.ref pd)]/\ys=((keys.take i).filter fun x=>decide (x ∉ M)&&zee M (ln x)).map V.str/\Same H H'/\H' D=some (.lst ys))
   ⟨none,rfl,by simp,Same.new hD,zb⟩ (fun i σ' ys H' h=>?_) (by rw[al1q,zas];exact zau (by lia)) ?_ ?_
  ·obtain⟨_,_,rfl,q,hd⟩:=h;refine⟨q _ _ hB.d,hd,?_⟩;rw[al1q];exact al44q (al48q _ _) (by rw[al25q];lia)
  ·rintro i v σ' ys H1 hx ⟨w0,rfl,rfl,q,hd⟩;have hix:=zag hx;rw[zgw,al10q] at hx;cases eu:keys[i]? with
   | none=>rw[eu] at hx;cases hx
   | some z=>
    rw[eu] at hx;cases hx;have hz:z∈keys:=al6q eu;have B1:=hB.same q;have g:=DGet.k (k:=Sum.inr z) (q _ _ hm);have no:∀(H2:Hp),Same H1 H2->(decide (z ∉ M)&&zee M (ln z))=false->∃w0',[some (V.str z),some (V.ref pp),some (V.ref pd)] = [w0',some (.ref pp),some (.ref pd)]/\((keys.take i).filter fun x=>decide (x ∉ M)&&zee M (ln x)).map V.str=((keys.take (i+1)).filter fun x=>decide (x ∉ M)&&zee M (ln x)).map V.str/\Same H H2/\H2 D=some (.lst (((keys.take i).filter fun x=>decide (x ∉ M)&&zee M (ln x)).map V.str)):=fun H2 t e=>by
     refine⟨_,rfl,?_,q.trans t,t _ _ hd⟩;rw[al9q,eu,al91q,al16q];have:(some z).toList.filter (fun x=>decide (x ∉ M)&&zee M (ln x)) = []:=by
      show [z].filter _ = [];rw[List.filter_cons_of_neg (by rw[e];exact al19q)];rfl
     rw[this,List.map_nil,al53q]
    try dsimp only [zn]
    refine⟨_,rfl,_,rfl,pp,_,rfl,g,_,rfl,?_⟩;refine ite2 (fun c=>?_) (fun c=>?_)
    ·have c1:z ∉ M:=fun y=>by rw[zba y] at c;cases c
     refine⟨_,rfl,_,rfl,pd,_,rfl,B1.get hz,_,rfl,ad z,pp,bs z,ln z,M,rfl,SqL.of (B1.l z hz),B1.e z hz,q _ _ hm,ll z hz,fun H2 t2=>⟨_,rfl,?_⟩⟩;refine ite2 (fun c2=>?_) (fun c2=>?_)
     ·refine⟨_,rfl,t2 _ _ hd,zdy hix ⟨_,rfl,?_,(q.trans t2).upd hD,zb⟩⟩;rw[al9q,eu,al91q,al16q]
      congr 1
      have:(some z).toList.filter (fun x=>decide (x ∉ M)&&zee M (ln x)) = [z]:=by
       show [z].filter _ = [z];rw[List.filter_cons_of_pos (by rw[al15q c1,c2];rfl)];rfl
      rw[this];rfl
     ·have c2:zee M (ln z)=false:=by simpa using c2
      exact⟨t2 _ _ hd,zdy hix (no H2 t2 (by rw[c2,Bool.and_false]))⟩
    ·have c1:z∈M:=al33q fun y=>by
      rw[zd0 y] at c;exact c rfl
     refine⟨hd,zdy hix (no H1 (Same.refl _) ?_)⟩;rw[show decide (z ∉ M)=false from al22q (fun y=>y c1),al153q]
  rintro σ' ys H1 ⟨w0,rfl,rfl,q,hd⟩;rw[al1q,zas,al23q] at hd;have hd:H1 D=some (.lst ((zd1 ln keys M).map V.str)):=hd;rw[hf] at hd
  try dsimp only [zn]
  exact⟨_,rfl,D,_,_,_,rfl,rfl,SqL.of hd,znq,k _ q⟩
inductive sp_refuse' (vs:List V) (H:Hp) (Q:VK):Prop
 | mk (p pu pt:ty1q) (x y:V) (us:List Str) (ads:List ty1q) (ts:List Tie) (_:vs = [.ref p]) (_:Tel K H p pu pt x y us ads ts) (_:NoR (za1 ts (ts.zip ads)) (keysOf ts (srt us))) (_:∀H',Same H H'->Q .non H')
def zpx:Sp:=fun vs H Q _=>sp_refuse' (K:=K) vs H Q
theorem zc1 (T:Tx K mg w zk zo zg zm):Has P w K mg base "refuse_round" ["telling"] 6 (zpx (K:=K)):=by
 refine T.zfr.has sc_refuse_round (fun vs H Q E h=>?_) (fun f cdv A outer s H vs Q E hr h=>?_)
 ·obtain⟨p,pu,pt,x,y,us,ads,ts,rfl,_⟩:=h;rfl
 ·obtain⟨p,pu,pt,x,y,us,ads,ts,rfl,hT,nr,k⟩:=h;refine⟨_,(zc (sset (i:=1) sc_refuse_round.nd (pfn (zef T) (za (pv 0) zd)))
   (zf (zaz (zw (zjf K rfl (hu10 hr)) (pv 1) (zad zd) (zae _)) (zf zqd) zz))),?_⟩
  refine⟨_,rfl,p,pu,pt,x,y,us,ads,ts,rfl,hT,fun q rs H1 s1 fq hq lr R=>?_⟩;have e:rs = []:=al33q fun z=>by
   obtain⟨s',hs,j,hj,r⟩:=R.nil_iff.mp z;exact nr s' hs j hj r
  subst e
  try dsimp only [zn]
  refine⟨_,rfl,by decide,fun e he=>?_⟩;have s2:=Same.new (o:=.lst []) he;refine⟨q,e,_,rfl,rfl,DEq.nilL (SqL.of (s2 _ _ hq)) (SqL.of zb),_,rfl,iteF ?_⟩;exact k _ (s1.trans s2)
inductive sp_order' (vs:List V) (H:Hp) (Q:VK):Prop
 | mk (p pu pt:ty1q) (x y:V) (us:List Str) (ads:List ty1q) (ts:List Tie) (_:vs = [.ref p]) (_:Tel K H p pu pt x y us ads ts) (_:NoR (za1 ts (ts.zip ads)) (keysOf ts (srt us))) (_:∀(q:ty1q) (os:List Str) (H':Hp),Same H H'->H q=none->H' q=some (.lst (os.map V.str))->Ord (za1 ts (ts.zip ads)) (keysOf ts (srt us)) os->os.Perm (keysOf ts (srt us))->Q (.ref q) H')
def zrv:Sp:=fun vs H Q _=>sp_order' (K:=K) vs H Q
theorem zpy (T:Tx K mg w zk zo zg zm):Has P w K mg base "order" ["telling"] 7 (zrv (K:=K)):=by
 refine T.zu1.has sc_order (fun vs H Q E h=>?_) (fun f cdv A outer s H vs Q E hr h=>?_)
 ·obtain⟨p,pu,pt,x,y,us,ads,ts,rfl,_⟩:=h;rfl
 ·obtain⟨p,pu,pt,x,y,us,ads,ts,rfl,hT,nr,k⟩:=h;have hu:=zbp hr;refine⟨_,(zc (zat (pfn (zc1 T) (za (pv 0) zd)))
   (zc (sset (i:=1) sc_order.nd (pfn (za5 T) (za (pv 0) zd)))
   (zc (sset (i:=2) sc_order.nd za7)
   (zc (zgm al21q (zw zll (zap zng (by rfl) T.len al198q (za (pv 2) zd)) (zap zly (by rfl) T.len al198q (za (pv 1) zd)) (zae _)) (zf (za8 hu (pv 2) (pfn (zio T) (za (pv 1) (za (pv 2) zd))) zec rfl)))
   (zf (zy (za2 (zd7 rfl) (by rfl) T.list al113q (za (pv 2) zd)))))))),?_⟩
  refine⟨_,rfl,p,pu,pt,x,y,us,ads,ts,rfl,hT,nr,fun H1 s1=>?_⟩;refine⟨_,rfl,p,pu,pt,x,y,us,ads,ts,rfl,hT.same s1,fun pd ob ad bs H2 s2 fpd hB=>?_⟩;have cl:=zf9 (us:=us) (ts:=ts) (ads:=ads) hT.ends;have lk:=hT.klen;have kn:=zaj (ts:=ts) hT.nd;have kl:=zn7 (ts:=ts) hT.nd;have ll:∀k∈keysOf ts (srt us),(za1 ts (ts.zip ads) k).length<=900:=fun k _=>by
   have h1:=zn9 (ts:=ts) (z:=ts.zip ads) (k:=k);have h2:=hT.tl;rw[al90q] at h1;lia
  generalize keysOf ts (srt us)=keys at hB cl lk k nr kn kl ll;generalize za1 ts (ts.zip ads)=ln at hB cl k nr ll;have q2:=s1.trans s2
  try dsimp only [zn]
  refine fun pp hpp=>?_
  have s3:=Same.new (o:=.dK []) hpp;refine⟨fun m σ H'=>∃os,σ = [some (.ref p),some (.ref pd),some (.ref pp)]/\Same H2 H'/\H' pp=some (.dK (dV os tru))/\Ord ln keys os/\m=keys.length-os.length,⟨_,[],rfl,s3,zb,Ord.nil,rfl⟩,?_⟩;rintro m σ H4 ⟨os,rfl,q4,hp4,O,rfl⟩;have B4:=hB.same q4;have lo:=zbn O.nd O.sub;refine⟨_,rfl,pp,_,rfl,hp4,_,rfl,pd,_,rfl,.inr ⟨_,B4.d⟩,_,_,rfl,rfl,_,rfl,?_⟩;rw[zas,zas];refine ite2 (fun c=>?_) (fun c=>?_)
  ·have c:=al17q c;have hx:∃x∈keys,x ∉ os:=al164q fun hn=>by
    have:=zbn (us:=os) kn fun x hx=>al33q fun z=>hn ⟨x,hx,z⟩
    lia
   obtain⟨u,r,hu'⟩:∃u r,zd1 ln keys os=u::r:=by
    cases e:zd1 ln keys os with
    | nil=>exact absurd e (zq3 cl nr hx)
    | cons u r=>exact⟨u,r,rfl⟩
   obtain⟨m1,m2,m3⟩:=frees_mem.mp (show u∈zd1 ln keys os by rw[hu'];simp);refine⟨fun σ' H'=>∃m',m'<keys.length-os.length/\_,fun σ' H' h=>h,?_⟩;refine⟨_,rfl,_,rfl,_,rfl,pd,pp,ob,keys,ln,ad,bs,os,u,r,rfl,B4,hp4,lk,ll,hu',fun H5 s5=>?_⟩;refine⟨pp,_,rfl,DPut.k (k:=Sum.inr u) (s5 _ _ hp4) (by rw[zas];exact zq (by lia)),?_⟩;rw[zsk m2];refine⟨_,?_,os++[u],rfl,(q4.trans s5).upd hpp,zb,O.snoc kl hu',rfl⟩;rw[al20q];show keys.length-(os.length+1)<_;lia
  ·have c:¬((os.length:Int)<(keys.length:Int)):=fun z=>c (al15q z)
   have e:os.length=keys.length:=by lia
   refine⟨_,rfl,pp,_,rfl,hp4,fun q hq=>?_⟩;rw[zgw];exact k q os _ (q2.trans (q4.trans (Same.new hq))) ((q2.trans q4).free hq) zb O (O.perm kn e)
inductive sp_gap' (vs:List V) (H:Hp) (Q:VK):Prop
 | mk (r:ty1q) (t:Tie) (us:List Str) (_:vs = [.ref r]) (_:H r=some (.tup (tieV t))) (_:TOk us t) (_:∀H',Same H H'->Q (.int (zx t)) H')
def zwq:Sp:=fun vs H Q _=>sp_gap' vs H Q
theorem zli (T:Tx K mg w zk zo zg zm):Has P w K mg base "gap_of" ["tie"] 1 zwq:=by
 refine T.zr5.has zpp (fun vs H Q E h=>?_) (fun f cdv A outer s H vs Q E hr h=>?_)
 ·obtain⟨r,t,us,rfl,_⟩:=h;rfl
 ·obtain⟨r,t,us,rfl,hr,tok,k⟩:=h;refine⟨_,(zf (zy (zqc (zw zdu (pix (zh K rfl) (pv 0) ze) zaw (zae _)) (pix (zh K rfl) (pv 0) ze) ze))),?_⟩;refine⟨_,rfl,r,_,_,_,rfl,rfl,SqT.of hr,zf4 t,rfl,_,rfl,?_⟩;refine ite2 (fun c=>?_) (fun c=>?_)
  ·have c:t.k=zls:=V.str.inj (al17q c);exact⟨_,rfl,r,_,_,_,rfl,rfl,SqT.of hr,tok.after c,k _ (Same.refl _)⟩
  ·have c:¬t.k=zls:=fun z=>c (al15q (al67q V.str z))
   have:=k _ (Same.refl H);rw[tok.plain c] at this;exact this
inductive sp_within' (vs:List V) (H:Hp) (Q:VK):Prop
 | mk (p pm pu pt pf:ty1q) (lo hi:Int) (us:List Str) (ads:List ty1q) (ts:List Tie) (af:List ty1q) (fs:List Fnd) (_:vs = [.ref p]) (_:TelF K H p pm pu pt pf lo hi us ads ts af fs) (_:∀(pd:ty1q) (ob:Obj) (ad:Str->ty1q) (H':Hp),Same H H'->H pd=none->Fw H' pd ob (keysOf ts (srt us)) (fwOf ts (fs.zip af)) ad->Q (.ref pd) H')
def zpz:Sp:=fun vs H Q _=>sp_within' (K:=K) vs H Q
theorem zc2 (T:Tx K mg w zk zo zg zm):Has P w K mg base "finds_within" ["telling"] 4 (zpz (K:=K)):=by
 refine T.zfs.has sc_finds_within (fun vs H Q E h=>?_) (fun f cdv A outer s H vs Q E hr h=>?_)
 ·obtain⟨p,pm,pu,pt,pf,lo,hi,us,ads,ts,af,fs,rfl,_⟩:=h;rfl
 ·obtain⟨p,pm,pu,pt,pf,lo,hi,us,ads,ts,af,fs,rfl,hF,k⟩:=h;have hu:=zbp hr;refine⟨_,(zc (sset (i:=1) sc_finds_within.nd (pfn (zcb T) (za (pix (zh K rfl) (pv 0) ze) (za (pix (zh K rfl) (pv 0) ze) zd))))
   (zc (sset (i:=2) sc_finds_within.nd za7)
   (zc (zac al21q rfl (zr K rfl (pfn (zs4 T) (za (pix (zh K rfl) (pv 0) ze) (za (pix (zh K rfl) (pv 0) ze) zd)))) (gnm (i:=3) sc_finds_within.nd) (zf (za8 hu (pv 2) (pix (zab K rfl) (pv 3) ze) (zad zd) rfl)))
   (zc (zac al21q rfl (zr K rfl (pix (zh K rfl) (pv 0) ze)) (gnm (i:=4) sc_finds_within.nd) (zf (zat (zbz K rfl PySem.F.plainAttrs_list PySem.F.slot_list_append PySem.F.type_list_append zar (zp hu (pv 2) (zp hu (pv 1) (pix (zh K rfl) (pv 4) ze) (fun _ _=>rfl)) (fun _ _=>rfl)) (za (pv 4) zd)))))
   (zf (zeb (zy (pv 2)))))))),?_⟩
  have hts:=hF.tel.ends;have hfl:=hF.flen;have fl60:=hF.fl;have hfu:=hF.fu;have hff:=hF.f;have hft:=hF.ft;obtain⟨hp,hu1,ht1,tp,nd,hl,tl,_⟩:=hF.tel;have hlen:ads.length=ts.length:=by have:=tp.len;rw[al1q] at this;exact this
  refine⟨_,rfl,p,_,_,_,rfl,rfl,hp,rfl,_,rfl,p,_,_,_,rfl,rfl,hp,rfl,pu,pt,us,ads,ts,rfl,hu1,ht1,tp,nd,by lia,hts,fun pn H1 fpn hn s1=>?_⟩
  try dsimp only [zn]
  refine fun pd hpd=>?_
  have s2:=Same.new (o:=.dK []) hpd;have q2:=s1.trans s2;refine⟨_,rfl,p,_,_,_,rfl,rfl,q2.tup hp,rfl,_,rfl,p,_,_,_,rfl,rfl,q2.tup hp,rfl,pu,pt,us,ads,ts,rfl,q2.seq hu1,q2.seq ht1,tp.same q2,nd,hl,hts,fun po as H3 fpo fas npo asnd hpo hls s3=>?_⟩;have hn3:=s3 _ _ (s2 _ _ hn);have hd3:=s3 _ _ (zb (H:=H1) (a:=pd) (o:=.dK []));have q3:=q2.trans s3;have fpd:H pd=none:=s1.free hpd;have npd:pn≠pd:=zi hn hpd;have lk:as.length=(keysOf ts (srt us)).length:=by have:=Paired.length hls;unfold zcd at this;rw[al1q] at this;exact this
  have lk63:(keysOf ts (srt us)).length<=63:=by
   have:=zgy (us:=us) (ts:=ts) nd;unfold zcd at this;rw[al1q] at this;lia
  have hz:∀{i:Nat}{f:Fnd}{r:ty1q},fs[i]? = some f->af[i]? = some r->(fs.zip af)[i]? = some (f,r):=fun h1 h2=>al85q.mpr ⟨h1,h2⟩
  generalize ek:keysOf ts (srt us)=keys at lk lk63 k;have knd:keys.Nodup:=ek▸zaj nd;have hgs:zcd us ts=keys.map (zci ts (srt us)):=by unfold zcd;rw[ek]
  refine⟨po,rfl,⟨_,SqL.of hpo⟩,zaa (xs:=as.map V.ref) (fun i σ H'=>∃(v3:Option V) (ad:Str->ty1q),σ = [some (.ref p),some (.ref pn),some (.ref pd),v3,none]/\(∀b o,b≠pd->H3 b=some o->H' b=some o)/\
   H' pd=some (.dK (dV (keys.take i) fun k=>.ref (ad k)))/\(∀k∈keys.take i,H' (ad k)=some (.lst [])/\H3 (ad k)=none)/\(∀k∈keys.take i,∀k'∈keys.take i,ad k=ad k'->k=k'))
   ⟨none,fun _=>0,rfl,fun b o _ e=>e,hd3,(fun k hk=>by simp at hk),fun k hk=>by simp at hk⟩ (fun i σ H' _ h=>by obtain⟨_,_,_,q,_⟩:=h;exact SqL.of (q _ _ (zcu hpo hd3 (by simp)) hpo)) ?_ ?_⟩
  ·rintro i v σ H4 hx ⟨v3,ad,rfl,kp,hd4,hk4,inj⟩;obtain⟨r,g,rfl,hg,har,hr⟩:=zbv hls hx;rw[hgs,al10q] at hg;cases eu:keys[i]? with
   | none=>rw[eu] at hg;cases hg
   | some u=>
    rw[eu] at hg;cases hg;have hu':u∈keys:=al6q eu;have hi:=zag eu;have hfr:u ∉ keys.take i:=by
     have:=zay knd i hi;rw[show keys[i]=u from (al8q.mp eu).2] at this;exact this
    obtain⟨gr,egr⟩:=zkz (us:=us) (ts:=ts) nd (k:=u) (ek▸hu');rw[egr] at hr;have hr4:=kp _ _ (zcu hr hd3 (by simp)) hr
    try dsimp only [zn]
    refine⟨by decide,fun q0 hq0=>?_⟩;have t0:=Same.new (o:=.lst []) hq0;have hd5:=t0 _ _ hd4;have nq:pd≠q0:=zi hd4 hq0;refine⟨_,rfl,_,rfl,r,_,_,_,rfl,rfl,SqL.of (t0 _ _ hr4),znq,pd,_,rfl,DPut.k (k:=Sum.inr u) hd5 (by rw[zas,al25q];exact zq (by lia)),?_⟩;have fq:H3 q0=none:=by
     cases e:H3 q0 with
     | none=>rfl
     | some o=>rw[kp _ _ (al36q nq) e] at hq0;cases hq0
    refine⟨_,fun z=>if z=u then q0 else ad z,rfl,fun b o n e=>by rw[zl n];exact t0 _ _ (kp b o n e),?_,?_,?_⟩
    ·rw[zb,zdj hfr,al9q,eu]
     congr 2
     refine zbd fun z hz=>?_
     dsimp only
     by_cases e:z=u
     ·rw[al11q e,al11q e]
     ·rw[al7q e,al7q e]
    ·intro k hk;rw[al9q,eu,al28q] at hk;dsimp only
     by_cases e:k=u
     ·rw[al11q e];exact⟨by rw[zl (al36q nq),zb],fq⟩
     ·rw[al7q e];have hk':k∈keys.take i:=hk.elim id fun z=>absurd (by simpa using z) e
      obtain⟨h1,h2⟩:=hk4 k hk';refine⟨?_,h2⟩;rw[zl (fun z=>by rw[z,hd4] at h1;cases h1)];exact t0 _ _ h1
    ·intro k hk k' hk' e;rw[al9q,eu,al28q] at hk hk';dsimp only at e
     by_cases c1:k=u<;>by_cases c2:k'=u
     ·rw[c1,c2]
     ·rw[al11q c1,al7q c2] at e;have h2:=(hk4 k' (hk'.elim id fun z=>absurd (by simpa using z) c2)).1;rw[←e,hq0] at h2;cases h2
     ·rw[al7q c1,al11q c2] at e;have h2:=(hk4 k (hk.elim id fun z=>absurd (by simpa using z) c1)).1;rw[e,hq0] at h2;cases h2
     ·rw[al7q c1,al7q c2] at e;exact inj k (hk.elim id fun z=>absurd (by simpa using z) c1) k' (hk'.elim id fun z=>absurd (by simpa using z) c2) e
  ·rintro σ H4 ⟨v3,ad,rfl,kp,hd4,hk4,inj⟩;rw[al1q,lk,al23q] at hd4 hk4 inj;have sq4:∀{H':Hp},(∀b o,b≠pd->H3 b=some o->H' b=some o)->Same H H':=fun kp' b o e=>kp' b o (zi e fpd) (q3 _ _ e)
   have q4:=sq4 kp;refine⟨_,rfl,p,_,_,_,rfl,rfl,q4.tup hp,rfl,pf,rfl,⟨_,q4.seq hff⟩,zaa (xs:=af.map V.ref) (fun i σ H'=>∃(v4:Option V),σ = [some (.ref p),some (.ref pn),some (.ref pd),v3,v4]/\(∀b o,b≠pd->H3 b=some o->H' b=some o)/\
    H' pd=some (.dK (dV keys fun k=>.ref (ad k)))/\∀k∈keys,H' (ad k)=some (.lst ((fwOf ts ((fs.zip af).take i) k).map fun p=>V.ref p.2)))
    ⟨none,rfl,kp,hd4,fun k hk=>by rw[al186q];exact (hk4 k hk).1⟩ (fun i σ H' _ h=>by obtain⟨_,_,q,_⟩:=h;exact (sq4 q).seq hff) ?_ ?_⟩
   ·rintro i x σ H5 hx ⟨v4,rfl,kp5,hd5,hb5⟩;obtain⟨r,f,rfl,hf,har,hr⟩:=zc8 hft hx;have q5:=sq4 kp5;have hr5:=q5 _ _ hr;have hab:=hfu f (al6q hf);have hit:=zag hf;have hzi:=hz hf har;have g1:=DGet.k (k:=Sum.inr f.u) (kp5 _ _ npd hn3);rw[zb1 hab] at g1;have hka:labs ts f.u∈keys:=ek▸zbu hts hab;have g3:=DGet.k (k:=Sum.inr (labs ts f.u)) hd5;rw[zba hka] at g3;have hb1:=hb5 _ hka;have lb:(fwOf ts ((fs.zip af).take i) (labs ts f.u)).length<=60:=by
     have h2:=zov (ts:=ts) (z:=(fs.zip af).take i) (k:=labs ts f.u);rw[al25q,al90q] at h2;lia
    try dsimp only [zn]
    refine⟨_,rfl,_,rfl,_,rfl,r,_,_,_,rfl,rfl,SqT.of hr5,zso f,pn,_,rfl,g1,pd,_,rfl,g3,?_⟩;refine⟨.inl ⟨rfl,_,SqL.of hb1⟩,_,rfl,ad (labs ts f.u),_,_,rfl,rfl,hb1,by rw[al1q];exact zq (by lia),?_⟩;refine⟨_,rfl,fun b o n e=>?_,?_,fun k hk=>?_⟩
    ·rw[zl (fun z=>by rw[z,(hk4 _ hka).2] at e;cases e)];exact kp5 b o n e
    ·rw[zl (fun z=>by rw[←z,hd5] at hb1;cases hb1)];exact hd5
    ·rw[zt5 hzi]
     by_cases e:labs ts f.u=k
     ·subst e;rw[al11q rfl,zb,al16q];rfl
     ·rw[al7q e,al53q,zl (fun z=>e (inj _ hka _ hk z.symm))];exact hb5 k hk
   ·rintro σ H5 ⟨v4,rfl,kp5,hd5,hb5⟩;rw[al1q] at hb5;have ez:(fs.zip af).take af.length=fs.zip af:=al98q (by rw[al90q];lia);rw[ez] at hb5;refine .inr ⟨pd,_,hd5,fun ob=>⟨_,rfl,k pd ob ad _ ?_ fpd ⟨zb,fun k hk=>?_⟩⟩⟩
    ·exact (sq4 kp5).upd fpd
    ·have b1:=hb5 k hk;rw[zl (fun z=>by rw[z,hd5] at b1;cases b1)];exact b1
inductive sp_floors' (vs:List V) (H:Hp) (Q:VK):Prop
 | mk (p pm pu pt pf:ty1q) (lo hi:Int) (us:List Str) (ads:List ty1q) (ts:List Tie) (af:List ty1q) (fs:List Fnd) (_:vs = [.ref p]) (_:TelF K H p pm pu pt pf lo hi us ads ts af fs) (_:∀(pd:ty1q) (ob:Obj) (v:Str->IS) (ad:Str->ty1q) (H':Hp),Same H H'->H pd=none->Bd H' pd ob (keysOf ts (srt us)) v ad->(∀k∈keysOf ts (srt us),MaxP (loL lo (fwOf ts (fs.zip af) k)) (v k))->Q (.ref pd) H')
def zp0:Sp:=fun vs H Q _=>sp_floors' (K:=K) vs H Q
theorem zlj (T:Tx K mg w zk zo zg zm):Has P w K mg base "floors" ["telling"] 5 (zp0 (K:=K)):=by
 refine T.zr6.has sc_floors (fun vs H Q E h=>?_) (fun f cdv A outer s H vs Q E hr h=>?_)
 ·obtain⟨p,pm,pu,pt,pf,lo,hi,us,ads,ts,af,fs,rfl,_⟩:=h;rfl
 ·obtain⟨p,pm,pu,pt,pf,lo,hi,us,ads,ts,af,fs,rfl,hF,k⟩:=h;have hu:=zbp hr;refine⟨_,(zc (sset (i:=1) sc_floors.nd (pfn (zc2 T) (za (pv 0) zd)))
   (zc (sset (i:=2) sc_floors.nd za7)
   (zc (zac al21q rfl (zbx (pv 1)) (gnm (i:=3) sc_floors.nd) (zf (za8 hu (pv 2) (pv 3) (zap (zoq (K:=K) rfl rfl hu) (by rfl) T.max PyProof.Rows.boot_max (za (zah zfx (zad (za (zao (za (pix (zh K rfl) (pix (zh K rfl) (pv 0) ze) ze) (za zaw zd))) zd)) (zb4 (own:=["find"]) (cap:=[]) (ix:=[]) (osc:=zj (top 20)) rfl ⟨rfl,by decide +kernel,by decide +kernel,by decide +kernel,by decide +kernel⟩ rfl (zr K rfl (zp hu (pv 1) (pv 3) (fun _ _=>rfl))) (fun _ _ _ _=>zbg (i:=0) (show List.Nodup (["find"]:List Str) by decide +kernel) rfl (Or.inl rfl)) (fun _ _ _ _=>zb3) (fun _ _ _ _=>(zao (za (pix (zh K rfl) (pv 0) ze) (za (pix (zh K rfl) (pv 0) ze) zd)))))) zd)) rfl)))
   (zf (zeb (zy (pv 2))))))),?_⟩
  have nd:=hF.tel.nd;have lk:=hF.tel.klen;have fl60:=hF.fl;have hft:=hF.ft;refine⟨_,rfl,p,pm,pu,pt,pf,lo,hi,us,ads,ts,af,fs,rfl,hF,fun pw ow aw H1 s1 fpw hW=>?_⟩;have knd:=zaj (ts:=ts) nd;have fwl:∀k,(fwOf ts (fs.zip af) k).length<=60:=fun k=>by
   have h2:=zov (ts:=ts) (z:=fs.zip af) (k:=k);rw[al90q] at h2;lia
  have fwt:∀k,∀q∈fwOf ts (fs.zip af) k,H q.2=some (.tup (fndV q.1)):=fun k q hq=>by
   have:=(al32q.mp hq).1;obtain⟨i,hi⟩:=al68q.mp this;obtain⟨h1,h2⟩:=al85q.mp hi;exact zak hft h2 (by rw[al10q,h1];rfl)
  generalize keysOf ts (srt us)=keys at hW lk k knd;generalize fwOf ts (fs.zip af)=fw at hW k fwl fwt
  try dsimp only [zn]
  refine fun pd hpd=>?_
  have s2:=Same.new (o:=.dK []) hpd;refine⟨_,rfl,pw,ow,_,rfl,s2 _ _ hW.d,zb9 (fun i σ H'=>∃(v3:Option V) (v:Str->IS) (ad:Str->ty1q),σ = [some (.ref p),some (.ref pw),some (.ref pd),v3]/\Same H1 H'/\H' pd=some (.dK (dV (keys.take i) fun k=>.ref (ad k)))/\
    ∀k∈keys.take i,H' (ad k)=some (.tup [.int (v k).1,.str (v k).2])/\MaxP (loL lo (fw k)) (v k))
   ⟨none,fun _=>(0,""),fun _=>0,rfl,s2,zb,fun k hk=>by simp at hk⟩ (fun i σ H' _ h=>by obtain⟨_,_,_,_,q,_⟩:=h;exact q _ _ hW.d) ?_ ?_⟩
  ·rintro i kk vv σ H3 hx ⟨v3,v,ad,rfl,q3,hd3,hk3⟩;obtain⟨u,hu',rfl,_⟩:=zjk hx;have huk:u∈keys:=al6q hu';have F3:=hF.same (s1.trans q3);have W3:=hW.same q3
   try dsimp only [zn]
   refine⟨_,rfl,p,_,_,_,rfl,rfl,F3.tel.p,rfl,pm,_,_,_,rfl,rfl,F3.m,rfl,(by show 2<=sizeLine;decide),fun b0 hb0=>?_⟩;have t1:=Same.new (o:=.tup [.int lo,.str ""]) hb0;refine⟨by show 1<=sizeLine;decide,fun l0 hl0=>?_⟩;have t2:=Same.new (o:=.lst [.ref b0]) hl0;have q5:=q3.trans (t1.trans t2);have hb5:=t2 _ _ (zb (H:=H3) (a:=b0) (o:=.tup [.int lo,.str ""]));have hl5:upd (upd H3 b0 (.tup [.int lo,.str ""])) l0 (.lst [.ref b0]) l0=some (.lst [.ref b0]):=zb;have e35:=t1.trans t2;generalize upd (upd H3 b0 (.tup [.int lo,.str ""])) l0 (.lst [.ref b0])=H5 at q5 hb5 hl5 t2 e35;have W5:=hW.same q5;have lL:=fwl u;have tL:=fwt u;have hlW:=W5.l u huk;generalize eL:fw u=L at lL tL hlW;refine⟨_,rfl,_,rfl,pw,_,rfl,zav W5.d huk,aw u,rfl,⟨_,SqL.of hlW⟩,fun D hD=>?_⟩;refine zbi (zcs (K:=K) (a:=aw u) (xs:=L.map fun p=>V.ref p.2)) (fun i' σ' ys H'=>∃(w0:Option V) (bs:List ty1q),σ' = [w0]/\ys=bs.map V.ref/\Paired (fun a (p:IS)=>H' a=some (.tup [.int p.1,.str p.2])) bs ((L.take i').map fun p=>(p.1.lo,p.1.n))/\Same H5 H'/\H' D=some (.lst ys))
    ⟨none,[],rfl,rfl,.nil,Same.new hD,zb⟩ (fun i' σ' ys H' h=>?_) (by rw[al1q];exact zau (by lia)) ?_ ?_
   ·obtain⟨_,bs,_,rfl,pb,q,hd⟩:=h;refine⟨SqL.of (q _ _ hlW),hd,?_⟩;have:=Paired.length pb;rw[al1q,al25q] at this;rw[al1q];lia
   ·rintro i' v' σ' ys H' hx ⟨w0,bs,rfl,rfl,pb,q,hd⟩;have hix:=zag hx;rw[al10q] at hx;cases ef:L[i']? with
    | none=>rw[ef] at hx;cases hx
    | some f=>
     rw[ef] at hx;cases hx;have hf:=q _ _ (q5 _ _ (s1 _ _ (tL f (al6q ef))))
     try dsimp only [zn]
     unfold tYes;dsimp only;rw[al11q rfl];refine⟨_,rfl,f.2,_,_,_,rfl,rfl,SqT.of hf,zsp f.1,_,rfl,f.2,_,_,_,rfl,rfl,SqT.of hf,zsn f.1,(by show 2<=sizeLine;decide),fun b1 hb1=>?_⟩;have w1:=Same.new (o:=.tup [.int f.1.lo,.str f.1.n]) hb1;have hd1:=w1 _ _ hd;refine⟨hd1,zdy hix ⟨_,bs++[b1],rfl,by rw[al16q];rfl,?_,(q.trans w1).upd hD,zb⟩⟩;rw[al9q,ef,al16q];exact Paired.snoc (Paired.mapP pb fun a z e=>zaf hd1 _ _ (w1 _ _ e)) (zaf hd1 _ _ zb)
   rintro σ' ys H6 ⟨w0,bs,rfl,rfl,pb,t6,hd6⟩;rw[al1q,al23q] at pb;have lb:=Paired.length pb;rw[al1q] at lb;have hl6:=t6 _ _ hl5;refine⟨l0,D,_,_,rfl,rfl,hl6,hd6,by rw[al1q];exact zau (show 1+_<=1000 by lia),fun l hl=>?_⟩;have t7:=Same.new (o:=.lst ([V.ref b0]++bs.map V.ref)) hl;have pr:Paired (fun a (p:IS)=>H6 a=some (.tup [.int p.1,.str p.2])) (b0::bs) (loL lo L):=.cons (t6 _ _ hb5) pb;have pr7:=Paired.mapP pr fun a z e=>t7 _ _ e
   refine⟨l,b0::bs,loL lo L,rfl,SqL.of zb,Paired.mapP pr7 fun a z e=>SqT.of e,by unfold loL;simp,fun j a m ha hm hmax=>?_⟩;have ham:=zak pr7 ha hm;have q7:=q5.trans (t6.trans t7);have e37:=e35.trans (t6.trans t7);have hd7:=e37 _ _ hd3;have hfr:u ∉ keys.take i:=by
    have hi:=zag hu';have:=zay knd i hi;rw[show keys[i]=u from (al8q.mp hu').2] at this;exact this
   refine⟨_,rfl,_,rfl,pd,_,rfl,DPut.k (k:=Sum.inr u) hd7 (by rw[zas,al25q];exact zq (by lia)),?_⟩;have tst:∀b vs,upd H6 l (.lst ([V.ref b0]++bs.map V.ref)) b=some (.tup vs)->upd (upd H6 l (.lst ([V.ref b0]++bs.map V.ref))) pd (.dK (putK (dV (keys.take i) fun k=>.ref (ad k)) (Sum.inr u) (.ref a))) b=some (.tup vs):=fun b vs e=>by
    rw[zl (zcu e hd7 (by intro z;cases z))];exact e
   refine⟨_,fun z=>if z=u then m else v z,fun z=>if z=u then a else ad z,rfl,q7.upd hpd,?_,fun k hk=>?_⟩
   ·rw[zb,zdj hfr,al9q,hu']
    congr 2
    refine zbd fun z hz=>?_
    try dsimp only
    by_cases e:z=u
    ·rw[al11q e,al11q e]
    ·rw[al7q e,al7q e]
   ·rw[al9q,hu',al28q] at hk
    try dsimp only
    by_cases e:k=u
    ·rw[al11q e,al11q e];refine⟨tst _ _ ham,?_⟩;rw[e,eL];exact⟨al6q hm,hmax⟩
    ·rw[al7q e,al7q e];obtain⟨h1,h2⟩:=hk3 k (hk.elim id fun z=>absurd (by simpa using z) e);exact⟨tst _ _ (e37 _ _ h1),h2⟩
  ·rintro σ H3 ⟨v3,v,ad,rfl,q3,hd3,hk3⟩;rw[zas,al23q] at hd3 hk3;refine .inr ⟨pd,_,hd3,fun ob=>⟨_,rfl,k pd ob v ad _ ((s1.trans q3).upd (s1.free hpd)) (s1.free hpd) ⟨zb,fun k hk=>?_⟩ fun k hk=>(hk3 k hk).2⟩⟩;have b1:=(hk3 k hk).1;rw[zl (fun z=>by rw[z,hd3] at b1;cases b1)];exact b1
inductive sp_ceil' (vs:List V) (H:Hp) (Q:VK):Prop
 | mk (p pm pu pt pf:ty1q) (lo hi:Int) (us:List Str) (ads:List ty1q) (ts:List Tie) (af:List ty1q) (fs:List Fnd) (_:vs = [.ref p]) (_:TelF K H p pm pu pt pf lo hi us ads ts af fs) (_:∀(pd:ty1q) (ob:Obj) (v:Str->IS) (ad:Str->ty1q) (H':Hp),Same H H'->H pd=none->Bd H' pd ob (keysOf ts (srt us)) v ad->(∀k∈keysOf ts (srt us),MinP (hiL hi (fwOf ts (fs.zip af) k)) (v k))->Q (.ref pd) H')
def zut:Sp:=fun vs H Q _=>sp_ceil' (K:=K) vs H Q
theorem zgl (T:Tx K mg w zk zo zg zm):Has P w K mg base "ceilings" ["telling"] 5 (zut (K:=K)):=by
 refine T.zmo.has sc_ceilings (fun vs H Q E h=>?_) (fun f cdv A outer s H vs Q E hr h=>?_)
 ·obtain⟨p,pm,pu,pt,pf,lo,hi,us,ads,ts,af,fs,rfl,_⟩:=h;rfl
 ·obtain⟨p,pm,pu,pt,pf,lo,hi,us,ads,ts,af,fs,rfl,hF,k⟩:=h;have hu:=zbp hr;refine⟨_,(zc (sset (i:=1) sc_ceilings.nd (pfn (zc2 T) (za (pv 0) zd)))
   (zc (sset (i:=2) sc_ceilings.nd za7)
   (zc (zac al21q rfl (zbx (pv 1)) (gnm (i:=3) sc_ceilings.nd) (zf (za8 hu (pv 2) (pv 3) (zap (zos (K:=K) rfl rfl hu) (by rfl) T.min al188q (za (zah zfx (zad (za (zao (za (pix (zh K rfl) (pix (zh K rfl) (pv 0) ze) ze) (za zaw zd))) zd)) (zb4 (own:=["find"]) (cap:=[]) (ix:=[]) (osc:=zj (top 21)) rfl ⟨rfl,by decide +kernel,by decide +kernel,by decide +kernel,by decide +kernel⟩ rfl (zr K rfl (zp hu (pv 1) (pv 3) (fun _ _=>rfl))) (fun _ _ _ _=>zbg (i:=0) (show List.Nodup (["find"]:List Str) by decide +kernel) rfl (Or.inl rfl)) (fun _ _ _ _=>zb3) (fun _ _ _ _=>(zao (za (pix (zh K rfl) (pv 0) ze) (za (pix (zh K rfl) (pv 0) ze) zd)))))) zd)) rfl)))
   (zf (zeb (zy (pv 2))))))),?_⟩
  have nd:=hF.tel.nd;have lk:=hF.tel.klen;have fl60:=hF.fl;have hft:=hF.ft;refine⟨_,rfl,p,pm,pu,pt,pf,lo,hi,us,ads,ts,af,fs,rfl,hF,fun pw ow aw H1 s1 fpw hW=>?_⟩;have knd:=zaj (ts:=ts) nd;have fwl:∀k,(fwOf ts (fs.zip af) k).length<=60:=fun k=>by
   have h2:=zov (ts:=ts) (z:=fs.zip af) (k:=k);rw[al90q] at h2;lia
  have fwt:∀k,∀q∈fwOf ts (fs.zip af) k,H q.2=some (.tup (fndV q.1)):=fun k q hq=>by
   have:=(al32q.mp hq).1;obtain⟨i,hi⟩:=al68q.mp this;obtain⟨h1,h2⟩:=al85q.mp hi;exact zak hft h2 (by rw[al10q,h1];rfl)
  generalize keysOf ts (srt us)=keys at hW lk k knd;generalize fwOf ts (fs.zip af)=fw at hW k fwl fwt
  try dsimp only [zn]
  refine fun pd hpd=>?_
  have s2:=Same.new (o:=.dK []) hpd;refine⟨_,rfl,pw,ow,_,rfl,s2 _ _ hW.d,zb9 (fun i σ H'=>∃(v3:Option V) (v:Str->IS) (ad:Str->ty1q),σ = [some (.ref p),some (.ref pw),some (.ref pd),v3]/\Same H1 H'/\H' pd=some (.dK (dV (keys.take i) fun k=>.ref (ad k)))/\
    ∀k∈keys.take i,H' (ad k)=some (.tup [.int (v k).1,.str (v k).2])/\MinP (hiL hi (fw k)) (v k))
   ⟨none,fun _=>(0,""),fun _=>0,rfl,s2,zb,fun k hk=>by simp at hk⟩ (fun i σ H' _ h=>by obtain⟨_,_,_,_,q,_⟩:=h;exact q _ _ hW.d) ?_ ?_⟩
  ·rintro i kk vv σ H3 hx ⟨v3,v,ad,rfl,q3,hd3,hk3⟩;obtain⟨u,hu',rfl,_⟩:=zjk hx;have huk:u∈keys:=al6q hu';have F3:=hF.same (s1.trans q3);have W3:=hW.same q3
   try dsimp only [zn]
   refine⟨_,rfl,p,_,_,_,rfl,rfl,F3.tel.p,rfl,pm,_,_,_,rfl,rfl,F3.m,rfl,(by show 2<=sizeLine;decide),fun b0 hb0=>?_⟩;have t1:=Same.new (o:=.tup [.int hi,.str ""]) hb0;refine⟨by show 1<=sizeLine;decide,fun l0 hl0=>?_⟩;have t2:=Same.new (o:=.lst [.ref b0]) hl0;have q5:=q3.trans (t1.trans t2);have hb5:=t2 _ _ (zb (H:=H3) (a:=b0) (o:=.tup [.int hi,.str ""]));have hl5:upd (upd H3 b0 (.tup [.int hi,.str ""])) l0 (.lst [.ref b0]) l0=some (.lst [.ref b0]):=zb;have e35:=t1.trans t2;generalize upd (upd H3 b0 (.tup [.int hi,.str ""])) l0 (.lst [.ref b0])=H5 at q5 hb5 hl5 t2 e35;have W5:=hW.same q5;have lL:=fwl u;have tL:=fwt u;have hlW:=W5.l u huk;generalize eL:fw u=L at lL tL hlW;refine⟨_,rfl,_,rfl,pw,_,rfl,zav W5.d huk,aw u,rfl,⟨_,SqL.of hlW⟩,fun D hD=>?_⟩;refine zbi (zcs (K:=K) (a:=aw u) (xs:=L.map fun p=>V.ref p.2)) (fun i' σ' ys H'=>∃(w0:Option V) (bs:List ty1q),σ' = [w0]/\ys=bs.map V.ref/\Paired (fun a (p:IS)=>H' a=some (.tup [.int p.1,.str p.2])) bs ((L.take i').map fun p=>(p.1.hi,p.1.n))/\Same H5 H'/\H' D=some (.lst ys))
    ⟨none,[],rfl,rfl,.nil,Same.new hD,zb⟩ (fun i' σ' ys H' h=>?_) (by rw[al1q];exact zau (by lia)) ?_ ?_
   ·obtain⟨_,bs,_,rfl,pb,q,hd⟩:=h;refine⟨SqL.of (q _ _ hlW),hd,?_⟩;have:=Paired.length pb;rw[al1q,al25q] at this;rw[al1q];lia
   ·rintro i' v' σ' ys H' hx ⟨w0,bs,rfl,rfl,pb,q,hd⟩;have hix:=zag hx;rw[al10q] at hx;cases ef:L[i']? with
    | none=>rw[ef] at hx;cases hx
    | some f=>
     rw[ef] at hx;cases hx;have hf:=q _ _ (q5 _ _ (s1 _ _ (tL f (al6q ef))))
     try dsimp only [zn]
     unfold tYes;dsimp only;rw[al11q rfl];refine⟨_,rfl,f.2,_,_,_,rfl,rfl,SqT.of hf,zsq f.1,_,rfl,f.2,_,_,_,rfl,rfl,SqT.of hf,zsn f.1,(by show 2<=sizeLine;decide),fun b1 hb1=>?_⟩;have w1:=Same.new (o:=.tup [.int f.1.hi,.str f.1.n]) hb1;have hd1:=w1 _ _ hd;refine⟨hd1,zdy hix ⟨_,bs++[b1],rfl,by rw[al16q];rfl,?_,(q.trans w1).upd hD,zb⟩⟩;rw[al9q,ef,al16q];exact Paired.snoc (Paired.mapP pb fun a z e=>zaf hd1 _ _ (w1 _ _ e)) (zaf hd1 _ _ zb)
   rintro σ' ys H6 ⟨w0,bs,rfl,rfl,pb,t6,hd6⟩;rw[al1q,al23q] at pb;have lb:=Paired.length pb;rw[al1q] at lb;have hl6:=t6 _ _ hl5;refine⟨l0,D,_,_,rfl,rfl,hl6,hd6,by rw[al1q];exact zau (show 1+_<=1000 by lia),fun l hl=>?_⟩;have t7:=Same.new (o:=.lst ([V.ref b0]++bs.map V.ref)) hl;have pr:Paired (fun a (p:IS)=>H6 a=some (.tup [.int p.1,.str p.2])) (b0::bs) (hiL hi L):=.cons (t6 _ _ hb5) pb;have pr7:=Paired.mapP pr fun a z e=>t7 _ _ e
   refine⟨l,b0::bs,hiL hi L,rfl,SqL.of zb,Paired.mapP pr7 fun a z e=>SqT.of e,by unfold hiL;simp,fun j a m ha hm hmax=>?_⟩;have ham:=zak pr7 ha hm;have q7:=q5.trans (t6.trans t7);have e37:=e35.trans (t6.trans t7);have hd7:=e37 _ _ hd3;have hfr:u ∉ keys.take i:=by
    have hi:=zag hu';have:=zay knd i hi;rw[show keys[i]=u from (al8q.mp hu').2] at this;exact this
   refine⟨_,rfl,_,rfl,pd,_,rfl,DPut.k (k:=Sum.inr u) hd7 (by rw[zas,al25q];exact zq (by lia)),?_⟩;have tst:∀b vs,upd H6 l (.lst ([V.ref b0]++bs.map V.ref)) b=some (.tup vs)->upd (upd H6 l (.lst ([V.ref b0]++bs.map V.ref))) pd (.dK (putK (dV (keys.take i) fun k=>.ref (ad k)) (Sum.inr u) (.ref a))) b=some (.tup vs):=fun b vs e=>by
    rw[zl (zcu e hd7 (by intro z;cases z))];exact e
   refine⟨_,fun z=>if z=u then m else v z,fun z=>if z=u then a else ad z,rfl,q7.upd hpd,?_,fun k hk=>?_⟩
   ·rw[zb,zdj hfr,al9q,hu']
    congr 2
    refine zbd fun z hz=>?_
    try dsimp only
    by_cases e:z=u
    ·rw[al11q e,al11q e]
    ·rw[al7q e,al7q e]
   ·rw[al9q,hu',al28q] at hk
    try dsimp only
    by_cases e:k=u
    ·rw[al11q e,al11q e];refine⟨tst _ _ ham,?_⟩;rw[e,eL];exact⟨al6q hm,hmax⟩
    ·rw[al7q e,al7q e];obtain⟨h1,h2⟩:=hk3 k (hk.elim id fun z=>absurd (by simpa using z) e);exact⟨tst _ _ (e37 _ _ h1),h2⟩
  ·rintro σ H3 ⟨v3,v,ad,rfl,q3,hd3,hk3⟩;rw[zas,al23q] at hd3 hk3;refine .inr ⟨pd,_,hd3,fun ob=>⟨_,rfl,k pd ob v ad _ ((s1.trans q3).upd (s1.free hpd)) (s1.free hpd) ⟨zb,fun k hk=>?_⟩ fun k hk=>(hk3 k hk).2⟩⟩;have b1:=(hk3 k hk).1;rw[zl (fun z=>by rw[z,hd3] at b1;cases b1)];exact b1
theorem zp1 {H H':Hp}{a:ty1q}{xs:List V}(e:Same H H') (h:SqT K H a xs):SqT K H' a xs:=by
 rcases h with (h | ⟨o,h⟩) | h
 ·exact .inl (.inl (e _ _ h))
 ·exact .inl (.inr ⟨o,e _ _ h⟩)
 ·exact .inr h
inductive sp_Ninit' (C:ty1q) (vs:List V) (H:Hp) (Q:VK):Prop
 | mk (e p p1:ty1q) (x0 x2:V) (xs:List V) (_:vs = [.ref e,.ref p]) (_:H e=some (excO e C none)) (_:SqT K H p [x0,.ref p1,x2]) (_:SqL K H p1 xs) (_:xs.length<=1000) (_:∀(q r d:ty1q),q≠e->r≠e->d≠e->H q=none->H r=none->H d=none->r≠q->d≠q->d≠r->Q .non (upd (upd (upd (upd H q (.lst xs)) r (.tup [x0,.ref q,x2])) d (.xd [("row",.ref r)])) e (excO e C (some d))))
def zrw (C:ty1q):Sp:=fun vs H Q _=>sp_Ninit' (K:=K) C vs H Q
theorem zc9 (T:Tx K mg w zk zo zg zm):HasM P w K mg base zg "__init__" ["self","row"] 1 (zrw (K:=K) zg):=by
 refine T.zdc.has zcw (fun vs H Q E h=>?_) (fun f cdv A outer s H vs Q E hr h=>?_)
 ·obtain⟨e,p,p1,x0,x2,xs,rfl,_⟩:=h;rfl
 ·obtain⟨e,p,p1,x0,x2,xs,rfl,he,hp,hp1,hl,k⟩:=h;refine⟨_,(zc (zat (zre (by rfl) T.zj5 T.zj6 (za (pv 0) (za zaw zd))))
   (zf (zud (pv 0) (zao (za (pix (zh K rfl) (pv 1) ze) (za (za2 (zgu K rfl) (by rfl) T.list al113q (za (pix (zh K rfl) (pv 1) ze) zd)) (za (pix (zh K rfl) (pv 1) ze) zd)))) rfl))),?_⟩
  obtain⟨bm,xo,U⟩:=T.zff;refine⟨_,rfl,e,zg,none,bm,_,rfl,he,xo,U,(by show 1<=sizeLine;decide),?_⟩
  try dsimp only
  refine⟨_,rfl,p,_,_,x0,rfl,rfl,hp,rfl,_,rfl,p,_,_,.ref p1,rfl,rfl,hp,rfl,p1,xs,rfl,.inl hp1,fun q hq=>?_⟩;have t1:=Same.new (o:=.lst xs) hq;refine⟨_,rfl,p,_,_,x2,rfl,rfl,zp1 t1 hp,rfl,(by show 3<=sizeLine;decide),fun r hr=>?_⟩;have ne:q≠e:=fun z=>by rw[z,he] at hq;cases hq
  have nr:r≠q:=fun z=>by rw[z,zb] at hr;cases hr
  rw[zl nr] at hr;have nre:r≠e:=fun z=>by rw[z,he] at hr;cases hr
  refine⟨_,rfl,e,zg,rfl,by rw[zl nre.symm,zl ne.symm];exact he,T.zj8,T.zfg,fun d hd=>?_⟩;have d1:d≠r:=fun z=>by rw[z,zb] at hd;cases hd
  rw[zl d1] at hd;have d2:d≠q:=fun z=>by rw[z,zb] at hd;cases hd
  rw[zl d2] at hd;exact k q r d ne nre (fun z=>by rw[z,he] at hd;cases hd) hq hr hd nr d2 d1
inductive sp_bare' (vs:List V) (H:Hp) (Q:VK):Prop
 | mk (pb:ty1q) (ob:Obj) (keys:List Str) (v:Str->IS) (ab:Str->ty1q) (fz:Bool) (_:vs = [.ref pb]) (_:Bd H pb ob keys v ab) (_:keys.Nodup) (_:keys.length<=63) (_:∀(pd:ty1q) (o:Obj) (ad:Str->ty1q) (H':Hp),Same H H'->H pd=none->H' pd=some (cdO fz o keys ad)->(∀k∈keys,ChAt H H' (ad k) ((v k).1,(v k).2,[]))->Q (.ref pd) H')
def zuu:Sp:=fun vs H Q _=>sp_bare' vs H Q
theorem zcc (T:Tx K mg w zk zo zg zm):Has P w K mg base "bare_chains" ["bounds"] 1 zuu:=by
 refine T.zg6.has sc_bare_chains (fun vs H Q E h=>?_) (fun f cdv A outer s H vs Q E hr h=>?_)
 ·obtain⟨pb,ob,keys,v,ab,fz,rfl,_⟩:=h;rfl
 ·obtain⟨pb,ob,keys,v,ab,fz,rfl,hB,knd,lk,k⟩:=h;have hu:=zbp hr;refine⟨_,(zc (sset (i:=1) sc_bare_chains.nd za7)
   (zc (zac al21q rfl (zbx (pv 0)) (gnm (i:=2) sc_bare_chains.nd) (zf (za8 hu (pv 1) (pv 2) (zah (zqq K rfl) (zp hu (pv 0) (pv 2) (fun _ _=>rfl)) (zao (za (zad zd) zd))) rfl)))
   (zf (zeb (zy (pv 1)))))),?_⟩
  try dsimp only [zn]
  refine fun pd hpd=>?_
  have s1:=Same.new (o:=.dK []) hpd;refine⟨_,rfl,pb,ob,_,rfl,s1 _ _ hB.d,zb9 (fun i σ H'=>∃(v2:Option V) (ad:Str->ty1q),σ = [some (.ref pb),some (.ref pd),v2]/\Same H H'/\H' pd=some (.dK (dV (keys.take i) fun k=>.ref (ad k)))/\∀k∈keys.take i,ChAt H H' (ad k) ((v k).1,(v k).2,[]))
   ⟨none,fun _=>0,rfl,s1,zb,fun k hk=>by simp at hk⟩ (fun i σ H' _ h=>by obtain⟨_,_,_,q,_⟩:=h;exact q _ _ hB.d) ?_ ?_⟩
  ·rintro i kk vv σ H3 hx ⟨v2,ad,rfl,q3,hd3,hk3⟩;obtain⟨u,hu',rfl,_⟩:=zjk hx;have huk:u∈keys:=al6q hu';have B3:=hB.same q3
   try dsimp only [zn]
   refine⟨_,rfl,_,rfl,pb,_,rfl,zav B3.d huk,by show 0<=sizeLine;decide,fun l0 hl0=>?_⟩;have t1:=Same.new (o:=.lst []) hl0;refine⟨by show 1<=sizeLine;decide,fun b0 hb0=>?_⟩;have t2:=Same.new (o:=.tup [.ref l0]) hb0;refine⟨ab u,b0,_,_,rfl,rfl,SqT.of (t2 _ _ (t1 _ _ (B3.e u huk))),SqT.of zb,by simp,by show 3<=sizeLine;decide,fun z=>by simp at z,fun _ p hp=>?_⟩;have t3:=Same.new (o:=.tup [.int (v u).1,.str (v u).2,.ref l0]) hp;have e36:=t1.trans (t2.trans t3);have hd6:=e36 _ _ hd3;have hfr:u ∉ keys.take i:=by
    have hi:=zag hu';have:=zay knd i hi;rw[show keys[i]=u from (al8q.mp hu').2] at this;exact this
   have hc:ChAt H (upd (upd (upd H3 l0 (.lst [])) b0 (.tup [.ref l0])) p (.tup [.int (v u).1,.str (v u).2,.ref l0])) p ((v u).1,(v u).2,[]):=⟨l0,zb,t3 _ _ (t2 _ _ zb),q3.free hl0⟩;refine⟨_,rfl,_,rfl,pd,_,rfl,DPut.k (k:=Sum.inr u) hd6 (by rw[zas,al25q];exact zq (by lia)),?_⟩;refine⟨_,fun z=>if z=u then p else ad z,rfl,(q3.trans e36).upd hpd,?_,fun k hk=>?_⟩
   ·rw[zb,zdj hfr,al9q,hu']
    congr 2
    refine zbd fun z hz=>?_
    try dsimp only
    by_cases e:z=u
    ·rw[al11q e,al11q e]
    ·rw[al7q e,al7q e]
   ·rw[al9q,hu',al28q] at hk
    try dsimp only
    by_cases e:k=u
    ·rw[al11q e,e];exact hc.put hd6
    ·rw[al7q e];exact ((hk3 k (hk.elim id fun z=>absurd (by simpa using z) e)).same e36).put hd6
  ·rintro σ H3 ⟨v2,ad,rfl,q3,hd3,hk3⟩;rw[zas,al23q] at hd3 hk3;cases fz with
   | false=>exact .inl ⟨_,rfl,k pd ob ad _ q3 hpd hd3 hk3⟩
   | true=>exact .inr ⟨pd,_,hd3,fun ob'=>⟨_,rfl,k pd ob' ad _ (q3.upd hpd) hpd zb fun k hk=>(hk3 k hk).put hd3⟩⟩
inductive sp_ledup' (vs:List V) (H:Hp) (Q:VK):Prop
 | mk (a r:ty1q) (c:Chn) (t:Tie) (us:List Str) (_:vs = [.ref a,.ref r]) (_:ChAt (fun _=>none) H a c) (_:H r=some (.tup (tieV t))) (_:TOk us t) (_:c.2.2.length<=900) (_:∀(q:ty1q) (H':Hp),Same H H'->H q=none->ChAt H H' q (c.1+zx t,c.2.1,c.2.2++[(t,r)])->Q (.ref q) H')
def zrx:Sp:=fun vs H Q _=>sp_ledup' vs H Q
theorem zlk (T:Tx K mg w zk zo zg zm):Has P w K mg base "led_up" ["chain","tie"] 2 zrx:=by
 refine T.zr7.has zpq (fun vs H Q E h=>?_) (fun f cdv A outer s H vs Q E hr h=>?_)
 ·obtain⟨a,r,c,t,us,rfl,_⟩:=h;rfl
 ·obtain⟨a,r,c,t,us,rfl,⟨l,ha,hl,_⟩,hr',tok,lc,k⟩:=h;refine⟨_,(zf (zy (zao (za (zah zbb (pix (zh K rfl) (pv 0) ze) (pfn (zli T) (za (pv 1) zd))) (za (pix (zh K rfl) (pv 0) ze) (za (zah zfx (pix (zh K rfl) (pv 0) ze) (zad (za (pv 1) zd))) zd)))))),?_⟩;refine⟨_,rfl,a,_,_,_,rfl,rfl,SqT.of ha,rfl,_,rfl,r,t,us,rfl,hr',tok,fun H1 s1=>?_⟩;refine⟨_,_,rfl,rfl,_,rfl,a,_,_,_,rfl,rfl,SqT.of (s1 _ _ ha),rfl,_,rfl,a,_,_,_,rfl,rfl,SqT.of (s1 _ _ ha),rfl,_,rfl,by show 1<=sizeLine;decide,fun l1 hl1=>?_⟩;have t1:=Same.new (o:=.lst [.ref r]) hl1;refine⟨l,l1,_,_,rfl,rfl,t1 _ _ (s1 _ _ hl),zb,by rw[al1q];exact zau (show _+1<=1000 by lia),fun l2 hl2=>?_⟩;have t2:=Same.new (o:=.lst (c.2.2.map (fun p=>V.ref p.2)++[.ref r])) hl2;refine⟨by show 3<=sizeLine;decide,fun b hb=>?_⟩;have t3:=Same.new (o:=.tup [.int (c.1+zx t),.str c.2.1,.ref l2]) hb;refine k b _ (s1.trans (t1.trans (t2.trans t3))) ((s1.trans (t1.trans t2)).free hb) ⟨l2,zb,?_,(s1.trans t1).free hl2⟩;rw[t3 _ _ zb,al16q];rfl
inductive sp_leddown' (vs:List V) (H:Hp) (Q:VK):Prop
 | mk (a r:ty1q) (c:Chn) (t:Tie) (us:List Str) (_:vs = [.ref a,.ref r]) (_:ChAt (fun _=>none) H a c) (_:H r=some (.tup (tieV t))) (_:TOk us t) (_:c.2.2.length<=900) (_:∀(q:ty1q) (H':Hp),Same H H'->H q=none->ChAt H H' q (c.1-zx t,c.2.1,(t,r)::c.2.2)->Q (.ref q) H')
def zmk:Sp:=fun vs H Q _=>sp_leddown' vs H Q
theorem zml (T:Tx K mg w zk zo zg zm):Has P w K mg base "led_down" ["chain","tie"] 2 zmk:=by
 refine T.zmp.has zj1 (fun vs H Q E h=>?_) (fun f cdv A outer s H vs Q E hr h=>?_)
 ·obtain⟨a,r,c,t,us,rfl,_⟩:=h;rfl
 ·obtain⟨a,r,c,t,us,rfl,⟨l,ha,hl,_⟩,hr',tok,lc,k⟩:=h;refine⟨_,(zf (zy (zao (za (zah zki (pix (zh K rfl) (pv 0) ze) (pfn (zli T) (za (pv 1) zd))) (za (pix (zh K rfl) (pv 0) ze) (za (zah zfx (zad (za (pv 1) zd)) (pix (zh K rfl) (pv 0) ze)) zd)))))),?_⟩;refine⟨_,rfl,a,_,_,_,rfl,rfl,SqT.of ha,rfl,_,rfl,r,t,us,rfl,hr',tok,fun H1 s1=>?_⟩;refine⟨_,_,rfl,rfl,_,rfl,a,_,_,_,rfl,rfl,SqT.of (s1 _ _ ha),rfl,_,rfl,by show 1<=sizeLine;decide,fun l1 hl1=>?_⟩;have t1:=Same.new (o:=.lst [.ref r]) hl1;refine⟨_,rfl,a,_,_,_,rfl,rfl,SqT.of (t1 _ _ (s1 _ _ ha)),rfl,?_⟩;refine⟨l1,l,_,_,rfl,rfl,zb,t1 _ _ (s1 _ _ hl),by rw[al1q];exact zau (show 1+_<=1000 by lia),fun l2 hl2=>?_⟩;have t2:=Same.new (o:=.lst ([V.ref r]++c.2.2.map (fun p=>V.ref p.2))) hl2;refine⟨by show 3<=sizeLine;decide,fun b hb=>?_⟩;have t3:=Same.new (o:=.tup [.int (c.1-zx t),.str c.2.1,.ref l2]) hb;refine k b _ (s1.trans (t1.trans (t2.trans t3))) ((s1.trans (t1.trans t2)).free hb) ⟨l2,zb,?_,(s1.trans t1).free hl2⟩;rw[t3 _ _ zb];rfl
inductive sp_longer' (vs:List V) (H:Hp) (Q:VK):Prop
 | mk (pb pc:ty1q) (ob oc:Obj) (keys:List Str) (R:Rw) (adb:Str->ty1q) (bs:Str->List ty1q) (M:List Str) (v:Str->Chn) (adc:Str->ty1q) (_:vs = [.ref pb,.ref pc]) (_:Bn H pb ob keys (lnR R) adb bs) (_:H pc=some (.frz oc (.dK (dV M fun k=>.ref (adc k))))) (_:(∀k∈M,ChAt (fun _=>none) H (adc k) (v k))) (_:(∀k l b,(l,b)∈R k->H b.2=some (.tup (tieV b.1))/\∃us,TOk us b.1)) (_:keys.Nodup) (_:keys.length<=63) (_:(∀k,(R k).length<=900)) (_:(∀k∈M,(v k).2.2.length<=900)) (_:∀(pd:ty1q) (o:Obj) (M':List Str) (v':Str->Chn) (ad:Str->ty1q) (H':Hp),Same H H'->H pd=none->H' pd=some (.frz o (.dK (dV M' fun k=>.ref (ad k))))->(∀k∈M',ChAt H H' (ad k) (v' k))->M'.Nodup->(∀k∈M',k∈keys)->(∀k∈keys,Grw R M v k (R k) (k∈M') (v' k))->Q (.ref pd) H')
def zp2:Sp:=fun vs H Q _=>sp_longer' vs H Q
theorem zeg (T:Tx K mg w zk zo zg zm):Has P w K mg base "one_tie_longer" ["beneath","chains"] 3 zp2:=by
 refine T.zek.has sc_one_tie_longer (fun vs H Q E h=>?_) (fun f cdv A outer s H vs Q E hr h=>?_)
 ·obtain⟨pb,pc,ob,oc,keys,R,adb,bs,M,v,adc,rfl,_⟩:=h;rfl
 ·obtain⟨pb,pc,ob,oc,keys,R,adb,bs,M,v,adc,rfl,hB,hC,hM,hR,knd,lk,lR,lM,k⟩:=h;have hu:=zbp hr;refine⟨_,(zc (sset (i:=2) sc_one_tie_longer.nd za7)
   (zc (zac al21q rfl (zbx (pv 0)) (gnm (i:=3) sc_one_tie_longer.nd) (zf (zac al21q rfl (zr K rfl (zp hu (pv 0) (pv 3) (fun _ _=>rfl))) (zdx K rfl rfl (za6 (gnm (i:=4) sc_one_tie_longer.nd) (za6 (gnm (i:=5) sc_one_tie_longer.nd) zdt))) (zf (zaz (zfu (zsd hu (pv 4) (pv 1))) (zc (sset (i:=6) sc_one_tie_longer.nd (pfn (zlk T) (za (zp hu (pv 1) (pv 4) (fun _ _=>rfl)) (za (pv 5) zd))))
      (zf (zaz (PW.pt (zs8 (zfu (zes hu (pv 3) (pv 2))) (zmx (zw zqg (pix (zh K rfl) (pv 6) ze) (pix (zh K rfl) (zp hu (pv 2) (pv 3) (fun _ _=>rfl)) ze) (zae _))))) (zf (za8 hu (pv 2) (pv 3) (pv 6) rfl)) zz))) zz)))))
   (zf (zeb (zy (pv 2)))))),?_⟩
  try dsimp only [zn]
  refine fun pd hpd=>?_
  have s1:=Same.new (o:=.dK []) hpd;refine⟨_,rfl,pb,ob,_,rfl,s1 _ _ hB.d,zb9 (fun i σ H'=>∃(v3 v4 v5 v6:Option V) (M':List Str) (v':Str->Chn) (ad:Str->ty1q),σ = [some (.ref pb),some (.ref pc),some (.ref pd),v3,v4,v5,v6]/\Same H H'/\H' pd=some (.dK (dV M' fun k=>.ref (ad k)))/\(∀k∈M',ChAt H H' (ad k) (v' k))/\M'.Nodup/\(∀k∈M',k∈keys.take i)/\∀k∈keys.take i,Grw R M v k (R k) (k∈M') (v' k))
   ⟨none,none,none,none,[],fun _=>(0,"",[]),fun _=>0,rfl,s1,zb,fun k hk=>by simp at hk,List.nodup_nil,fun k hk=>by simp at hk,fun k hk=>by simp at hk⟩ (fun i σ H' _ h=>by obtain⟨_,_,_,_,_,_,_,_,q,_⟩:=h;exact q _ _ hB.d) ?_ ?_⟩
  ·rintro i kk vv σ H3 hx ⟨v3,v4,v5,v6,M',v',ad,rfl,q3,hd3,hk3,nd3,sb3,gr3⟩;obtain⟨u,hu',rfl,_⟩:=zjk hx;have huk:u∈keys:=al6q hu';have B3:=hB.same q3;have lbs:(bs u).length=(R u).length:=(Paired.length (hB.e u huk)).trans zjq;have hfr:u ∉ keys.take i:=by
    have hi:=zag hu';have:=zay knd i hi;rw[show keys[i]=u from (al8q.mp hu').2] at this;exact this
   have tk:keys.take (i+1)=keys.take i++[u]:=by rw[al9q,hu'];rfl
   try dsimp only [zn]
   refine⟨_,rfl,_,rfl,pb,_,rfl,B3.get huk,adb u,rfl,⟨_,SqL.of (B3.l u huk)⟩,zaa (xs:=(bs u).map V.ref) (fun j σ H'=>∃(v4 v5 v6:Option V) (M':List Str) (v':Str->Chn) (ad:Str->ty1q),σ = [some (.ref pb),some (.ref pc),some (.ref pd),some (.str u),v4,v5,v6]/\Same H H'/\H' pd=some (.dK (dV M' fun k=>.ref (ad k)))/\(∀k∈M',ChAt H H' (ad k) (v' k))/\M'.Nodup/\(∀k∈M',k∈keys.take i++[u])/\
     (∀k∈keys.take i,Grw R M v k (R k) (k∈M') (v' k))/\Grw R M v u ((R u).take j) (u∈M') (v' u))
    ⟨v4,v5,v6,M',v',ad,rfl,q3,hd3,hk3,nd3,fun k hk=>al55q _ (sb3 k hk),gr3,Grw.nil fun z=>hfr (sb3 u z)⟩ (fun j σ H' _ h=>by obtain⟨_,_,_,_,_,_,_,q,_⟩:=h;exact SqL.of ((hB.same q).l u huk)) ?_ ?_⟩
   ·clear hk3 nd3 sb3 gr3 hd3 q3 B3;rintro j x σ H4 hx ⟨v4,v5,v6,M',v',ad,rfl,q4,hd4,hk4,nd4,sb4,gr4,gu4⟩;have B4:=hB.same q4;obtain⟨b,⟨l,r⟩,rfl,hlr,_,hb⟩:=zbv (B4.e u huk) hx;obtain⟨t,ht⟩:=zox hlr;have htm:(l,(t,r))∈R u:=al6q ht;obtain⟨htr,us,tok⟩:=hR u l (t,r) htm;have rt:(R u).take (j+1)=(R u).take j++[(l,(t,r))]:=by rw[al9q,ht];rfl
    have hC4:=q4 _ _ hC;refine⟨b,_,rfl,SqT.of hb,rfl,_,_,rfl,_,_,rfl,rfl,?_⟩
    try dsimp only [zn]
    refine zcx (decide (l∈M)) (fun Q' hQ=>?_) ?_
    ·by_cases c:l∈M
     ·refine⟨_,rfl,_,rfl,pc,_,rfl,zav hC4 c,?_⟩;rw[al15q c] at hQ;exact⟨_,rfl,hQ⟩
     ·refine⟨_,rfl,_,rfl,pc,none,rfl,zrb hC4 c,?_⟩;rw[al22q c] at hQ;exact⟨_,rfl,hQ⟩
    refine ite2 (fun c=>?_) (fun c=>?_)
    ·have c:=al17q c;refine⟨_,rfl,_,rfl,pc,_,rfl,zav hC4 c,_,rfl,adc l,r,v l,t,us,rfl,(hM l c).same q4,q4 _ _ htr,tok,lM l c,fun q H5 s5 fq hq=>?_⟩;have q5:=q4.trans s5;have hd5:=s5 _ _ hd4;have hq5:ChAt H H5 q ((v l).1+zx t,(v l).2.1,(v l).2.2++[(t,r)]):=hq.old q4;have hk5:∀k∈M',ChAt H H5 (ad k) (v' k):=fun k hk=>(hk4 k hk).same s5
     try dsimp only [zn]
     refine zcx (decide (u ∉ M'\/(v' u).1<(v l).1+zx t)) (fun Q' hQ=>?_) ?_
     ·by_cases c2:u∈M'
      ·have g:=DGet.k (k:=Sum.inr u) hd5;rw[zba c2] at g;obtain⟨lq,h1,_⟩:=hq5;obtain⟨lu,h2,_⟩:=hk5 u c2;refine⟨_,rfl,_,rfl,pd,_,rfl,g,_,rfl,iteF ⟨_,rfl,q,_,_,_,rfl,rfl,SqT.of h1,rfl,_,rfl,_,rfl,pd,_,rfl,g,ad u,_,_,_,rfl,rfl,SqT.of h2,rfl,_,_,rfl,rfl,_,rfl,?_⟩⟩;rw[show decide (u ∉ M'\/(v' u).1<(v l).1+zx t)=decide ((v l).1+zx t > (v' u).1) from al84q.mpr ⟨fun z=>z.elim (fun z=>absurd c2 z) id,fun z=>.inr z⟩] at hQ;exact hQ
      ·have g:=DGet.k (k:=Sum.inr u) hd5;rw[zd0 c2] at g;refine⟨_,rfl,_,rfl,pd,_,rfl,g,_,rfl,iteT ?_⟩;rw[al15q (Or.inl c2)] at hQ;exact hQ
     refine ite2 (fun c2=>?_) (fun c2=>?_)
     ·have c2:=al17q c2;have lM':M'.length<=63:=by
       have:=zbn (us:=keys) nd4 fun k hk=>by
        rcases al28q.mp (sb4 k hk) with z | z
        ·exact al131q z
        ·rw[show k=u by simpa using z];exact huk
       lia
      refine⟨_,rfl,_,rfl,_,rfl,pd,_,rfl,DPut.k (k:=Sum.inr u) hd5 (by rw[zas];exact zq (by lia)),?_⟩;have adq:∀k,k≠u->(if k=u then q else ad k)=ad k:=fun k n=>al7q n
      have ek:∀(L:List Str),(dV L fun z=>if z=u then V.ref q else V.ref (ad z))=dV L fun k=>V.ref (if k=u then q else ad k):=fun L=>zbd fun z _=>by split<;>rfl
      have hk6:∀(kv:List (Key×V)),∀k,(k=u\/k∈M')->ChAt H (upd H5 pd (.dK kv)) (if k=u then q else ad k) (if k=u then ((v l).1+zx t,(v l).2.1,(v l).2.2++[(t,r)]) else v' k):=fun kv k hk=>by
       by_cases e:k=u
       ·rw[al11q e,al11q e];exact hq5.put hd5
       ·rw[al7q e,al7q e];exact (hk5 k (hk.resolve_left e)).put hd5
      have gu5:∀(hs:Prop),hs->Grw R M v u ((R u).take (j+1)) hs (if u=u then ((v l).1+zx t,(v l).2.1,(v l).2.2++[(t,r)]) else v' u):=fun hs hh=>by
       rw[al11q rfl,rt];exact gu4.take c hh (fun z=>c2.elim (fun y=>absurd z y) id) rfl
      by_cases c3:u∈M'
      ·rw[zn6 c3,ek];refine⟨_,_,_,M',fun k=>if k=u then ((v l).1+zx t,(v l).2.1,(v l).2.2++[(t,r)]) else v' k,fun k=>if k=u then q else ad k,rfl,q5.upd hpd,zb,fun k hk=>hk6 _ k (.inr hk),nd4,sb4,fun k hk=>?_,gu5 _ c3⟩;exact (gr4 k hk).congr Iff.rfl (by dsimp only;rw[al7q (fun z=>hfr (z▸hk):¬k=u)])
      ·rw[zdj c3,ek];refine⟨_,_,_,M'++[u],fun k=>if k=u then ((v l).1+zx t,(v l).2.1,(v l).2.2++[(t,r)]) else v' k,fun k=>if k=u then q else ad k,rfl,q5.upd hpd,zb,fun k hk=>hk6 _ k ?_,?_,fun k hk=>?_,fun k hk=>?_,gu5 _ (by simp)⟩
       ·rcases zaq hk with z | z
        ·exact .inr z
        ·exact .inl z
       ·rw[al108q];refine⟨nd4,by simp,fun a ha b hb e=>?_⟩;have hb:b=u:=by simpa using hb
        exact c3 (hb▸e▸ha)
       ·rcases zaq hk with z | z
        ·exact sb4 k z
        ·rw[z];simp
       ·have ne:k≠u:=fun z=>hfr (z▸hk)
        refine (gr4 k hk).congr ⟨fun z=>al55q _ z,fun z=>?_⟩ (by dsimp only;rw[al7q ne]);rcases zaq z with z | z
        ·exact z
        ·exact absurd z ne
     ·have c2:¬(u ∉ M'\/(v' u).1<(v l).1+zx t):=fun z=>c2 (al15q z)
      have c3:u∈M':=al33q fun z=>c2 (.inl z)
      refine⟨_,_,_,M',v',ad,rfl,q5,hd5,hk5,nd4,sb4,gr4,?_⟩;rw[rt];exact gu4.stay c3 (by have:¬((v' u).1<(v l).1+zx t):=fun z=>c2 (.inr z);show (v l).1+zx t<=_;lia)
    ·have c:l ∉ M:=fun z=>c (al15q z)
     refine⟨_,_,_,M',v',ad,rfl,q4,hd4,hk4,nd4,sb4,gr4,?_⟩;rw[rt];exact gu4.skip c
   ·rintro σ H4 ⟨v4,v5,v6,M',v',ad,rfl,q4,hd4,hk4,nd4,sb4,gr4,gu4⟩;rw[al1q,lbs,al23q] at gu4;refine⟨_,_,_,_,M',v',ad,rfl,q4,hd4,hk4,nd4,by rw[tk];exact sb4,fun k hk=>?_⟩;rw[tk] at hk;rcases zaq hk with z | z
    ·exact gr4 k z
    ·rw[z];exact gu4
  ·rintro σ H3 ⟨v3,v4,v5,v6,M',v',ad,rfl,q3,hd3,hk3,nd3,sb3,gr3⟩;rw[zas,al23q] at sb3 gr3;exact .inr ⟨pd,_,hd3,fun ob'=>⟨_,rfl,k pd ob' M' v' ad _ (q3.upd hpd) hpd zb (fun k hk=>(hk3 k hk).put hd3) nd3 sb3 gr3⟩⟩
inductive sp_improw' (vs:List V) (H:Hp) (Q:VK):Prop
 | mk (p pm pu pt pf:ty1q) (lo hi:Int) (us:List Str) (ads:List ty1q) (ts:List Tie) (af:List ty1q) (fs:List Fnd) (_:vs = [.ref p]) (_:TelF K H p pm pu pt pf lo hi us ads ts af fs) (_:NoR (za1 ts (ts.zip ads)) (keysOf ts (srt us))) (_:(∀H',Same H H'->zc0 lo hi us ads ts af fs->Q .non H')) (_:∀(q:ty1q) (c:Chn) (w:Str) (H':Hp),Same H H'->zub H' q c w->zgg lo hi us ads ts af fs c w->Q (.ref q) H')
def zp3:Sp:=fun vs H Q _=>sp_improw' (K:=K) vs H Q
theorem zeh (T:Tx K mg w zk zo zg zm):Has P w K mg base "impossible_row" ["telling"] 6 (zp3 (K:=K)):=by
 refine T.zel.has sc_impossible_row (fun vs H Q E h=>?_) (fun f cdv A outer s H vs Q E hr h=>?_)
 ·obtain⟨p,pm,pu,pt,pf,lo,hi,us,ads,ts,af,fs,rfl,_⟩:=h;rfl
 ·obtain⟨p,pm,pu,pt,pf,lo,hi,us,ads,ts,af,fs,rfl,hF,nr,kN,kR⟩:=h;have hu:=zbp hr;refine⟨_,(zc (sset (i:=1) sc_impossible_row.nd (pfn (za5 T) (za (pv 0) zd)))
   (zc (sset (i:=2) sc_impossible_row.nd (pfn (zgl T) (za (pv 0) zd)))
   (zc (sset (i:=3) sc_impossible_row.nd (pfn (zcc T) (za (pfn (zlj T) (za (pv 0) zd)) zd)))
   (zc (zgm al21q (zw (zuk (hu10 hr)) (pv 3) za7 (zae _)) (zc (zac al21q rfl (zbx (pv 3)) (gnm (i:=4) sc_impossible_row.nd) (zf (zaz (zw zqg (pix (zh K rfl) (zp hu (pv 3) (pv 4) (fun _ _=>rfl)) ze) (pix (zh K rfl) (zp hu (pv 2) (pv 4) (fun _ _=>rfl)) ze) (zae _)) (zf (zy (zao (za (pix (zh K rfl) (zp hu (pv 3) (pv 4) (fun _ _=>rfl)) ze) (za (pix (zh K rfl) (zp hu (pv 3) (pv 4) (fun _ _=>rfl)) ze) (za (pix (zh K rfl) (zp hu (pv 2) (pv 4) (fun _ _=>rfl)) ze) zd)))))) zz)))
    (zf (sset (i:=3) sc_impossible_row.nd (pfn (zeg T) (za (pv 1) (za (pv 3) zd)))))))
   (zf (zy zha)))))),?_⟩
  have knd:=zaj (ts:=ts) hF.tel.nd;have lk:=hF.tel.klen;have lf:=hF.flen;have cl:=ze4 (ads:=ads) hF.tel.ends;have lR:∀k,(rwOf ts (ts.zip ads) k).length<=900:=fun k=>by
   have h1:=zwa (ts:=ts) (z:=ts.zip ads) (k:=k);have h2:=hF.tel.tl;rw[al90q] at h1;lia
  have hR:∀k l b,(l,b)∈rwOf ts (ts.zip ads) k->H b.2=some (.tup (tieV b.1))/\TOk us b.1:=fun k l b h=>zow hF.tel h
  have uF:∀k m m',FlF ts lo (fs.zip af) k m->FlF ts lo (fs.zip af) k m'->m.1=m'.1:=fun k m m' h h'=>by rw[h.low lf,h'.low lf]
  have uG:∀k m m',CeF ts hi (fs.zip af) k m->CeF ts hi (fs.zip af) k m'->m.1=m'.1:=fun k m m' h h'=>by rw[h.high lf,h'.high lf]
  rw[zbm] at nr;refine⟨_,rfl,p,pu,pt,_,_,us,ads,ts,rfl,hF.tel,fun pb ob adb bs H1 s1 fpb hB=>?_⟩;rw[zbm] at hB
  try dsimp only [zn]
  refine⟨_,rfl,p,pm,pu,pt,pf,lo,hi,us,ads,ts,af,fs,rfl,hF.same s1,fun pe oe ve ae H2 s2 fpe hE hEm=>?_⟩
  try dsimp only [zn]
  refine⟨_,rfl,p,pm,pu,pt,pf,lo,hi,us,ads,ts,af,fs,rfl,hF.same (s1.trans s2),fun pl ol vl al H3 s3 fpl hL hLm=>?_⟩;refine⟨pl,ol,_,vl,al,true,rfl,hL,knd,lk,fun pc oc adc H4 s4 fpc hC hCh=>?_⟩;have hC:H4 pc=some (.frz oc (.dK (dV (keysOf ts (srt us)) fun k=>.ref (adc k)))):=hC;have s24:=s3.trans s4;have s14:=s2.trans s24;have s04:=s1.trans s14;have hEm:∀k∈keysOf ts (srt us),CeF ts hi (fs.zip af) k (ve k):=hEm;have hLm:∀k∈keysOf ts (srt us),FlF ts lo (fs.zip af) k (vl k):=hLm;unfold zc0 at kN;unfold zgg at kR;generalize keysOf ts (srt us)=keys at *;generalize rwOf ts (ts.zip ads)=R at *;generalize FlF ts lo (fs.zip af)=F at *;generalize CeF ts hi (fs.zip af)=G at *;have R0:Rung R F keys 0 keys (fun k=>((vl k).1,(vl k).2,[])):=Rung.zero knd (fun k hk=>⟨rfl,hLm k hk⟩) uF
  try dsimp only [zn]
  refine⟨fun m σ H'=>∃(n:Nat) (pc:ty1q) (oc:Obj) (M:List Str) (v:Str->Chn) (adc:Str->ty1q) (v4:Option V),σ = [some (.ref p),some (.ref pb),some (.ref pe),some (.ref pc),v4]/\Same H4 H'/\H' pc=some (.frz oc (.dK (dV M fun k=>.ref (adc k))))/\(∀k∈M,ChAt (fun _=>none) H' (adc k) (v k))/\Rung R F keys n M v/\
    (∀k∈keys,∀c m,Up R F k c->G k m->c.2.2.length<n->c.1<=m.1)/\m=keys.length-n,
   ⟨_,0,pc,oc,keys,_,adc,none,rfl,Same.refl _,hC,fun k hk=>(hCh k hk).any,R0,fun k hk c m _ _ z=>absurd z (Nat.not_lt_zero _),rfl⟩,?_⟩
  rintro m σ H5 ⟨n,pc,oc,M,v,adc,v4,rfl,q5,hC5,hM5,Rn,sm,rfl⟩;refine⟨_,rfl,fun e he=>?_⟩;have t6:=Same.new (o:=.dK []) he;have q6:=q5.trans t6;have hC6:=t6 _ _ hC5;refine⟨pc,e,_,rfl,rfl,.inr ⟨oc,hC6⟩,zb,_,rfl,?_⟩;have hM6:∀k∈M,ChAt (fun _=>none) (upd H5 e (.dK [])) (adc k) (v k):=fun k hk=>(hM5 k hk).same t6
  clear hC5 hM5;generalize upd H5 e (.dK [])=H6 at q6 hC6 hM6 t6;refine ite2 (fun c=>?_) (fun c=>?_)
  ·have ne:M≠[]:=fun z=>by rw[z] at c;simp[dV] at c
   obtain⟨k0,hk0⟩:=List.exists_mem_of_ne_nil _ ne;have hn:n<keys.length:=by
    have:=(Rn.is k0 hk0).1.short cl nr (Rn.sub k0 hk0);rw[(Rn.is k0 hk0).2] at this;exact this
   refine⟨fun σ' H'=>∃m',m'<keys.length-n/\_,fun σ' H' h=>h,?_⟩;refine⟨_,rfl,pc,oc,_,rfl,hC6,zb9 (fun i σ H'=>∃(v4:Option V),σ = [some (.ref p),some (.ref pb),some (.ref pe),some (.ref pc),v4]/\Same H6 H'/\∀k∈M.take i,(v k).1<=(ve k).1)
    ⟨_,rfl,Same.refl _,fun k hk=>by simp at hk⟩ (fun i σ H' _ h=>by obtain⟨_,_,q,_⟩:=h;exact q _ _ hC6) ?_ ?_⟩
   ·rintro i kk vv σ H7 hx ⟨v4,rfl,q7,le7⟩;obtain⟨u,hu',rfl,_⟩:=zjk hx;have huM:u∈M:=al6q hu';have huk:u∈keys:=Rn.sub u huM;have E7:=hE.same (s3.trans (s4.trans (q6.trans q7)));obtain⟨l,h1,h2,_⟩:=(hM6 u huM).same q7;have hC7:=q7 _ _ hC6
    try dsimp only [zn]
    refine⟨_,rfl,_,rfl,pc,_,rfl,zav hC7 huM,adc u,_,_,_,rfl,rfl,SqT.of h1,rfl,_,rfl,_,rfl,pe,_,rfl,zav E7.d huk,ae u,_,_,_,rfl,rfl,SqT.of (E7.e u huk),rfl,_,_,rfl,rfl,_,rfl,?_⟩;refine ite2 (fun c2=>?_) (fun c2=>?_)
    ·have c2:(ve u).1<(v u).1:=al17q c2;refine⟨_,rfl,_,rfl,pc,_,rfl,zav hC7 huM,adc u,_,_,_,rfl,rfl,SqT.of h1,rfl,_,rfl,_,rfl,pc,_,rfl,zav hC7 huM,adc u,_,_,_,rfl,rfl,SqT.of h1,rfl,_,rfl,_,rfl,pe,_,rfl,zav E7.d huk,ae u,_,_,_,rfl,rfl,SqT.of (E7.e u huk),rfl,by show 3<=sizeLine;decide,fun q hq=>?_⟩;have t8:=Same.new (o:=.tup [.str (v u).2.1,.ref l,.str (ve u).2]) hq;refine kR q (v u) (ve u).2 _ (s04.trans (q6.trans (q7.trans t8))) ⟨l,zb,t8 _ _ h2⟩ ⟨u,ve u,huk,(Rn.is u huM).1,hEm u huk,rfl,c2,fun k' hk' c' m' u' g' lt=>sm k' hk' c' m' u' g' ?_⟩;rw[(Rn.is u huM).2] at lt;exact lt
    ·have c2:¬((v u).1 > (ve u).1):=fun z=>c2 (al15q z)
     refine⟨_,rfl,q7,fun k hk=>?_⟩;rw[al9q,hu'] at hk;rcases zaq hk with z | z
     ·exact le7 k z
     ·rw[z];lia
   ·rintro σ H7 ⟨v4,rfl,q7,le7⟩;rw[zas,al23q] at le7;have q47:=q6.trans q7;have B7:=hB.same (s14.trans q47);have hC7:=q7 _ _ hC6;refine⟨_,rfl,_,rfl,pb,pc,ob,oc,keys,R,adb,bs,M,v,adc,rfl,B7,hC7,fun k hk=>(hM6 k hk).same q7,fun k l b h=>⟨q47 _ _ (s04 _ _ (hR k l b h).1),us,(hR k l b h).2⟩,knd,lk,lR,fun k hk=>by
     have:=(Rn.is k hk).1.short cl nr (Rn.sub k hk);lia,fun pd o M' v' ad H8 s8 fpd hd8 hk8 nd8 sb8 gr8=>?_⟩
    refine⟨keys.length-(n+1),by lia,n+1,pd,o,M',v',ad,_,rfl,q47.trans s8,hd8,fun k hk=>(hk8 k hk).any,Rn.next cl nd8 sb8 gr8,fun k hk c m u g lt=>?_,rfl⟩
    by_cases e:c.2.2.length=n
    ·obtain⟨h1,h2⟩:=Rn.all k hk c u e;have h3:=le7 k h1;rw[uG k m (ve k) g (hEm k hk)];lia
    ·exact sm k hk c m u g (by lia)
  ·have e:M = []:=by
    cases M with
    | nil=>rfl
    | cons a b=>simp[dV] at c
   subst e;have st:=Rn.stop cl;exact kN _ (s04.trans q6) fun k hk c m u g=>sm k hk c m u g (st k hk c u)
inductive sp_cup' (vs:List V) (H:Hp) (Q:VK):Prop
 | mk (p pm pu pt pf:ty1q) (lo hi:Int) (us:List Str) (ads:List ty1q) (ts:List Tie) (af:List ty1q) (fs:List Fnd) (_:vs = [.ref p]) (_:TelF K H p pm pu pt pf lo hi us ads ts af fs) (_:NoR (za1 ts (ts.zip ads)) (keysOf ts (srt us))) (_:∀(pd:ty1q) (o:Obj) (v:Str->Chn) (ad:Str->ty1q) (H':Hp),Same H H'->H pd=none->H' pd=some (.frz o (.dK (dV (keysOf ts (srt us)) fun k=>.ref (ad k))))->(∀k∈keysOf ts (srt us),ChAt H H' (ad k) (v k))->(∀k∈keysOf ts (srt us),Up (rwOf ts (ts.zip ads)) (FlF ts lo (fs.zip af)) k (v k)/\LoIs (rwOf ts (ts.zip ads)) (FlF ts lo (fs.zip af)) k (v k).1)->Q (.ref pd) H')
def zwr:Sp:=fun vs H Q _=>sp_cup' (K:=K) vs H Q
theorem zda (T:Tx K mg w zk zo zg zm):Has P w K mg base "chains_up" ["telling"] 8 (zwr (K:=K)):=by
 refine T.zkb.has sc_chains_up (fun vs H Q E h=>?_) (fun f cdv A outer s H vs Q E hr h=>?_)
 ·obtain⟨p,pm,pu,pt,pf,lo,hi,us,ads,ts,af,fs,rfl,_⟩:=h;rfl
 ·obtain⟨p,pm,pu,pt,pf,lo,hi,us,ads,ts,af,fs,rfl,hF,nr0,k⟩:=h;have hu:=zbp hr;refine⟨_,(zc (sset (i:=1) sc_chains_up.nd (pfn (za5 T) (za (pv 0) zd)))
   (zc (sset (i:=2) sc_chains_up.nd (pfn (zcc T) (za (pfn (zlj T) (za (pv 0) zd)) zd)))
   (zc (zac al21q rfl (zr K rfl (pfn (zpy T) (za (pv 0) zd))) (gnm (i:=3) sc_chains_up.nd) (zf (zac al21q rfl (zr K rfl (zp hu (pv 1) (pv 3) (fun _ _=>rfl))) (zdx K rfl rfl (za6 (gnm (i:=4) sc_chains_up.nd) (za6 (gnm (i:=5) sc_chains_up.nd) zdt))) (zc (sset (i:=6) sc_chains_up.nd (pfn (zlk T) (za (zp hu (pv 2) (pv 4) (fun _ _=>rfl)) (za (pv 5) zd))))
     (zf (zaz (zw zqg (pix (zh K rfl) (pv 6) ze) (pix (zh K rfl) (zp hu (pv 2) (pv 3) (fun _ _=>rfl)) ze) (zae _)) (zf (za8 hu (pv 2) (pv 3) (pv 6) rfl)) zz))))))
   (zf (zeb (zy (pv 2))))))),?_⟩
  have knd:=zaj (ts:=ts) hF.tel.nd;have lk:=hF.tel.klen;have lf:=hF.flen;have cl:=ze4 (ads:=ads) hF.tel.ends;have hR:∀k l b,(l,b)∈rwOf ts (ts.zip ads) k->H b.2=some (.tup (tieV b.1))/\TOk us b.1:=fun k l b h=>zow hF.tel h
  have uF:∀k m m',FlF ts lo (fs.zip af) k m->FlF ts lo (fs.zip af) k m'->m.1=m'.1:=fun k m m' h h'=>by rw[h.low lf,h'.low lf]
  have nr:=nr0;rw[zbm] at nr;refine⟨_,rfl,p,pu,pt,_,_,us,ads,ts,rfl,hF.tel,fun pb ob adb bs H1 s1 fpb hB=>?_⟩;rw[zbm] at hB
  try dsimp only [zn]
  refine⟨_,rfl,p,pm,pu,pt,pf,lo,hi,us,ads,ts,af,fs,rfl,hF.same s1,fun pl ol vl al H2 s2 fpl hL hLm=>?_⟩;refine⟨pl,ol,_,vl,al,false,rfl,hL,knd,lk,fun pc oc adc H3 s3 fpc hC hCh=>?_⟩;have hC:H3 pc=some (.dK (dV (keysOf ts (srt us)) fun k=>.ref (adc k))):=hC;have s13:=s2.trans s3;have s03:=s1.trans s13
  try dsimp only [zn]
  refine⟨_,rfl,p,pu,pt,_,_,us,ads,ts,rfl,(hF.same s03).tel,nr0,fun po os H4 s4 fpo hpo O pmo=>?_⟩;have hB4:=hB.same (s13.trans s4);have hC4:=s4 _ _ hC;have s04:=s03.trans s4;have fpc0:H pc=none:=(s1.trans s2).free fpc;have npo:po≠pc:=fun z=>by rw[z,hC] at fpo;cases fpo
  have hCh4:∀k∈keysOf ts (srt us),ChAt H H4 (adc k) ((vl k).1,(vl k).2,[]):=fun k hk=>((hCh k hk).same s4).old (s1.trans s2)
  have hLm:∀k∈keysOf ts (srt us),FlF ts lo (fs.zip af) k (vl k):=hLm;rw[zbm] at O;clear nr0 hB hC hCh;generalize keysOf ts (srt us)=keys at *;generalize rwOf ts (ts.zip ads)=R at *;generalize FlF ts lo (fs.zip af)=F at *;have U0:UpSt R F keys [] (fun k=>((vl k).1,(vl k).2,[])):=⟨fun k hk=>Up.bare (hLm k hk),fun k hk m hm=>Int.le_of_eq (uF k m (vl k) hm (hLm k hk)),fun k hk=>by simp at hk⟩;have hh:∀{H':Hp},(∀b o,b≠pc->H4 b=some o->H' b=some o)->Same H H':=fun kp b o e=>kp b o (zi e fpc0) (s04 _ _ e)
  refine⟨po,rfl,⟨_,SqL.of hpo⟩,zaa (xs:=os.map V.str) (fun i σ H'=>∃(v3 v4 v5 v6:Option V) (v:Str->Chn) (ad:Str->ty1q),σ = [some (.ref p),some (.ref pb),some (.ref pc),v3,v4,v5,v6]/\(∀b o,b≠pc->H4 b=some o->H' b=some o)/\H' pc=some (.dK (dV keys fun k=>.ref (ad k)))/\(∀k∈keys,ChAt H H' (ad k) (v k))/\UpSt R F keys (os.take i) v)
   ⟨none,none,none,none,_,adc,rfl,fun b o _ e=>e,hC4,hCh4,by simpa using U0⟩ (fun i σ H' _ h=>by obtain⟨_,_,_,_,_,_,_,q,_⟩:=h;exact SqL.of (q _ _ npo hpo)) ?_ ?_⟩
  ·rintro i x σ H5 hx ⟨v3,v4,v5,v6,v,ad,rfl,kp5,hd5,hk5,U5⟩;rw[al10q] at hx;cases eu:os[i]? with
   | none=>rw[eu] at hx;cases hx
   | some u=>
    rw[eu] at hx;cases hx;have huk:u∈keys:=O.sub u (al6q eu);obtain⟨fr,nlu,low⟩:=zoy O eu;have B5:=hB4.keep hC4 kp5;have lbs:(bs u).length=(R u).length:=(Paired.length (hB4.e u huk)).trans zjq;have tk:os.take (i+1)=os.take i++[u]:=by rw[al9q,eu];rfl
    try dsimp only [zn]
    refine⟨_,rfl,_,rfl,pb,_,rfl,B5.get huk,adb u,rfl,⟨_,SqL.of (B5.l u huk)⟩,zaa (xs:=(bs u).map V.ref) (fun j σ H'=>∃(v4 v5 v6:Option V) (v:Str->Chn) (ad:Str->ty1q),σ = [some (.ref p),some (.ref pb),some (.ref pc),some (.str u),v4,v5,v6]/\(∀b o,b≠pc->H4 b=some o->H' b=some o)/\H' pc=some (.dK (dV keys fun k=>.ref (ad k)))/\(∀k∈keys,ChAt H H' (ad k) (v k))/\UpSt R F keys (os.take i) v/\∀l b,(l,b)∈(R u).take j->(v l).1+zx b.1<=(v u).1)
     ⟨v4,v5,v6,v,ad,rfl,kp5,hd5,hk5,U5,fun l b h=>by simp at h⟩ (fun j σ H' _ h=>by obtain⟨_,_,_,_,_,_,q,_⟩:=h;exact SqL.of ((hB4.keep hC4 q).l u huk)) ?_ ?_⟩
    ·clear hk5 hd5 U5 B5 kp5;rintro j x σ H6 hx ⟨v4,v5,v6,v,ad,rfl,kp6,hd6,hk6,U6,le6⟩;have B6:=hB4.keep hC4 kp6;have q6:Same H H6:=hh kp6;obtain⟨b,⟨l,r⟩,rfl,hlr,_,hb⟩:=zbv (B6.e u huk) hx;obtain⟨t,ht⟩:=zox hlr;have htm:(l,(t,r))∈R u:=al6q ht;obtain⟨htr,tok⟩:=hR u l (t,r) htm;have hlk:l∈keys:=(cl _ _ _ htm).2;have nl:l≠u:=nlu l r (zco htm);have rt:(R u).take (j+1)=(R u).take j++[(l,(t,r))]:=by rw[al9q,ht];rfl
     refine⟨b,_,rfl,SqT.of hb,rfl,_,_,rfl,_,_,rfl,rfl,?_⟩
     try dsimp only [zn]
     have gl:=DGet.k (k:=Sum.inr l) hd6;rw[zba hlk] at gl;have lv:(v l).2.2.length<=900:=by
      have:=(U6.is l hlk).short cl nr hlk;lia
     refine⟨_,rfl,_,rfl,pc,_,rfl,gl,_,rfl,ad l,r,v l,t,us,rfl,(hk6 l hlk).any,q6 _ _ htr,tok,lv,fun q H7 s7 fq hq=>?_⟩;have hd7:=s7 _ _ hd6;have kp7:∀b o,b≠pc->H4 b=some o->H7 b=some o:=fun b o n e=>s7 _ _ (kp6 b o n e)
     have hk7:∀k∈keys,ChAt H H7 (ad k) (v k):=fun k hk=>(hk6 k hk).same s7
     have hq7:=hq.old q6;have gu:=DGet.k (k:=Sum.inr u) hd7;rw[zba huk] at gu;obtain⟨lq,h1,_⟩:=id hq7;obtain⟨lu,h2,_⟩:=hk7 u huk
     try dsimp only [zn]
     refine⟨_,rfl,q,_,_,_,rfl,rfl,SqT.of h1,rfl,_,rfl,_,rfl,pc,_,rfl,gu,ad u,_,_,_,rfl,rfl,SqT.of h2,rfl,_,_,rfl,rfl,_,rfl,?_⟩;refine ite2 (fun c=>?_) (fun c=>?_)
     ·have c:(v u).1<(v l).1+zx t:=al17q c;refine⟨_,rfl,_,rfl,_,rfl,pc,_,rfl,DPut.k (k:=Sum.inr u) hd7 (by rw[zas];exact zq (by lia)),?_⟩;rw[zn6 huk,show (dV keys fun z=>if z=u then V.ref q else V.ref (ad z))=dV keys fun k=>V.ref (if k=u then q else ad k) from zbd fun z _=>by split<;>rfl];refine⟨_,_,_,fun k=>if k=u then ((v l).1+zx t,(v l).2.1,(v l).2.2++[(t,r)]) else v k,fun k=>if k=u then q else ad k,rfl,fun b o n e=>by rw[zl n];exact kp7 b o n e,zb,fun k hk=>?_,U6.set fr (fun k hk l b hb=>low k hk l b.2 (zco hb)) ((U6.is l hlk).up htm) (Int.le_of_lt c),fun l' b' h'=>?_⟩
      ·dsimp only
       by_cases e:k=u
       ·rw[al11q e,al11q e];exact hq7.put hd7
       ·rw[al7q e,al7q e];exact (hk7 k hk).put hd7
      ·dsimp only;rw[al11q rfl];show _<=(v l).1+zx t;rw[rt] at h';rcases zaq h' with z | z
       ·rw[al7q (nlu l' b'.2 (zco (al131q z)))];have:=le6 l' b' z;lia
       ·cases z;rw[al7q nl];exact al63q _
     ·have c:¬((v l).1+zx t > (v u).1):=fun z=>c (al15q z)
      refine⟨_,_,_,v,ad,rfl,kp7,hd7,hk7,U6,fun l' b' h'=>?_⟩;rw[rt] at h';rcases zaq h' with z | z
      ·exact le6 l' b' z
      ·cases z;show (v l).1+zx t<=_;lia
    ·rintro σ H6 ⟨v4,v5,v6,v,ad,rfl,kp6,hd6,hk6,U6,le6⟩;rw[al1q,lbs,al23q] at le6;exact⟨_,_,_,_,v,ad,rfl,kp6,hd6,hk6,by rw[tk];exact U6.snoc le6⟩
  ·rintro σ H5 ⟨v3,v4,v5,v6,v,ad,rfl,kp5,hd5,hk5,U5⟩;rw[al1q,al23q] at U5;have all:∀k∈keys,k∈os:=fun k hk=>pmo.mem_iff.mpr hk
   exact .inr ⟨pc,_,hd5,fun ob'=>⟨_,rfl,k pc ob' v ad _ ((hh kp5).upd fpc0) fpc0 zb (fun k hk=>(hk5 k hk).put hd5) fun k hk=>⟨U5.is k hk,U5.lo cl all hk⟩⟩⟩
inductive sp_cdn' (vs:List V) (H:Hp) (Q:VK):Prop
 | mk (p pm pu pt pf:ty1q) (lo hi:Int) (us:List Str) (ads:List ty1q) (ts:List Tie) (af:List ty1q) (fs:List Fnd) (_:vs = [.ref p]) (_:TelF K H p pm pu pt pf lo hi us ads ts af fs) (_:NoR (za1 ts (ts.zip ads)) (keysOf ts (srt us))) (_:∀(pd:ty1q) (o:Obj) (v:Str->Chn) (ad:Str->ty1q) (H':Hp),Same H H'->H pd=none->H' pd=some (.frz o (.dK (dV (keysOf ts (srt us)) fun k=>.ref (ad k))))->(∀k∈keysOf ts (srt us),ChAt H H' (ad k) (v k))->(∀k∈keysOf ts (srt us),Dn (rwOf ts (ts.zip ads)) (CeF ts hi (fs.zip af)) k (v k)/\HiIs (rwOf ts (ts.zip ads)) (CeF ts hi (fs.zip af)) k (v k).1)->Q (.ref pd) H')
def zws:Sp:=fun vs H Q _=>sp_cdn' (K:=K) vs H Q
theorem zdr (T:Tx K mg w zk zo zg zm):Has P w K mg base "chains_down" ["telling"] 8 (zws (K:=K)):=by
 refine T.zg7.has sc_chains_down (fun vs H Q E h=>?_) (fun f cdv A outer s H vs Q E hr h=>?_)
 ·obtain⟨p,pm,pu,pt,pf,lo,hi,us,ads,ts,af,fs,rfl,_⟩:=h;rfl
 ·obtain⟨p,pm,pu,pt,pf,lo,hi,us,ads,ts,af,fs,rfl,hF,nr0,k⟩:=h;have hu:=zbp hr;refine⟨_,(zc (sset (i:=1) sc_chains_down.nd (pfn (za5 T) (za (pv 0) zd)))
   (zc (sset (i:=2) sc_chains_down.nd (pfn (zcc T) (za (pfn (zgl T) (za (pv 0) zd)) zd)))
   (zc (zac al21q rfl (zui K rfl (by rfl) T.reversed (pfn (zpy T) (za (pv 0) zd))) (gnm (i:=3) sc_chains_down.nd) (zf (zac al21q rfl (zr K rfl (zp hu (pv 1) (pv 3) (fun _ _=>rfl))) (zdx K rfl rfl (za6 (gnm (i:=4) sc_chains_down.nd) (za6 (gnm (i:=5) sc_chains_down.nd) zdt))) (zc (sset (i:=6) sc_chains_down.nd (pfn (zml T) (za (zp hu (pv 2) (pv 3) (fun _ _=>rfl)) (za (pv 5) zd))))
     (zf (zaz (zw zll (pix (zh K rfl) (pv 6) ze) (pix (zh K rfl) (zp hu (pv 2) (pv 4) (fun _ _=>rfl)) ze) (zae _)) (zf (za8 hu (pv 2) (pv 4) (pv 6) rfl)) zz))))))
   (zf (zeb (zy (pv 2))))))),?_⟩
  have knd:=zaj (ts:=ts) hF.tel.nd;have lk:=hF.tel.klen;have lf:=hF.flen;have cl:=ze4 (ads:=ads) hF.tel.ends;have hR:∀k l b,(l,b)∈rwOf ts (ts.zip ads) k->H b.2=some (.tup (tieV b.1))/\TOk us b.1:=fun k l b h=>zow hF.tel h
  have uF:∀k m m',CeF ts hi (fs.zip af) k m->CeF ts hi (fs.zip af) k m'->m.1=m'.1:=fun k m m' h h'=>by rw[h.high lf,h'.high lf]
  have nr:=nr0;rw[zbm] at nr;refine⟨_,rfl,p,pu,pt,_,_,us,ads,ts,rfl,hF.tel,fun pb ob adb bs H1 s1 fpb hB=>?_⟩;rw[zbm] at hB
  try dsimp only [zn]
  refine⟨_,rfl,p,pm,pu,pt,pf,lo,hi,us,ads,ts,af,fs,rfl,hF.same s1,fun pl ol vl al H2 s2 fpl hL hLm=>?_⟩;refine⟨pl,ol,_,vl,al,false,rfl,hL,knd,lk,fun pc oc adc H3 s3 fpc hC hCh=>?_⟩;have hC:H3 pc=some (.dK (dV (keysOf ts (srt us)) fun k=>.ref (adc k))):=hC;have s13:=s2.trans s3;have s03:=s1.trans s13
  try dsimp only [zn]
  refine⟨_,rfl,p,pu,pt,_,_,us,ads,ts,rfl,(hF.same s03).tel,nr0,fun po os H4 s4 fpo hpo O pmo=>?_⟩;have hB4:=hB.same (s13.trans s4);have hC4:=s4 _ _ hC;have s04:=s03.trans s4;have fpc0:H pc=none:=(s1.trans s2).free fpc;have npo:po≠pc:=fun z=>by rw[z,hC] at fpo;cases fpo
  have hCh4:∀k∈keysOf ts (srt us),ChAt H H4 (adc k) ((vl k).1,(vl k).2,[]):=fun k hk=>((hCh k hk).same s4).old (s1.trans s2)
  have hLm:∀k∈keysOf ts (srt us),CeF ts hi (fs.zip af) k (vl k):=hLm;rw[zbm] at O;clear nr0 hB hC hCh;generalize keysOf ts (srt us)=keys at *;generalize rwOf ts (ts.zip ads)=R at *;generalize CeF ts hi (fs.zip af)=F at *;have U0:DnSt R F keys [] (fun k=>((vl k).1,(vl k).2,[])):=⟨fun k hk=>Dn.bare (hLm k hk),fun k hk m hm=>Int.le_of_eq (uF k m (vl k) hm (hLm k hk)).symm,fun k hk=>by simp at hk⟩;have hh:∀{H':Hp},(∀b o,b≠pc->H4 b=some o->H' b=some o)->Same H H':=fun kp b o e=>kp b o (zi e fpc0) (s04 _ _ e)
  refine⟨po,os.map V.str,rfl,SqL.of hpo,zuj (xs:=os.map V.str) (fun i σ H'=>∃(v3 v4 v5 v6:Option V) (v:Str->Chn) (ad:Str->ty1q),σ = [some (.ref p),some (.ref pb),some (.ref pc),v3,v4,v5,v6]/\(∀b o,b≠pc->H4 b=some o->H' b=some o)/\H' pc=some (.dK (dV keys fun k=>.ref (ad k)))/\(∀k∈keys,ChAt H H' (ad k) (v k))/\DnSt R F keys (os.reverse.take i) v)
   ⟨none,none,none,none,_,adc,rfl,fun b o _ e=>e,hC4,hCh4,by simpa using U0⟩ (fun i σ H' _ h=>by obtain⟨_,_,_,_,_,_,_,q,_⟩:=h;exact SqL.of (q _ _ npo hpo)) ?_ ?_⟩
  ·rintro i x σ H5 hx ⟨v3,v4,v5,v6,v,ad,rfl,kp5,hd5,hk5,U5⟩;rw[←List.map_reverse,al10q] at hx;cases eu:os.reverse[i]? with
   | none=>rw[eu] at hx;cases hx
   | some u=>
    rw[eu] at hx;cases hx;have huk:u∈keys:=O.sub u (al191q.mp (al6q eu));obtain⟨fr,low⟩:=zua O eu;have B5:=hB4.keep hC4 kp5;have lbs:(bs u).length=(R u).length:=(Paired.length (hB4.e u huk)).trans zjq;have tk:os.reverse.take (i+1)=os.reverse.take i++[u]:=by rw[al9q,eu];rfl
    try dsimp only [zn]
    refine⟨_,rfl,_,rfl,pb,_,rfl,B5.get huk,adb u,rfl,⟨_,SqL.of (B5.l u huk)⟩,zaa (xs:=(bs u).map V.ref) (fun j σ H'=>∃(v4 v5 v6:Option V) (v:Str->Chn) (ad:Str->ty1q),σ = [some (.ref p),some (.ref pb),some (.ref pc),some (.str u),v4,v5,v6]/\(∀b o,b≠pc->H4 b=some o->H' b=some o)/\H' pc=some (.dK (dV keys fun k=>.ref (ad k)))/\(∀k∈keys,ChAt H H' (ad k) (v k))/\DnSt R F keys (os.reverse.take i) v/\∀l b,(l,b)∈(R u).take j->(v l).1<=(v u).1-zx b.1)
     ⟨v4,v5,v6,v,ad,rfl,kp5,hd5,hk5,U5,fun l b h=>by simp at h⟩ (fun j σ H' _ h=>by obtain⟨_,_,_,_,_,_,q,_⟩:=h;exact SqL.of ((hB4.keep hC4 q).l u huk)) ?_ ?_⟩
    ·clear hk5 hd5 U5 B5 kp5;rintro j x σ H6 hx ⟨v4,v5,v6,v,ad,rfl,kp6,hd6,hk6,U6,le6⟩;have B6:=hB4.keep hC4 kp6;have q6:Same H H6:=hh kp6;obtain⟨b,⟨l,r⟩,rfl,hlr,_,hb⟩:=zbv (B6.e u huk) hx;obtain⟨t,ht⟩:=zox hlr;have htm:(l,(t,r))∈R u:=al6q ht;obtain⟨htr,tok⟩:=hR u l (t,r) htm;have hlk:l∈keys:=(cl _ _ _ htm).2;obtain⟨frl,nl⟩:=low l r (zco htm);have rt:(R u).take (j+1)=(R u).take j++[(l,(t,r))]:=by rw[al9q,ht];rfl
     refine⟨b,_,rfl,SqT.of hb,rfl,_,_,rfl,_,_,rfl,rfl,?_⟩
     try dsimp only [zn]
     have gu:=DGet.k (k:=Sum.inr u) hd6;rw[zba huk] at gu;have lv:(v u).2.2.length<=900:=by
      have:=(U6.is u huk).short cl nr huk;lia
     refine⟨_,rfl,_,rfl,pc,_,rfl,gu,_,rfl,ad u,r,v u,t,us,rfl,(hk6 u huk).any,q6 _ _ htr,tok,lv,fun q H7 s7 fq hq=>?_⟩;have hd7:=s7 _ _ hd6;have kp7:∀b o,b≠pc->H4 b=some o->H7 b=some o:=fun b o n e=>s7 _ _ (kp6 b o n e)
     have hk7:∀k∈keys,ChAt H H7 (ad k) (v k):=fun k hk=>(hk6 k hk).same s7
     have hq7:=hq.old q6;have gl:=DGet.k (k:=Sum.inr l) hd7;rw[zba hlk] at gl;obtain⟨lq,h1,_⟩:=id hq7;obtain⟨lu,h2,_⟩:=hk7 l hlk
     try dsimp only [zn]
     refine⟨_,rfl,q,_,_,_,rfl,rfl,SqT.of h1,rfl,_,rfl,_,rfl,pc,_,rfl,gl,ad l,_,_,_,rfl,rfl,SqT.of h2,rfl,_,_,rfl,rfl,_,rfl,?_⟩;refine ite2 (fun c=>?_) (fun c=>?_)
     ·have c:(v u).1-zx t<(v l).1:=al17q c;refine⟨_,rfl,_,rfl,_,rfl,pc,_,rfl,DPut.k (k:=Sum.inr l) hd7 (by rw[zas];exact zq (by lia)),?_⟩;rw[zn6 hlk,show (dV keys fun z=>if z=l then V.ref q else V.ref (ad z))=dV keys fun k=>V.ref (if k=l then q else ad k) from zbd fun z _=>by split<;>rfl];refine⟨_,_,_,fun k=>if k=l then ((v u).1-zx t,(v u).2.1,(t,r)::(v u).2.2) else v k,fun k=>if k=l then q else ad k,rfl,fun b o n e=>by rw[zl n];exact kp7 b o n e,zb,fun k hk=>?_,U6.set frl ((U6.is u huk).dn htm) (Int.le_of_lt c),fun l' b' h'=>?_⟩
      ·dsimp only
       by_cases e:k=l
       ·rw[al11q e,al11q e];exact hq7.put hd7
       ·rw[al7q e,al7q e];exact (hk7 k hk).put hd7
      ·dsimp only;rw[al7q (al36q nl)];rw[rt] at h';rcases zaq h' with z | z
       ·have h8:=le6 l' b' z
        by_cases e:l'=l
        ·rw[al11q e];rw[e] at h8;show (v u).1-zx t<=_;lia
        ·rw[al7q e];exact h8
       ·cases z;rw[al11q rfl];exact al63q _
     ·have c:¬((v u).1-zx t<(v l).1):=fun z=>c (al15q z)
      refine⟨_,_,_,v,ad,rfl,kp7,hd7,hk7,U6,fun l' b' h'=>?_⟩;rw[rt] at h';rcases zaq h' with z | z
      ·exact le6 l' b' z
      ·cases z;show (v l).1<=(v u).1-zx t;lia
    ·rintro σ H6 ⟨v4,v5,v6,v,ad,rfl,kp6,hd6,hk6,U6,le6⟩;rw[al1q,lbs,al23q] at le6;exact⟨_,_,_,_,v,ad,rfl,kp6,hd6,hk6,by rw[tk];exact U6.snoc le6⟩
  ·rintro σ H5 ⟨v3,v4,v5,v6,v,ad,rfl,kp5,hd5,hk5,U5⟩;rw[al1q,←al100q (as:=os),al23q] at U5;have all:∀k∈keys,k∈os.reverse:=fun k hk=>al191q.mpr (pmo.mem_iff.mpr hk)
   exact .inr ⟨pc,_,hd5,fun ob'=>⟨_,rfl,k pc ob' v ad _ ((hh kp5).upd fpc0) fpc0 zb (fun k hk=>(hk5 k hk).put hd5) fun k hk=>⟨U5.is k hk,U5.hi cl all hk⟩⟩⟩
theorem zry {H H':Hp}{e:ty1q}(he:H e=none) (s:∀b o,b≠e->H b=some o->H' b=some o):Same H (del H' e):=fun b o h=>by
 have n:=zi h he;unfold del;rw[al7q n];exact s b o n h
inductive sp_refund' (C:ty1q) (vs:List V) (H:Hp) (Q:VK) (E:XK):Prop
 | mk (p pm pu pt pf:ty1q) (lo hi:Int) (us:List Str) (ads:List ty1q) (ts:List Tie) (af:List ty1q) (fs:List Fnd) (_:vs = [.ref p]) (_:TelF K H p pm pu pt pf lo hi us ads ts af fs) (_:NoR (za1 ts (ts.zip ads)) (keysOf ts (srt us))) (_:(∀H',Same H H'->zc0 lo hi us ads ts af fs->Q .non H')) (_:∀(d r:ty1q) (c:Chn) (w:Str) (H':Hp),Same H H'->H' d=some (.xd [("row",.ref r)])->zub H' r c w->zgg lo hi us ads ts af fs c w->E (.ref C) (some d) H')
def zp4 (C:ty1q):Sp:=fun vs H Q E=>sp_refund' (K:=K) C vs H Q E
theorem zcg (T:Tx K mg w zk zo zg zm):HasX P w K mg base "refuse_undated" ["telling"] 7 (zp4 (K:=K) zg):=by
 refine T.zem.hasX sc_refuse_undated (fun vs H Q E h=>?_) (fun f cdv A outer s H vs Q E hr h=>?_)
 ·obtain⟨p,pm,pu,pt,pf,lo,hi,us,ads,ts,af,fs,rfl,_⟩:=h;rfl
 ·obtain⟨p,pm,pu,pt,pf,lo,hi,us,ads,ts,af,fs,rfl,hF,nr,kN,kR⟩:=h;refine⟨_,(zc (zat (pfn (zc1 T) (za (pv 0) zd)))
   (zc (sset (i:=1) sc_refuse_undated.nd (pfn (zeh T) (za (pv 0) zd)))
   (zf (zaz (zfu (zi2 (pv 1))) (zf (zpe (zc9 T) T.zff (hr.mono (by decide)) zg3 (by rfl) T.zfe (by decide) (za (pv 1) zd))) zz)))),?_⟩
  refine⟨_,rfl,p,pu,pt,_,_,us,ads,ts,rfl,hF.tel,nr,fun H1 s1=>?_⟩
  try dsimp only [zn]
  refine⟨_,rfl,p,pm,pu,pt,pf,lo,hi,us,ads,ts,af,fs,rfl,hF.same s1,nr,fun H2 s2 no=>?_,fun q c w H2 s2 ra ri=>?_⟩
  ·try dsimp only [zn]
   refine⟨_,rfl,_,rfl,iteF ?_⟩;exact kN _ (s1.trans s2) no
  ·try dsimp only [zn]
   refine⟨_,rfl,_,rfl,iteT ?_⟩;obtain⟨l,h1,h2⟩:=ra;refine⟨_,rfl,fun e he=>?_⟩;have t3:=Same.new (o:=excO e zg none) he;have lc:c.2.2.length<=900:=by
    obtain⟨k,m,hk,u,_⟩:=ri;rw[zbm] at nr;have:=u.short (ze4 (ads:=ads) hF.tel.ends) nr hk;have:=hF.tel.klen;lia
   refine⟨e,q,l,.str c.2.1,.str w,_,rfl,zb,SqT.of (t3 _ _ h1),SqL.of (t3 _ _ h2),by rw[al1q];lia,fun q' r d n1 n2 n3 fq fr fd n4 n5 n6=>?_⟩;refine⟨rfl,some d,zb,?_⟩;rw[zl n1] at fq;rw[zl n2] at fr;rw[zl n3] at fd;refine kR d r c w _ (s1.trans (s2.trans (zry he fun b o n h=>?_))) ?_ ⟨q',?_,?_⟩ ri
   ·rw[zl n,zl (zi h fd),zl (zi h fr),zl (zi h fq),zl n];exact h
   ·unfold del;rw[al7q n3,zl n3,zb]
   ·unfold del;rw[al7q n2,zl n2,zl (al36q n6),zb]
   ·unfold del;rw[al7q n1,zl n1,zl (al36q n5),zl (al36q n4),zb]
def zp5 (H:Hp) (q:ty1q) (keys:List Str) (f g:Str->Int):Prop:=∃as:List ty1q,H q=some (.lst (as.map V.ref))/\Paired (fun a k=>H a=some (.tup [.str k,.int (f k),.int (g k)])) as keys
inductive sp_spans' (C:ty1q) (vs:List V) (H:Hp) (Q:VK) (E:XK):Prop
 | mk (p pm pu pt pf:ty1q) (lo hi:Int) (us:List Str) (ads:List ty1q) (ts:List Tie) (af:List ty1q) (fs:List Fnd) (_:vs = [.ref p]) (_:TelF K H p pm pu pt pf lo hi us ads ts af fs) (_:NoR (za1 ts (ts.zip ads)) (keysOf ts (srt us))) (_:(∀(q:ty1q) (f g:Str->Int) (H':Hp),Same H H'->H q=none->zp5 H' q (keysOf ts (srt us)) f g->(∀k∈keysOf ts (srt us),LoIs (rwOf ts (ts.zip ads)) (FlF ts lo (fs.zip af)) k (f k))->(∀k∈keysOf ts (srt us),HiIs (rwOf ts (ts.zip ads)) (CeF ts hi (fs.zip af)) k (g k))->zc0 lo hi us ads ts af fs->Q (.ref q) H')) (_:∀(d r:ty1q) (c:Chn) (w:Str) (H':Hp),Same H H'->H' d=some (.xd [("row",.ref r)])->zub H' r c w->zgg lo hi us ads ts af fs c w->E (.ref C) (some d) H')
def zrz (C:ty1q):Sp:=fun vs H Q E=>sp_spans' (K:=K) C vs H Q E
theorem zuv (T:Tx K mg w zk zo zg zm):HasX P w K mg base "spans" ["telling"] 9 (zrz (K:=K) zg):=by
 refine T.zu2.hasX sc_spans (fun vs H Q E h=>?_) (fun f cdv A outer s H vs Q E hr h=>?_)
 ·obtain⟨p,pm,pu,pt,pf,lo,hi,us,ads,ts,af,fs,rfl,_⟩:=h;rfl
 ·obtain⟨p,pm,pu,pt,pf,lo,hi,us,ads,ts,af,fs,rfl,hF,nr,kN,kR⟩:=h;have hu:=zbp hr;refine⟨_,(zc (zat (zsz (zcg T) zg3 (hr.mono (by decide)) (by rfl) (za (pv 0) zd)))
   (zc (sset (i:=1) sc_spans.nd (pfn (zda T) (za (pv 0) zd)))
   (zc (sset (i:=2) sc_spans.nd (pfn (zdr T) (za (pv 0) zd)))
   (zf (zy (zb4 (own:=["name"]) (cap:=["ups","downs"]) (ix:=[1,2]) (osc:=zj (top 32)) rfl ⟨rfl,by decide +kernel,by decide +kernel,by decide +kernel,by decide +kernel⟩ rfl (zbx (pv 1)) (fun _ _ _ _=>zbg (i:=0) (show List.Nodup (["name","ups","downs"]:List Str) by decide +kernel) rfl (Or.inl rfl)) (fun _ _ _ _=>zb3) (fun _ _ _ _=>(zao (za (pv 0) (za (pix (zh K rfl) (zp hu (pv 1) (pv 0) (fun _ _=>rfl)) ze) (za (pix (zh K rfl) (zp hu (pv 2) (pv 0) (fun _ _=>rfl)) ze) zd))))))))))),?_⟩
  have lk:=hF.tel.klen;refine⟨_,rfl,p,pm,pu,pt,pf,lo,hi,us,ads,ts,af,fs,rfl,hF,nr,fun H1 s1 no=>?_,kR⟩
  try dsimp only [zn]
  refine⟨_,rfl,p,pm,pu,pt,pf,lo,hi,us,ads,ts,af,fs,rfl,hF.same s1,nr,fun pa oa va aa H2 s2 fpa hpa hca ua=>?_⟩
  try dsimp only [zn]
  refine⟨_,rfl,p,pm,pu,pt,pf,lo,hi,us,ads,ts,af,fs,rfl,hF.same (s1.trans s2),nr,fun pb ob vb ab H3 s3 fpb hpb hcb ub=>?_⟩;have q3:=s1.trans (s2.trans s3);have hpa3:=s3 _ _ hpa;have hca3:∀k∈keysOf ts (srt us),ChAt H1 H3 (aa k) (va k):=fun k hk=>(hca k hk).same s3
  have kN':=fun q H' s f h=>kN q (fun k=>(va k).1) (fun k=>(vb k).1) H' s f h (fun k hk=>(ua k hk).2) (fun k hk=>(ub k hk).2) no
  clear ua ub kN;generalize keysOf ts (srt us)=keys at *
  try dsimp only [zn]
  refine⟨_,rfl,pa,oa,_,rfl,hpa3,fun D hD=>?_⟩;refine zbi (zg1 (a:=pa) (ob:=oa) (kvs:=dV keys fun k=>.ref (aa k))) (fun i σ' ys H'=>∃(w0:Option V) (as:List ty1q),σ' = [w0,some (.ref pa),some (.ref pb)]/\ys=as.map V.ref/\Paired (fun a k=>H' a=some (.tup [.str k,.int (va k).1,.int (vb k).1])) as (keys.take i)/\Same H3 H'/\H' D=some (.lst ys))
   ⟨none,[],rfl,rfl,.nil,Same.new hD,zb⟩ (fun i σ' ys H' h=>?_) (by rw[al1q,zas];exact zau (by lia)) ?_ ?_
  ·obtain⟨_,as,_,rfl,pb',q,hd⟩:=h;refine⟨q _ _ hpa3,hd,?_⟩;have:=Paired.length pb';rw[al25q] at this;rw[al1q];lia
  ·rintro i x σ' ys H4 hx ⟨w0,as,rfl,rfl,pr,q4,hd4⟩;have hix:=zag hx;rw[zgw,al10q] at hx;cases eu:keys[i]? with
   | none=>rw[eu] at hx;cases hx
   | some u=>
    rw[eu] at hx;cases hx;have hu':u∈keys:=al6q eu;obtain⟨la,h1,_⟩:=(hca3 u hu').same q4;obtain⟨lb,h2,_⟩:=(hcb u hu').same q4
    try dsimp only [zn]
    unfold tYes;dsimp only;rw[al11q rfl];refine⟨_,rfl,_,rfl,_,rfl,pa,_,rfl,zav (q4 _ _ hpa3) hu',aa u,_,_,_,rfl,rfl,SqT.of h1,rfl,_,rfl,_,rfl,pb,_,rfl,zav (q4 _ _ hpb) hu',ab u,_,_,_,rfl,rfl,SqT.of h2,rfl,(by show 3<=sizeLine;decide),fun b1 hb1=>?_⟩;have w1:=Same.new (o:=.tup [.str u,.int (va u).1,.int (vb u).1]) hb1;have hd1:=w1 _ _ hd4;refine⟨hd1,zdy hix ⟨_,as++[b1],rfl,by rw[al16q];rfl,?_,(q4.trans w1).upd hD,zb⟩⟩;rw[al9q,eu];exact Paired.snoc (Paired.mapP pr fun a z e=>zaf hd1 _ _ (w1 _ _ e)) (zaf hd1 _ _ zb)
  rintro σ' ys H4 ⟨w0,as,rfl,rfl,pr,q4,hd4⟩;rw[al1q,zas,al23q] at pr;exact kN' D _ (q3.trans q4) (q3.free hD) ⟨as,hd4,pr⟩
inductive sp_lones' (vs:List V) (H:Hp) (Q:VK):Prop
 | mk (p pu pt:ty1q) (x y:V) (us:List Str) (ads:List ty1q) (ts:List Tie) (_:vs = [.ref p]) (_:Tel K H p pu pt x y us ads ts) (_:∀(pd:ty1q) (H':Hp),Same H H'->H pd=none->H' pd=some (.dK (dN us (labs ts)))->Q (.ref pd) H')
def zr0:Sp:=fun vs H Q _=>sp_lones' (K:=K) vs H Q
theorem zdb (T:Tx K mg w zk zo zg zm):Has P w K mg base "_law_ones" ["_law_telling"] 1 (zr0 (K:=K)):=by
 refine T.zke.has sc__law_ones (fun vs H Q E h=>?_) (fun f cdv A outer s H vs Q E hr h=>?_)
 ·obtain⟨p,pu,pt,x,y,us,ads,ts,rfl,_⟩:=h;rfl
 ·obtain⟨p,pu,pt,x,y,us,ads,ts,rfl,hT,k⟩:=h;have hu:=zbp hr;refine⟨_,(zc (sset (i:=1) sc__law_ones.nd za7)
   (zc (zac al21q rfl (zr K rfl (pix (zh K rfl) (pv 0) ze)) (gnm (i:=2) sc__law_ones.nd) (zf (za8 hu (pv 1) (pv 2) (pv 2) rfl)))
   (zc (zac al21q rfl (zcj (by rfl) T.range (za (zap (za0 K rfl) (by rfl) T.len al198q (za (pix (zh K rfl) (pv 0) ze) zd)) zd)) (gnm (i:=3) sc__law_ones.nd) (zf (zac al21q rfl (zr K rfl (pix (zh K rfl) (pv 0) ze)) (gnm (i:=4) sc__law_ones.nd) (zf (zaz (zw zdu (pix (zh K rfl) (pv 4) ze) zaw (zae _)) (zc (sset (i:=5) sc__law_ones.nd (zap (zgb rfl) (by rfl) T.min al188q (za (zp hu (pv 1) (pix (zh K rfl) (pv 4) ze) (fun _ _=>rfl)) (za (zp hu (pv 1) (pix (zh K rfl) (pv 4) ze) (fun _ _=>rfl)) zd))))
      (zc (za8 hu (pv 1) (pix (zh K rfl) (pv 4) ze) (pv 5) rfl)
      (zf (za8 hu (pv 1) (pix (zh K rfl) (pv 4) ze) (pv 5) rfl)))) zz)))))
   (zf (zy (pv 1)))))),?_⟩
  have hts:=hT.ends;have hlen:=hT.len;obtain⟨hp,hu1,ht1,tp,nd,hl,tl,_⟩:=hT;refine fun pd hpd=>?_
  have s0:=Same.new (o:=.dK []) hpd;refine⟨_,rfl,p,_,_,_,rfl,rfl,s0.tup hp,rfl,pu,rfl,⟨_,s0.seq hu1⟩,zaa (xs:=us.map V.str) (fun i σ H'=>∃v2,σ = [some (.ref p),some (.ref pd),v2,none,none,none]/\Same H H'/\H' pd=some (.dK (dN (us.take i) id)))
   ⟨none,rfl,s0,zb⟩ (fun i σ H' _ h=>by obtain⟨_,_,q,_⟩:=h;exact q.seq hu1) ?_ ?_⟩
  ·rintro i x σ H1 hx ⟨v2,rfl,q,hd⟩;rw[al10q] at hx;cases eu:us[i]? with
   | none=>rw[eu] at hx;cases hx
   | some u=>
    rw[eu] at hx;cases hx;have hi:=zag eu;have hfr:u ∉ us.take i:=by
     have:=zay nd i hi;rw[show us[i]=u from (al8q.mp eu).2] at this;exact this
    dsimp only [zn];refine⟨_,rfl,_,rfl,_,rfl,pd,_,rfl,DPut.k (k:=Sum.inr u) hd (by rw[zhy,al25q];exact zq (by lia)),?_⟩;refine⟨_,rfl,q.upd hpd,?_⟩;rw[zb,al9q,eu]
    congr 2
    exact zsi hfr
  ·rintro σ H1 ⟨v2,rfl,q,hd⟩;have lu:(us.map V.str).length=us.length:=al1q _;rw[lu,al23q] at hd;refine⟨_,rfl,p,_,_,_,rfl,rfl,q.tup hp,rfl,pu,_,rfl,.inl (q.seq hu1),((us.map V.str).length:Int),rfl,by lia,by lia,zck (lo:=0) (n:=(us.map V.str).length) (fun n σ H'=>∃v3 v4 v5,σ = [some (.ref p),some (.ref pd),v2,v3,v4,v5]/\Same H H'/\H' pd=some (.dK (dN us (litr ts n))))
    ⟨none,none,none,rfl,q,hd⟩ ?_ ?_⟩
   ·rintro n σ H2 hn ⟨v3,v4,v5,rfl,q2,hd2⟩;refine⟨_,rfl,p,_,_,_,rfl,rfl,q2.tup hp,rfl,pt,rfl,⟨_,q2.seq ht1⟩,zaa (xs:=ads.map V.ref) (fun i σ H'=>∃v4 v5,σ = [some (.ref p),some (.ref pd),v2,some (.int (0+(n:Int))),v4,v5]/\Same H H'/\H' pd=some (.dK (dN us (zb8 (ts.take i) (litr ts n)))))
     ⟨v4,v5,rfl,q2,hd2⟩ (fun i σ H' _ h=>by obtain⟨_,_,_,q,_⟩:=h;exact q.seq ht1) ?_ ?_⟩
    ·rintro i x σ H3 hx ⟨v4,v5,rfl,q3,hd3⟩;obtain⟨r,t,rfl,ht,_,hr⟩:=zc8 tp hx;have hr3:=q3 _ _ hr;have hab:=hts t (al6q ht)
     try dsimp only [zn]
     refine⟨_,rfl,r,_,_,_,rfl,rfl,SqT.of hr3,zf4 t,rfl,_,rfl,?_⟩;refine ite2 (fun c=>?_) (fun c=>?_)
     ·have c:t.k=SAME:=V.str.inj (al17q c);have g1:=DGet.k (k:=Sum.inr t.a) hd3;have g2:=DGet.k (k:=Sum.inr t.b) hd3;rw[zb1 hab.1] at g1;rw[zb1 hab.2] at g2;refine⟨_,rfl,_,rfl,r,_,_,_,rfl,rfl,SqT.of hr3,zf5 t,pd,_,rfl,g1,_,rfl,_,rfl,r,_,_,_,rfl,rfl,SqT.of hr3,zf6 t,pd,_,rfl,g2,_,_,rfl,?_⟩
      try dsimp only [zn]
      refine⟨_,rfl,_,rfl,_,rfl,r,_,_,_,rfl,rfl,SqT.of hr3,zf5 t,pd,_,rfl,DPut.k (k:=Sum.inr t.a) hd3 (by rw[zhy];exact zq (by lia)),?_⟩;rw[zn4 hab.1];have nr:r≠pd:=fun z=>by rw[z,hd3] at hr3;cases hr3
      have hr4:upd H3 pd (.dK (dN us fun z=>if z=t.a then minS (zb8 (ts.take i) (litr ts n) t.a) (zb8 (ts.take i) (litr ts n) t.b) else zb8 (ts.take i) (litr ts n) z)) r=some (.tup (tieV t)):=by rw[zl nr];exact hr3
      refine⟨_,rfl,_,rfl,_,rfl,r,_,_,_,rfl,rfl,SqT.of hr4,zf6 t,pd,_,rfl,DPut.k (k:=Sum.inr t.b) zb (by rw[zhy];exact zq (by lia)),?_⟩;rw[zn4 hab.2];refine⟨_,_,rfl,(q3.upd hpd).upd hpd,?_⟩;rw[zb,zga ht]
      congr 2
      refine zct fun z _=>?_
      have el:lst1 (zb8 (ts.take i) (litr ts n)) t z=if z=t.a\/z=t.b then minS (zb8 (ts.take i) (litr ts n) t.a) (zb8 (ts.take i) (litr ts n) t.b) else zb8 (ts.take i) (litr ts n) z:=by
       unfold lst1;rw[al11q c]
      rw[el]
      by_cases e1:z=t.b
      ·rw[al11q e1,al11q (Or.inr e1:z=t.a\/z=t.b)];rfl
      ·rw[al7q e1]
       by_cases e2:z=t.a
       ·rw[al11q e2,al11q (Or.inl e2:z=t.a\/z=t.b)];rfl
       ·rw[al7q e2,al7q (fun q:z=t.a\/z=t.b=>q.elim e2 e1)]
     ·have c:¬t.k=SAME:=fun z=>c (al15q (al67q V.str z))
      refine⟨_,_,rfl,q3,?_⟩;rw[hd3,zga ht];unfold lst1;rw[al7q c]
    ·rintro σ H3 ⟨v4,v5,rfl,q3,hd3⟩;rw[al1q,hlen,al23q] at hd3;exact⟨_,_,_,rfl,q3,hd3⟩
   ·rintro σ H2 ⟨v3,v4,v5,rfl,q2,hd2⟩;refine⟨_,rfl,k pd _ q2 hpd ?_⟩;rw[hd2,lu,zct (zq1 hts)]
inductive sp_llinks' (vs:List V) (H:Hp) (Q:VK):Prop
 | mk (p pu pt:ty1q) (x y:V) (us:List Str) (ads:List ty1q) (ts:List Tie) (_:vs = [.ref p]) (_:Tel K H p pu pt x y us ads ts) (_:∀(q:ty1q) (ls:List ty1q) (H':Hp),Same H H'->H q=none->H' q=some (.lst (ls.map V.ref))->Tups H' ls ((lnkL ts (ts.zip ads)).map lrV)->Q (.ref q) H')
def zp6:Sp:=fun vs H Q _=>sp_llinks' (K:=K) vs H Q
theorem ziq (T:Tx K mg w zk zo zg zm):Has P w K mg base "_law_links" ["_law_telling"] 2 (zp6 (K:=K)):=by
 refine T.zix.has sc__law_links (fun vs H Q E h=>?_) (fun f cdv A outer s H vs Q E hr h=>?_)
 ·obtain⟨p,pu,pt,x,y,us,ads,ts,rfl,_⟩:=h;rfl
 ·obtain⟨p,pu,pt,x,y,us,ads,ts,rfl,hT,k⟩:=h;have hu:=zbp hr;refine⟨_,(zc (sset (i:=1) sc__law_links.nd (pfn (zdb T) (za (pv 0) zd)))
   (zc (sset (i:=2) sc__law_links.nd (zad zd))
   (zc (zac al21q rfl (zr K rfl (pix (zh K rfl) (pv 0) ze)) (gnm (i:=3) sc__law_links.nd) (zf (zaz (zw zdu (pix (zh K rfl) (pv 3) ze) zaw (zae _)) (zf (zat (zbz K rfl PySem.F.plainAttrs_list PySem.F.slot_list_append PySem.F.type_list_append zar (pv 2) (za (zao (za (zp hu (pv 1) (pix (zh K rfl) (pv 3) ze) (fun _ _=>rfl)) (za (zp hu (pv 1) (pix (zh K rfl) (pv 3) ze) (fun _ _=>rfl)) (za (pix (zh K rfl) (pv 3) ze) (za (pv 3) zd))))) zd)))) (zf (zaz (zw zqf (pix (zh K rfl) (pv 3) ze) zaw (zae _)) (zf (zat (zbz K rfl PySem.F.plainAttrs_list PySem.F.slot_list_append PySem.F.type_list_append zar (pv 2) (za (zao (za (zp hu (pv 1) (pix (zh K rfl) (pv 3) ze) (fun _ _=>rfl)) (za (zp hu (pv 1) (pix (zh K rfl) (pv 3) ze) (fun _ _=>rfl)) (za ze (za (pv 3) zd))))) zd)))) zz)))))
   (zf (zy (pv 2)))))),?_⟩
  refine⟨_,rfl,p,pu,pt,x,y,us,ads,ts,rfl,hT,fun pd H1 s1 fpd hd=>?_⟩;have hts:=hT.ends;have hlen:=hT.len
  try dsimp only [zn]
  refine⟨by decide,fun q0 hq0=>?_⟩;have s2:=Same.new (o:=.lst []) hq0;have T2:=hT.same (s1.trans s2);refine⟨_,rfl,p,_,_,_,rfl,rfl,T2.p,rfl,pt,rfl,⟨_,T2.t⟩,zaa (xs:=ads.map V.ref) (fun i σ H'=>∃(v3:Option V) (ls:List ty1q),σ = [some (.ref p),some (.ref pd),some (.ref q0),v3]/\Same H1 H'/\H' q0=some (.lst (ls.map V.ref))/\Tups H' ls (lnkR ts ((ts.zip ads).take i)))
   ⟨none,[],rfl,s2,zb,.nil⟩ (fun i σ H' _ h=>by obtain⟨_,_,_,q,_⟩:=h;exact (hT.same (s1.trans q)).t) ?_ ?_⟩
  ·rintro i x σ H3 hx ⟨v3,ls,rfl,q3,hq3,tl⟩;have T3:=hT.same (s1.trans q3);obtain⟨r,t,rfl,ht,har,hr3⟩:=zc8 T3.tt hx;have hzi:(ts.zip ads)[i]? = some (t,r):=al85q.mpr ⟨ht,har⟩;have tok:=hT.ok t (al6q ht);have hab:=hts t (al6q ht);have ll:ls.length<=900:=by
    have h1:=tl.len;have h2:=zq2 (ts:=ts) (z:=(ts.zip ads).take i);have h3:=hT.tl;rw[al25q,al90q] at h2;lia
   have g1:=DGet.k (k:=Sum.inr t.a) (q3 _ _ hd);have g2:=DGet.k (k:=Sum.inr t.b) (q3 _ _ hd);rw[zb1 hab.1] at g1;rw[zb1 hab.2] at g2;have fin:∀b0,H3 b0=none->t.k≠SAME->∃(v3:Option V) (ls':List ty1q),[some (.ref p),some (.ref pd),some (.ref q0),some (V.ref r)] = [some (.ref p),some (.ref pd),some (.ref q0),v3]/\Same H1 (upd (upd H3 b0 (.tup [.str (labs ts t.a),.str (labs ts t.b),.int (zx t),.ref r])) q0 (.lst (ls.map V.ref++[.ref b0])))/\
     upd (upd H3 b0 (.tup [.str (labs ts t.a),.str (labs ts t.b),.int (zx t),.ref r])) q0 (.lst (ls.map V.ref++[.ref b0])) q0=some (.lst (ls'.map V.ref))/\Tups (upd (upd H3 b0 (.tup [.str (labs ts t.a),.str (labs ts t.b),.int (zx t),.ref r])) q0 (.lst (ls.map V.ref++[.ref b0]))) ls' (lnkR ts ((ts.zip ads).take (i+1))):=by
    intro b0 hb0 c;have t0:=Same.new (o:=.tup [.str (labs ts t.a),.str (labs ts t.b),.int (zx t),.ref r]) hb0;have hq3':=t0 _ _ hq3;refine⟨_,ls++[b0],rfl,(q3.trans t0).upd hq0,by rw[zb,al16q];rfl,?_⟩;rw[zh2 hzi,al11q c];exact Tups.snoc ((tl.same t0).stay (zaf hq3')) (zaf hq3' _ _ zb)
   try dsimp only [zn]
   refine⟨_,rfl,r,_,_,_,rfl,rfl,SqT.of hr3,zf4 t,rfl,_,rfl,?_⟩;refine ite2 (fun c=>?_) (fun c=>?_)
   ·have c:t.k=zls:=V.str.inj (al17q c);refine⟨_,rfl,.inl ⟨rfl,_,SqL.of hq3⟩,_,rfl,_,rfl,r,_,_,_,rfl,rfl,SqT.of hr3,zf5 t,pd,_,rfl,g1,_,rfl,_,rfl,r,_,_,_,rfl,rfl,SqT.of hr3,zf6 t,pd,_,rfl,g2,_,rfl,r,_,_,_,rfl,rfl,SqT.of hr3,tok.after c,_,rfl,(by show 4<=sizeLine;decide),fun b0 hb0=>?_⟩;refine⟨q0,_,_,rfl,rfl,Same.new hb0 _ _ hq3,by rw[al1q];exact zq (by lia),?_⟩;exact fin b0 hb0 (by rw[c];decide)
   ·have c:¬t.k=zls:=fun z=>c (al15q (al67q V.str z))
    refine⟨_,rfl,r,_,_,_,rfl,rfl,SqT.of hr3,zf4 t,rfl,_,rfl,?_⟩;refine ite2 (fun c2=>?_) (fun c2=>?_)
    ·have c2:t.k≠SAME:=by
      intro z;simp[z,SAME] at c2
     refine⟨_,rfl,.inl ⟨rfl,_,SqL.of hq3⟩,_,rfl,_,rfl,r,_,_,_,rfl,rfl,SqT.of hr3,zf5 t,pd,_,rfl,g1,_,rfl,_,rfl,r,_,_,_,rfl,rfl,SqT.of hr3,zf6 t,pd,_,rfl,g2,_,rfl,(by show 4<=sizeLine;decide),fun b0 hb0=>?_⟩;refine⟨q0,_,_,rfl,rfl,Same.new hb0 _ _ hq3,by rw[al1q];exact zq (by lia),?_⟩;have:=fin b0 hb0 c2;rw[tok.plain c] at this;exact this
    ·have c2:t.k=SAME:=by simpa[SAME] using c2
     refine⟨_,ls,rfl,q3,hq3,?_⟩;rw[zh2 hzi,al7q (fun z=>z c2),al53q];exact tl
  ·rintro σ H3 ⟨v3,ls,rfl,q3,hq3,tl⟩;rw[al1q] at tl;have ez:(ts.zip ads).take ads.length=ts.zip ads:=al98q (by rw[al90q];lia);rw[ez,zt1] at tl;exact⟨_,rfl,k q0 ls _ (s1.trans q3) (s1.free hq0) hq3 tl⟩
inductive sp_lkeeps' (vs:List V) (H:Hp) (Q:VK):Prop
 | mk (p pm pu pt pf:ty1q) (lo hi:Int) (us:List Str) (ads:List ty1q) (ts:List Tie) (af:List ty1q) (fs:List Fnd) (py:ty1q) (oy:Obj) (yr:Str->Int) (_:vs = [.ref p,.ref py]) (_:TelF K H p pm pu pt pf lo hi us ads ts af fs) (_:YrAt H py oy (keysOf ts (srt us)) yr) (_:∀(H':Hp),Same H H'->Q (.bl (lawB lo hi (keysOf ts (srt us)) ts fs (lnkL ts (ts.zip ads)) yr)) H')
def zp7:Sp:=fun vs H Q _=>sp_lkeeps' (K:=K) vs H Q
theorem zir (T:Tx K mg w zk zo zg zm):Has P w K mg base "_law_keeps" ["_law_telling","_law_years"] 4 (zp7 (K:=K)):=by
 refine T.ziy.has sc__law_keeps (fun vs H Q E h=>?_) (fun f cdv A outer s H vs Q E hr h=>?_)
 ·obtain⟨p,pm,pu,pt,pf,lo,hi,us,ads,ts,af,fs,py,oy,yr,rfl,_⟩:=h;rfl
 ·obtain⟨p,pm,pu,pt,pf,lo,hi,us,ads,ts,af,fs,py,oy,yr,rfl,hF,hy,k⟩:=h;have hu:=zbp hr;refine⟨_,(zc (sset (i:=2) sc__law_keeps.nd (pfn (zdb T) (za (pv 0) zd)))
   (zc (zac al21q rfl (zbx (pv 1)) (gnm (i:=3) sc__law_keeps.nd) (zf (zaz (zfv (zgn zlm zlm (pix (zh K rfl) (pix (zh K rfl) (pv 0) ze) ze) (zp hu (pv 1) (pv 3) (fun _ _=>rfl)) (pix (zh K rfl) (pix (zh K rfl) (pv 0) ze) ze))) (zf (zy zec)) zz)))
   (zc (zac al21q rfl (zr K rfl (pix (zh K rfl) (pv 0) ze)) (gnm (i:=4) sc__law_keeps.nd) (zf (zaz (zfv (zgn zlm zlm (pix (zh K rfl) (pv 4) ze) (zp hu (pv 1) (zp hu (pv 2) (pix (zh K rfl) (pv 4) ze) (fun _ _=>rfl)) (fun _ _=>rfl)) (pix (zh K rfl) (pv 4) ze))) (zf (zy zec)) zz)))
   (zc (zac al21q rfl (zr K rfl (pfn (ziq T) (za (pv 0) zd))) (gnm (i:=5) sc__law_keeps.nd) (zf (zaz (zw zll (zp hu (pv 1) (pix (zh K rfl) (pv 5) ze) (fun _ _=>rfl)) (zah zbb (zp hu (pv 1) (pix (zh K rfl) (pv 5) ze) (fun _ _=>rfl)) (pix (zh K rfl) (pv 5) ze)) (zae _)) (zf (zy zec)) zz)))
   (zf (zy zec)))))),?_⟩
  have hts:=hF.tel.ends;have hfu:=hF.fu;have lkk:=zig (us:=us) (ts:=ts) (ads:=ads) hts;have lks:=fun (x:Str) (hx:x∈us)=>zcn (ts:=ts) hts hx
  have no:¬(lawB lo hi (keysOf ts (srt us)) ts fs (lnkL ts (ts.zip ads)) yr=true)->∀H',Same H H'->Q (.bl false) H':=fun n H' s'=>by
   have:=k H' s';rw[show lawB lo hi (keysOf ts (srt us)) ts fs (lnkL ts (ts.zip ads)) yr=false by simpa using n] at this;exact this
  have yes:lawB lo hi (keysOf ts (srt us)) ts fs (lnkL ts (ts.zip ads)) yr=true->∀H',Same H H'->Q (.bl true) H':=fun n H' s'=>by
   have:=k H' s';rw[n] at this;exact this
  rw[lawB_iff] at no yes;refine⟨_,rfl,p,pu,pt,_,_,us,ads,ts,rfl,hF.tel,fun pb H1 s1 fpb hb=>?_⟩;generalize keysOf ts (srt us)=keys at hy lkk lks no yes;have hy1:H1 py=some (.frz oy (.dK (dV keys fun k=>.int (yr k)))):=s1 _ _ hy
  try dsimp only [zn]
  refine⟨_,rfl,py,oy,_,rfl,hy1,zb9 (fun i σ H'=>∃(v3:Option V),σ = [some (.ref p),some (.ref py),some (.ref pb),v3,none,none]/\Same H1 H'/\∀k∈keys.take i,okK lo hi yr k=true)
   ⟨none,rfl,Same.refl _,fun k hk=>by simp at hk⟩ (fun i σ H' _ h=>by obtain⟨_,_,q,_⟩:=h;exact q _ _ hy1) ?_ ?_⟩
  ·rintro i kk vv σ H2 hx ⟨v3,rfl,q2,ok2⟩;obtain⟨u,hu',rfl,_⟩:=zjk hx;have huk:u∈keys:=al6q hu';have F2:=hF.same (s1.trans q2);have hy2:=q2 _ _ hy1
   try dsimp only [zn]
   refine zcx (!okK lo hi yr u) (fun Q' hQ=>?_) ?_
   ·refine⟨_,rfl,p,_,_,_,rfl,rfl,F2.tel.p,rfl,pm,_,_,_,rfl,rfl,F2.m,rfl,_,rfl,_,rfl,py,_,rfl,zav hy2 huk,_,_,rfl,rfl,_,rfl,?_⟩;unfold okK at hQ;refine ite2 (fun c=>?_) (fun c=>?_)
    ·rw[c,Bool.true_and] at hQ;exact⟨_,rfl,p,_,_,_,rfl,rfl,F2.tel.p,rfl,pm,_,_,_,rfl,rfl,F2.m,rfl,_,_,rfl,rfl,_,rfl,hQ⟩
    ·have c:decide (lo<=yr u)=false:=by simpa using c
     rw[c,al153q] at hQ;exact⟨_,rfl,hQ⟩
   ·refine ite2 (fun c=>?_) (fun c=>?_)
    ·refine no (fun z=>?_) _ (s1.trans q2);rw[z.1 u huk] at c;cases c
    ·refine⟨_,rfl,q2,fun k hk=>?_⟩;rw[al9q,hu',al28q] at hk;rcases hk with hk | hk
     ·exact ok2 k hk
     ·have:k=u:=by simpa using hk
      rw[this];simpa using c
  rintro σ H2 ⟨v3,rfl,q2,ok2⟩;rw[zas,al23q] at ok2;have F2:=hF.same (s1.trans q2);have hy2:=q2 _ _ hy1;have hb2:=q2 _ _ hb;refine⟨_,rfl,p,_,_,_,rfl,rfl,F2.tel.p,rfl,pf,rfl,⟨_,F2.f⟩,zaa (xs:=af.map V.ref) (fun i σ H'=>∃(v4:Option V),σ = [some (.ref p),some (.ref py),some (.ref pb),v3,v4,none]/\Same H2 H'/\∀f∈fs.take i,okF ts yr f=true)
   ⟨none,rfl,Same.refl _,fun k hk=>by simp at hk⟩ (fun i σ H' _ h=>by obtain⟨_,_,q,_⟩:=h;exact (F2.same q).f) ?_ ?_⟩
  ·rintro i x σ H3 hx ⟨v4,rfl,q3,ok3⟩;obtain⟨r,f,rfl,hf,har,hr⟩:=zc8 (F2.same q3).ft hx;have hfm:=al6q hf;have hkk:=lks f.u (hfu f hfm);have hy3:=q3 _ _ hy2;have g1:=DGet.k (k:=Sum.inr f.u) (q3 _ _ hb2);rw[zb1 (hfu f hfm)] at g1
   try dsimp only [zn]
   refine zcx (!okF ts yr f) (fun Q' hQ=>?_) ?_
   ·refine⟨_,rfl,r,_,_,_,rfl,rfl,SqT.of hr,zsp f,_,rfl,_,rfl,_,rfl,r,_,_,_,rfl,rfl,SqT.of hr,zso f,pb,_,rfl,g1,py,_,rfl,zav hy3 hkk,_,_,rfl,rfl,_,rfl,?_⟩;unfold okF at hQ;refine ite2 (fun c=>?_) (fun c=>?_)
    ·rw[c,Bool.true_and] at hQ;exact⟨_,rfl,r,_,_,_,rfl,rfl,SqT.of hr,zsq f,_,_,rfl,rfl,_,rfl,hQ⟩
    ·have c:decide (f.lo<=yr (labs ts f.u))=false:=by simpa using c
     rw[c,al153q] at hQ;exact⟨_,rfl,hQ⟩
   ·refine ite2 (fun c=>?_) (fun c=>?_)
    ·refine no (fun z=>?_) _ (s1.trans (q2.trans q3));rw[z.2.1 f hfm] at c;cases c
    ·refine⟨_,rfl,q3,fun g hg=>?_⟩;rw[al9q,hf,al28q] at hg;rcases hg with hg | hg
     ·exact ok3 g hg
     ·have:g=f:=by simpa using hg
      rw[this];simpa using c
  rintro σ H3 ⟨v4,rfl,q3,ok3⟩;rw[al1q,hF.flen,al23q] at ok3;have F3:=F2.same q3;have hy3:=q3 _ _ hy2;refine⟨_,rfl,p,pu,pt,_,_,us,ads,ts,rfl,F3.tel,fun pk ls H4 s4 fpk hpk tl=>?_⟩;have hll:ls.length=(lnkL ts (ts.zip ads)).length:=by have:=tl.len;rw[al1q] at this;exact this
  have hy4:=s4 _ _ hy3;refine⟨pk,rfl,⟨_,SqL.of hpk⟩,zaa (xs:=ls.map V.ref) (fun i σ H'=>∃(v5:Option V),σ = [some (.ref p),some (.ref py),some (.ref pb),v3,v4,v5]/\Same H4 H'/\∀q∈(lnkL ts (ts.zip ads)).take i,okL yr q=true)
   ⟨none,rfl,Same.refl _,fun k hk=>by simp at hk⟩ (fun i σ H' _ h=>by obtain⟨_,_,q,_⟩:=h;exact SqL.of (q _ _ hpk)) ?_ ?_⟩
  ·rintro i x σ H5 hx ⟨v5,rfl,q5,ok5⟩;obtain⟨r,⟨a,b,g,t⟩,rfl,hlr,har,hr⟩:=zc8 (tl.same q5) hx;have hm:=al6q hlr;obtain⟨ha,hb'⟩:=lkk _ hm;have hy5:=q5 _ _ hy4
   try dsimp only [zn]
   refine zcx (!okL yr (a,b,g,t)) (fun Q' hQ=>?_) ?_
   ·refine⟨_,rfl,_,rfl,r,_,_,_,rfl,rfl,SqT.of hr,rfl,py,_,rfl,zav hy5 ha,_,rfl,_,rfl,r,_,_,_,rfl,rfl,SqT.of hr,rfl,py,_,rfl,zav hy5 hb',_,rfl,r,_,_,_,rfl,rfl,SqT.of hr,rfl,_,_,rfl,rfl,_,_,rfl,rfl,_,rfl,?_⟩;have e:(!okL yr (a,b,g,t))=decide (yr a<yr b+g):=by
     unfold okL;rw[al101q,Bool.not_eq_true',decide_eq_false_iff_not,al39q];show ¬(yr b+g<=yr a)↔_;lia
    rw[e] at hQ;exact hQ
   ·refine ite2 (fun c=>?_) (fun c=>?_)
    ·refine no (fun z=>?_) _ (s1.trans (q2.trans (q3.trans (s4.trans q5))));rw[z.2.2 _ hm] at c;cases c
    ·refine⟨_,rfl,q5,fun q' hq'=>?_⟩;rw[al9q,hlr,al28q] at hq';rcases hq' with hq' | hq'
     ·exact ok5 q' hq'
     ·have:q'=(a,b,g,t):=by simpa using hq'
      rw[this];simpa using c
  rintro σ H5 ⟨v5,rfl,q5,ok5⟩;rw[al1q,hll,al23q] at ok5;exact yes ⟨ok2,ok3,ok5⟩ _ (s1.trans (q2.trans (q3.trans (s4.trans q5))))
inductive sp_dat' (C:ty1q) (vs:List V) (H:Hp) (Q:VK) (E:XK):Prop
 | mk (p pm pu pt pf:ty1q) (lo hi:Int) (us:List Str) (ads:List ty1q) (ts:List Tie) (af:List ty1q) (fs:List Fnd) (nm:Str) (y:Int) (f g:Str->Int) (_:vs = [.ref p,.str nm,.int y]) (_:TelF K H p pm pu pt pf lo hi us ads ts af fs) (_:NoR (za1 ts (ts.zip ads)) (keysOf ts (srt us))) (_:zc0 lo hi us ads ts af fs) (_:nm∈us) (_:fs.length<=59) (_:(∀k∈keysOf ts (srt us),LoIs (rwOf ts (ts.zip ads)) (FlF ts lo (fs.zip af)) k (f k))) (_:(∀k∈keysOf ts (srt us),HiIs (rwOf ts (ts.zip ads)) (CeF ts hi (fs.zip af)) k (g k))) (_:(f (labs ts nm)<=y->y<=g (labs ts nm)->∀(q:ty1q) (as:List ty1q) (h:Str->Int) (H':Hp),Same H H'->H q=none->H' q=some (.lst (as.map V.ref))->Paired (fun a k=>H' a=some (.tup [.str k,.int (h k)])) as (keysOf ts (srt us))->Dt (rwOf ts (ts.zip ads)) (keysOf ts (srt us)) f g h (labs ts nm) y->Q (.ref q) H')) (_:(¬(f (labs ts nm)<=y/\y<=g (labs ts nm))->∀H',Same H H'->E (.ref C) none H'))
def zwt (C:ty1q):Sp:=fun vs H Q E=>sp_dat' (K:=K) C vs H Q E
theorem zr1 (T:Tx K mg w zk zo zg zm):HasX P w K mg base "dating" ["telling","name","year"] 9 (zwt (K:=K) zm):=by
 refine T.zr8.hasX sc_dating (fun vs H Q E h=>?_) (fun f cdv A outer s H vs Q E hr h=>?_)
 ·obtain⟨p,pm,pu,pt,pf,lo,hi,us,ads,ts,af,fs,nm,y,f,g,rfl,_⟩:=h;rfl
 ·obtain⟨p,pm,pu,pt,pf,lo,hi,us,ads,ts,af,fs,nm,y,f,g,rfl,hF,nr,no,hnm,fl,hf,hg,kQ,kE⟩:=h;have hu:=zbp hr;refine⟨_,(zc (zat (zsz (zcg T) zg3 (hr.mono (by decide)) (by rfl) (za (pv 0) zd)))
   (zc (sset (i:=3) sc_dating.nd (zp hu (pfn (zcb T) (za (pix (zh K rfl) (pv 0) ze) (za (pix (zh K rfl) (pv 0) ze) zd))) (pv 1) (fun _ _=>rfl)))
   (zc (zaz (zfv (zgn zlm zlm (pix (zh K rfl) (zp hu (pfn (zda T) (za (pv 0) zd)) (pv 3) (fun _ _=>rfl)) ze) (pv 2) (pix (zh K rfl) (zp hu (pfn (zdr T) (za (pv 0) zd)) (pv 3) (fun _ _=>rfl)) ze))) (zf (zpf T.zp9 T.zqa hr zg3 (by rfl) T.zit)) zz)
   (zc (sset (i:=4) sc_dating.nd (zah (zpi K rfl) (pix (zh K rfl) (pv 0) ze) (zad (za (zao (za zaw (za (pv 1) (za (pv 2) (za (pv 2) zd))))) zd))))
   (zc (sset (i:=5) sc_dating.nd (pfn (zda T) (za (zao (za (pix (zh K rfl) (pv 0) ze) (za (pix (zh K rfl) (pv 0) ze) (za (pix (zh K rfl) (pv 0) ze) (za (pv 4) zd))))) zd)))
   (zf (zy (zb4 (own:=["each"]) (cap:=["chains"]) (ix:=[5]) (osc:=zj (top 33)) rfl ⟨rfl,by decide +kernel,by decide +kernel,by decide +kernel,by decide +kernel⟩ rfl (zbx (pv 5)) (fun _ _ _ _=>zbg (i:=0) (show List.Nodup (["each","chains"]:List Str) by decide +kernel) rfl (Or.inl rfl)) (fun _ _ _ _=>zb3) (fun _ _ _ _=>(zao (za (pv 0) (za (pix (zh K rfl) (zp hu (pv 1) (pv 0) (fun _ _=>rfl)) ze) zd)))))))))))),?_⟩
  have hts:=hF.tel.ends;have hlk:=zcn (ts:=ts) hts hnm;have lk:=hF.tel.klen;refine⟨_,rfl,p,pm,pu,pt,pf,lo,hi,us,ads,ts,af,fs,rfl,hF,nr,fun H1 s1 _=>?_,fun d r c w H1 s1 _ _ ri=>?_⟩
  ·have F1:=hF.same s1;have T1:=F1.tel
   try dsimp only [zn]
   refine⟨_,rfl,p,_,_,_,rfl,rfl,T1.p,rfl,_,rfl,p,_,_,_,rfl,rfl,T1.p,rfl,pu,pt,us,ads,ts,rfl,T1.u,T1.t,T1.tt,T1.nd,by have:=T1.ul;lia,hts,fun pn H2 fpn hn s2=>?_⟩;have g1:=DGet.k (k:=Sum.inr nm) hn;rw[zb1 hnm] at g1;refine⟨_,rfl,pn,_,rfl,g1,?_⟩;have q2:=s1.trans s2
   try dsimp only [zn]
   refine zbs (!(decide (f (labs ts nm)<=y)&&decide (y<=g (labs ts nm)))) (fun Q' hQ=>?_) (fun H5 s5=>?_)
   ·refine⟨_,rfl,p,pm,pu,pt,pf,lo,hi,us,ads,ts,af,fs,rfl,hF.same q2,nr,fun pa oa va aa H3 s3 fpa hpa hca ua=>?_⟩;obtain⟨la,a1,_⟩:=hca _ hlk;have eu:=(hf _ hlk).uniq (ua _ hlk).2;refine⟨_,rfl,pa,_,rfl,zav hpa hlk,aa (labs ts nm),_,_,_,rfl,rfl,SqT.of a1,rfl,_,rfl,_,_,rfl,rfl,_,rfl,?_⟩;rw[←eu];refine ite2 (fun c=>?_) (fun c=>?_)
    ·rw[c,Bool.true_and] at hQ;refine⟨_,rfl,p,pm,pu,pt,pf,lo,hi,us,ads,ts,af,fs,rfl,hF.same (q2.trans s3),nr,fun pb ob vb ab H4 s4 fpb hpb hcb ub=>?_⟩;obtain⟨lb,b1,_⟩:=hcb _ hlk;have ed:=(hg _ hlk).uniq (ub _ hlk).2;refine⟨_,rfl,pb,_,rfl,zav hpb hlk,ab (labs ts nm),_,_,_,rfl,rfl,SqT.of b1,rfl,_,_,rfl,rfl,_,rfl,?_⟩;rw[←ed];exact hQ _ (s3.trans s4)
    ·have c:decide (f (labs ts nm)<=y)=false:=by simpa using c
     rw[c,al153q] at hQ;exact⟨_,rfl,hQ _ s3⟩
   have q5:=q2.trans s5;refine ite2 (fun c=>?_) (fun c=>?_)
   ·refine kE (fun z=>?_) _ q5;rw[al15q z.1,al15q z.2] at c;cases c
   ·have c:f (labs ts nm)<=y/\y<=g (labs ts nm):=by simpa using c
    have F5:=hF.same q5
    try unfold zfj
    try dsimp only
    refine⟨_,rfl,p,_,_,_,rfl,rfl,F5.tel.p,rfl,_,rfl,_,rfl,_,rfl,(by show 4<=sizeLine;decide),fun b0 hb0=>?_⟩;have t1:=Same.new (o:=.tup (fndV ⟨"",nm,y,y⟩)) hb0;refine⟨by show 1<=sizeLine;decide,fun l0 hl0=>?_⟩;have t2:=Same.new (o:=.lst [.ref b0]) hl0;have t12:=t1.trans t2;have F6:=F5.same t12;have hb06:=t2 _ _ (zb (H:=H5) (a:=b0) (o:=.tup (fndV ⟨"",nm,y,y⟩)));have lf:=hF.flen;refine⟨pf,l0,_,_,rfl,rfl,F6.f,SqL.of zb,by rw[al1q];exact zau (show _+1<=1000 by lia),fun l1 hl1=>?_⟩;have t3:=Same.new (o:=.lst (af.map V.ref++[.ref b0])) hl1;have t13:=t12.trans t3;have F7:=F5.same t13
    try dsimp only [zn]
    refine⟨_,rfl,p,_,_,_,rfl,rfl,F7.tel.p,rfl,_,rfl,p,_,_,_,rfl,rfl,F7.tel.p,rfl,_,rfl,p,_,_,_,rfl,rfl,F7.tel.p,rfl,_,rfl,(by show 4<=sizeLine;decide),fun p2 hp2=>?_⟩;have t4:=Same.new (o:=.tup [.ref pm,.ref pu,.ref pt,.ref l1]) hp2;have t14:=t13.trans t4;have F8:=F5.same t14;have q8:=q5.trans t14;have G8:TelF K (upd (upd (upd (upd H5 b0 (.tup (fndV ⟨"",nm,y,y⟩))) l0 (.lst [.ref b0])) l1 (.lst (af.map V.ref++[.ref b0]))) p2 (.tup [.ref pm,.ref pu,.ref pt,.ref l1])) p2 pm pu pt l1 lo hi us ads ts (af++[b0]) (fs++[⟨"",nm,y,y⟩]):=by
     refine⟨⟨SqT.of zb,F8.tel.u,F8.tel.t,F8.tel.tt,F8.tel.nd,F8.tel.ul,F8.tel.tl,F8.tel.ok⟩,F8.m,SqL.of ?_,?_,fun f hf=>?_,by rw[al20q];show _+1<=60;lia⟩
     ·rw[al16q];exact t4 _ _ zb
     ·rw[al16q];exact Tups.snoc F8.ft (t4 _ _ (t3 _ _ hb06))
     ·rcases zaq hf with z | z
      ·exact hF.fu f z
      ·rw[z];exact hnm
    refine⟨p2,pm,pu,pt,l1,lo,hi,us,ads,ts,af++[b0],fs++[(⟨"",nm,y,y⟩:Fnd)],rfl,G8,nr,fun pc oc vc ac H9 s9 fpc hpc hcc uc=>?_⟩;have q9:=q8.trans s9;have lf':(af++[b0]).length=(fs++[(⟨"",nm,y,y⟩:Fnd)]).length:=by rw[al20q,al20q,lf];rfl
    have lo':∀k,lowF ts (fs++[(⟨"",nm,y,y⟩:Fnd)]) lo k=if labs ts nm=k then mxI (lowF ts fs lo k) y else lowF ts fs lo k:=fun k=>zih
    have nr':=nr;rw[zbm] at nr';have D:Dt (rwOf ts (ts.zip ads)) (keysOf ts (srt us)) f g (fun k=>(vc k).1) (labs ts nm) y:=dt_of (ze4 hts) nr' hlk hf hg (fun k hk=>(uc k hk).2) (zep hts hf hg no) c (fun k=>ze5 lf k) (fun k m hm=>hm.low lf) (fun k=>by rw[←lo'];exact ze5 lf' k) (fun k m hm=>by rw[←lo'];exact hm.low lf');have kQ':=kQ c.1 c.2;clear uc kQ kE;generalize keysOf ts (srt us)=keys at *
    try dsimp only [zn]
    refine⟨_,rfl,pc,oc,_,rfl,hpc,fun D hD=>?_⟩;refine zbi (zg1 (a:=pc) (ob:=oc) (kvs:=dV keys fun k=>.ref (ac k))) (fun i σ' ys H'=>∃(w0:Option V) (as:List ty1q),σ' = [w0,some (.ref pc)]/\ys=as.map V.ref/\Paired (fun a k=>H' a=some (.tup [.str k,.int (vc k).1])) as (keys.take i)/\Same H9 H'/\H' D=some (.lst ys))
     ⟨none,[],rfl,rfl,.nil,Same.new hD,zb⟩ (fun i σ' ys H' h=>?_) (by rw[al1q,zas];exact zau (by lia)) ?_ ?_
    ·obtain⟨_,as,_,rfl,pb',q,hd⟩:=h;refine⟨q _ _ hpc,hd,?_⟩;have:=Paired.length pb';rw[al25q] at this;rw[al1q];lia
    ·rintro i x σ' ys H10 hx ⟨w0,as,rfl,rfl,pr,q10,hd10⟩;have hix:=zag hx;rw[zgw,al10q] at hx;cases eu:keys[i]? with
     | none=>rw[eu] at hx;cases hx
     | some u=>
      rw[eu] at hx;cases hx;have hu':u∈keys:=al6q eu;obtain⟨lc,h1,_⟩:=(hcc u hu').same q10
      try dsimp only [zn]
      unfold tYes;dsimp only;rw[al11q rfl];refine⟨_,rfl,_,rfl,_,rfl,pc,_,rfl,zav (q10 _ _ hpc) hu',ac u,_,_,_,rfl,rfl,SqT.of h1,rfl,(by show 2<=sizeLine;decide),fun b1 hb1=>?_⟩;have w1:=Same.new (o:=.tup [.str u,.int (vc u).1]) hb1;have hd1:=w1 _ _ hd10;refine⟨hd1,zdy hix ⟨_,as++[b1],rfl,by rw[al16q];rfl,?_,(q10.trans w1).upd hD,zb⟩⟩;rw[al9q,eu];exact Paired.snoc (Paired.mapP pr fun a z e=>zaf hd1 _ _ (w1 _ _ e)) (zaf hd1 _ _ zb)
    rintro σ' ys H10 ⟨w0,as,rfl,rfl,pr,q10,hd10⟩;rw[al1q,zas,al23q] at pr;exact kQ' D as (fun k=>(vc k).1) _ (q9.trans q10) (q9.free hD) hd10 pr (by assumption)
  ·obtain⟨kk,m,hk,u,gg,_,hl,_⟩:=ri;have:=no kk hk c m u gg;lia
def plcF (c:Int):V->V
 | .int z=>.int (pt c (70+z) 6)
 | _=>.non
theorem zuw {us:List Str}{t:Tie}(h:TOk us t) (e:t.k = "after"):∃n,tieV t = [.str "after",.str t.a,.str t.b,.int n]/\TOk us ⟨"after",t.a,t.b,some (n%3)⟩:=by
 have ok:=h.ok;obtain⟨k,a,b,g⟩:=t;dsimp only at e;subst e;cases g with
 | none=>
  generalize hw:tieV ⟨"after",a,b,none⟩=ws at ok;cases ok with
  | plain hk hx hy=>
   injection hw with h1 _
   injection h1 with h1
   rw[←h1] at hk;exact absurd hk (by show ¬(Str.ofString "after"∈zjg);decide +kernel)
  | after hx hy h0 h1=>cases hw
 | some n=>
  refine⟨n,rfl,⟨?_,h.a,h.b⟩⟩;exact TieOk.after h.a h.b (al126q _ (by decide)) (by
   have h1:=al126q n (show (3:Int)≠0 by decide);have h2:=al120q n (show (0:Int)<3 by decide);show (n%3).natAbs<10 ^ 60;lia)
def zr2:Sp:=fun vs H Q _=>∃(a:ty1q) (ns:List Int),vs = [.ref a]/\SqL K H a (ns.map V.int)/\ns.length<=63/\∀(p pm pu pt pf:ty1q) (lo hi:Int) (us:List Str) (ads:List ty1q) (ts:List Tie) (af:List ty1q) (fs:List Fnd) (H':Hp),TelF K H' p pm pu pt pf lo hi us ads ts af fs->NoR (za1 ts (ts.zip ads)) (keysOf ts (srt us))->lo<=hi->hi<=lo+2->us.length<=4->fs.length<=4->Same H H'->Q (.ref p) H'
theorem zis (T:Tx K mg w zk zo zg zm):Has P w K mg base "_law_small" ["_law_script"] 5 (zr2 (K:=K)):=by
 refine T.ziw.has sc__law_small (fun vs H Q E h=>?_) (fun f cdv A outer s H vs Q E hr h=>?_)
 ·obtain⟨a,ns,rfl,_⟩:=h;rfl
 ·obtain⟨a,ns,rfl,ha,hl,k⟩:=h;refine⟨_,(zc (sset (i:=1) sc__law_small.nd (pfn (zim T) (za (pfn (zan T) (za (pv 0) (za ze zd))) (za (pfn (zan T) (za (pv 0) (za ze zd))) zd))))
   (zc (zni (i:=2) (own:=["_law_k"]) (cap:=["_law_script"]) (ix:=[0]) (osc:=zj (top 41)) rfl sc__law_small.nd rfl rfl rfl ⟨rfl,by decide +kernel,by decide +kernel,by decide +kernel,by decide +kernel⟩ rfl (zcj (by rfl) T.range (za ze zd)) (fun _ _ _ _=>zbg (i:=0) (show List.Nodup (["_law_k","_law_script"]:List Str) by decide +kernel) rfl (Or.inl rfl)) (fun _ _ _ _=>zb3) (fun _ _ _ _=>(pfn (zv T) (za (pfn (zan T) (za (pv 1) (za ze zd))) (za (zah zbb ze (pv 0)) (za ze zd))))))
   (zc (sset (i:=3) sc__law_small.nd (zah zbb ze (pfn (zv T) (za (pfn (zan T) (za (pv 0) (za ze zd))) (za ze (za ze zd))))))
   (zc (sset (i:=4) sc__law_small.nd (zah zkj (zah zdd (pfn (zan T) (za (pv 0) (za ze zd))) (zah zr9 ze ze)) (pix (zab K rfl) (zad (za ze (za (zta zm1 ze) zd))) (pfn (zv T) (za (pfn (zan T) (za (pv 0) (za ze zd))) (za ze (za ze zd)))))))
   (zc (sset (i:=5) sc__law_small.nd (zao (za (pv 4) (za (zah zbb (pv 4) (pfn (zv T) (za (pfn (zan T) (za (pv 0) (za ze zd))) (za ze (za ze zd))))) zd))))
   (zc (sset (i:=6) sc__law_small.nd (zad zd))
   (zc (zac al21q rfl (zr K rfl (pfn (zj2 T) (za (pv 1) (za (pv 2) (za (pv 3) (za (zde (zgt K rfl) (pv 0) (zc5 ze) (zc5 ze)) (za zec zd))))))) (gnm (i:=7) sc__law_small.nd) (zc (zaz (zw zdu (pix (zh K rfl) (pv 7) ze) zaw (zae _)) (zf (sset (i:=7) sc__law_small.nd (zao (za zaw (za (pix (zh K rfl) (pv 7) ze) (za (pix (zh K rfl) (pv 7) ze) (za (zah zdd (pix (zh K rfl) (pv 7) ze) ze) zd))))))) zz)
    (zf (zaz (zw (zdw K rfl (hu11 hr)) (pv 7) (pv 6) (by with_unfolding_all rfl)) (zf (zat (zbz K rfl PySem.F.plainAttrs_list PySem.F.slot_list_append PySem.F.type_list_append zar (pv 6) (za (pv 7) zd)))) zz))))
   (zc (sset (i:=8) sc__law_small.nd (zad zd))
   (zc (zac al21q rfl (zcj (by rfl) T.range (za (zap (za0 K rfl) (by rfl) T.len al198q (za (zde (zgt K rfl) (pv 0) (zc5 ze) (zc5 ze)) zd)) zd)) (gnm (i:=9) sc__law_small.nd) (zc (sset (i:=10) sc__law_small.nd (pix (zab K rfl) (pv 0) (zah zbb ze (pv 9))))
    (zc (sset (i:=11) sc__law_small.nd (zah zki (zah zbb (pv 4) (pfn (zv T) (za (pv 10) (za ze (za ze zd))))) ze))
    (zf (zat (zbz K rfl PySem.F.plainAttrs_list PySem.F.slot_list_append PySem.F.type_list_append zar (pv 8) (za (zao (za (pix (zab K rfl) (pv 1) (pv 9)) (za (pix (zab K rfl) (pv 1) (pfn (zv T) (za (pv 10) (za ze (za (pv 3) zd))))) (za (pv 11) (za (zah zbb (pv 11) (pfn (zv T) (za (pv 10) (za ze (za ze zd))))) zd))))) zd)))))))
   (zf (zy (zao (za (pv 5) (za (zde (zgt K rfl) (pv 1) zi4 (zc5 (pv 3))) (za (pv 6) (za (pv 8) zd)))))))))))))))),?_⟩
  rw[show L2.start (["_law_script","_law_names_here","_law_places","_law_many","_law_first","_law_frame","_law_ties_here","_law_tie_here","_law_finds","_law_k","_law_cell","_law_low"]:List Str) [V.ref a] = [some (V.ref a),none,none,none,none,none,none,none,none,none,none,none] from rfl]
  try dsimp only [zn,List.set]
  refine⟨_,rfl,a,ns,_,rfl,ha,by decide,_,rfl,a,ns,_,rfl,ha,by decide,_,_,rfl,fun pn xs H1 x1 x2 x3 fpn hn s1=>?_⟩
  try dsimp only [zn,List.set]
  refine⟨8,rfl,by decide,by decide,fun D hD=>?_⟩;have sD:∀ys,Same H1 (upd H1 D (.lst ys)):=fun ys=>Same.new hD
  refine znk (znj (lo:=0) (n:=8)) (fun _=>true) (plcF (zb0 ns 2)) (fun _=>trivial) (by decide) (fun v hv ys Q' q=>q) (fun v hv _ ys Q' q=>?_) ?_
  ·obtain⟨z,hz,rfl⟩:=al27q.mp hv;exact⟨_,rfl,a,ns,_,rfl,(s1.trans (sD ys)).seq ha,by decide,_,rfl,_,_,rfl,rfl,_,_,_,rfl,by decide,q⟩
  have eps:((((List.range 8).map fun i=>V.int (0+(i:Nat))).filter fun _=>true).map (plcF (zb0 ns 2)))=((List.range 8).map fun i=>pt (zb0 ns 2) (70+(0+(i:Nat))) 6).map V.int:=by
   rw[List.filter_eq_self.mpr (fun _ _=>rfl),al75q,al75q];rfl
  rw[eps];have lps:((List.range 8).map fun i=>pt (zb0 ns 2) (70+(0+(i:Nat))) 6).length=8:=by simp
  generalize ((List.range 8).map fun i=>pt (zb0 ns 2) (70+(0+(i:Nat))) 6)=ps at lps;have s2:Same H1 (upd H1 D (.lst (ps.map V.int))):=sD _;have eD:upd H1 D (.lst (ps.map V.int)) D=some (.lst (ps.map V.int)):=zb;generalize upd H1 D (.lst (ps.map V.int))=H2 at s2 eD;have q2:=s1.trans s2
  try dsimp only [zn,List.set]
  refine⟨_,rfl,a,ns,_,rfl,q2.seq ha,by decide,_,_,_,rfl,by decide,_,_,rfl,rfl,?_⟩;obtain⟨b1,b2⟩:=zb5 (zb0 ns 3) 0 4 (by decide);obtain⟨m,em⟩:∃m:Nat,1+pt (zb0 ns 3) 0 4=(m:Int):=⟨(1+pt (zb0 ns 3) 0 4).toNat,by lia⟩;have m1:1<=m:=by lia
  have m4:m<=4:=by lia
  rw[em];clear em b1 b2 eps
  try dsimp only [zn,List.set]
  refine⟨_,rfl,a,ns,_,rfl,q2.seq ha,by decide,_,_,rfl,rfl,c56,_,_,rfl,rfl,by show (0:Int)<10 ^ (56:Int).toNat;decide,?_⟩;refine⟨_,rfl,(by show 2<=sizeLine;decide),fun p1 hp1=>?_⟩;have t1:=Same.new (o:=.lst [.int 1,.int (-1)]) hp1;refine⟨_,rfl,a,ns,_,rfl,(q2.trans t1).seq ha,by decide,_,_,_,rfl,by decide,?_⟩;obtain⟨v,hv,hv'⟩:=zsh (u:=.int 1) (v:=.int (-1)) (zb5 (zb0 ns 5) 50 2 (by decide)).1 (zb5 (zb0 ns 5) 50 2 (by decide)).2;obtain⟨j,rfl,hj⟩:∃j:Int,v = .int j/\(j=1\/j = -1):=by
   rcases hv' with rfl | rfl
   ·exact⟨_,rfl,.inl rfl⟩
   ·exact⟨_,rfl,.inr rfl⟩
  refine⟨p1,_,_,_,rfl,rfl,SqL.of zb,hv,?_⟩;refine⟨_,_,rfl,rfl,.inr (by rcases hj with rfl | rfl<;>exact⟨by decide,by decide⟩),?_⟩
  try dsimp only [zn,List.set]
  obtain⟨lo,elo⟩:∃lo,lo=zb0 ns 4%10 ^ (56:Int).toNat * j:=⟨_,rfl⟩;rw[←elo];clear elo hv hv' hj;have q3:=q2.trans t1;have hn3:=(s2.trans t1) _ _ hn;have eD3:=t1 _ _ eD;have t12:=s2.trans t1;clear eD q2 s1 sD;generalize upd H2 p1 (.lst [.int 1,.int (-1)])=H3 at q3 hn3 eD3 t12
  try dsimp only [zn,List.set]
  refine⟨_,rfl,_,rfl,_,rfl,a,ns,_,rfl,q3.seq ha,by decide,_,_,_,rfl,by decide,_,_,rfl,rfl,(by show 2<=sizeLine;decide),fun pm hpm=>?_⟩;obtain⟨b1,b2⟩:=zb5 (zb0 ns 5) 51 3 (by decide);obtain⟨hi,ehi⟩:∃hi,hi=lo+pt (zb0 ns 5) 51 3:=⟨_,rfl⟩;rw[←ehi];have lh:lo<=hi:=by lia
  have lh2:hi<=lo+2:=by lia
  clear ehi b1 b2;have t2:=Same.new (o:=.tup [.int lo,.int hi]) hpm;have em:=zb (H:=H3) (a:=pm) (o:=.tup [.int lo,.int hi])
  try dsimp only [zn,List.set]
  refine⟨by decide,fun pt0 hpt=>?_⟩;have t3:=Same.new (o:=.lst []) hpt;have et:=zb (H:=upd H3 pm (.tup [.int lo,.int hi])) (a:=pt0) (o:=.lst []);have em:=t3 _ _ em;have q4:=q3.trans (t2.trans t3);have q3':=q3.trans t2;have fpt':=(t12.trans t2).free hpt;have hn4:=(t2.trans t3) _ _ hn3;have eD4:=(t2.trans t3) _ _ eD3;generalize upd (upd H3 pm (.tup [.int lo,.int hi])) pt0 (.lst [])=H4 at em et q4 hn4 eD4;clear t2 t3 hn3 eD3 q3
  try dsimp only [zn,List.set]
  obtain⟨cs,ec,lc⟩:=zrk (ns:=ns) (a:=6) (b:=16);refine⟨_,rfl,_,rfl,_,rfl,_,rfl,_,rfl,_,rfl,a,_,rfl,q4.seq ha,fun pc hpc=>?_⟩;rw[show cutV (ns.map V.int) (some 6) (some 16)=cs.map V.int from ec];have t4:=Same.new (o:=.lst (cs.map V.int)) hpc;refine⟨pn,D,pc,xs,ps,m,cs,false,rfl,SqL.of (t4 _ _ hn4),SqL.of (t4 _ _ eD4),SqL.of zb,x1,x2,x3,lps,by lia,by lia,fun pl as0 ts0 H5 tok dn tnd tlen fpl hpl tp s5=>?_⟩;have dn:=dn rfl;have lus:(xs.take m).length<=4:=by rw[al25q];lia
  have und:(xs.take m).Nodup:=x2.sublist (List.take_sublist _ _);have nmm:∀x∈xs.take m,zfk x=true:=fun x hx=>x3 x (al131q hx)
  have npl:pl≠pt0:=fun z=>by rw[z,t4 _ _ et] at fpl;cases fpl
  have la0:as0.length=ts0.length:=by have:=tp.len;rwa [al1q] at this
  have q5:=q4.trans (t4.trans s5);have em5:=(t4.trans s5) _ _ em;have et5:=(t4.trans s5) _ _ et;have hn5:=(t4.trans s5) _ _ hn4;have fpt:H pt0=none:=q3'.free hpt;clear t4 em et hn4 eD4 q4 hpc;refine⟨pl,rfl,⟨_,SqL.of hpl⟩,zaa (K:=K) (a:=pl) (xs:=as0.map V.ref) (fun i σ H'=>∃(v7:Option V) (as:List ty1q) (ts:List Tie),σ = [some (.ref a),some (.ref pn),some (.ref D),some (.int m),some (.int lo),some (.ref pm),some (.ref pt0),v7,none,none,none,none]/\(∀b o,H5 b=some o->b≠pt0->H' b=some o)/\H' pt0=some (.lst (as.map V.ref))/\Tups H' as (ts.map tieV)/\(∀t∈ts,TOk (xs.take m) t)/\(∀t∈ts,Down (plc xs ps) t)/\ts.length<=i)
   ⟨none,[],[],rfl,fun b o e _=>e,et5,.nil,by simp,by simp,al18q _⟩ (fun i σ H' _ h=>by obtain⟨_,_,_,_,kp,_⟩:=h;exact SqL.of (kp _ _ hpl npl)) ?_ ?_⟩
  ·rintro i v σ H6 hv ⟨v7,as,ts,rfl,kp,ht6,tt,ok,dw,lt⟩;have hi':=zag hv;rw[al1q] at hi';obtain⟨b,eb⟩:∃b,as0[i]? = some b:=⟨_,al3q hi'⟩;rw[al10q,eb] at hv;cases hv;obtain⟨ws,ews,hb⟩:=tp.at eb;rw[al10q] at ews;cases et0:ts0[i]? with
   | none=>rw[et0] at ews;cases ews
   | some t=>
    rw[et0] at ews;cases ews;have htm:=al6q et0;have nb:b≠pt0:=fun z=>by rw[z,et5] at hb;cases hb
    have hb6:=kp _ _ hb nb;have tok1:=tok t htm;have dn1:=dn t htm;have lta:as.length=ts.length:=by have:=tt.len;rwa [al1q] at this
    try dsimp only [zn,List.set]
    refine zo1 (fun σ H'=>∃(b':ty1q) (t':Tie),σ = [some (.ref a),some (.ref pn),some (.ref D),some (.int m),some (.int lo),some (.ref pm),some (.ref pt0),some (.ref b'),none,none,none,none]/\Same H6 H'/\H' b'=some (.tup (tieV t'))/\TOk (xs.take m) t'/\Down (plc xs ps) t') (decide (V.str t.k=V.str (Str.ofString "after"))) (fun Q' hQ=>⟨_,rfl,b,_,_,_,rfl,rfl,SqT.of hb6,znq,rfl,_,rfl,hQ _ (Same.refl _)⟩) (fun c1 H7 s7 hn=>?_) (fun c1 H7 s7 hn=>?_) ?_
    ·have c1:t.k = "after":=V.str.inj (al17q c1);obtain⟨n,et',tok'⟩:=zuw tok1 c1;have hb7:=s7 _ _ hb6;rw[et'] at hb7
     try dsimp only [zn,List.set]
     refine⟨_,rfl,b,_,_,_,rfl,rfl,SqT.of hb7,rfl,_,rfl,b,_,_,_,rfl,rfl,SqT.of hb7,rfl,_,rfl,b,_,_,_,rfl,rfl,SqT.of hb7,rfl,_,_,rfl,rfl,by show (0:Int)<3;decide,(by show 4<=sizeLine;decide),fun b' hb'=>?_⟩;refine hn _ _ ⟨b',⟨"after",t.a,t.b,some (n%3)⟩,rfl,s7.trans (Same.new hb'),zb,tok',?_⟩;rw[show Down (plc xs ps) t↔Down (plc xs ps) ⟨"after",t.a,t.b,some (n%3)⟩ from by unfold Down;rw[c1]] at dn1;exact dn1
    ·exact hn _ _ ⟨b,t,rfl,s7,s7 _ _ hb6,tok1,dn1⟩
    ·rintro σ H7 ⟨b',t',rfl,s7,hb7,tok',dn'⟩;have ht7:=s7 _ _ ht6;have tt7:=tt.same s7;have hw:∀vs∈ts.map tieV,∀v∈vs,Wd v:=fun vs hv=>by
      obtain⟨u,hu,rfl⟩:=al27q.mp hv;exact ((ok u hu).ok.words nmm).1
     try dsimp only [zn,List.set]
     refine⟨_,rfl,_,rfl,pt0,_,_,rfl,.inl (SqL.of ht7),tt7.deq (n:=7) hw hb7 (tok'.ok.words nmm).1,_,rfl,?_⟩;rw[al11q rfl];refine ite2 (fun c3=>?_) (fun c3=>?_)
     ·refine⟨_,rfl,.inl ⟨rfl,_,SqL.of ht7⟩,_,rfl,pt0,_,_,rfl,rfl,ht7,by rw[al1q];exact zq (by lia),?_⟩;refine⟨_,as++[b'],ts++[t'],rfl,fun b o e n=>by rw[zl n];exact s7 _ _ (kp b o e n),by rw[zb,al16q];rfl,?_,?_,?_,by rw[al20q];exact Nat.succ_le_succ lt⟩
      ·rw[al16q];exact Tups.snoc (tt7.stay (zaf ht7)) (zaf ht7 _ _ hb7)
      ·intro u hu;rcases al28q.mp hu with hu | hu
       ·exact ok u hu
       ·have:u=t':=by simpa using hu
        subst this;exact tok'
      ·intro u hu;rcases al28q.mp hu with hu | hu
       ·exact dw u hu
       ·have:u=t':=by simpa using hu
        subst this;exact dn'
     ·exact⟨_,as,ts,rfl,fun b o e n=>s7 _ _ (kp b o e n),ht7,tt7,ok,dw,by lia⟩
  rintro σ H6 ⟨v7,as,ts,rfl,kp,ht6,tt,ok,dw,lt⟩;have lts:ts.length<=60:=by
   have:=tp.len;rw[al1q] at this lt;lia
  have q6:Same H H6:=fun b o e=>kp b o (q5 _ _ e) (zi e fpt)
  have em6:=kp _ _ em5 (fun z=>by rw[z,et5] at em5;cases em5);have hn6:=kp _ _ hn5 (fun z=>by rw[←z] at fpt';rw[hn] at fpt';cases fpt');clear kp em5 et5 hn5 q5 hpl tp npl tok dn
  try unfold zfj
  try dsimp only [zn,List.set]
  refine⟨by decide,fun pf hpf=>?_⟩;have t7:=Same.new (o:=.lst []) hpf;have q7:=q6.trans t7;have em7:=t7 _ _ em6;have ht7:=t7 _ _ ht6;have tt7:=tt.same t7;have hn7:=t7 _ _ hn6;have ef7:=zb (H:=H6) (a:=pf) (o:=.lst []);have ff:=q6.free hpf;have nfm:pm≠pf:=zi em6 hpf;have nft:pt0≠pf:=zi ht6 hpf;have nfn:pn≠pf:=zi hn6 hpf;have nfa:∀b ws,H6 b=some (.tup ws)->b≠pf:=fun b ws e=>zi e hpf
  generalize upd H6 pf (.lst [])=H7 at t7 q7 em7 ht7 tt7 hn7 ef7;clear em6 ht6 tt hn6 q6
  try dsimp only [zn,List.set]
  refine⟨_,rfl,_,rfl,_,rfl,a,_,rfl,q7.seq ha,fun pc hpc=>?_⟩;have hcl:∀i:Nat,i<(cutV (ns.map V.int) (some 16) (some 20)).length->16+i<ns.length/\i<4:=fun i h=>by
   unfold cutV HT.sIx at h;simp at h;lia
  have t8:=Same.new (o:=.lst (cutV (ns.map V.int) (some 16) (some 20))) hpc;have ncf:pc≠pf:=fun z=>by rw[z,ef7] at hpc;cases hpc
  have cl4:(cutV (ns.map V.int) (some 16) (some 20)).length<=4:=by
   rcases Nat.lt_or_ge 4 (cutV (ns.map V.int) (some 16) (some 20)).length with h | h
   ·have:=(hcl 4 h).2;lia
   ·exact h
  have q8:=q7.trans t8;have em8:=t8 _ _ em7;have ht8:=t8 _ _ ht7;have tt8:=tt7.same t8;have hn8:=t8 _ _ hn7;have ef8:=t8 _ _ ef7;refine⟨pc,_,rfl,.inl (SqL.of zb),_,rfl,by lia,by lia,?_⟩;generalize upd H7 pc (.lst (cutV (ns.map V.int) (some 16) (some 20)))=H8 at t8 q8 em8 ht8 tt8 hn8 ef8;rw[al150q];refine zck (lo:=0) (n:=(cutV (ns.map V.int) (some 16) (some 20)).length) (fun i σ H'=>∃(v9 v10 v11:Option V) (af:List ty1q) (fs:List Fnd),σ = [some (.ref a),some (.ref pn),some (.ref D),some (.int m),some (.int lo),some (.ref pm),some (.ref pt0),v7,some (.ref pf),v9,v10,v11]/\(∀b o,H8 b=some o->b≠pf->H' b=some o)/\H' pf=some (.lst (af.map V.ref))/\Tups H' af (fs.map fndV)/\(∀f∈fs,f.u∈xs.take m)/\fs.length=i)
   ⟨none,none,none,[],[],rfl,fun b o e _=>e,ef8,.nil,by simp,rfl⟩ ?_ ?_
  ·rintro i σ H9 hi' ⟨v9,v10,v11,af,fs,rfl,kp,hf9,tf,fu,lf⟩;obtain⟨i1,i2⟩:=hcl i hi';have q9:Same H H9:=fun b o e=>kp b o (q8 _ _ e) (zi e ff)
   have hn9:=kp _ _ hn8 nfn;have laf:af.length=fs.length:=by have:=tf.len;rwa [al1q] at this
   have e16:atI (ns.map V.int) (16+(0+(i:Int)))=some (.int ns[16+i]):=by
    rw[show (16:Int)+(0+(i:Int))=((16+i:Nat):Int) by lia];exact zbk (by rw[al10q,al3q i1];rfl)
   try dsimp only [zn,List.set]
   refine⟨_,rfl,_,rfl,_,_,rfl,rfl,a,_,_,_,rfl,rfl,q9.seq ha,e16,?_⟩;generalize ns[16+i]=c
   try dsimp only [zn,List.set]
   refine⟨_,rfl,_,rfl,_,_,_,rfl,by decide,_,_,rfl,rfl,_,_,rfl,rfl,?_⟩;obtain⟨z,ez⟩:∃z,z=lo+pt c 41 5-1:=⟨_,rfl⟩;rw[←ez];obtain⟨d1,d2⟩:=zb5 c 40 (m:Int) (by lia);obtain⟨j,ej⟩:∃j:Nat,pt c 40 (m:Int)=(j:Int):=⟨(pt c 40 (m:Int)).toNat,by lia⟩;have jm:j<m:=by lia
   have ex1:atI (xs.map V.str) (0+(i:Int))=some (.str xs[i]):=by
    rw[Int.zero_add];exact zbk (by rw[al10q,al3q (show i<xs.length by lia)];rfl)
   have ex2:atI (xs.map V.str) (pt c 40 (m:Int))=some (.str xs[j]):=by
    rw[ej];exact zbk (by rw[al10q,al3q (show j<xs.length by lia)];rfl)
   have hu:xs[j]∈xs.take m:=by
    have:(xs.take m)[j]? = some xs[j]:=by rw[List.getElem?_take_of_lt jm,al3q]
    exact al6q this
   try dsimp only [zn,List.set]
   refine⟨_,rfl,.inl ⟨rfl,_,SqL.of hf9⟩,_,rfl,_,rfl,pn,_,_,_,rfl,rfl,SqL.of hn9,ex1,_,rfl,_,rfl,_,rfl,_,_,_,rfl,by lia,pn,_,_,_,rfl,rfl,SqL.of hn9,ex2,_,rfl,_,rfl,_,rfl,_,_,_,rfl,by decide,_,_,rfl,rfl,(by show 4<=sizeLine;decide),fun b hb=>?_⟩;have t9:=Same.new (o:=.tup [.str xs[i],.str xs[j],.int z,.int (z+pt c 43 4)]) hb;have hf10:=t9 _ _ hf9;refine⟨pf,_,_,rfl,rfl,hf10,by rw[al1q];exact zq (by lia),?_⟩;refine⟨_,_,_,af++[b],fs++[⟨xs[i],xs[j],z,z+pt c 43 4⟩],rfl,fun b' o e n=>by rw[zl n];exact t9 _ _ (kp b' o e n),by rw[zb,al16q];rfl,?_,?_,by rw[al20q,lf];rfl⟩
   ·rw[al16q];exact Tups.snoc ((tf.same t9).stay (zaf hf10)) (zaf hf10 _ _ zb)
   ·intro u hu';rcases al28q.mp hu' with h | h
    ·exact fu u h
    ·have:u=⟨xs[i],xs[j],z,z+pt c 43 4⟩:=by simpa using h
     subst this;exact hu
  rintro σ H9 ⟨v9,v10,v11,af,fs,rfl,kp,hf9,tf,fu,lf⟩;have q9:Same H H9:=fun b o e=>kp b o (q8 _ _ e) (zi e ff)
  have em9:=kp _ _ em8 nfm;have ht9:=kp _ _ ht8 nft;have hn9:=kp _ _ hn8 nfn;have tt9:Tups H9 as (ts.map tieV):=Paired.mono tt8 fun b ws _ e=>kp _ _ e (fun z=>by rw[z,ef8] at e;cases e)
  try unfold zfj
  try dsimp only [zn,List.set]
  refine⟨_,rfl,_,rfl,_,rfl,_,rfl,pn,_,rfl,SqL.of hn9,fun pu hpu=>?_⟩;rw[ztt (by lia) (by rw[al1q,x1];lia),al150q,←al192q];refine⟨_,rfl,_,rfl,by show 4<=sizeLine;decide,fun p hp=>?_⟩;have t10:=Same.new (o:=.lst ((xs.take m).map V.str)) hpu;have t11:=Same.new (o:=.tup [.ref pm,.ref pu,.ref pt0,.ref pf]) hp;have t:=t10.trans t11;refine k p pm pu pt0 pf lo hi (xs.take m) as ts af fs _ ⟨⟨SqT.of zb,SqL.of (t11 _ _ zb),SqL.of (t _ _ ht9),tt9.same t,und,by lia,by lia,ok⟩,SqT.of (t _ _ em9),SqL.of (t _ _ hf9),tf.same t,fu,by lia⟩ (zq4 dw) lh lh2 lus (by lia) (q9.trans t)
def WyAt (H:Hp) (a:ty1q) (kv:List (Str×Int)):Prop:=∃bs:List ty1q,H a=some (.lst (bs.map V.ref))/\Paired (fun b (p:Str×Int)=>H b=some (.tup [.str p.1,.int p.2])) bs kv
theorem WyAt.keep {H H':Hp}{a mo:ty1q}{kv:List (Str×Int)}{xs:List V}(h:WyAt H a kv) (kp:∀b o,H b=some o->b≠mo->H' b=some o) (n:a≠mo) (hm:H mo=some (.lst xs)):WyAt H' a kv:=by
 obtain⟨bs,h1,h2⟩:=h;refine⟨bs,kp _ _ h1 n,Paired.mono h2 fun b p _ e=>kp _ _ e fun z=>?_⟩;rw[z,hm] at e;cases e
theorem WyAt.same {H H':Hp}{a:ty1q}{kv:List (Str×Int)}(h:WyAt H a kv) (s:Same H H'):WyAt H' a kv:=by
 obtain⟨bs,h1,h2⟩:=h;exact⟨bs,s _ _ h1,Paired.mono h2 fun _ _ _ e=>s _ _ e⟩
theorem zwu {keys:List Str}(nd:keys.Nodup) {kv:List (Str×Int)}(e:kv.map Prod.fst=keys):zgd (kv.map fun p=>((Sum.inr p.1:Key),V.int p.2))=dV keys fun k=>.int (fnv kv k):=by
 have h:=zjr (kv:=kv) (by rw[e];exact nd);rw[e] at h;rw[show (kv.map fun p=>((Sum.inr p.1:Key),V.int p.2))=dV keys fun k=>.int (fnv kv k) from by
  conv=>lhs;rw[←h]
  unfold dV;rw[al75q];rfl,zif nd]
def DcAt (H:Hp) (keys:List Str) (z:ty1q) (h:Str->Int):Prop:=Rd H z (.dK (dV keys fun k=>.int (h k)))
theorem DcAt.same {H H':Hp}{keys:List Str}{z:ty1q}{h:Str->Int}(d:DcAt H keys z h) (s:Same H H'):DcAt H' keys z h:=by
 rcases d with d | ⟨o,d⟩
 ·exact .inl (s _ _ d)
 ·exact .inr ⟨o,s _ _ d⟩
theorem pdk {F G:ty1q->List (Str×Int)->Prop}{D:ty1q}:∀{ds:List ty1q}{W:List (List (Str×Int))},Paired F ds W->(∀d∈ds,d≠D)->(∀a kv,F a kv->a≠D->G a kv)->Paired G ds W
 | _,_,.nil,_,_=>.nil
 | _,_,.cons h t,n,k=>.cons (k _ _ h (n _ (al37q ..))) (pdk t (fun d hd=>n d (al5q _ hd)) k)
theorem papp {α β:Type}{F:α->β->Prop}:∀{as bs:List α}{xs ys:List β},Paired F as xs->Paired F bs ys->Paired F (as++bs) (xs++ys)
 | _,_,_,_,.nil,h=>h
 | _,_,_,_,.cons h t,k=>.cons h (papp t k)
theorem pkey {H:Hp}:∀{bs:List ty1q}{kv:List (Str×Int)},Paired (fun b (p:Str×Int)=>H b=some (.tup [.str p.1,.int p.2])) bs kv->Paired (fun b (q:Key×V)=>SqT K H b [kV q.1,q.2]) bs (kv.map fun p=>((Sum.inr p.1:Key),V.int p.2))
 | _,_,.nil=>.nil
 | _,_,.cons h t=>.cons (SqT.of h) (pkey t)
theorem zmm {ts:List Tie}{ads:List ty1q}{us:List Str}{fs:List Fnd}{lo hi:Int}{h h':Str->Int}(hts:∀t∈ts,t.a∈us/\t.b∈us) (hfu:∀f∈fs,f.u∈us) (e:∀k∈keysOf ts (srt us),h k=h' k):lawB lo hi (keysOf ts (srt us)) ts fs (lnkL ts (ts.zip ads)) h=lawB lo hi (keysOf ts (srt us)) ts fs (lnkL ts (ts.zip ads)) h':=by
 rw[al101q,lawB_iff,lawB_iff];refine and_congr ?_ (and_congr ?_ ?_)
 ·exact al172q fun k=>al172q fun hk=>by rw[okK_iff,okK_iff,e k hk]
 ·exact al172q fun f=>al172q fun hf=>by rw[okF_iff,okF_iff,e _ (zcn hts (hfu f hf))]
 ·exact al172q fun q=>al172q fun hq=>by
   obtain⟨h1,h2⟩:=zig hts q hq;rw[okL_iff,okL_iff,e _ h1,e _ h2]
inductive sp_ways' (vs:List V) (H:Hp) (Q:VK):Prop
 | mk (p pm pu pt pf:ty1q) (lo hi:Int) (us:List Str) (ads:List ty1q) (ts:List Tie) (af:List ty1q) (fs:List Fnd) (pk:ty1q) (_:vs = [.ref p,.ref pk]) (_:TelF K H p pm pu pt pf lo hi us ads ts af fs) (_:SqL K H pk ((keysOf ts (srt us)).map V.str)) (_:lo<=hi) (_:hi<=lo+2) (_:us.length<=4) (_:∀(q:ty1q) (zs:List ty1q) (hs:List (Str->Int)) (H':Hp),Same H H'->H q=none->H' q=some (.lst (zs.map V.ref))->Paired (DcAt H' (keysOf ts (srt us))) zs hs->zs.length<=100->(∀h∈hs,lawB lo hi (keysOf ts (srt us)) ts fs (lnkL ts (ts.zip ads)) h=true)->(∀h,lawB lo hi (keysOf ts (srt us)) ts fs (lnkL ts (ts.zip ads)) h=true->∃h'∈hs,∀k∈keysOf ts (srt us),h' k=h k)->Q (.ref q) H')
def zux:Sp:=fun vs H Q _=>sp_ways' (K:=K) vs H Q
theorem zfd (T:Tx K mg w zk zo zg zm):Has P w K mg base "_law_all_ways" ["_law_telling","_law_names_here"] 6 (zux (K:=K)):=by
 refine T.zfi.has sc__law_all_ways (fun vs H Q E h=>?_) (fun f cdv A outer s H vs Q E hr h=>?_)
 ·obtain⟨p,pm,pu,pt,pf,lo,hi,us,ads,ts,af,fs,pk,rfl,_⟩:=h;rfl
 ·obtain⟨p,pm,pu,pt',pf,lo,hi,us,ads,ts,af,fs,pk,rfl,hF,hk,lh,lh2,lu,k⟩:=h;refine⟨_,(zc (sset (i:=2) sc__law_all_ways.nd (zad (za (zad zd) zd)))
   (zc (zac al21q rfl (zr K rfl (pv 1)) (gnm (i:=3) sc__law_all_ways.nd) (zc (sset (i:=4) sc__law_all_ways.nd (zad zd))
    (zc (zac al21q rfl (zr K rfl (pv 2)) (gnm (i:=5) sc__law_all_ways.nd) (zf (zat (zbz K rfl PySem.F.plainAttrs_list PySem.F.slot_list_extend PySem.F.type_list_extend zna (pv 4) (za (zb4 (own:=["_law_year"]) (cap:=["_law_way","_law_name"]) (ix:=[5,3]) (osc:=zj (top 45)) rfl ⟨rfl,by decide +kernel,by decide +kernel,by decide +kernel,by decide +kernel⟩ rfl (zgk (by rfl) T.range (za (pix (zh K rfl) (pix (zh K rfl) (pv 0) ze) ze) (za (zah zbb (pix (zh K rfl) (pix (zh K rfl) (pv 0) ze) ze) ze) zd))) (fun _ _ _ _=>zbg (i:=0) (show List.Nodup (["_law_year","_law_way","_law_name"]:List Str) by decide +kernel) rfl (Or.inl rfl)) (fun _ _ _ _=>zb3) (fun _ _ _ _=>(zah (zpi K rfl) (pv 1) (zad (za (zao (za (pv 2) (za (pv 0) zd))) zd))))) zd)))))
    (zf (sset (i:=2) sc__law_all_ways.nd (pv 4))))))
   (zf (zy (zb4 (own:=["_law_way"]) (cap:=["_law_telling"]) (ix:=[0]) (osc:=zj (top 45)) rfl ⟨rfl,by decide +kernel,by decide +kernel,by decide +kernel,by decide +kernel⟩ rfl (zr K rfl (pv 2)) (fun _ _ _ _=>zbg (i:=0) (show List.Nodup (["_law_way","_law_telling"]:List Str) by decide +kernel) rfl (Or.inl rfl)) (fun _ _ _ _=>znh (zhc (pfn (zir T) (za (pv 1) (za (za2 (zd5 (K:=K) rfl rfl) (by rfl) T.dict al187q (za (pv 0) zd)) zd))))) (fun _ _ _ _=>(za2 (zd5 (K:=K) rfl rfl) (by rfl) T.dict al187q (za (pv 0) zd)))))))),?_⟩
  rw[show L2.start (["_law_telling","_law_names_here","_law_ways","_law_name","_law_more","_law_way"]:List Str) [V.ref p,V.ref pk] = [some (V.ref p),some (V.ref pk),none,none,none,none] from rfl]
  try dsimp only [zn,List.set]
  refine⟨by decide,fun e0 he0=>⟨by show 1<=sizeLine;decide,fun wl hwl=>?_⟩⟩;have t1:=Same.new (o:=.lst []) he0;have t2:=Same.new (o:=.lst [.ref e0]) hwl;have s0:=t1.trans t2;have ew:=zb (H:=upd H e0 (.lst [])) (a:=wl) (o:=.lst [.ref e0]);have ee:=t2 _ _ (zb (H:=H) (a:=e0) (o:=.lst []));generalize upd (upd H e0 (.lst [])) wl (.lst [.ref e0])=H0 at s0 ew ee;clear t1 t2;have hts:=hF.tel.ends;have knd:=zaj (ts:=ts) hF.tel.nd;have kl:(keysOf ts (srt us)).length<=4:=by
   have h1:=(zbt us).length_eq;have:=al48q (fun x=>decide (labs ts x=x)) (srt us);unfold keysOf;lia
  obtain⟨n,hn⟩:∃n:Nat,(hi+1-lo).toNat=n:=⟨_,rfl⟩;have n3:n<=3:=by lia
  have yl:(za4 lo n).length=n:=zjs;have wlen:∀ks:List Str,ks.length<=4->(zbf (za4 lo n) ks).length<=81:=fun ks h=>by
   rw[zk8,yl];exact al44q (Nat.pow_le_pow_left n3 _) (Nat.pow_le_pow_right (by decide) h)
  try dsimp only [zn,List.set]
  refine⟨_,rfl,pk,rfl,⟨_,s0.seq hk⟩,zaa (K:=K) (a:=pk) (xs:=(keysOf ts (srt us)).map V.str) (fun i σ H'=>∃(v3 v4 v5:Option V) (wl:ty1q) (as:List ty1q),σ = [some (.ref p),some (.ref pk),some (.ref wl),v3,v4,v5]/\Same H H'/\H' wl=some (.lst (as.map V.ref))/\Paired (WyAt H') as (zbf (za4 lo n) ((keysOf ts (srt us)).take i).reverse))
   ⟨none,none,none,wl,[e0],rfl,s0,ew,.cons ⟨[],ee,.nil⟩ .nil⟩ (fun i σ H' _ h=>by obtain⟨_,_,_,_,_,_,s,_⟩:=h;exact s.seq hk) ?_ ?_⟩
  ·clear ew ee s0;rintro i v σ H1 hv ⟨v3,v4,v5,wl,as,rfl,s1,hw1,pw⟩;have hi':=zag hv;rw[al1q] at hi';obtain⟨u,eu⟩:∃u,(keysOf ts (srt us))[i]? = some u:=⟨_,al3q hi'⟩;rw[al10q,eu] at hv;cases hv;have lw:=wlen ((keysOf ts (srt us)).take i).reverse (by rw[al100q,al25q];lia);have lw2:=wlen ((keysOf ts (srt us)).take (i+1)).reverse (by rw[al100q,al25q];lia);have la:=Paired.length pw;rw[al9q,eu,List.reverse_append] at lw2 ⊢;have ew2:zbf (za4 lo n) ((some u).toList.reverse++((keysOf ts (srt us)).take i).reverse)=(zbf (za4 lo n) ((keysOf ts (srt us)).take i).reverse).flatMap (zbh u (za4 lo n)):=rfl;rw[ew2] at lw2 ⊢;have lb:∀(bs:List ty1q) (kv:List (Str×Int)) {G:Hp},kv∈zbf (za4 lo n) ((keysOf ts (srt us)).take i).reverse->Paired (fun b (p:Str×Int)=>G b=some (.tup [.str p.1,.int p.2])) bs kv->bs.length<=900:=fun bs kv G hm h=>by
    have h1:=Paired.length h;have h2:=al67q List.length (ze6 hm);rw[al1q,al100q,al100q,al25q] at h2;lia
   generalize zbf (za4 lo n) ((keysOf ts (srt us)).take i).reverse=W at pw lw lw2 la lb ⊢
   try dsimp only [zn,List.set]
   refine⟨by decide,fun mo hmo=>?_⟩;have t3:=Same.new (o:=.lst []) hmo;have fmo:=s1.free hmo;have s2:=s1.trans t3;have em:=zb (H:=H1) (a:=mo) (o:=.lst []);have hw2:=t3 _ _ hw1;have pw2:Paired (fun a kv=>WyAt (upd H1 mo (.lst [])) a kv/\a≠mo) as W:=Paired.mono pw fun a kv _ z=>⟨z.same t3,by obtain⟨_,h1,_⟩:=z;exact zi h1 hmo⟩
   have nwm:wl≠mo:=zi hw1 hmo;generalize upd H1 mo (.lst [])=H2 at s2 em hw2 pw2;clear t3 hw1 pw hmo s1
   try dsimp only [zn,List.set]
   refine⟨_,rfl,wl,rfl,⟨_,SqL.of hw2⟩,zaa (K:=K) (a:=wl) (xs:=as.map V.ref) (fun j σ H'=>∃(v5:Option V) (cs:List ty1q),σ = [some (.ref p),some (.ref pk),some (.ref wl),some (.str u),some (.ref mo),v5]/\(∀b o,H2 b=some o->b≠mo->H' b=some o)/\H' mo=some (.lst (cs.map V.ref))/\Paired (fun a kv=>WyAt H' a kv/\a≠mo) cs ((W.take j).flatMap (zbh u (za4 lo n))))
    ⟨v5,[],rfl,fun b o e _=>e,em,by rw[al186q];exact .nil⟩ (fun j σ H' _ h=>by obtain⟨_,_,_,kp,_⟩:=h;exact SqL.of (kp _ _ hw2 nwm)) ?_ ?_⟩
   ·rintro j v σ H3 hv ⟨v5,cs,rfl,kp,hm3,pc⟩;have hj:=zag hv;rw[al1q] at hj;obtain⟨a,ea⟩:∃a,as[j]? = some a:=⟨_,al3q hj⟩;obtain⟨kv,ekv⟩:∃kv,W[j]? = some kv:=⟨_,al3q (by lia)⟩;rw[al10q,ea] at hv;cases hv;obtain⟨wa,na⟩:=zak pw2 ea ekv;have wa:=wa.keep kp na em;have s3:Same H H3:=fun b o e=>kp b o (s2 _ _ e) (zi e fmo)
    have F3:=hF.same s3;have lcs:cs.length+n<=81:=by
     have h1:=Paired.length pc;have h2:((W.take (j+1)).flatMap (zbh u (za4 lo n))).length<=(W.flatMap (zbh u (za4 lo n))).length:=by
      conv=>rhs;rw[←List.take_append_drop (j+1) W,List.flatMap_append,al20q]
      lia
     rw[al9q,ekv,List.flatMap_append,al20q] at h2;have h3:((some kv).toList.flatMap (zbh u (za4 lo n))).length=n:=by
      show (zbh u (za4 lo n) kv++[]).length=n;rw[al53q];unfold zbh;rw[al1q,yl]
     lia
    try dsimp only [zn,List.set]
    refine⟨_,rfl,.inl ⟨rfl,_,SqL.of hm3⟩,_,rfl,p,_,_,_,rfl,rfl,F3.tel.p,rfl,pm,_,_,_,rfl,rfl,F3.m,rfl,_,rfl,p,_,_,_,rfl,rfl,F3.tel.p,rfl,pm,_,_,_,rfl,rfl,F3.m,rfl,_,_,rfl,rfl,lo,hi+1,rfl,fun D hD=>?_⟩;rw[hn];refine zbi (znj (lo:=lo) (n:=n)) (fun t σ' ys H'=>∃(w0:Option V) (ds:List ty1q),σ' = [w0,some (.ref a),some (.str u)]/\ys=ds.map V.ref/\Same H3 H'/\H' D=some (.lst ys)/\Paired (fun a kv=>WyAt H' a kv/\a≠mo) ds (zbh u ((za4 lo n).take t) kv)/\∀d∈ds,d≠D)
     ⟨none,[],rfl,rfl,Same.new hD,zb,by rw[al186q];exact .nil,by simp⟩ (fun t σ' ys H' h=>?_) (by rw[al1q,al58q];exact zau (by lia)) ?_ ?_
    ·obtain⟨_,ds,_,rfl,q,hd,pd,_⟩:=h;refine⟨trivial,hd,?_⟩;have:=Paired.length pd;unfold zbh at this;rw[al1q,al25q] at this;rw[al1q];lia
    ·rintro t x σ' ys H4 hx' ⟨w0,ds,rfl,rfl,q4,hd4,pd,nd⟩;have ht:=zag hx';have ht':t<n:=by rw[al1q,al58q] at ht;exact ht
     rw[al10q,al165q ht'] at hx';cases hx';obtain⟨bs,h1,h2⟩:=wa.same q4;have hm4:=q4 _ _ hm3;have lbs:bs.length<=900:=lb bs kv (al6q ekv) h2
     try dsimp only [zn,List.set]
     unfold tYes;dsimp only;rw[al11q rfl];refine⟨_,rfl,_,rfl,_,rfl,(by show 2<=sizeLine;decide),fun b hb=>⟨by show 1<=sizeLine;decide,fun l1 hl1=>⟨a,l1,_,_,rfl,rfl,SqL.of ((Same.new hl1) _ _ ((Same.new hb) _ _ h1)),SqL.of zb,?_,fun l2 hl2=>?_⟩⟩⟩
     ·rw[al1q];exact zau (al44q (Nat.add_le_add_right lbs 1) (by decide))
     have w1:=Same.new (o:=.tup [.str u,.int (lo+(t:Nat))]) hb;have w2:=Same.new (o:=.lst [.ref b]) hl1;have w3:=Same.new (o:=.lst (bs.map V.ref++[.ref b])) hl2;have w13:=w1.trans (w2.trans w3);have hd5:=w13 _ _ hd4;have nlD:l2≠D:=fun z=>by rw[z,(w1.trans w2) _ _ hd4] at hl2;cases hl2
     have nlm:l2≠mo:=fun z=>by rw[z,(w1.trans w2) _ _ hm4] at hl2;cases hl2
     have yt:(za4 lo n)[t]? = some (lo+(t:Nat)):=by unfold za4;rw[al10q,al165q ht'];rfl
     refine⟨hd5,zdy ht ⟨_,ds++[l2],rfl,by rw[al16q];rfl,(q4.trans w13).upd hD,zb,?_,?_⟩⟩
     ·rw[al9q,yt];show Paired _ _ (((za4 lo n).take t++[lo+(t:Nat)]).map fun y=>kv++[(u,y)]);rw[al16q];have kD:∀{a:ty1q}{kv:List (Str×Int)},WyAt (upd (upd (upd H4 b (.tup [.str u,.int (lo+(t:Nat))])) l1 (.lst [.ref b])) l2 (.lst (bs.map V.ref++[.ref b]))) a kv->a≠D->WyAt (upd (upd (upd (upd H4 b (.tup [.str u,.int (lo+(t:Nat))])) l1 (.lst [.ref b])) l2 (.lst (bs.map V.ref++[.ref b]))) D (.lst (ds.map V.ref++[.ref l2]))) a kv:=fun h n=>h.keep (fun b o e n=>by rw[zl n];exact e) n hd5
      refine Paired.snoc (pdk pd nd fun a kv z n=>⟨kD (z.1.same w13) n,z.2⟩) ⟨kD ⟨bs++[b],by rw[zb,al16q];rfl,Paired.snoc (Paired.mono h2 fun _ _ _ e=>w13 _ _ e) ((w2.trans w3) _ _ zb)⟩ nlD,nlm⟩
     ·intro d hd;rcases al28q.mp hd with h | h
      ·exact nd d h
      ·have:d=l2:=by simpa using h
       rw[this];exact nlD
    ·rintro σ' ys H4 ⟨w0,ds,rfl,rfl,q4,hd4,pd,_⟩;rw[al1q,al58q,show (za4 lo n).take n=za4 lo n from al98q (by lia)] at pd;have hm4:=q4 _ _ hm3;have lds:ds.length=n:=by rw[Paired.length pd];unfold zbh;rw[al1q,yl]
     refine⟨mo,D,_,_,rfl,rfl,hm4,hd4,by rw[al1q,al1q];exact zau (by lia),?_⟩;refine⟨_,cs++ds,rfl,fun b o e n=>by rw[zl n];exact q4 _ _ (kp b o e n),by rw[zb,al16q],?_⟩;rw[al9q,ekv,List.flatMap_append];have kM:∀{a:ty1q}{kv:List (Str×Int)},WyAt H4 a kv/\a≠mo->WyAt (upd H4 mo (.lst (cs.map V.ref++ds.map V.ref))) a kv/\a≠mo:=fun h=>⟨h.1.keep (fun b o e n=>by rw[zl n];exact e) h.2 hm4,h.2⟩
     refine papp (Paired.mono pc fun a kv _ z=>kM ⟨z.1.same q4,z.2⟩) ?_;show Paired _ _ (zbh u (za4 lo n) kv++[]);rw[al53q];exact Paired.mono pd fun a kv _ z=>kM z
   ·rintro σ H3 ⟨v5',cs,rfl,kp,hm3,pc⟩;rw[al1q,la,al23q] at pc
    try unfold zfj
    try dsimp only [zn,List.set]
    exact⟨_,rfl,_,_,_,mo,cs,rfl,fun b o e=>kp b o (s2 _ _ e) (zi e fmo),hm3,Paired.mono pc fun _ _ _ z=>z.1⟩
  rintro σ H1 ⟨v3,v4,v5,wl',as,rfl,s1,hw1,pw⟩;rw[al1q,al23q] at pw;have lw:=wlen (keysOf ts (srt us)).reverse (by rw[al100q];exact kl);have la:=Paired.length pw;have wk:∀kv∈zbf (za4 lo n) (keysOf ts (srt us)).reverse,kv.map Prod.fst=keysOf ts (srt us):=fun kv h=>by rw[ze6 h,List.reverse_reverse]
  have wa:∀h:Str->Int,lawB lo hi (keysOf ts (srt us)) ts fs (lnkL ts (ts.zip ads)) h=true->((keysOf ts (srt us)).map fun k=>(k,h k))∈zbf (za4 lo n) (keysOf ts (srt us)).reverse:=fun h W=>by
   have:=zk9 (ys:=za4 lo n) (h:=h) (ks:=(keysOf ts (srt us)).reverse) fun k hk=>by
    have:=okK_iff.mp ((lawB_iff.mp W).1 k (al191q.mp hk));exact yrs_mem.mpr (by lia)
   rwa [List.reverse_reverse] at this
  have F1:=hF.same s1;clear hk hF s0 ew ee wlen;generalize zbf (za4 lo n) (keysOf ts (srt us)).reverse=W at pw lw la wk wa
  try unfold zfj
  try dsimp only [zn,List.set]
  refine⟨_,rfl,wl',rfl,⟨_,SqL.of hw1⟩,fun D hD=>?_⟩;refine zbi (zcs (K:=K) (a:=wl') (xs:=as.map V.ref)) (fun i σ' ys H'=>∃(w0:Option V) (zs:List ty1q),σ' = [w0,some (.ref p)]/\ys=zs.map V.ref/\Same H1 H'/\H' D=some (.lst ys)/\Paired (fun z h=>DcAt H' (keysOf ts (srt us)) z h/\z≠D) zs (((W.take i).map fnv).filter fun h=>lawB lo hi (keysOf ts (srt us)) ts fs (lnkL ts (ts.zip ads)) h))
   ⟨none,[],rfl,rfl,Same.new hD,zb,by rw[al186q];exact .nil⟩ (fun i σ' ys H' h=>?_) (by rw[al1q];exact zau (by lia)) ?_ ?_
  ·obtain⟨_,zs,_,rfl,q,hd,pz⟩:=h;refine⟨SqL.of (q _ _ hw1),hd,?_⟩;rw[al1q,Paired.length pz];exact al44q (al48q _ _) (by rw[al1q,al25q];lia)
  ·rintro i v σ' ys H2 hv ⟨w0,zs,rfl,rfl,q2,hd2,pz⟩;have hix:=zag hv;have hj:i<as.length:=by rw[al1q] at hix;exact hix
   obtain⟨a,ea⟩:∃a,as[i]? = some a:=⟨_,al3q hj⟩;obtain⟨kv,ekv⟩:∃kv,W[i]? = some kv:=⟨_,al3q (by lia)⟩;rw[al10q,ea] at hv;cases hv;have hkv:=al6q ekv;obtain⟨bs,h1,h2⟩:=(zak pw ea ekv).same q2;have lbs:(kv.map fun p=>((Sum.inr p.1:Key),V.int p.2)).length<=1000:=by
    have:=al67q List.length (wk kv hkv);rw[al1q] at this ⊢;lia
   have pairs:∀{G:Hp},Same H2 G->Paired (fun b (q:Key×V)=>SqT K G b [kV q.1,q.2]) bs (kv.map fun p=>((Sum.inr p.1:Key),V.int p.2)):=fun sG=>pkey (Paired.mono h2 fun _ _ _ e=>sG _ _ e)
   have ed:=zwu knd (wk kv hkv);have tk:((W.take (i+1)).map fnv).filter (fun h=>lawB lo hi (keysOf ts (srt us)) ts fs (lnkL ts (ts.zip ads)) h)=((W.take i).map fnv).filter (fun h=>lawB lo hi (keysOf ts (srt us)) ts fs (lnkL ts (ts.zip ads)) h)++[fnv kv].filter (fun h=>lawB lo hi (keysOf ts (srt us)) ts fs (lnkL ts (ts.zip ads)) h):=by
    rw[al9q,ekv,al16q,al91q];rfl
   try dsimp only [zn,List.set]
   refine⟨_,rfl,_,rfl,a,bs,_,rfl,SqL.of h1,pairs (Same.refl _),lbs,fun d ob hd=>?_⟩;rw[ed];have w1:=Same.new (o:=.frz ob (.dK (dV (keysOf ts (srt us)) fun k=>.int (fnv kv k)))) hd;refine⟨p,pm,pu,pt',pf,lo,hi,us,ads,ts,af,fs,d,ob,fnv kv,rfl,(F1.same q2).same w1,zb,fun H3 s3=>⟨_,rfl,?_⟩⟩;have w13:=w1.trans s3;have hd3:=w13 _ _ hd2;refine ite2 (fun c=>?_) (fun c=>?_)
   ·refine⟨_,rfl,a,bs,_,rfl,SqL.of (w13 _ _ h1),pairs w13,lbs,fun d2 ob2 hd'=>?_⟩;rw[ed];have w4:=Same.new (o:=.frz ob2 (.dK (dV (keysOf ts (srt us)) fun k=>.int (fnv kv k)))) hd';have hd4:=w4 _ _ hd3;have ndD:d2≠D:=fun z=>by rw[z,hd3] at hd';cases hd'
    refine⟨hd4,zdy hix ⟨_,zs++[d2],rfl,by rw[al16q];rfl,(q2.trans (w13.trans w4)).upd hD,zb,?_⟩⟩;rw[tk,List.filter_cons_of_pos c];have kD:∀{z:ty1q}{h:Str->Int}{ys:List V},DcAt (upd H3 d2 (.frz ob2 (.dK (dV (keysOf ts (srt us)) fun k=>.int (fnv kv k))))) (keysOf ts (srt us)) z h->z≠D->DcAt (upd (upd H3 d2 (.frz ob2 (.dK (dV (keysOf ts (srt us)) fun k=>.int (fnv kv k))))) D (.lst ys)) (keysOf ts (srt us)) z h/\z≠D:=fun h n=>⟨by
     rcases h with h | ⟨o,h⟩
     ·exact .inl (by rw[zl n];exact h)
     ·exact .inr ⟨o,by rw[zl n];exact h⟩,n⟩
    exact Paired.snoc (Paired.mono pz fun _ _ _ z=>kD (z.1.same (w13.trans w4)) z.2) (kD (.inr ⟨ob2,zb⟩) ndD)
   ·refine⟨hd3,zdy hix ⟨_,zs,rfl,rfl,q2.trans w13,hd3,?_⟩⟩;rw[tk,List.filter_cons_of_neg c,List.filter_nil,al53q];exact Paired.mono pz fun _ _ _ z=>⟨z.1.same w13,z.2⟩
  ·rintro σ' ys H2 ⟨w0,zs,rfl,rfl,q2,hd2,pz⟩;rw[al1q,la,al23q] at pz;refine k D zs _ H2 (s1.trans q2) (s1.free hD) hd2 (Paired.mono pz fun _ _ _ z=>z.1) ?_ (fun h hh=>(al32q.mp hh).2) fun h W'=>?_
   ·rw[Paired.length pz];exact al44q (al48q _ _) (by rw[al1q];lia)
   ·have e:=zwd knd (h:=h);refine⟨_,al32q.mpr ⟨al27q.mpr ⟨_,wa h W',rfl⟩,?_⟩,e⟩;show lawB _ _ _ _ _ _ _=true;rw[zmm hts F1.fu e];exact W'
inductive sp_told' (vs:List V) (H:Hp) (Q:VK):Prop
 | mk (p pm pu pt pf:ty1q) (lo hi:Int) (us:List Str) (ads:List ty1q) (ts:List Tie) (af:List ty1q) (fs:List Fnd) (_:vs = [.ref p]) (_:TelF K H p pm pu pt pf lo hi us ads ts af fs) (_:NoR (za1 ts (ts.zip ads)) (keysOf ts (srt us))) (_:(∀(q:ty1q) (f g:Str->Int) (H':Hp),Same H H'->zp5 H' q (keysOf ts (srt us)) f g->(∀k∈keysOf ts (srt us),LoIs (rwOf ts (ts.zip ads)) (FlF ts lo (fs.zip af)) k (f k))->(∀k∈keysOf ts (srt us),HiIs (rwOf ts (ts.zip ads)) (CeF ts hi (fs.zip af)) k (g k))->zc0 lo hi us ads ts af fs->Q (.ref q) H')) (_:∀(c:Chn) (w:Str) (H':Hp),Same H H'->zgg lo hi us ads ts af fs c w->Q .non H')
def zuy:Sp:=fun vs H Q _=>sp_told' (K:=K) vs H Q
theorem zj4 (T:Tx K mg w zk zo zg zm):Has P w K mg base "_law_told" ["_law_telling"] 10 (zuy (K:=K)):=by
 refine T.zkf.has sc__law_told (fun vs H Q E h=>?_) (fun f cdv A outer s H vs Q E hr h=>?_)
 ·obtain⟨p,pm,pu,pt,pf,lo,hi,us,ads,ts,af,fs,rfl,_⟩:=h;rfl
 ·obtain⟨p,pm,pu,pt,pf,lo,hi,us,ads,ts,af,fs,rfl,hF,nr,kQ,kN⟩:=h;refine⟨_,(zc (sset (i:=1) sc__law_told.nd zha)
   (zc (zs2 ⟨rfl,rfl,rfl⟩ (fun pn xe Es pt=>(zf (sset (i:=1) sc__law_told.nd (zs1 (zuv T) pt (hr.mono (by decide)) (by rfl) (za (pv 0) zd))))) (zwk ⟨rfl,rfl,rfl⟩ (by rfl) T.zfe T.zj7 (fun _ _=>(zf (sset (i:=1) sc__law_told.nd zha))) zs3))
   (zf (zy (pv 1))))),?_⟩
  try dsimp only [zn]
  refine⟨_,rfl,p,pm,pu,pt,pf,lo,hi,us,ads,ts,af,fs,rfl,hF,nr,fun q f g H' s _ hS hf hg no=>⟨_,rfl,kQ q f g H' s hS hf hg no⟩,fun d r c w H' s hd hra hri=>⟨zg,rfl,true,T.zcq,?_⟩⟩;rw[al11q rfl];exact⟨_,rfl,kN c w H' s hri⟩
theorem zwv {a b:TS}{D:Ends}{σ:St}{H:Hp}(P:St->Hp->Prop) (h1:∀D':Ends,(∀σ' H',P σ' H'->D'.nx σ' H')->a D' σ H) (h2:∀σ' H',P σ' H'->b D σ' H'):tSeq a b D σ H:=h1 _ h2
theorem zs5 {H:Hp}{keys:List Str}{z:ty1q}{h:Str->Int}(d:DcAt H keys z h) {k:Str}(hk:k∈keys):DGet H z (.str k) (some (.int (h k))):=by
 have:=zba (f:=fun k=>V.int (h k)) hk;exact .inl ⟨_,Sum.inr k,d,rfl,this.symm⟩
theorem zuz {H:Hp}{keys:List Str}{z:ty1q}{h h':Str->Int}(d:DcAt H keys z h) (d':DcAt H keys z h'):∀k∈keys,h k=h' k:=fun k hk=>by
 have e1:(dV keys fun k=>.int (h k))=dV keys fun k=>.int (h' k):=by
  rcases d with ha | ⟨o,ha⟩<;>rcases d' with hb | ⟨o',hb⟩<;>rw[ha] at hb<;>injection hb with hb<;>injection hb<;>(try contradiction)
  rename_i h;injection h
 have h1:=zba (f:=fun k=>V.int (h k)) hk;rw[e1,zba (f:=fun k=>V.int (h' k)) hk] at h1;exact (V.int.inj (al46q h1)).symm
theorem zxw {H:Hp}{keys:List Str}{zs:List ty1q}{hs:List (Str->Int)}(p:Paired (DcAt H keys) zs hs):∃F:ty1q->Str->Int,∀z∈zs,DcAt H keys z (F z):=by
 have ex:∀z∈zs,∃h,DcAt H keys z h:=fun z hz=>by
  obtain⟨j,hj⟩:=al68q.mp hz;obtain⟨h,_,d⟩:=Paired.get' p hj;exact⟨h,d⟩
 exact⟨fun z=>Classical.epsilon fun h=>DcAt H keys z h,fun z hz=>Classical.epsilon_spec (ex z hz)⟩
def tupQ (H:Hp) (ws:List V):V->Bool
 | .ref b=>match H b with
  | some (.tup vs)=>eqL vs ws
  | _=>false
 | _=>false
theorem zr3 {hs:List (Str->Int)}{u:Str}{y:Int}:inV (.bl true) (hs.map fun h=>V.bl (decide (h u=y)))=hs.any fun h=>decide (h u=y):=by
 unfold inV;rw[List.any_map]
 congr 1
 funext h;show ((decide (h u=y)) == true)=_;exact beq_true _
theorem zww {H:Hp}{h:Str->Int}:∀{as:List ty1q}{ks:List Str},Paired (fun b k=>H b=some (.tup [.str k,.int (h k)])) as ks->Paired (fun b (q:Key×V)=>SqT K H b [kV q.1,q.2]) as (dV ks fun k=>.int (h k))
 | _,_,.nil=>.nil
 | _,_,.cons h t=>.cons (SqT.of h) (zww t)
inductive sp_each' (vs:List V) (H:Hp) (Q:VK):Prop
 | mk (p pm pu pt pf:ty1q) (lo hi:Int) (us:List Str) (ads:List ty1q) (ts:List Tie) (af:List ty1q) (fs:List Fnd) (pk pw:ty1q) (zs:List ty1q) (hs:List (Str->Int)) (f g:Str->Int) (_:vs = [.ref p,.ref pk,.ref pw]) (_:TelF K H p pm pu pt pf lo hi us ads ts af fs) (_:SqL K H pk ((keysOf ts (srt us)).map V.str)) (_:H pw=some (.lst (zs.map V.ref))) (_:Paired (DcAt H (keysOf ts (srt us))) zs hs) (_:zs.length<=100) (_:(∀h∈hs,lawB lo hi (keysOf ts (srt us)) ts fs (lnkL ts (ts.zip ads)) h=true)) (_:(∀h,lawB lo hi (keysOf ts (srt us)) ts fs (lnkL ts (ts.zip ads)) h=true->∃h'∈hs,∀k∈keysOf ts (srt us),h' k=h k)) (_:NoR (za1 ts (ts.zip ads)) (keysOf ts (srt us))) (_:zc0 lo hi us ads ts af fs) (_:fs.length<=59) (_:(∀k∈keysOf ts (srt us),LoIs (rwOf ts (ts.zip ads)) (FlF ts lo (fs.zip af)) k (f k))) (_:(∀k∈keysOf ts (srt us),HiIs (rwOf ts (ts.zip ads)) (CeF ts hi (fs.zip af)) k (g k))) (_:∀H',Same H H'->Q (.bl true) H')
def zu0:Sp:=fun vs H Q _=>sp_each' (K:=K) vs H Q
theorem zei (T:Tx K mg w zk zo zg zm):Has P w K mg base "_law_each_year" ["_law_telling","_law_names_here","_law_ways"] 10 (zu0 (K:=K)):=by
 refine T.zen.has sc__law_each_year (fun vs H Q E h=>?_) (fun f cdv A outer s H vs Q E hr h=>?_)
 ·obtain⟨p,pm,pu,pt,pf,lo,hi,us,ads,ts,af,fs,pk,pw,zs,hs,f,g,rfl,_⟩:=h;rfl
 ·obtain⟨p,pm,pu,pt',pf,lo,hi,us,ads,ts,af,fs,pk,pw,zs,hs,f,g,rfl,hF,hk,hw,pz,lz,hs1,hs2,nr,no,fl,hf,hg,k⟩:=h;have hu:=zbp hr;refine⟨_,(zc (zac al21q rfl (zr K rfl (pv 1)) (gnm (i:=3) sc__law_each_year.nd) (zf (zac al21q rfl (zgk (by rfl) T.range (za (zah zki (pix (zh K rfl) (pix (zh K rfl) (pv 0) ze) ze) ze) (za (zah zbb (pix (zh K rfl) (pix (zh K rfl) (pv 0) ze) ze) ze) zd))) (gnm (i:=4) sc__law_each_year.nd) (zc (sset (i:=5) sc__law_each_year.nd zha)
     (zc (zs2 ⟨rfl,rfl,rfl⟩ (fun pn xe Es pt=>(zf (sset (i:=5) sc__law_each_year.nd (zs1 (zr1 T) pt (hr.mono (by decide)) (by rfl) (za (pv 0) (za (pv 3) (za (pv 4) zd))))))) (zwk ⟨rfl,rfl,rfl⟩ (by rfl) T.zit T.zp8 (fun _ _=>(zf (sset (i:=5) sc__law_each_year.nd zha))) zs3))
     (zc (zaz (zw zqf (zmw (zi2 (pv 5))) (zi3 (zf1 K rfl) zec (zb4 (own:=["_law_way"]) (cap:=["_law_year","_law_name"]) (ix:=[4,3]) (osc:=zj (top 46)) rfl ⟨rfl,by decide +kernel,by decide +kernel,by decide +kernel,by decide +kernel⟩ rfl (zr K rfl (pv 2)) (fun _ _ _ _=>zbg (i:=0) (show List.Nodup (["_law_way","_law_year","_law_name"]:List Str) by decide +kernel) rfl (Or.inl rfl)) (fun _ _ _ _=>zb3) (fun _ _ _ _=>(zi3 zdu (zp hu (pv 0) (pv 2) (fun _ _=>rfl)) (pv 1) (zae _)))) (by with_unfolding_all rfl)) (zae _)) (zf (zy zec)) zz)
     (zf (zaz (PW.pt (zeq (zfu (zi2 (pv 5))) (zc3 (PW.pt (zs8 (zw (zrm K rfl (hu11 hr)) (za2 (zd5 (K:=K) rfl rfl) (by rfl) T.dict al187q (za (pv 5) zd)) (pv 2) (by with_unfolding_all rfl)) (zmx (zw (zdw K rfl (hu11 hr)) (zao (za (pv 3) (za (pv 4) zd))) (pv 5) (by with_unfolding_all rfl)))))))) (zf (zy zec)) zz))))))))
   (zf (zy zec))),?_⟩
  rw[show L2.start (["_law_telling","_law_names_here","_law_ways","_law_name","_law_year","_law_found"]:List Str) [V.ref p,V.ref pk,V.ref pw] = [some (V.ref p),some (V.ref pk),some (V.ref pw),none,none,none] from rfl];have hts:=hF.tel.ends;have lf:=hF.flen
  try dsimp only [zn,List.set]
  refine⟨_,rfl,pk,rfl,⟨_,hk⟩,zaa (K:=K) (a:=pk) (xs:=(keysOf ts (srt us)).map V.str) (fun i σ H'=>∃(v3 v4 v5:Option V),σ = [some (.ref p),some (.ref pk),some (.ref pw),v3,v4,v5]/\Same H H')
   ⟨none,none,none,rfl,Same.refl _⟩ (fun i σ H' _ h=>by obtain⟨_,_,_,_,s⟩:=h;exact s.seq hk) ?_ ?_⟩
  rotate_left
  ·rintro σ H1 ⟨v3,v4,v5,rfl,s1⟩;exact k H1 s1
  ·rintro i v σ H1 hv ⟨v3,v4,v5,rfl,s1⟩;have hi':=zag hv;rw[al1q] at hi';obtain⟨u,eu⟩:∃u,(keysOf ts (srt us))[i]? = some u:=⟨_,al3q hi'⟩;rw[al10q,eu] at hv;cases hv;have huk:=al6q eu;have hlu:labs ts u=u:=al17q (al32q.mp huk).2;have huu:u∈us:=(zbt us).mem_iff.mp (al32q.mp huk).1;have F1:=hF.same s1
   try dsimp only [zn,List.set]
   refine⟨_,rfl,p,_,_,_,rfl,rfl,F1.tel.p,rfl,pm,_,_,_,rfl,rfl,F1.m,rfl,_,_,rfl,rfl,_,rfl,p,_,_,_,rfl,rfl,F1.tel.p,rfl,pm,_,_,_,rfl,rfl,F1.m,rfl,_,_,rfl,rfl,lo-1,hi+2,rfl,?_⟩;refine zck (fun j σ H'=>∃(v4 v5:Option V),σ = [some (.ref p),some (.ref pk),some (.ref pw),some (.str u),v4,v5]/\Same H H')
    ⟨v4,v5,rfl,s1⟩ ?_ (fun σ H' ⟨v4,v5,e,s⟩=>⟨_,v4,v5,e,s⟩)
   rintro j σ H2 hj ⟨v4,v5,rfl,s2⟩;obtain⟨y,ey⟩:∃y,y=lo-1+(j:Nat):=⟨_,rfl⟩;rw[←ey];clear ey;have F2:=hF.same s2
   try dsimp only [zn,List.set]
   have B:(hs.any fun h=>decide (h u=y))=decide (f u<=y/\y<=g u):=by
    rw[al101q,al116q,al39q];constructor
    ·rintro ⟨h,hh,e⟩;have:=zsy hts lf (hs1 h hh) huk (hf u huk) (hg u huk);rw[al17q e] at this;exact this
    ·rintro ⟨h1,h2⟩;obtain⟨h,W,e⟩:=zwc hts hF.fu lf nr no hf hg huk h1 h2;obtain⟨h',hm,eh⟩:=hs2 h W;exact⟨h',hm,al15q (by rw[eh u huk,e])⟩
   have knd:=zaj (ts:=ts) hF.tel.nd;have kl:=hF.tel.klen;refine zwv (fun σ' H'=>σ' = [some (.ref p),some (.ref pk),some (.ref pw),some (.str u),some (.int y),some .non]/\H'=H2) (fun D' hD'=>hD' _ _ ⟨rfl,rfl⟩) ?_;rintro σ0 H0 ⟨rfl,rfl⟩;refine zwv (fun σ' H'=>∃v,σ' = [some (.ref p),some (.ref pk),some (.ref pw),some (.str u),some (.int y),some v]/\Same H0 H'/\((v = .non/\¬(f u<=y/\y<=g u))\/∃(q:ty1q) (as:List ty1q) (h:Str->Int),v = .ref q/\(f u<=y/\y<=g u)/\H' q=some (.lst (as.map V.ref))/\Paired (fun a k=>H' a=some (.tup [.str k,.int (h k)])) as (keysOf ts (srt us))/\lawB lo hi (keysOf ts (srt us)) ts fs (lnkL ts (ts.zip ads)) h=true/\h u=y)) (fun D' hD'=>?_) ?_
   ·refine⟨_,rfl,_,rfl,_,rfl,p,pm,pu,pt',pf,lo,hi,us,ads,ts,af,fs,u,y,f,g,rfl,F2,nr,no,huu,fl,hf,hg,fun h1 h2 q as h H3 s3 _ hq pr D=>?_,fun hn H3 s3=>⟨zm,rfl,true,T.zd6,?_⟩⟩
    ·rw[hlu] at h1 h2 D;exact hD' _ _ ⟨_,rfl,s3,.inr ⟨q,as,h,rfl,⟨h1,h2⟩,hq,pr,zk7 hts hF.fu lf hf hg D,D.at_⟩⟩
    ·rw[al11q rfl];rw[hlu] at hn;exact hD' _ _ ⟨_,rfl,s3,.inl ⟨rfl,hn⟩⟩
   rintro σ' H3 ⟨v,rfl,s3,hv⟩;have bv:(!decide (v = .non))=decide (f u<=y/\y<=g u):=by
    rcases hv with ⟨rfl,n⟩ | ⟨q,as,h,rfl,c,_⟩
    ·rw[al22q n];rfl
    ·rw[al15q c];rfl
   have q3:=s2.trans s3;have hw3:=q3 _ _ hw;have pz3:=Paired.mono pz fun _ _ _ z=>DcAt.same z q3
   have lhz:=Paired.length pz
   try dsimp only [zn,List.set]
   refine zbs false (fun Q' hQ=>?_) (fun H4 s4=>iteF ?_)
   ·refine⟨_,rfl,_,rfl,pw,rfl,⟨_,SqL.of hw3⟩,fun D hD=>?_⟩;refine zbi (zcs (K:=K) (a:=pw) (xs:=zs.map V.ref)) (fun i σ' ys H'=>∃(w0:Option V),σ' = [w0,some (.int y),some (.str u)]/\ys=(hs.take i).map (fun h=>V.bl (decide (h u=y)))/\Same H3 H'/\H' D=some (.lst ys))
     ⟨none,rfl,rfl,Same.new hD,zb⟩ (fun i σ' ys H' h=>?_) (by rw[al1q];exact zau (by lia)) ?_ ?_
    ·obtain⟨_,_,rfl,q,hd⟩:=h;exact⟨SqL.of (q _ _ hw3),hd,by rw[al1q,al25q];lia⟩
    ·rintro i v' σ' ys H4 hv' ⟨w0,rfl,rfl,q4,hd4⟩;have hix:=zag hv';have hj':i<zs.length:=by rw[al1q] at hix;exact hix
     obtain⟨z,ez⟩:∃z,zs[i]? = some z:=⟨_,al3q hj'⟩;obtain⟨h,eh⟩:∃h,hs[i]? = some h:=⟨_,al3q (by lia)⟩;rw[al10q,ez] at hv';cases hv';have dz:=DcAt.same (zak pz3 ez eh) q4
     try dsimp only [zn,List.set]
     unfold tYes;dsimp only;rw[al11q rfl];refine⟨_,rfl,_,rfl,z,_,rfl,zs5 dz huk,_,rfl,rfl,hd4,zdy hix ⟨_,rfl,?_,q4.upd hD,zb⟩⟩;rw[al9q,eh,al16q,show decide (V.int (h u)=V.int y)=decide (h u=y) from al84q.mpr ⟨fun z=>V.int.inj z,fun z=>al67q V.int z⟩];rfl
    ·rintro σ' ys H4 ⟨w0,rfl,rfl,q4,hd4⟩;rw[al1q,lhz,al23q] at hd4;refine⟨D,_,rfl,.inl (SqL.of hd4),rfl,by rw[List.all_map];exact al52q.mpr fun _ _=>rfl,rfl,_,rfl,?_⟩;rw[al7q al19q,zr3,B,bv,al15q rfl];exact hQ _ q4
   ·have hw4:=s4 _ _ hw3;have pz4:=Paired.mono pz3 fun _ _ _ z=>DcAt.same z s4
    try unfold zfj
    try dsimp only [zn,List.set]
    refine zbs false (fun Q' hQ=>?_) (fun H5 s5=>iteF ?_)
    ·rcases hv with ⟨rfl,n⟩ | ⟨q,as,h,rfl,c,hq,pr,W,hy⟩
     ·exact⟨_,rfl,_,rfl,iteF (hQ _ (Same.refl _))⟩
     ·have hq4:=s4 _ _ hq;have pr4:=Paired.mono pr fun _ _ _ e=>s4 _ _ e
      refine⟨_,rfl,_,rfl,iteT ?_⟩;refine⟨_,rfl,q,as,_,rfl,SqL.of hq4,zww pr4,by unfold dV;rw[al1q];lia,fun d ob hd=>?_⟩;rw[zif knd];have w1:=Same.new (o:=.frz ob (.dK (dV (keysOf ts (srt us)) fun k=>.int (h k)))) hd;obtain⟨F,hFz⟩:=zxw (Paired.mono pz4 fun _ _ _ z=>DcAt.same z w1);refine⟨_,rfl,d,pw,zs,keysOf ts (srt us),h,F,rfl,rfl,SqL.of (w1 _ _ hw4),.inr ⟨ob,zb⟩,hFz,_,rfl,?_⟩;rw[show (zs.any fun z=>(keysOf ts (srt us)).all fun k=>decide (F z k=h k))=true from by
       obtain⟨h',hm,eh⟩:=hs2 h W;obtain⟨j',hj'⟩:=al68q.mp hm;have hjz:j'<zs.length:=by have:=zag hj';lia
       have ez:=al3q hjz;refine al116q.mpr ⟨zs[j'],al78q hjz,al52q.mpr fun k hk=>al15q ?_⟩;rw[zuz (hFz _ (al78q hjz)) (DcAt.same (zak pz4 ez hj') w1) k hk,eh k hk]]
      refine iteF ?_;refine⟨_,rfl,_,rfl,by show 2<=sizeLine;decide,fun tp htp=>?_⟩;have w2:=Same.new (o:=.tup [.str u,.int y]) htp;have pr6:=Paired.mono pr4 fun _ _ _ e=>w2 _ _ (w1 _ _ e)
      have ft:∀(a:Str) (b:Int),∀x∈[V.str a,V.int b],zch x=true:=fun a b x hx=>by
       simp at hx;rcases hx with rfl | rfl<;>rfl
      refine⟨_,rfl,q,_,tupQ (upd (upd H4 d (.frz ob (.dK (dV (keysOf ts (srt us)) fun k=>.int (h k))))) tp (.tup [.str u,.int y])) [.str u,.int y],rfl,.inl (SqL.of (w2 _ _ (w1 _ _ hq4))),fun z hz=>?_,_,rfl,?_⟩
      ·obtain⟨b,hb,rfl⟩:=al27q.mp hz;obtain⟨j',hj'⟩:=al68q.mp hb;obtain⟨k',_,e⟩:=Paired.get' pr6 hj';have:=DEq.flatT (K:=K) (n:=7) (SqT.of e) (SqT.of zb) (ft k' (h k')) (ft u y);unfold tupQ;dsimp only;rw[e];exact this
      ·rw[al11q rfl,show ((as.map V.ref).any (tupQ (upd (upd H4 d (.frz ob (.dK (dV (keysOf ts (srt us)) fun k=>.int (h k))))) tp (.tup [.str u,.int y])) [.str u,.int y]))=true from by
        have hia:i<as.length:=by rw[Paired.length pr];lia
        have ea:=al3q hia;refine al116q.mpr ⟨.ref as[i],al27q.mpr ⟨_,al78q hia,rfl⟩,?_⟩;have e:=zak pr6 ea eu;unfold tupQ;dsimp only;rw[e,hy];exact zgs (ft u y)]
       exact hQ _ (w1.trans w2)
    ·exact⟨_,_,rfl,q3.trans (s4.trans s5)⟩
def kLaw:Nat:=11
theorem ptup {H:Hp}{f g:Str->Int}:∀{as:List ty1q}{ks:List Str},Paired (fun a k=>H a=some (.tup [.str k,.int (f k),.int (g k)])) as ks->Tups H as (ks.map fun k=>[.str k,.int (f k),.int (g k)])
 | _,_,.nil=>.nil
 | _,_,.cons h t=>.cons h (ptup t)
def sp_law:Sp:=fun vs H Q _=>∃(a:ty1q) (ns:List Int),vs = [.ref a]/\SqL K H a (ns.map V.int)/\ns.length<=63/\∀H',Q (.bl true) H'
theorem h_law (T:Tx K mg w zk zo zg zm):Has P w K mg base "law" ["_law_script"] kLaw (sp_law (K:=K)):=by
 refine T.zxx.has sc_law (fun vs H Q E h=>?_) (fun f cdv A outer s H vs Q E hr h=>?_)
 ·obtain⟨a,ns,rfl,_⟩:=h;rfl
 ·obtain⟨a,ns,rfl,ha,hl,k⟩:=h;have hu:=zbp hr;refine⟨_,(zc (sset (i:=1) sc_law.nd (pfn (zis T) (za (pv 0) zd)))
   (zc (sset (i:=2) sc_law.nd (zap (zfn (P:=P) (w:=w) rfl rfl rfl) (by rfl) T.sorted al171q (za (za2 (zom (P:=P) (w:=w) (K:=K) rfl rfl rfl rfl) (by rfl) T.set PyProof.Rows.boot_set (za (za2 (zd8 rfl) (by rfl) T.list al113q (za (znp K rfl PySem.F.plainAttrs_dict PySem.F.slot_dict_values PySem.F.type_dict_values zhu (pfn (zdb T) (za (pv 1) zd))) zd)) zd)) zd)))
   (zc (sset (i:=3) sc_law.nd (pfn (zfd T) (za (pv 1) (za (pv 2) zd))))
   (zc (sset (i:=4) sc_law.nd (pfn (zj4 T) (za (pv 1) zd)))
   (zc (zaz (zw (zje K rfl (hu10 hr)) (pv 3) (zad zd) (zae _)) (zf (zy (zmw (zu8 (pv 4))))) zz)
   (zc (sset (i:=5) sc_law.nd (zad zd))
   (zc (zac al21q rfl (zr K rfl (pv 2)) (gnm (i:=6) sc_law.nd) (zc (sset (i:=7) sc_law.nd (zap (zfa (P:=P) (w:=w) rfl rfl rfl) (by rfl) T.sorted al171q (za (za2 (zpm (P:=P) (w:=w) (K:=K) rfl rfl rfl rfl) (by rfl) T.set PyProof.Rows.boot_set (za (zb4 (own:=["_law_way"]) (cap:=["_law_name"]) (ix:=[6]) (osc:=zj (top 48)) rfl ⟨rfl,by decide +kernel,by decide +kernel,by decide +kernel,by decide +kernel⟩ rfl (zr K rfl (pv 3)) (fun _ _ _ _=>zbg (i:=0) (show List.Nodup (["_law_way","_law_name"]:List Str) by decide +kernel) rfl (Or.inl rfl)) (fun _ _ _ _=>zb3) (fun _ _ _ _=>(zp hu (pv 0) (pv 1) (fun _ _=>rfl)))) zd)) zd)))
    (zc (zaz (zw zqf (zap (za0 K rfl) (by rfl) T.len al198q (za (pv 7) zd)) (zah zbb (zah zki (pix (zab K rfl) (pv 7) (zta zm1 ze)) (pix (zab K rfl) (pv 7) ze)) ze) (zae _)) (zf (zy zec)) zz)
    (zf (zat (zbz K rfl PySem.F.plainAttrs_list PySem.F.slot_list_append PySem.F.type_list_append zar (pv 5) (za (zao (za (pv 6) (za (pix (zab K rfl) (pv 7) ze) (za (pix (zab K rfl) (pv 7) (zta zm1 ze)) zd)))) zd)))))))
   (zf (zy (zva (zi3 (zje K rfl (hu10 hr)) (pv 4) (pv 5) (zae _)) (zu9 (pfn (zei T) (za (pv 1) (za (pv 2) (za (pv 3) zd))))))))))))))),?_⟩
  rw[show L2.start (["_law_script","_law_telling","_law_names_here","_law_ways","_law_found","_law_due","_law_name","_law_years"]:List Str) [V.ref a] = [some (V.ref a),none,none,none,none,none,none,none] from rfl]
  try dsimp only [zn,List.set]
  refine⟨_,rfl,a,ns,rfl,ha,hl,fun p pm pu pt' pf lo hi us ads ts af fs H1 hF nr lh lh2 lu lfs s1=>?_⟩;clear ha s1;have hts:=hF.tel.ends;have lf:=hF.flen;have knd:=zaj (ts:=ts) hF.tel.nd
  try dsimp only [zn,List.set]
  refine⟨_,rfl,p,pu,pt',_,_,us,ads,ts,rfl,hF.tel,fun pb H3 s3 fpb hb3=>?_⟩;refine⟨.inr (.inr (.inl ⟨rfl,.inl ⟨_,hb3⟩⟩)),pb,_,rfl,rfl,hb3,fun pv hpv=>?_⟩;have t2:=Same.new (o:=vwO pv pb) hpv;refine⟨pv,pb,_,rfl,zb,t2 _ _ hb3,fun l2 hl2=>?_⟩;have evs:((dN us (labs ts)).map fun kv=>kv.2)=(us.map (labs ts)).map V.str:=by unfold dN;rw[al75q,al75q];rfl
  rw[show (dN us (labs ts)).map (·.2)=(us.map (labs ts)).map V.str from evs];have t3:=Same.new (o:=.lst ((us.map (labs ts)).map V.str)) hl2;refine⟨l2,us.map (labs ts),rfl,SqL.of zb,by rw[al1q];lia,fun ps ds hps dnd dmem dlen=>?_⟩;have t4:=Same.new (o:=setO P w ps ds) hps;rw[al1q] at dlen;refine⟨ps,ds,rfl,zb,dnd,by lia,fun pk m3 hl3' p3 r3=>?_⟩;have em:=zjp hF.tel.nd hts dnd dmem p3 r3;subst em;have t5:=Same.new (o:=.lst ((keysOf ts (srt us)).map V.str)) hl3';have s5:=s3.trans (t2.trans (t3.trans (t4.trans t5)));have hk5:upd (upd (upd (upd H3 pv (vwO pv pb)) l2 (.lst ((us.map (labs ts)).map V.str))) ps (setO P w ps ds)) pk (.lst ((keysOf ts (srt us)).map V.str)) pk=some (.lst ((keysOf ts (srt us)).map V.str)):=zb;generalize upd (upd (upd (upd H3 pv (vwO pv pb)) l2 (.lst ((us.map (labs ts)).map V.str))) ps (setO P w ps ds)) pk (.lst ((keysOf ts (srt us)).map V.str))=H5 at s5 hk5;have F5:=hF.same s5;clear s3 t2 t3 t4 t5 hb3 s5 hF dmem dnd dlen p3 r3
  try dsimp only [zn,List.set]
  refine⟨_,rfl,_,rfl,p,pm,pu,pt',pf,lo,hi,us,ads,ts,af,fs,pk,rfl,F5,SqL.of hk5,lh,lh2,lu,fun pw zs hs H6 s6 _ hw6 pz6 lz hs1 hs2=>?_⟩;have F6:=F5.same s6;have hk6:=s6 _ _ hk5;have lhz:=Paired.length pz6
  try dsimp only [zn,List.set]
  refine⟨_,rfl,p,pm,pu,pt',pf,lo,hi,us,ads,ts,af,fs,rfl,F6,nr,fun q f g H7 s7 hS hf hg no=>?_,fun c wd H7 s7 ri=>?_⟩
  rotate_left
  ·have e0:zs = []:=by
    cases hs with
    | nil=>exact al107q lhz
    | cons h r=>exact (zo2 hts lf (hs1 h (al37q ..)) ri).elim
   subst e0
   try dsimp only [zn,List.set]
   refine zbs true (fun Q' hQ=>⟨_,rfl,by decide,fun e he=>⟨pw,e,_,rfl,rfl,DEq.nilL (SqL.of (Same.new he _ _ (s7 _ _ hw6))) (SqL.of zb),_,rfl,hQ _ (Same.new he)⟩⟩) (fun H8 s8=>iteT ?_);exact⟨_,rfl,k _⟩
  ·have le:=zep hts hf hg no;have hne:zs≠[]:=fun z=>by
    obtain⟨h',hm,_⟩:=hs2 f (zgh hts F6.fu lf hf hg no).1;rw[z] at lhz;have:hs = []:=al107q lhz.symm;rw[this] at hm;cases hm
   have B:∀u∈keysOf ts (srt us),∀y,y∈hs.map (fun h=>h u)↔f u<=y/\y<=g u:=fun u huk y=>by
    rw[al27q];constructor
    ·rintro ⟨h,hh,rfl⟩;exact zsy hts lf (hs1 h hh) huk (hf u huk) (hg u huk)
    ·rintro ⟨h1,h2⟩;obtain⟨h,W,e⟩:=zwc hts F6.fu lf nr no hf hg huk h1 h2;obtain⟨h',hm,eh⟩:=hs2 h W;exact⟨h',hm,by rw[eh u huk,e]⟩
   have bd:∀u∈keysOf ts (srt us),lo<=f u/\g u<=hi:=fun u huk=>by
    obtain⟨h1,h2⟩:=zgh hts F6.fu lf hf hg no;exact⟨(okK_iff.mp ((lawB_iff.mp h1).1 u huk)).1,(okK_iff.mp ((lawB_iff.mp h2).1 u huk)).2⟩
   try dsimp only [zn,List.set]
   refine zbs false (fun Q' hQ=>⟨_,rfl,by decide,fun e he=>⟨pw,e,_,rfl,rfl,DEq.nilL (SqL.of (Same.new he _ _ (s7 _ _ hw6))) (SqL.of zb),_,rfl,by rw[al22q fun z=>hne (List.map_eq_nil_iff.mp z)];exact hQ _ (Same.new he)⟩⟩) (fun H8 s8=>iteF ?_);have q8:=s7.trans s8;have F8:=F6.same q8;have hk8:=q8 _ _ hk6;have hw8:=q8 _ _ hw6;have pz8:=Paired.mono pz6 fun _ _ _ z=>DcAt.same z q8
   obtain⟨as,hq7,pr7⟩:=hS;have hq8:=s8 _ _ hq7;have pr8:=Paired.mono pr7 fun _ _ _ e=>s8 _ _ e
   clear q8 s7 s8 hq7 pr7 pz6 hw6 hk6 F6 F5 hk5 s6
   try unfold zfj
   try dsimp only [zn,List.set]
   refine⟨by decide,fun du hdu=>?_⟩;have t9:=Same.new (o:=.lst []) hdu;have F9:=F8.same t9;have hk9:=t9 _ _ hk8;have hw9:=t9 _ _ hw8;have pz9:=Paired.mono pz8 fun _ _ _ z=>DcAt.same z t9
   have hq9:=t9 _ _ hq8;have pr9:=Paired.mono pr8 fun _ _ _ e=>t9 _ _ e
   have ed9:=zb (H:=H8) (a:=du) (o:=.lst []);have nkd:pk≠du:=zi hk8 hdu;have nwd:pw≠du:=zi hw8 hdu;have nqd:q≠du:=zi hq8 hdu;have t9':∀{H':Hp},(∀b o,upd H8 du (.lst []) b=some o->b≠du->H' b=some o)->Same H8 H':=fun kp b o e=>kp b o (t9 _ _ e) (zi e hdu)
   generalize upd H8 du (.lst [])=H9 at F9 hk9 hw9 pz9 hq9 pr9 ed9 t9';clear t9
   try dsimp only [zn,List.set]
   refine⟨_,rfl,pk,rfl,⟨_,SqL.of hk9⟩,zaa (K:=K) (a:=pk) (xs:=(keysOf ts (srt us)).map V.str) (fun i σ H'=>∃(v6 v7:Option V) (ds:List ty1q),σ = [some (.ref a),some (.ref p),some (.ref pk),some (.ref pw),some (.ref q),some (.ref du),v6,v7]/\(∀b o,H9 b=some o->b≠du->H' b=some o)/\H' du=some (.lst (ds.map V.ref))/\Tups H' ds (((keysOf ts (srt us)).take i).map fun k=>[.str k,.int (f k),.int (g k)]))
    ⟨none,none,[],rfl,fun b o e _=>e,ed9,by rw[al186q];exact .nil⟩ (fun i σ H' _ h=>by obtain⟨_,_,_,_,kp,_⟩:=h;exact SqL.of (kp _ _ hk9 nkd)) ?_ ?_⟩
   ·rintro i v σ H10 hv ⟨v6,v7,ds,rfl,kp,hd10,td⟩;have hi':=zag hv;rw[al1q] at hi';obtain⟨u,eu⟩:∃u,(keysOf ts (srt us))[i]? = some u:=⟨_,al3q hi'⟩;rw[al10q,eu] at hv;cases hv;have huk:=al6q eu;have s10:=t9' kp;have hw10:=s10 _ _ hw8;have pz10:=Paired.mono pz8 fun _ _ _ z=>DcAt.same z s10
    have lds:ds.length<=63:=by
     have:=td.len;rw[al1q,al25q] at this;have:=F8.tel.klen;lia
    try dsimp only [zn,List.set]
    refine⟨_,rfl,pw,rfl,⟨_,SqL.of hw10⟩,fun D hD=>?_⟩;refine zbi (zcs (K:=K) (a:=pw) (xs:=zs.map V.ref)) (fun i σ' ys H'=>∃(w0:Option V),σ' = [w0,some (.str u)]/\ys=(hs.take i).map (fun h=>V.int (h u))/\Same H10 H'/\H' D=some (.lst ys))
     ⟨none,rfl,rfl,Same.new hD,zb⟩ (fun i σ' ys H' h=>?_) (by rw[al1q];exact zau (by lia)) ?_ ?_
    ·obtain⟨_,_,rfl,q,hd⟩:=h;exact⟨SqL.of (q _ _ hw10),hd,by rw[al1q,al25q];lia⟩
    ·rintro i' v' σ' ys H11 hv' ⟨w0,rfl,rfl,q11,hd11⟩;have hix:=zag hv';have hj':i'<zs.length:=by rw[al1q] at hix;exact hix
     obtain⟨z,ez⟩:∃z,zs[i']? = some z:=⟨_,al3q hj'⟩;obtain⟨h,eh⟩:∃h,hs[i']? = some h:=⟨_,al3q (by lia)⟩;rw[al10q,ez] at hv';cases hv';have dz:=DcAt.same (zak pz10 ez eh) q11
     try dsimp only [zn,List.set]
     unfold tYes;dsimp only;rw[al11q rfl];refine⟨_,rfl,_,rfl,z,_,rfl,zs5 dz huk,hd11,zdy hix ⟨_,rfl,?_,q11.upd hD,zb⟩⟩;rw[al9q,eh,al16q];rfl
    ·rintro σ' ys H11 ⟨w0,rfl,rfl,q11,hdD⟩;rw[al1q,lhz,al23q,show hs.map (fun h=>V.int (h u))=(hs.map fun h=>h u).map V.int from by rw[al75q];rfl] at hdD;refine⟨D,hs.map fun h=>h u,rfl,SqL.of hdD,by rw[al1q];lia,fun E ds' hE nd' mem' _=>?_⟩;have mem2:∀y,y∈ds'↔f u<=y/\y<=g u:=fun y=>(mem' y).trans (B u huk y)
     have l3:ds'.length<=3:=by
      have h1:=zdq (I:=za4 lo 3) nd' fun x hx=>by
       have:=(mem2 x).mp hx;have:=bd u huk;exact yrs_mem.mpr (by lia)
      rw[zjs] at h1;exact h1
     refine⟨E,ds',rfl,zb,nd',l3,fun py ms hpy pm' sm=>?_⟩;have w1:=Same.new (o:=zmf P w E ds') hE;have w2:=Same.new (o:=.lst (ms.map V.int)) hpy;obtain⟨e1,e2,r,e3⟩:=zo4 (le u huk) (pm'.symm.nodup nd') (fun y=>(pm'.mem_iff).trans (mem2 y)) sm;have q12:=q11.trans (w1.trans w2);have hd12:=q12 _ _ hd10;have hy12:=zb (H:=upd H11 E (zmf P w E ds')) (a:=py) (o:=.lst (ms.map V.int));generalize upd (upd H11 E (zmf P w E ds')) py (.lst (ms.map V.int))=H12 at q12 hd12 hy12;have a0:atI (ms.map V.int) 0=some (.int (f u)):=zbk (j:=0) (by rw[al10q,e2];rfl);have a1:atI (ms.map V.int) (-1)=some (.int (g u)):=by rw[e3,al16q];exact zqj _ _
     try dsimp only [zn,List.set]
     refine zcx false (fun Q' hQ=>⟨_,rfl,py,_,rfl,.inl (SqL.of hy12),_,rfl,_,rfl,py,_,_,_,rfl,rfl,SqL.of hy12,a1,_,rfl,py,_,_,_,rfl,rfl,SqL.of hy12,a0,_,_,rfl,rfl,_,_,rfl,rfl,rfl,_,rfl,?_⟩) (iteF ?_)
     ·rw[al1q,e1,show decide (V.int (((g u-f u+1).toNat:Nat):Int)=V.int (g u-f u+1))=true from al15q (al67q V.int (by have:=le u huk;lia))];exact hQ
     ·try unfold zfj
      try dsimp only [zn,List.set]
      refine⟨_,rfl,.inl ⟨rfl,_,SqL.of hd12⟩,_,rfl,_,rfl,py,_,_,_,rfl,rfl,SqL.of hy12,a0,_,rfl,_,rfl,py,_,_,_,rfl,rfl,SqL.of hy12,a1,by show 3<=sizeLine;decide,fun b hb=>?_⟩;have w3:=Same.new (o:=.tup [.str u,.int (f u),.int (g u)]) hb;have hd13:=w3 _ _ hd12;refine⟨du,_,_,rfl,rfl,hd13,by rw[al1q];exact zq (by lia),?_⟩;refine⟨_,_,ds++[b],rfl,fun b' o e n=>by rw[zl n];exact w3 _ _ (q12 _ _ (kp b' o e n)),by rw[zb,al16q];rfl,?_⟩;rw[al9q,eu,al16q];exact Tups.snoc ((td.same (q12.trans w3)).stay (zaf hd13)) (zaf hd13 _ _ zb)
   ·rintro σ H10 ⟨v6,v7,ds,rfl,kp,hd10,td⟩;rw[al1q,al23q] at td;have s10:=t9' kp;have pr10:=Paired.mono pr8 fun _ _ _ e=>s10 _ _ e
    have tq:Tups H10 as ((keysOf ts (srt us)).map fun k=>[.str k,.int (f k),.int (g k)]):=ptup pr10
    try unfold zfj
    try dsimp only [zn,List.set]
    refine⟨_,rfl,_,rfl,q,du,true,rfl,rfl,zmc (n:=6) (s10 _ _ hq8) hd10 tq td (fun ws hw v hv=>?_),true,rfl,iteT ?_⟩
    ·obtain⟨z,_,rfl⟩:=al27q.mp hw;simp at hv;rcases hv with rfl | rfl | rfl<;>rfl
    ·exact⟨_,rfl,_,rfl,_,rfl,p,pm,pu,pt',pf,lo,hi,us,ads,ts,af,fs,pk,pw,zs,hs,f,g,rfl,F8.same s10,SqL.of (s10 _ _ hk8),s10 _ _ hw8,Paired.mono pz8 fun _ _ _ z=>DcAt.same z s10,lz,hs1,hs2,nr,no,by lia,hf,hg,fun H' _=>k H'⟩
end
end LK47
open PySem PySem.W PyProof.Rows
set_option maxRecDepth 100000 in
set_option maxHeartbeats 0 in
theorem PySem.Challenge.cw_digmatrix_k47_whole_small_frames_holds : PySem.Challenge.rw_digmatrix_k47_whole_small_frames.Holds := by
 w_on;o_law;k_head;(case hw=>w_witness2)
 k_fill
 refine L2.law_walk (l:=PySem.Challenge.rw_digmatrix_k47_whole_small_frames) (k:=LK47.kLaw) (x:="_law_script") (sp:=fun K=>LK47.sp_law (K:=K)) rfl rfl ⟨rfl,by decide,by decide⟩ (fun w h Y=>PySem.W.kIn_of Y) (fun K H a ns hl hS=>⟨a,ns,rfl,hS,hl,fun _=>rfl⟩) ?F
 case F=>
  intro w mg h KX G
  have T:∃zk,∃zo,∃zg,∃zm,LK47.Tx (L2.KOf KX) mg w zk zo zg zm:=by
   dsimp only [L2.KOf]
   refine' LK47.Tx.ex ⟨?z0,?z1,?z2,?z3,?z4,?z5,?z6,?z7,?z8,?z9,?z10,?z11,?z12,?z13,?z14,?z15,?z16,?z17,?z18,?z19,?z20,?z21,?z22,?z23,?z24,?z25,?z26,?z27,?z28,?z29,?z30,?z31,?z32,?z33,?z34,?z35,?z36,?z37,?z38,?z39,?z40,?z41,?z42,?z43,?z44,?z45,?z46,?z47,?z48,?z49,?z50,?z51,?z52,?z53,?z54,?z55,?z56,?z57,?z58,?z59,?z60,?z61,?z62,?z63,?z64,?z65,?z66⟩
   case z0=>refine' L2.const_mk KX G ?_<;>try k_is
   case z1=>refine' ⟨?_,?_,?_⟩<;>try k_is
   case z2=>refine' L2.const_mk KX G ?_<;>try k_is
   case z3=>refine' L2.xcls_of ?x3 ?y3 ?u3 ?v3;(case x3=>k_is);(case y3=>rfl);(case u3=>k_is);(case v3=>k_is)
   case z4=>refine' L2.xok_at ?x4 ?y4;(case x4=>k_is);(case y4=>rfl)
   case z5=>refine' L2.dfm_mk (fun _ _ _ _ _ _=>L2.len2 fun _ _=>rfl) ?_ ?_ ?_ ?_ ?_<;>try k_is
   case z6=>(unfold L2.NoAttr;k_is)
   case z7=>refine' L2.const_mk KX G ?_<;>try k_is
   case z8=>refine' ⟨?_,?_,?_⟩<;>try k_is
   case z9=>refine' L2.xcls_of ?x9 ?y9 ?u9 ?v9;(case x9=>k_is);(case y9=>rfl);(case u9=>k_is);(case v9=>k_is)
   case z10=>refine' L2.xok_at ?x10 ?y10;(case x10=>k_is);(case y10=>rfl)
   case z11=>refine' L2.dfm_mk (fun _ _ _ _ _ _=>L2.len2 fun _ _=>rfl) ?_ ?_ ?_ ?_ ?_<;>try k_is
   case z12=>(unfold L2.NoAttr;k_is)
   case z13=>refine' L2.const_mk KX G ?_<;>try k_is
   case z14=>refine' ⟨?_,?_,?_⟩<;>try k_is
   case z15=>refine' L2.xok_at ?x15 ?y15;(case x15=>k_is);(case y15=>rfl)
   case z16=>k_is
   case z17=>k_is
   case z18=>k_is
   case z19=>refine' L2.df_mk KX G (fun _ _ _ _ _ _=>L2.len2 fun _ _=>rfl) ?_ ?_ ?_ ?_<;>try k_is
   case z20=>refine' L2.df_mk KX G (fun _ _ _ _ _ _=>L2.len3 fun _ _ _=>rfl) ?_ ?_ ?_ ?_<;>try k_is
   case z21=>refine' L2.df_mk KX G (fun _ _ _ _ _ _=>L2.len2 fun _ _=>rfl) ?_ ?_ ?_ ?_<;>try k_is
   case z22=>refine' L2.df_mk KX G (fun _ _ _ _ _ _=>L2.len1 fun _=>rfl) ?_ ?_ ?_ ?_<;>try k_is
   case z23=>refine' L2.df_mk KX G (fun _ _ _ _ _ _=>L2.len1 fun _=>rfl) ?_ ?_ ?_ ?_<;>try k_is
   case z24=>refine' L2.df_mk KX G (fun _ _ _ _ _ _=>L2.len2 fun _ _=>rfl) ?_ ?_ ?_ ?_<;>try k_is
   case z25=>refine' L2.df_mk KX G (fun _ _ _ _ _ _=>L2.len1 fun _=>rfl) ?_ ?_ ?_ ?_<;>try k_is
   case z26=>refine' L2.df_mk KX G (fun _ _ _ _ _ _=>L2.len1 fun _=>rfl) ?_ ?_ ?_ ?_<;>try k_is
   case z27=>refine' L2.df_mk KX G (fun _ _ _ _ _ _=>L2.len2 fun _ _=>rfl) ?_ ?_ ?_ ?_<;>try k_is
   case z28=>refine' L2.df_mk KX G (fun _ _ _ _ _ _=>L2.len2 fun _ _=>rfl) ?_ ?_ ?_ ?_<;>try k_is
   case z29=>refine' L2.df_mk KX G (fun _ _ _ _ _ _=>L2.len1 fun _=>rfl) ?_ ?_ ?_ ?_<;>try k_is
   case z30=>refine' L2.df_mk KX G (fun _ _ _ _ _ _=>L2.len1 fun _=>rfl) ?_ ?_ ?_ ?_<;>try k_is
   case z31=>refine' L2.df_mk KX G (fun _ _ _ _ _ _=>L2.len1 fun _=>rfl) ?_ ?_ ?_ ?_<;>try k_is
   case z32=>refine' L2.df_mk KX G (fun _ _ _ _ _ _=>L2.len1 fun _=>rfl) ?_ ?_ ?_ ?_<;>try k_is
   case z33=>refine' L2.df_mk KX G (fun _ _ _ _ _ _=>L2.len1 fun _=>rfl) ?_ ?_ ?_ ?_<;>try k_is
   case z34=>refine' L2.df_mk KX G (fun _ _ _ _ _ _=>L2.len2 fun _ _=>rfl) ?_ ?_ ?_ ?_<;>try k_is
   case z35=>refine' L2.df_mk KX G (fun _ _ _ _ _ _=>L2.len2 fun _ _=>rfl) ?_ ?_ ?_ ?_<;>try k_is
   case z36=>refine' L2.df_mk KX G (fun _ _ _ _ _ _=>L2.len1 fun _=>rfl) ?_ ?_ ?_ ?_<;>try k_is
   case z37=>refine' L2.df_mk KX G (fun _ _ _ _ _ _=>L2.len1 fun _=>rfl) ?_ ?_ ?_ ?_<;>try k_is
   case z38=>refine' L2.df_mk KX G (fun _ _ _ _ _ _=>L2.len1 fun _=>rfl) ?_ ?_ ?_ ?_<;>try k_is
   case z39=>refine' L2.df_mk KX G (fun _ _ _ _ _ _=>L2.len1 fun _=>rfl) ?_ ?_ ?_ ?_<;>try k_is
   case z40=>refine' L2.df_mk KX G (fun _ _ _ _ _ _=>L2.len2 fun _ _=>rfl) ?_ ?_ ?_ ?_<;>try k_is
   case z41=>refine' L2.df_mk KX G (fun _ _ _ _ _ _=>L2.len1 fun _=>rfl) ?_ ?_ ?_ ?_<;>try k_is
   case z42=>refine' L2.df_mk KX G (fun _ _ _ _ _ _=>L2.len3 fun _ _ _=>rfl) ?_ ?_ ?_ ?_<;>try k_is
   case z43=>refine' L2.df_mk KX G (fun _ _ _ _ _ _=>L2.len2 fun _ _=>rfl) ?_ ?_ ?_ ?_<;>try k_is
   case z44=>refine' L2.df_mk KX G (fun _ _ _ _ _ _=>L2.len3 fun _ _ _=>rfl) ?_ ?_ ?_ ?_<;>try k_is
   case z45=>refine' L2.df_mk KX G (fun _ _ _ _ _ _=>L2.len2 fun _ _=>rfl) ?_ ?_ ?_ ?_<;>try k_is
   case z46=>refine' L2.df_mk KX G (fun _ _ _ _ _ _=>L2.len1 fun _=>rfl) ?_ ?_ ?_ ?_<;>try k_is
   case z47=>refine' L2.df_mk KX G (fun _ _ _ _ _ _=>L2.len5 fun _ _ _ _ _=>rfl) ?_ ?_ ?_ ?_<;>try k_is
   case z48=>refine' L2.df_mk KX G (fun _ _ _ _ _ _=>L2.len5 fun _ _ _ _ _=>rfl) ?_ ?_ ?_ ?_<;>try k_is
   case z49=>refine' L2.df_mk KX G (fun _ _ _ _ _ _=>L2.len1 fun _=>rfl) ?_ ?_ ?_ ?_<;>try k_is
   case z50=>refine' L2.df_mk KX G (fun _ _ _ _ _ _=>L2.len1 fun _=>rfl) ?_ ?_ ?_ ?_<;>try k_is
   case z51=>refine' L2.df_mk KX G (fun _ _ _ _ _ _=>L2.len1 fun _=>rfl) ?_ ?_ ?_ ?_<;>try k_is
   case z52=>refine' L2.df_mk KX G (fun _ _ _ _ _ _=>L2.len2 fun _ _=>rfl) ?_ ?_ ?_ ?_<;>try k_is
   case z53=>refine' L2.df_mk KX G (fun _ _ _ _ _ _=>L2.len2 fun _ _=>rfl) ?_ ?_ ?_ ?_<;>try k_is
   case z54=>refine' L2.df_mk KX G (fun _ _ _ _ _ _=>L2.len3 fun _ _ _=>rfl) ?_ ?_ ?_ ?_<;>try k_is
   case z55=>refine' L2.df_mk KX G (fun _ _ _ _ _ _=>L2.len1 fun _=>rfl) ?_ ?_ ?_ ?_<;>try k_is
   case z56=>refine' L2.df_mk KX G (fun _ _ _ _ _ _=>L2.len1 fun _=>rfl) ?_ ?_ ?_ ?_<;>try k_is
   case z57=>refine' L2.blt_mk KX G ?_;k_is
   case z58=>refine' L2.blt_mk KX G ?_;k_is
   case z59=>refine' L2.blt_mk KX G ?_;k_is
   case z60=>refine' L2.blt_mk KX G ?_;k_is
   case z61=>refine' L2.blt_mk KX G ?_;k_is
   case z62=>refine' L2.blt_mk KX G ?_;k_is
   case z63=>refine' L2.blt_mk KX G ?_;k_is
   case z64=>refine' L2.blt_mk KX G ?_;k_is
   case z65=>refine' L2.blt_mk KX G ?_;k_is
   case z66=>refine' L2.blt_mk KX G ?_;k_is
  obtain⟨_,_,_,_,T⟩:=T
  exact fun base _ _=>LK47.h_law T
#print axioms PySem.Challenge.cw_digmatrix_k47_whole_small_frames_holds
