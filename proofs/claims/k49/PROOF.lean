import PyProof.Rows.All
import Wide.All
import OpenK.AllK
import Wide.FinOn
import Lean
import PyProof.EqAt
import PyProof.EqKinds
import PyProof.TupleCall
import PyProof.ZipIter
import PyProof.DictWalks
import PyProof.StrOps2
import KE.IntTextLaws
import PyProof.StrBlockI
import PyProof.StrLawsIn
import PyProof.AutoSeq1
import PyProof.WalkInts
import PyProof.Rows.SetFrom
import PyProof.SetKind
import PyProof.CollectWalk
import PyProof.MinMaxWalk
import PyProof.TupleKey
import PyProof.FString5
import KE.KDictOf
import PyProof.AttrMissHeap
import KE.KSortTup
import PyProof.MeetsSeq3
import PyProof.DictUpdate
import PyProof.StrLawsChain
import PyProof.StrLawsTight
import PyProof.Rows.StrItems
import PyProof.ExcInit
import PyProof.ExcClass3
import PyProof.ExcBaseAll.ValueError
import PyProof.FString
import PyProof.Rows.FStr
import PyProof.RaisesMany
import PyProof.RulesAs
import PyProof.NsDelKeeps
import PyProof.ExcAttrAll.ValueError
import PyProof.Rows.SumAny
import PySem.Challenge.RW_digmatrix_k49_whole_straight_rows
abbrev ty0q:=PySem.W.Frag
abbrev ty1q:=PySem.Addr
abbrev ty2q:=PySem.Shared
abbrev ty3q:=PySem.Value
abbrev ty4q:=PySem.Program
abbrev ty90q:=PySem.Value->PySem.Shared->Prop
abbrev ty91q:=List (PySem.Addr×PySem.Obj)
abbrev al0q:=@List.length_map
abbrev al1q:=@List.getElem?_eq_getElem
abbrev al2q:=@PySem.wpAny_bind
abbrev al3q:=@List.getElem?_eq_some_iff
abbrev al4q:=@List.getElem?_map
abbrev al5q:=@PySem.Heap.get?_push_of_some
abbrev al6q:=@List.mem_of_getElem?
abbrev al7q:=@PySem.wpAny_pure
abbrev al8q:=@if_neg
abbrev al9q:=@List.take_add_one
abbrev al10q:=@decide_eq_true
abbrev al11q:=@List.getD_eq_getElem?_getD
abbrev al12q:=@if_pos
abbrev al13q:=@Nat.le_refl
abbrev al14q:=@PySem.Heap.lt_size
abbrev al15q:=@List.map_append
abbrev al16q:=@of_decide_eq_true
abbrev al17q:=@decide_eq_false
abbrev al18q:=@List.length_append
abbrev al19q:=@List.mem_cons_of_mem
abbrev al20q:=@PySem.Heap.get?_push_size
abbrev al21q:=@List.mem_cons
abbrev al22q:=@List.take_length
abbrev al23q:=@Bool.false_ne_true
abbrev al24q:=@PySem.Heap.get?_update_other
abbrev al25q:=@List.mem_append
abbrev al26q:=@Ne.symm
abbrev al27q:=@List.size_toArray
abbrev al28q:=@List.length_take
abbrev al29q:=@List.mem_iff_getElem?
abbrev al30q:=@PySem.PassesOwn.never
abbrev al31q:=@Nat.ne_of_lt
abbrev al32q:=@List.mem_map
abbrev al33q:=@PySem.Heap.get?_update_self
abbrev al34q:=@Decidable.byContradiction
abbrev al35q:=@List.mem_append_left
abbrev al36q:=@List.mem_range
abbrev al37q:=@Nat.lt_of_lt_of_le
abbrev al38q:=@Array.getElem?_eq_some_iff
abbrev al39q:=@List.mem_append_right
abbrev al40q:=@decide_eq_true_iff
abbrev al41q:=@Option.some.inj
abbrev al42q:=@Array.getElem?_eq_getElem
abbrev al43q:=@List.mem_filter
abbrev al44q:=@List.length_range
abbrev al45q:=@List.getElem?_zip_eq_some
abbrev al46q:=@List.getElem_mem
abbrev al47q:=@List.getElem?_append_left
abbrev al48q:=@List.pairwise_iff_getElem
abbrev al49q:=@Bool.and_eq_true
abbrev al50q:=@List.getElem?_append_right
abbrev al51q:=@PySem.wpAny_mono
abbrev al52q:=@List.take_of_length_le
abbrev al53q:=@Nat.lt_irrefl
abbrev al54q:=@PySem.Around.under_plainId
abbrev al55q:=@PySem.F.plain_max_loop
abbrev al56q:=@List.mem_cons_self
abbrev al57q:=@List.pairwise_cons
abbrev al58q:=@Nat.le_trans
abbrev al59q:=@List.length_filter_le
abbrev al60q:=@PySem.wpAny_holding
abbrev al61q:=@congrArg
abbrev al62q:=@List.append_nil
abbrev al63q:=@PySem.wpAny_updateSeq
abbrev al64q:=@List.not_mem_nil
abbrev al65q:=@Nat.zero_le
abbrev al66q:=@PySem.Obj.isFreed_of_fields
abbrev al67q:=@beq_eq_false_iff_ne
abbrev al68q:=@List.map_congr_left
abbrev al69q:=@List.lt_irrefl
abbrev al70q:=@PySem.wpAny_newObj_type
abbrev al71q:=@PySem.plainId_quiet
abbrev al72q:=@PySem.Obj.data_mapFields
abbrev al73q:=@List.map_map
abbrev al74q:=@Int.emod_lt_of_pos
abbrev al75q:=@List.nodup_cons
abbrev al76q:=@PySem.codeAny_builtin
abbrev al77q:=@PySem.wpAny_tryCatch
abbrev al78q:=@List.length_zip
abbrev al79q:=@List.map_cons
abbrev al80q:=@PyProof.Rows.boot_sorted
abbrev al81q:=@Array.length_toList
abbrev al82q:=@PySem.wpAny_truthy_bool
abbrev al83q:=@PySem.Heap.get?_none_of_le
abbrev al84q:=@Bool.false_eq_true
abbrev al85q:=@List.mem_singleton
abbrev al86q:=@PySem.wpAny_seqItems
abbrev al87q:=@List.filter_append
abbrev al88q:=@PySem.codeAny_call_builtin
abbrev al89q:=@of_decide_eq_false
abbrev al90q:=@List.nodup_iff_pairwise_ne
abbrev al91q:=@List.of_mem_zip
abbrev al92q:=@Int.emod_nonneg
abbrev al93q:=@PySem.wpAny_pyNext_list_item
abbrev al94q:=@List.all_eq_true
abbrev al95q:=@PySem.sizeLine_eq
abbrev al96q:=@List.getElem?_eq_none
abbrev al97q:=@PySem.F.slot_dict_keyiterator_next
abbrev al98q:=@Nat.lt_or_ge
abbrev al99q:=@List.length_cons
abbrev al100q:=@PySem.wpAny_call_entry
abbrev al101q:=@Nat.lt_trichotomy
abbrev al102q:=@List.nodup_append
abbrev al103q:=@PySem.wpAny_loadPart_at
abbrev al104q:=@PyProof.Rows.boot_list
abbrev al105q:=@List.getElem?_range
abbrev al106q:=@PySem.wpAny_letGo
abbrev al107q:=@Classical.byContradiction
abbrev al108q:=@List.any_eq_true
abbrev al109q:=@PySem.Heap.size_push
abbrev al110q:=@PySem.wpAny_typeNameOfWhole_keyiter
abbrev al111q:=@Int.le_refl
abbrev al112q:=@List.mem_of_mem_take
abbrev al113q:=@Nat.lt_succ_of_lt
abbrev al114q:=@List.filter_sublist
abbrev al115q:=@List.length_pos_iff
abbrev al116q:=@PyProof.Rows.callWith_type1
abbrev al117q:=@Array.getElem?_eq_none
abbrev al118q:=@Array.getD_eq_getD_getElem?
abbrev al119q:=@List.any_cons
abbrev al120q:=@decide_eq_decide
abbrev al121q:=@PySem.F.plain_min_loop
abbrev al122q:=@PySem.wpAny_setField
abbrev al123q:=@PySem.wpAny_pyNext_list_end
abbrev al124q:=@PySem.wpAny_passesOwn
abbrev al125q:=@Bool.eq_iff_iff
abbrev al126q:=@PySem.wpAny_pyIter_list
abbrev al127q:=@List.mem_iff_getElem
abbrev al128q:=@Nat.le_succ
abbrev al129q:=@Int.toNat_natCast
abbrev al130q:=@PySem.boot_len
abbrev al131q:=@List.length_erase_of_mem
abbrev al132q:=@List.filterMap_cons
abbrev al133q:=@PySem.wpAny_eqBool_str
abbrev al134q:=@List.length_drop
abbrev al135q:=@List.length_eq_zero_iff
abbrev al136q:=@PySem.wpAny_callSpecial?_slot
abbrev al137q:=@PySem.wpAny_isInstance
abbrev al138q:=@PySem.isSubtype_type
abbrev al139q:=@Nat.lt_succ_self
abbrev al140q:=@PySem.F.entry_max_loop
abbrev al141q:=@List.filter_cons_of_pos
abbrev al142q:=@List.filter_cons_of_neg
abbrev al143q:=@PySem.wpAny_field
abbrev al144q:=@List.getElem?_set_self
abbrev al145q:=@Nat.ne_of_gt
abbrev al146q:=@PySem.wpAny_call
abbrev al147q:=@PySem.wpAny_Call_Name_kw
abbrev al148q:=@PySem.Calls.callWith_builtin
abbrev al149q:=@List.length_pos_of_mem
abbrev al150q:=@List.filter_eq_nil_iff
abbrev al151q:=@if_false
abbrev al152q:=@List.find?_cons
abbrev al153q:=@List.forIn_cons
abbrev al154q:=@Array.getElem?_toList
abbrev al155q:=@PyProof.Rows.boot_sum
abbrev al156q:=@List.append_assoc
abbrev al157q:=@List.ext_getElem?
abbrev al158q:=@List.getElem?_set_ne
abbrev al159q:=@PySem.Calls.evalArgs_plain
abbrev al160q:=@PySem.wpAny_rule
abbrev al161q:=@PySem.F.slot_list_reversed
abbrev al162q:=@Nat.le_of_lt
abbrev al163q:=@PySem.codeAny_mono
abbrev al164q:=@Nat.not_lt_of_le
abbrev al165q:=@List.length_reverse
abbrev al166q:=@PySem.wpAny_isSubtype_exc
abbrev al167q:=@PySem.wpAny_standAt
abbrev al168q:=@List.getElem?_take_of_lt
abbrev al169q:=@List.lt_trans
abbrev al170q:=@PySem.wpAny_execs_nil
abbrev al171q:=@PySem.W.KasT.kasWp_bind
abbrev al172q:=@PySem.tupleKind_room_in1
abbrev al173q:=@Nat.lt_of_le_of_lt
abbrev al174q:=@PySem.wpAny_tupleItemsOf
abbrev al175q:=@List.map_nil
abbrev al176q:=@PySem.wpAny_dictEntries
abbrev al177q:=@List.pairwise_map
abbrev al178q:=@Nat.sub_self
abbrev al179q:=@List.take_zero
abbrev al180q:=@List.getElem?_reverse
abbrev al181q:=@List.take_append_drop
abbrev al182q:=@PySem.builtinLookup_eq_fast
abbrev al183q:=@Nat.le_of_not_lt
abbrev al184q:=@Option.getD_some
abbrev al185q:=@beq_self_eq_true
abbrev al186q:=@List.mem_reverse
abbrev al187q:=@PySem.wpAny_attempt
abbrev al188q:=@Sum.inr.inj
abbrev al189q:=@PySem.wpAny_of_eq
abbrev al190q:=@PySem.wpAny_dictEpoch
abbrev al191q:=@PySem.wpAny_typeOf
abbrev al192q:=@or_false
set_option Elab.async false
set_option linter.all false
set_option maxRecDepth 100000
set_option maxHeartbeats 16000000
def PySem.W.Fast.tw11803648458685404526:Unit:=()
def PySem.W.Fast.tw5499050746948142894:Unit:=()
def PySem.W.Fast.tw3904038913747749866:Unit:=()
def PySem.W.Fast.tw13752373640419112281:Unit:=()
def PySem.W.Fast.tw2345345623347268509:Unit:=()
def PySem.W.Fast.tw8618239703271584298:Unit:=()
def PySem.W.Fast.tw4983775023770417255:Unit:=()
def PySem.W.Fast.tw2710086507510167838:Unit:=()
def PySem.W.Fast.tw12632031886086010667:Unit:=()
def PySem.W.Fast.tw7635093231262078774:Unit:=()
def PySem.W.Fast.tw13354290948986653743:Unit:=()
def PySem.W.Fast.tw17287778872953258963:Unit:=()
def PySem.W.Fast.tw12763299423910237243:Unit:=()
namespace L2
open PySem PySem.Spec PyProof.Rows
abbrev Key:=Sum Int Str
def zik:Key->ty3q->Bool
  | .inl k,v=>Value.isInt k v
  | .inr x,v=>Value.isStrOf x v
def keyH (w:World):Key->Int
  | .inl k=>hashInt k
  | .inr x=>hashStr w x
theorem zaz:∀{k:Key}{v:ty3q},zik k v=true->(∃i t,k=Sum.inl i/\v=Value.int i t)\/(∃x t,k=Sum.inr x/\v=Value.str x t)
  | .inl i,v,h=>by
    obtain⟨t,e⟩:=Value.isInt_shape (k:=i) (v:=v) h;exact .inl ⟨i,t,rfl,e⟩
  | .inr x,v,h=>by
    obtain⟨t,e⟩:=Value.isStrOf_shape (x:=x) (v:=v) h;exact .inr ⟨x,t,rfl,e⟩
theorem zl8 (i:Int) (t:Tok):zik (.inl i) (.int i t)=true:=by simp[zik,Value.isInt]
theorem zl9 (x:Str) (t:Tok):zik (.inr x) (.str x t)=true:=by simp[zik,Value.isStrOf]
theorem zt2 (a b:Int):decide ((Sum.inl a:Key)=Sum.inl b)=(a == b):=by
  by_cases e:a=b
  · subst e;simp
  · have h:¬(Sum.inl a:Key)=Sum.inl b:=fun q=>e (Sum.inl.inj q)
    rw[al17q h];exact (al67q.mpr e).symm
theorem zt3 (a b:Str):decide ((Sum.inr a:Key)=Sum.inr b)=decide (a=b):=by
  by_cases e:a=b
  · subst e;simp
  · have h:¬(Sum.inr a:Key)=Sum.inr b:=fun q=>e (al188q q)
    rw[al17q h,al17q e]
theorem zt4 (a:Int) (b:Str):decide ((Sum.inl a:Key)=Sum.inr b)=false:=al17q (fun q=>nomatch q)
theorem zt5 (a:Str) (b:Int):decide ((Sum.inr a:Key)=Sum.inl b)=false:=al17q (fun q=>nomatch q)
def zbf (prog:ty4q) (w:World):PySem.KeyKind prog w Key where
  is:=zik
  hash:=keyH w
  inj:=fun v a b ha hb=>by
    rcases zaz ha with ⟨i,t,rfl,rfl⟩ | ⟨x,t,rfl,rfl⟩
    · rcases zaz hb with ⟨j,u,rfl,e⟩ | ⟨y,u,rfl,e⟩
      · injection e with e1 _;rw[e1]
      · exact nomatch e
    · rcases zaz hb with ⟨j,u,rfl,e⟩ | ⟨y,u,rfl,e⟩
      · exact nomatch e
      · injection e with e1 _;rw[e1]
  byValue:=fun k v h=>by
    rcases zaz h with ⟨i,t,rfl,rfl⟩ | ⟨x,t,rfl,rfl⟩<;>rfl
  pyHash:=fun hv h=>by
    rcases zaz hv with ⟨i,t,rfl,rfl⟩ | ⟨x,t,rfl,rfl⟩
    · exact wpAny_pyHash_int h
    · exact wpAny_pyHash_str h
  eqBool:=fun hu hv h=>by
    rcases zaz hu with ⟨i,t,rfl,rfl⟩ | ⟨x,t,rfl,rfl⟩
    · rcases zaz hv with ⟨j,u,rfl,rfl⟩ | ⟨y,u,rfl,rfl⟩
      · rw[zt2] at h;exact wpAny_eqBool_int h
      · rw[zt4] at h;exact SeqAt.EqAt.int_str i t y u _ _ _ _ h
    · rcases zaz hv with ⟨j,u,rfl,rfl⟩ | ⟨y,u,rfl,rfl⟩
      · rw[zt5] at h;exact SeqAt.EqAt.str_int x t j u _ _ _ _ h
      · rw[zt3] at h;exact al133q h
  «strs»:=fun k x t v h=>by
    rcases zaz h with ⟨i,u,rfl,e⟩ | ⟨y,u,rfl,e⟩
    · exact nomatch e
    · injection e with e1 _
      subst e1;cases v<;>rfl
theorem zil (prog:ty4q) (w:World) (i:Int) (t:Tok):(zbf prog w).is (.inl i) (.int i t)=true:=zl8 i t
theorem zim (prog:ty4q) (w:World) (x:Str) (t:Tok):(zbf prog w).is (.inr x) (.str x t)=true:=zl9 x t
inductive V where
  | non | bl (b:Bool) | int (i:Int) | str (x:Str) | byt (b:Array UInt8) | flt (b:UInt64) | ref (a:ty1q) | ty (n:String)
  deriving DecidableEq
def RelV:V->ty3q->Prop
  | .non,u=>u=Value.none
  | .bl b,u=>u=Value.bool b
  | .int i,u=>∃t,u=Value.int i t
  | .str x,u=>∃t,u=Value.str x t
  | .byt b,u=>∃t,u=Value.bytes b t
  | .flt b,u=>∃t,u=Value.float b t
  | .ref a,u=>u=Value.ref a
  | .ty n,u=>u=Value.type n
abbrev Vals:List V->List ty3q->Prop:=Paired RelV
theorem Vals.length {xs:List V}{us:List ty3q}(r:Vals xs us):xs.length=us.length:=Paired.length r
theorem Vals.get:∀{xs:List V}{us:List ty3q}{i:Nat}{x:V},Vals xs us->xs[i]? = some x->∃u,us[i]? = some u/\RelV x u
  | _,_,_,_,.nil,e=>by simp at e
  | _,_,0,_,.cons r _,e=>by simp at e;subst e;exact⟨_,rfl,r⟩
  | _,_,i+1,x,.cons _ t,e=>by
    obtain⟨u,h1,h2⟩:=Vals.get (i:=i) (x:=x) t (by simpa using e);exact⟨u,by simpa using h1,h2⟩
theorem Vals.append:∀{xs ys:List V}{us ws:List ty3q},Vals xs us->Vals ys ws->Vals (xs++ys) (us++ws)
  | _,_,_,_,.nil,s=>s
  | _,_,_,_,.cons r t,s=>.cons r (Vals.append t s)
theorem Vals.take:∀{xs:List V}{us:List ty3q}(n:Nat),Vals xs us->Vals (xs.take n) (us.take n)
  | _,_,0,_=>.nil
  | _,_,_+1,.nil=>.nil
  | _,_,n+1,.cons r t=>.cons r (Vals.take n t)
theorem Vals.drop:∀{xs:List V}{us:List ty3q}(n:Nat),Vals xs us->Vals (xs.drop n) (us.drop n)
  | _,_,0,r=>r
  | _,_,_+1,.nil=>.nil
  | _,_,n+1,.cons _ t=>Vals.drop n t
def RelO:Option V->Option ty3q->Prop
  | some v,some u=>RelV v u
  | none,none=>True
  | _,_=>False
def KV {κ:Type}:List (κ×V)->List (κ×ty3q)->Prop:=Paired fun (p:κ×V) (q:κ×ty3q)=>p.1=q.1/\RelV p.2 q.2
def kV:Key->V
  | .inl i=>.int i
  | .inr x=>.str x
inductive HO where
    | lst (xs:List V)
    | tup (xs:List V)
    | dK (kvs:List (Key×V)) | dT (kvs:List (List Key×V))
    | set (S:Int->Bool) (n:Nat)
    | ins (C dx:ty1q) (fs:List (Str×V))
    | own (x:ty1q)
    | xd (fs:List (Str×V))
    | met (f x:ty1q)
    | rng (lo hi:Int)
    | frz (o:Obj) (u:HO)
    | tbl (ps:Array ty3q)
    | ext (φ:Heap->Prop)
abbrev Hp:=ty1q->Option HO
def upd (H:Hp) (a:ty1q) (o:HO):Hp:=fun b=>if b=a then some o else H b
theorem zf {H:Hp}{a:ty1q}{o:HO}:upd H a o a=some o:=by unfold upd;rw[al12q rfl]
theorem zo {H:Hp}{a b:ty1q}{o:HO}(h:b≠a):upd H a o b=H b:=by unfold upd;rw[al8q h]
theorem zcx {H:Hp}{a b:ty1q}{o u:HO}(h:H a=some o) (h':H b=some u) (d:o≠u):a≠b:=by
  intro e;subst e;rw[h] at h';exact d (al41q h')
theorem zq {H:Hp}{a b:ty1q}{o:HO}(h:H a=some o) (h':H b=none):a≠b:=by
  intro e;subst e;rw[h] at h';cases h'
section
variable (P:ty4q) (w:World)
def ObjOk (H:Hp) (h:Heap) (a:ty1q):HO->Prop
  | .lst xs=>xs.length<=sizeLine/\∃(its:List ty3q) (n:Nat),Vals xs its/\h.get? a=some { cls:=.type "list",data:=.seq its.toArray n }
  | .tup xs=>xs.length<=sizeLine/\∃its:List ty3q,Vals xs its/\IsTup h a its.toArray
  | .dK kvs=>kvs.length<=sizeLine/\(a == sysModules)=false/\∃vs,KV kvs vs/\h.DictOf (zbf P w) a vs
  | .dT kvs=>kvs.length<=sizeLine/\(a == sysModules)=false/\∃xs:List (List Key×ty1q×ty3q),
      Paired (fun (p:List Key×V) (q:List Key×ty1q×ty3q)=>p.1=q.1/\H q.2.1=some (.tup (p.1.map kV))/\RelV p.2 q.2.2) kvs xs/\
      ∃o es ep,h.get? a=some o/\o.ExactDict/\o.data = .dict es ep/\es.toList=xs.map (entryOfKey (tupleKind (zbf P w)))/\(xs.map (·.1)).Nodup
  | .set S n=>h.SetOf (intKind P w) a S n
  | .ins C dx fs=>H dx=some (.own a)/\fs.length<=1000/\dx≠a/\h.get? a=some (PySem.W.instObj C dx)/\
      ∃mA,h.Ns1 dx mA/\(∀f,RelO (fs.lookup f) (mA f))/\PySem.Within mA (fs.map (·.1))
  | .own _=>∃o,h.get? a=some o
  | .xd fs=>∃mA,h.Ns1 a mA/\∀f,RelO (fs.lookup f) (mA f)
  | .rng lo hi=>∃t u v,h.get? a=some { cls:=.type "range",data:=.fields #[.int lo t,.int hi u,.int 1 v] }
  | .frz o u=>h.get? a=some o/\ObjOk H h a u
  | .tbl ps=>h.get? a=some { cls:=.none,data:=.fields ps }
  | .met f x=>h.get? a=some (PySem.W.methodObj (.ref f) (.ref x))
  | .ext φ=>φ h/\(∃o,h.get? a=some o)/\∀h1 h2:Heap,φ h1->(∀o,h1.get? a=some o->h2.get? a=some o)->φ h2
def HOk (H:Hp) (h:Heap):Prop:=∀a o,H a=some o->ObjOk P w H h a o
end
section
variable {P:ty4q}{w:World}{H H':Hp}{h h':Heap}{a:ty1q}{o:HO}
theorem ObjOk.lt (x:ObjOk P w H h a o):a<h.objs.size:=by
  cases o with
  | lst xs=>obtain⟨_,_,_,_,e⟩:=x;exact al14q e
  | tup xs=>obtain⟨_,_,_,p⟩:=x;exact p.lt
  | dK kvs=>obtain⟨_,_,_,_,o,_,_,e,_⟩:=x;exact al14q e
  | dT kvs=>obtain⟨_,_,_,_,o,_,_,e,_⟩:=x;exact al14q e
  | set S n=>obtain⟨o,_,_,_,e,_⟩:=x;exact al14q e
  | ins C dx fs=>obtain⟨_,_,_,e,_⟩:=x;exact al14q e
  | own y=>obtain⟨_,e⟩:=x;exact al14q e
  | xd fs=>obtain⟨_,⟨_,_,_,e,_⟩,_⟩:=x;exact al14q e
  | rng lo hi=>obtain⟨_,_,_,e⟩:=x;exact al14q e
  | frz ob u=>obtain⟨e,_⟩:=x;exact al14q e
  | tbl ps=>exact al14q (show h.get? a=some _ from x)
  | met f y=>exact al14q (show h.get? a=some _ from x)
  | ext φ=>obtain⟨_,⟨_,e⟩,_⟩:=x;exact al14q e
theorem Paired.mapP {α β:Type}{F G:α->β->Prop}:∀{l₁:List α}{l₂:List β},Paired F l₁ l₂->(∀a b,F a b->G a b)->Paired G l₁ l₂
  | _,_,.nil,_=>.nil
  | _,_,.cons r t,f=>.cons (f _ _ r) (Paired.mapP t f)
theorem ObjOk.stay (x:ObjOk P w H h a o) (k:∀b u,(b=a\/H b=some (.own a))->h.get? b=some u->h'.get? b=some u)
    (ho:∀b,H b=some (.own a)->H' b=some (.own a)) (ht:∀b xs,H b=some (.tup xs)->H' b=some (.tup xs)):ObjOk P w H' h' a o:=by
  induction o with
  | lst xs=>obtain⟨z,its,n,r,e⟩:=x;exact⟨z,its,n,r,k _ _ (.inl rfl) e⟩
  | tup xs=>obtain⟨z,its,r,ob,e,c⟩:=x;exact⟨z,its,r,ob,k _ _ (.inl rfl) e,c⟩
  | dK kvs=>obtain⟨z,y,vs,r,ob,es,ep,e,c⟩:=x;exact⟨z,y,vs,r,ob,es,ep,k _ _ (.inl rfl) e,c⟩
  | dT kvs=>
    obtain⟨z,y,xs,r,ob,es,ep,e,c⟩:=x;exact⟨z,y,xs,Paired.mapP r fun p q z=>⟨z.1,ht _ _ z.2.1,z.2.2⟩,ob,es,ep,k _ _ (.inl rfl) e,c⟩
  | set S n=>obtain⟨ob,es,ep,t,e,c⟩:=x;exact⟨ob,es,ep,t,k _ _ (.inl rfl) e,c⟩
  | ins C dx fs=>
    obtain⟨d,z,ne,e,mA,⟨od,es,ep,e2,c⟩,r⟩:=x;exact⟨ho _ d,z,ne,k _ _ (.inl rfl) e,mA,⟨od,es,ep,k _ _ (.inr d) e2,c⟩,r⟩
  | own y=>obtain⟨ob,e⟩:=x;exact⟨ob,k _ _ (.inl rfl) e⟩
  | xd fs=>obtain⟨mA,⟨od,es,ep,e,c⟩,r⟩:=x;exact⟨mA,⟨od,es,ep,k _ _ (.inl rfl) e,c⟩,r⟩
  | rng lo hi=>obtain⟨t,u,v,e⟩:=x;exact⟨t,u,v,k _ _ (.inl rfl) e⟩
  | frz ob u ih=>obtain⟨e,q⟩:=x;exact⟨k _ _ (.inl rfl) e,ih q⟩
  | tbl ps=>
    have e:h.get? a=some { cls:=.none,data:=.fields ps }:=x;show h'.get? a=some { cls:=.none,data:=.fields ps };exact k a _ (.inl rfl) e
  | met f y=>
    have e:h.get? a=some (PySem.W.methodObj (.ref f) (.ref y)):=x;show h'.get? a=some (PySem.W.methodObj (.ref f) (.ref y));exact k a _ (.inl rfl) e
  | ext φ=>obtain⟨p,⟨o,e⟩,st⟩:=x;exact⟨st _ _ p fun o q=>k _ _ (.inl rfl) q,⟨o,k _ _ (.inl rfl) e⟩,st⟩
theorem HOk.lt (x:HOk P w H h) (e:H a=some o):a<h.objs.size:=(x a o e).lt
theorem HOk.fresh (x:HOk P w H h) (e:h.objs.size<=a):H a=none:=by
  cases q:H a with
  | none=>rfl
  | some u=>exact absurd (al37q (x.lt q) e) (al53q _)
theorem HOk.kept (x:HOk P w H h) (k:∀b u,h.get? b=some u->h'.get? b=some u):HOk P w H h':=fun a o e=>
  (x a o e).stay (fun b u _ q=>k b u q) (fun _ q=>q) fun _ _ q=>q
theorem HOk.laid (x:HOk P w H h) (k:∀b u,h.get? b=some u->h'.get? b=some u) (hp:h.objs.size<=a) (new:ObjOk P w (upd H a o) h' a o):HOk P w (upd H a o) h':=fun b u e=>by
  have hn:=x.fresh hp
  by_cases hb:b=a
  · subst hb;rw[zf] at e;cases e;exact new
  · rw[zo hb] at e;exact (x b u e).stay (fun c v _ q=>k c v q) (fun c q=>by rw[zo (zq q hn)];exact q) fun c xs q=>by rw[zo (zq q hn)];exact q
end
def Rd (H:Hp) (a:ty1q) (u:HO):Prop:=H a=some u\/∃o,H a=some (.frz o u)
theorem Rd.ok {P:ty4q}{w:World}{H:Hp}{h:Heap}{a:ty1q}{u:HO}(r:Rd H a u) (x:HOk P w H h):ObjOk P w H h a u:=by
  rcases r with r | ⟨o,r⟩
  · exact x a u r
  · obtain⟨_,q⟩:=x a _ r;exact q
def Mut:Option HO->Prop
  | some (.lst _)=>True
  | some (.dK _)=>True
  | some (.dT _)=>True
  | some (.set _ _)=>True
  | some (.ins _ _ _)=>True
  | some (.ext _)=>True
  | _=>False
section
variable {P:ty4q}{w:World}{H:Hp}{h h':Heap}{x e:ty1q}{o':HO}
theorem HOk.write (ok:HOk P w H h) (mu:Mut (H x)) (he:e=x\/H e=some (.own x)) (k:∀b u,b≠e->h.get? b=some u->h'.get? b=some u) (heo:∃u,h'.get? e=some u)
    (new:ObjOk P w (upd H x o') h' x o'):HOk P w (upd H x o') h':=fun b u q=>by
  have nown:∀c y,H c=some (.own y)->c≠x:=fun c y r z=>by subst z;rw[r] at mu;exact mu
  have ntup:∀c xs,H c=some (.tup xs)->c≠x:=fun c xs r z=>by subst z;rw[r] at mu;exact mu
  by_cases hb:b=x
  · subst hb;rw[zf] at q;cases q;exact new
  · rw[zo hb] at q
    by_cases hbe:b=e
    · have q':H b=some (.own x):=by
        rcases he with z | z
        · exact absurd (hbe.trans z) hb
        · rw[hbe];exact z
      rw[q] at q';cases q';obtain⟨v,hv⟩:=heo;exact⟨v,by rw[hbe];exact hv⟩
    · refine (ok b u q).stay (fun c v hc r=>k c v ?_ r) (fun c r=>by rw[zo (nown c b r)];exact r) fun c xs r=>by rw[zo (ntup c xs r)];exact r
      rcases hc with rfl | hc
      · exact hbe
      · rintro rfl;rcases he with z | z
        · exact nown c b hc z
        · rw[hc] at z;cases z;exact hb rfl
end
structure Un (fs ex:List ty1q) (H H':Hp) (h h':Heap):Prop where
  keep:∀b o,h.get? b=some o->H b=none->b ∉ fs->b ∉ ex->h'.get? b=some o
  slot:∀b o,h.get? b=some o->H b=none->b∈fs->b ∉ ex->∃sl,h'.get? b=some { o with slots:=sl }
  free:∀b o,h.get? b=some o->H b=none->b ∉ ex->H' b=none
  there:∀b o,h.get? b=some o->b ∉ ex->∃o',h'.get? b=some o'
  tups:∀b xs,H b=some (.tup xs)->H' b=some (.tup xs)
  frzs:∀b o u,H b=some (.frz o u)->H' b=some (.frz o u)
  tbls:∀b ps,H b=some (.tbl ps)->∃more,H' b=some (.tbl (ps++more))
section
variable {fs fs' ex ex':List ty1q}{H H1 H2:Hp}{h h1 h2 h':Heap}{a x e:ty1q}{o:HO}
theorem Un.any (u:Un fs ex H H1 h h1) {b:ty1q}{ob:Obj}(q:h.get? b=some ob) (n:H b=none) (hx:b ∉ ex):∃sl,h1.get? b=some { ob with slots:=sl }:=by
  by_cases hb:b∈fs
  · exact u.slot b ob q n hb hx
  · exact⟨ob.slots,u.keep b ob q n hb hx⟩
theorem Un.kept (k:∀b u,h.get? b=some u->h'.get? b=some u):Un fs ex H H h h':=
  ⟨fun b ob q _ _ _=>k b ob q,fun b ob q _ _ _=>⟨ob.slots,k b ob q⟩,fun _ _ _ n _=>n,fun b ob q _=>⟨ob,k b ob q⟩,fun _ _ q=>q,fun _ _ _ q=>q,fun _ ps q=>⟨#[],by rw[q];simp⟩⟩
theorem Un.refl:Un fs ex H H h h:=Un.kept fun _ _ q=>q
theorem Un.laid (k:∀b u,h.get? b=some u->h'.get? b=some u) (hp:h.objs.size<=a) (hn:H a=none):Un fs ex H (upd H a o) h h' where
  keep:=fun b u q _ _ _=>k b u q
  slot:=fun b u q _ _ _=>⟨u.slots,k b u q⟩
  free:=fun b u q n _=>by rw[zo (al31q (al37q (al14q q) hp))];exact n
  there:=fun b u q _=>⟨u,k b u q⟩
  tups:=fun b xs q=>by rw[zo (zq q hn)];exact q
  frzs:=fun b u xs q=>by rw[zo (zq q hn)];exact q
  tbls:=fun b ps q=>⟨#[],by rw[zo (zq q hn),q];simp⟩
theorem Un.write (mu:Mut (H x)) (he:e=x\/H e=some (.own x)) (k:∀b u,b≠e->h.get? b=some u->h'.get? b=some u) (heo:∃u,h'.get? e=some u):Un fs ex H (upd H x o) h h':=by
  have hx:∀b,H b=none->b≠x:=fun b n z=>by subst z;rw[n] at mu;exact mu
  have hb:∀b,H b=none->b≠e:=fun b n z=>by
    subst z;rcases he with r | r
    · exact hx b n r
    · rw[n] at r;cases r
  have hm:∀b u,H b=some u->¬Mut (some u)->b≠x:=fun b u q nm z=>by subst z;rw[q] at mu;exact nm mu
  refine⟨fun b u q n _ _=>k b u (hb b n) q,fun b u q n _ _=>⟨u.slots,k b u (hb b n) q⟩,fun b u q n _=>by rw[zo (hx b n)];exact n,fun b u q _=>?_,
    fun b xs q=>by rw[zo (hm b _ q fun z=>z)];exact q,fun b u xs q=>by rw[zo (hm b _ q fun z=>z)];exact q,fun b ps q=>⟨#[],by rw[zo (hm b _ q fun z=>z),q];simp⟩⟩
  by_cases hbe:b=e
  · subst hbe;exact heo
  · exact⟨u,k b u hbe q⟩
end
def trk (h:Heap) (H:Hp):List ty1q:=(List.range h.objs.size).filter fun a=>(H a).isSome
def hidT (h:Heap) (H:Hp):Heap:=PySem.W.hideAll h (trk h H)
theorem zma (h:Heap) (H:Hp):(hidT h H).objs.size=h.objs.size:=PySem.W.hideAll_size _ _
theorem zpg {h:Heap}{H:Hp}{b:ty1q}{o:Obj}(e:h.get? b=some o) (n:H b=none):(hidT h H).get? b=some o:=
  PySem.W.hideAll_get _ e fun hm=>by
    have q:(H b).isSome=true:=(al43q.mp hm).2;rw[n] at q;simp at q
theorem zr1 {h:Heap}{H:Hp}{b:ty1q}{o:Obj}(e:(hidT h H).get? b=some o):h.get? b=some o/\H b=none:=by
  have e':h.get? b=some o:=PySem.W.of_hideAll (trk h H) e;refine⟨e',?_⟩;cases q:H b with
  | none=>rfl
  | some x=>
    have hm:b∈trk h H:=al43q.mpr ⟨al36q.mpr (al14q e'),by simp[q]⟩;have z:(hidT h H).get? b=none:=PySem.W.hideAll_none (trk h H) hm;rw[z] at e;cases e
def zr2 (g h:Heap) (L:ty1q):ty91q:=(List.range h.objs.size).filterMap fun a=>if a=L\/(g.get? a).isSome=true then none else (h.get? a).map fun o=>(a,o)
def rest (g h:Heap) (L d:ty1q):ty91q:=(zr2 g h L).filter fun p=>decide (p.1≠d)
structure Mod (K:ty0q) (mg:Str->Option ty3q) (base:Heap):Prop where
  kin:K.In base
  glob:base.Ns mainGlobals mg
  blt:∃mb,base.Ns builtinsNs mb/\∀x:Str,x≠"__name__"->mb x=bootBuiltins x
  nolimit:base.NoLimit
structure Cx where
  prog:ty4q
  w:World
  K:ty0q
  mg:Str->Option ty3q
  base:Heap
  A:Around
  N:List Str
  s₀:ty2q
  H₀:Hp
  env:Env
  outer:List Env
  stack:List Env
  ex:List ty1q
  fn:Str->Bool
  calm:Bool
  pn:ty91q
  xe:ty90q
def frs (l:List Env):List ty1q:=l.filterMap (·.frame)
abbrev Cx.fs (X:Cx):List ty1q:=frs X.outer
def Vis (sc:Scope) (x:Str):Prop:=sc.names.lookup x=some .local\/sc.names.lookup x=some .cell\/sc.names.lookup x=some .free
def Loc (sc:Scope) (x:Str):Prop:=sc.names.lookup x=some .local\/sc.names.lookup x=some .cell
def Look (env:Env) (h:Heap) (m:Str->Option ty3q) (x:Str) (u:ty3q):Prop:=
  (env.kindOf x=some .local/\m x=some u)\/((env.kindOf x=some .cell\/env.kindOf x=some .free)/\∃c,env.cells.lookup x=some c/\h.IsCell c (some u))
structure Cx.Ok (X:Cx):Prop where
  mod:Mod X.K X.mg X.base
  kind:X.env.scope.kind = .function
  glob:X.env.globals=mainGlobals
  blt:X.env.builtins=builtinsNs
  above:X.s₀.heap.objs.size<=X.env.locals
  inj:∀x y c,X.env.cells.lookup x=some c->X.env.cells.lookup y=some c->x=y
  has:∀x,(X.env.kindOf x=some .cell\/X.env.kindOf x=some .free)->∃c,X.env.cells.lookup x=some c
  cab:∀x c,X.fn x=true->X.env.cells.lookup x=some c->X.s₀.heap.objs.size<=c
  hd:X.calm=true->X.A.handled=none
  frames:X.A.frames=some X.stack
  stk:X.stack=X.outer\/(X.stack=X.env::X.outer/\X.env.frame=some X.env.locals)
  exf:∀b∈X.ex,b≠X.env.locals/\∀x c,X.env.cells.lookup x=some c->c≠b
  bs:∀b o,X.base.get? b=some o->X.s₀.heap.get? b=some o/\X.H₀ b=none
  bsz:X.base.objs.size<=X.s₀.heap.objs.size
  noex:∀b o,X.base.get? b=some o->b ∉ X.ex
  exfs:∀b∈X.ex,b ∉ X.fs
  funs:X.s₀.heap.FunFrames X.base X.outer
  frf:∀b∈X.fs,X.H₀ b=none
structure Inv (X:Cx) (pins:ty91q) (σ:List (Option V)) (H:Hp) (s:ty2q):Prop where
  ok:X.Ok
  os:s.os=X.s₀.os
  bare:AllBare s.gens
  base:Un X.fs X.ex X.H₀ H X.s₀.heap s.heap
  loc:∃m,s.heap.Ns X.env.locals m/\∀(i:Nat) (x:Str) (v:V),X.N[i]? = some x->σ[i]? = some (some v)->Vis X.env.scope x->∃u,RelV v u/\Look X.env s.heap m x u
  cell:∀x c,X.env.cells.lookup x=some c->∃v,s.heap.IsCell c v
  free:H X.env.locals=none
  freeC:∀x c,X.env.cells.lookup x=some c->H c=none
  pin:∀p∈X.pn++pins,s.heap.get? p.1=some p.2/\H p.1=none/\p.1≠X.env.locals/\p.1 ∉ X.fs/\∀v,p.2.data≠.cell v
  hok:HOk X.prog X.w H s.heap
  len:σ.length=X.N.length
section
variable {X:Cx}{pins:ty91q}{σ:List (Option V)}{H H':Hp}{s:ty2q}{h':Heap}
theorem Cx.Ok.nofr (ok:X.Ok) {b:ty1q}{o:Obj}(e:X.base.get? b=some o):b ∉ X.fs:=fun hb=>by
  have:=(ok.funs.mem hb).1;rw[e] at this;cases this
theorem Inv.bs (I:Inv X pins σ H s):∀b o,X.base.get? b=some o->s.heap.get? b=some o/\H b=none:=fun b o e=>
  ⟨I.base.keep b o (I.ok.bs b o e).1 (I.ok.bs b o e).2 (I.ok.nofr e) (I.ok.noex b o e),I.base.free b o (I.ok.bs b o e).1 (I.ok.bs b o e).2 (I.ok.noex b o e)⟩
theorem Inv.bk (I:Inv X pins σ H s):∀b o,X.base.get? b=some o->s.heap.get? b=some o:=fun b o e=>(I.bs b o e).1
theorem Inv.mod (I:Inv X pins σ H s):Mod X.K X.mg X.base:=I.ok.mod
theorem Inv.kIn (I:Inv X pins σ H s):X.K.In s.heap:=I.ok.mod.kin.keeps I.bk
theorem Inv.lt (I:Inv X pins σ H s):X.env.locals<s.heap.objs.size:=let ⟨_,hn,_⟩:=I.loc;hn.lt
theorem Inv.sz (I:Inv X pins σ H s):X.s₀.heap.objs.size<=s.heap.objs.size:=al58q I.ok.above (al162q I.lt)
theorem Inv.nofs (I:Inv X pins σ H s) {a:ty1q}(h:s.heap.objs.size<=a):a ∉ X.fs:=fun hb=>by
  obtain⟨_,o,ho,_⟩:=I.ok.funs.mem hb;exact absurd (al37q (al14q ho) (al58q I.sz h)) (al53q _)
theorem Inv.cne (I:Inv X pins σ H s):∀x c,X.env.cells.lookup x=some c->c≠X.env.locals:=fun x c e z=>by
  obtain⟨v,o,ho,hd⟩:=I.cell x c e;obtain⟨m,⟨o',es,ep,ho',hd',_⟩,_⟩:=I.loc;rw[z,ho'] at ho;cases ho;rw[hd'] at hd;cases hd
theorem Inv.funs (I:Inv X pins σ H s):s.heap.FunFrames X.base X.outer:=by
  have all:∀(l:List Env),(∀b∈frs l,b∈X.fs)->X.s₀.heap.FunFrames X.base l->s.heap.FunFrames X.base l:=by
    intro l
    induction l with
    | nil=>intro _ _;trivial
    | cons env r ih=>
      intro hs hl;obtain⟨hk,⟨L,o,hf,hn,ho,hd⟩,hr⟩:=hl;have hL:L∈X.fs:=hs L (by unfold frs;rw[al132q,hf];exact al56q);obtain⟨sl,e⟩:=I.base.slot L o ho (I.ok.frf L hL) hL fun z=>I.ok.exfs L z hL
      exact⟨hk,⟨L,_,hf,hn,e,hd⟩,ih (fun b hb=>hs b (by unfold frs;rw[al132q,hf];exact al19q _ hb)) hr⟩
  exact all X.outer (fun _ hb=>hb) I.ok.funs
theorem Inv.stack (I:Inv X pins σ H s):s.heap.FunFrames X.base X.stack:=by
  rcases I.ok.stk with e | ⟨e,hf⟩
  · rw[e];exact I.funs
  · rw[e];obtain⟨m,hn,_⟩:=I.loc;refine .cons (by rw[I.ok.kind];decide) hf hn ?_ I.funs;exact al83q (al58q I.ok.bsz I.ok.above)
theorem Inv.stkSub (I:Inv X pins σ H s):∀b∈frs X.stack,b∈X.env.locals::X.fs:=fun b hb=>by
  rcases I.ok.stk with e | ⟨e,hf⟩
  · rw[e] at hb;exact al19q _ hb
  · rw[e] at hb;unfold frs at hb;rw[al132q,hf] at hb;exact hb
theorem Inv.stkFree (I:Inv X pins σ H s):∀b∈frs X.stack,H b=none:=fun b hb=>by
  rcases al21q.mp (I.stkSub b hb) with e | hb
  · rw[e];exact I.free
  · obtain⟨_,o,ho,_⟩:=I.ok.funs.mem hb;exact I.base.free b o ho (I.ok.frf b hb) fun z=>I.ok.exfs b z hb
theorem Inv.step {g':Array GenState}{t':Nat}{d':Drawn}{ch:List ty1q}(I:Inv X pins σ H s)
    (hch:∀b∈ch,(b∈X.ex\/X.s₀.heap.objs.size<=b)/\b≠X.env.locals/\(∀x c,X.env.cells.lookup x=some c->c≠b)/\∀p∈X.pn++pins,p.1≠b)
    (keep:∀b o,b≠X.env.locals->b ∉ X.fs->b ∉ ch->s.heap.get? b=some o->H b=none->h'.get? b=some o)
    (slot:∀b o,b≠X.env.locals->b∈X.fs->b ∉ ch->s.heap.get? b=some o->H b=none->∃sl,h'.get? b=some { o with slots:=sl }) (free:∀b o,b ∉ ch->s.heap.get? b=some o->H b=none->H' b=none)
    (there:∀b o,b ∉ ch->s.heap.get? b=some o->∃o',h'.get? b=some o')
    (tups:∀b xs,H b=some (.tup xs)->H' b=some (.tup xs)) (frzs:∀b o u,H b=some (.frz o u)->H' b=some (.frz o u)) (tbls:∀b ps,H b=some (.tbl ps)->∃more,H' b=some (.tbl (ps++more)))
    (ns:∀m,s.heap.Ns X.env.locals m->h'.Ns X.env.locals m) (hok:HOk X.prog X.w H' h') (hg:AllBare g') :
    Inv X pins σ H' { s with heap:=h',gens:=g',drawn:=d',toks:=t' }:=by
  have neL:∀b o,X.s₀.heap.get? b=some o->b≠X.env.locals:=fun b o e=>al31q (al37q (al14q e) I.ok.above)
  have neC:∀b o,X.s₀.heap.get? b=some o->b ∉ X.ex->b ∉ ch:=fun b o e hx hb=>by
    rcases (hch b hb).1 with z | z
    · exact hx z
    · exact absurd (al37q (al14q e) z) (al53q _)
  have cellK:∀x c,X.env.cells.lookup x=some c->∀v,s.heap.IsCell c v->h'.IsCell c v:=fun x c e v ⟨o,ho,hd⟩=>by
    have nch:c ∉ ch:=fun z=>(hch c z).2.2.1 x c e rfl
    by_cases hc:c∈X.fs
    · obtain⟨sl,q⟩:=slot c o (I.cne x c e) hc nch ho (I.freeC x c e);exact⟨_,q,hd⟩
    · exact⟨o,keep c o (I.cne x c e) hc nch ho (I.freeC x c e),hd⟩
  refine⟨I.ok,I.os,hg,⟨fun b o e n hb hx=>?_,fun b o e n hb hx=>?_,fun b o e n hx=>?_,fun b o e hx=>?_,fun b xs e=>tups b xs (I.base.tups b xs e),fun b o xs e=>frzs b o xs (I.base.frzs b o xs e),fun b ps e=>?_⟩,?_,fun x c e=>?_,?_,fun x c e=>?_,fun p hp=>?_,hok,I.len⟩
  · exact keep b o (neL b o e) hb (neC b o e hx) (I.base.keep b o e n hb hx) (I.base.free b o e n hx)
  · obtain⟨sl,e1⟩:=I.base.slot b o e n hb hx;obtain⟨sl',e2⟩:=slot b _ (neL b o e) hb (neC b o e hx) e1 (I.base.free b o e n hx);exact⟨sl',e2⟩
  · obtain⟨o',e1⟩:=I.base.there b o e hx;exact free b o' (neC b o e hx) e1 (I.base.free b o e n hx)
  · obtain⟨o',e1⟩:=I.base.there b o e hx;exact there b o' (neC b o e hx) e1
  · obtain⟨m1,e1⟩:=I.base.tbls b ps e;obtain⟨m2,e2⟩:=tbls b _ e1;exact⟨m1++m2,by rw[e2,Array.append_assoc]⟩
  · obtain⟨m,hn,hl⟩:=I.loc;refine⟨m,ns m hn,fun i x v e1 e2 e3=>?_⟩;obtain⟨u,r,l⟩:=hl i x v e1 e2 e3;refine⟨u,r,?_⟩;rcases l with l | ⟨k,c,e,z⟩
    · exact .inl l
    · exact .inr ⟨k,c,e,cellK x c e _ z⟩
  · obtain⟨v,z⟩:=I.cell x c e;exact⟨v,cellK x c e v z⟩
  · obtain⟨m,⟨o,_,_,ho,_⟩,_⟩:=I.loc;exact free _ o (fun z=>(hch _ z).2.1 rfl) ho I.free
  · obtain⟨v,o,ho,hd⟩:=I.cell x c e;exact free c o (fun z=>(hch c z).2.2.1 x c e rfl) ho (I.freeC x c e)
  · obtain⟨e,n,ne,nf,d⟩:=I.pin p hp;have nch:p.1 ∉ ch:=fun z=>(hch p.1 z).2.2.2 p hp rfl
    exact⟨keep p.1 p.2 ne nf nch e n,free p.1 p.2 nch e n,ne,nf,d⟩
theorem Inv.un {t':Nat}(I:Inv X pins σ H s) (u:Un X.fs [] H H' s.heap h') (hok:HOk X.prog X.w H' h'):Inv X pins σ H' { s with heap:=h',toks:=t' }:=by
  obtain⟨m,⟨o,es,ep,ho,r⟩,_⟩:=id I.loc;obtain⟨sl,hL⟩:=u.any ho I.free (by simp);exact I.step (g':=s.gens) (d':=s.drawn) (ch:=[]) (fun _ z=>nomatch z) (fun b o _ hb _ e n=>u.keep b o e n hb (by simp)) (fun b o _ hb _ e n=>u.slot b o e n hb (by simp)) (fun b o _ e n=>u.free b o e n (by simp)) (fun b o _ e=>u.there b o e (by simp)) u.tups u.frzs u.tbls (fun m' hm=>by
    obtain⟨o',es',ep',ho',r'⟩:=hm;rw[ho] at ho';cases ho';exact⟨_,es',ep',hL,r'⟩) hok I.bare
theorem Inv.call {g':Array GenState}{t':Nat}{d':Drawn}{ch:List ty1q}(I:Inv X pins σ H s) (u:Un (frs X.stack) ch H H' s.heap h') (hok:HOk X.prog X.w H' h') (hg:AllBare g')
    (hch:∀b∈ch,(b∈X.ex\/X.s₀.heap.objs.size<=b)/\b≠X.env.locals/\(∀x c,X.env.cells.lookup x=some c->c≠b)/\∀p∈X.pn++pins,p.1≠b) :
    Inv X pins σ H' { s with heap:=h',gens:=g',drawn:=d',toks:=t' }:=by
  obtain⟨m,⟨o,es,ep,ho,r⟩,_⟩:=id I.loc;obtain⟨sl,hL⟩:=u.any ho I.free fun z=>(hch _ z).2.1 rfl
  exact I.step (ch:=ch) hch (fun b o hL hb hc e n=>u.keep b o e n (fun z=>(al21q.mp (I.stkSub b z)).elim hL hb) hc) (fun b o _ _ hc e n=>u.any e n hc) (fun b o hc e n=>u.free b o e n hc) (fun b o hc e=>u.there b o e hc) u.tups u.frzs u.tbls (fun m' hm=>by
    obtain⟨o',es',ep',ho',r'⟩:=hm;rw[ho] at ho';cases ho';exact⟨_,es',ep',hL,r'⟩) hok hg
theorem Inv.turned {t':Nat}{it:ty1q}(I:Inv X pins σ H s) (k:∀b o,b≠it->s.heap.get? b=some o->h'.get? b=some o) (hn:H it=none) (hL:it≠X.env.locals)
    (h1:it∈X.ex\/X.s₀.heap.objs.size<=it) (h2:∀x c,X.env.cells.lookup x=some c->c≠it) (h3:∀p∈X.pn++pins,p.1≠it):Inv X pins σ H { s with heap:=h',toks:=t' }:=by
  have nit:∀b u,H b=some u->b≠it:=fun b u e z=>by rw[z,hn] at e;cases e
  refine I.step (g':=s.gens) (d':=s.drawn) (ch:=[it]) (fun b hb=>?_) (fun b o _ _ hc e _=>k b o (fun z=>hc (by simp[z])) e) (fun b o _ _ hc e _=>⟨o.slots,k b o (fun z=>hc (by simp[z])) e⟩) (fun _ _ _ _ n=>n)
    (fun b o hc e=>⟨o,k b o (fun z=>hc (by simp[z])) e⟩) (fun _ _ e=>e) (fun _ _ _ e=>e) (fun b ps e=>⟨#[],by rw[e];simp⟩) (fun m hm=>?_) (fun b u e=>?_) I.bare
  · have e:b=it:=by simpa using hb
    subst e;exact⟨h1,hL,h2,h3⟩
  · obtain⟨o,es,ep,ho,r⟩:=hm;exact⟨o,es,ep,k _ o (al26q hL) ho,r⟩
  · refine (I.hok b u e).stay (fun c v hc q=>k c v ?_ q) (fun _ q=>q) fun _ _ q=>q
    rcases hc with z | z
    · rw[z];exact nit b u e
    · exact nit c _ z
theorem Inv.tok (I:Inv X pins σ H s) (t:Nat):Inv X pins σ H { s with toks:=t }:=I.un (h':=s.heap) (t':=t) Un.refl I.hok
theorem Inv.kept {t':Nat}(I:Inv X pins σ H s) (k:∀b u,s.heap.get? b=some u->h'.get? b=some u):Inv X pins σ H { s with heap:=h',toks:=t' }:=I.un (Un.kept k) (I.hok.kept k)
theorem Inv.laid {a:ty1q}{o:HO}{t':Nat}(I:Inv X pins σ H s) (k:∀b u,s.heap.get? b=some u->h'.get? b=some u) (hp:s.heap.objs.size<=a) (new:ObjOk X.prog X.w (upd H a o) h' a o) :
    Inv X pins σ (upd H a o) { s with heap:=h',toks:=t' }:=I.un (Un.laid k hp (I.hok.fresh hp)) (I.hok.laid k hp new)
theorem Inv.write {x e:ty1q}{o:HO}{t':Nat}(I:Inv X pins σ H s) (mu:Mut (H x)) (he:e=x\/H e=some (.own x)) (k:∀b u,b≠e->s.heap.get? b=some u->h'.get? b=some u) (heo:∃u,h'.get? e=some u)
    (new:ObjOk X.prog X.w (upd H x o) h' x o):Inv X pins σ (upd H x o) { s with heap:=h',toks:=t' }:=I.un (Un.write mu he k heo) (I.hok.write mu he k heo new)
theorem Inv.pins_of {pins':ty91q}(I:Inv X pins σ H s) (h:∀p∈pins',s.heap.get? p.1=some p.2/\H p.1=none/\p.1≠X.env.locals/\p.1 ∉ X.fs/\∀v,p.2.data≠.cell v):Inv X pins' σ H s:=
  ⟨I.ok,I.os,I.bare,I.base,I.loc,I.cell,I.free,I.freeC,fun p hp=>(al25q.mp hp).elim (fun z=>I.pin p (al35q _ z)) (h p),I.hok,I.len⟩
theorem zga {N:List Str}(hN:N.Nodup) {i j:Nat}{x:Str}(a:N[i]? = some x) (b:N[j]? = some x):i=j:=by
  obtain⟨h1,e1⟩:=al3q.mp a;obtain⟨h2,e2⟩:=al3q.mp b;exact (List.getElem_inj hN).mp (e1.trans e2.symm)
theorem zg9 {M:Model}{A:Around}{E:ty90q}{i:Nat}{x:Str}{v:V}{u:ty3q}{Q:Unit->ty2q->Prop}(I:Inv X pins σ H s) (hN:X.N.Nodup) (hi:X.N[i]? = some x) (hx:Loc X.env.scope x) (r:RelV v u)
    (h:∀s',Inv X pins (σ.set i (some v)) H s'->(∃a,Heap.SameBut a s.heap s'.heap/\(a=X.env.locals\/X.env.cells.lookup x=some a))->Q () s') (hf:X.fn x=true\/X.env.scope.names.lookup x=some .local:=by first | exact .inl rfl | exact .inr rfl | assumption):wpAny M A (storeName X.env x u) Q E s:=by
  obtain⟨m,hn,hl⟩:=id I.loc;have hcls:(X.env.scope.kind == .class||(X.env.scope.kind == .module&&X.env.locals != X.env.globals))=false:=by rw[I.ok.kind];rfl
  have hiσ:i<σ.length:=by rw[I.len];exact (al3q.mp hi).1
  have cne:=I.cne;have tracked:∀{a:ty1q}{h':Heap},(∃o,s.heap.get? a=some o/\H a=none)->Heap.SameBut a s.heap h'->HOk X.prog X.w H h':=fun {a h'} ha hs b ob e=>by
    obtain⟨_,_,hfree⟩:=ha;refine (I.hok b ob e).stay (fun c w' hc q=>(hs.2 c ?_).trans q) (fun _ q=>q) fun _ _ q=>q
    rintro rfl;rcases hc with rfl | hc
    · rw[hfree] at e;cases e
    · rw[hfree] at hc;cases hc
  rcases hx with hk | hk
  · refine wpAny_storeName_local hk hn (fun h' hn' hs=>?_) hcls;obtain⟨oL,_,_,hoL,_⟩:=id hn;refine h _ ⟨I.ok,I.os,I.bare,⟨fun b o e n hb hx=>?_,fun b o e n hb hx=>?_,I.base.free,fun b o e hx=>?_,I.base.tups,I.base.frzs,I.base.tbls⟩,⟨_,hn',fun j y v' e1 e2 e3=>?_⟩,fun y c e=>?_,I.free,I.freeC,fun p hp=>?_,tracked ⟨oL,hoL,I.free⟩ hs,by simpa using I.len⟩ ⟨_,hs,.inl rfl⟩
    · exact (hs.2 b (al31q (al37q (al14q e) I.ok.above))).trans (I.base.keep b o e n hb hx)
    · obtain⟨sl,e1⟩:=I.base.slot b o e n hb hx;exact⟨sl,(hs.2 b (al31q (al37q (al14q e) I.ok.above))).trans e1⟩
    · obtain⟨o',e1⟩:=I.base.there b o e hx;exact⟨o',(hs.2 b (al31q (al37q (al14q e) I.ok.above))).trans e1⟩
    · by_cases hj:j=i
      · subst hj;rw[hi] at e1;cases e1;rw[al144q hiσ] at e2;cases e2;exact⟨u,r,.inl ⟨hk,by simp⟩⟩
      · rw[al158q (al26q hj)] at e2;obtain⟨u',r',q⟩:=hl j y v' e1 e2 e3;refine⟨u',r',?_⟩;rcases q with ⟨k,e⟩ | ⟨k,c,e,z⟩
        · refine .inl ⟨k,?_⟩;have:y≠x:=fun e=>hj (zga hN e1 (e▸hi))
          simp[this,e]
        · exact .inr ⟨k,c,e,z.sameBut hs (cne y c e)⟩
    · obtain⟨w',z⟩:=I.cell y c e;exact⟨w',z.sameBut hs (cne y c e)⟩
    · obtain⟨e,n,ne,nf,d⟩:=I.pin p hp;exact⟨(hs.2 p.1 ne).trans e,n,ne,nf,d⟩
  · have hfn:X.fn x=true:=by
      rcases hf with z | z
      · exact z
      · rw[z] at hk;cases hk
    obtain⟨c,hc⟩:=I.ok.has x (.inl hk);obtain⟨w',z⟩:=I.cell x c hc;refine wpAny_storeName_cell I.ok.kind hk hc z (fun h' hc' hs=>?_);obtain⟨oc,hoc,hocd⟩:=id z;refine h { s with heap:=h' } ⟨I.ok,I.os,I.bare,⟨fun b o e n hb hx=>?_,fun b o e n hb hx=>?_,I.base.free,fun b o e hx=>?_,I.base.tups,I.base.frzs,I.base.tbls⟩,⟨m,hn.sameBut hs (al26q (cne x c hc)),fun j y v' e1 e2 e3=>?_⟩,fun y c' e=>?_,I.free,I.freeC,fun p hp=>?_,tracked ⟨oc,hoc,I.freeC x c hc⟩ hs,by simpa using I.len⟩ ⟨c,hs,.inr hc⟩
    · exact (hs.2 b (al31q (al37q (al14q e) (I.ok.cab x c hfn hc)))).trans (I.base.keep b o e n hb hx)
    · obtain⟨sl,e1⟩:=I.base.slot b o e n hb hx;exact⟨sl,(hs.2 b (al31q (al37q (al14q e) (I.ok.cab x c hfn hc)))).trans e1⟩
    · obtain⟨o',e1⟩:=I.base.there b o e hx;exact⟨o',(hs.2 b (al31q (al37q (al14q e) (I.ok.cab x c hfn hc)))).trans e1⟩
    · by_cases hj:j=i
      · subst hj;rw[hi] at e1;cases e1;rw[al144q hiσ] at e2;cases e2;exact⟨u,r,.inr ⟨.inl hk,c,hc,hc'⟩⟩
      · rw[al158q (al26q hj)] at e2;obtain⟨u',r',q⟩:=hl j y v' e1 e2 e3;refine⟨u',r',?_⟩;rcases q with q | ⟨k,c',e,z'⟩
        · exact .inl q
        · refine .inr ⟨k,c',e,z'.sameBut hs ?_⟩;rintro rfl;exact hj (zga hN e1 (I.ok.inj _ _ _ e hc▸hi))
    · by_cases hcc:c'=c
      · subst hcc;exact⟨_,hc'⟩
      · obtain⟨w2,z2⟩:=I.cell y c' e;exact⟨w2,z2.sameBut hs hcc⟩
    · obtain⟨e,n,ne,nf,d⟩:=I.pin p hp;refine⟨(hs.2 p.1 ?_).trans e,n,ne,nf,d⟩;intro q;rw[q,hoc] at e;have q':oc=p.2:=al41q e;exact d w' (by rw[←q'];exact hocd)
theorem zeh {M:Model}{A:Around}{E:ty90q}{i:Nat}{x:Str}{v:V}{u:ty3q}{Q:Unit->ty2q->Prop}(I:Inv X pins σ H s) (hN:X.N.Nodup) (hi:X.N[i]? = some x) (hx:Loc X.env.scope x) (r:RelV v u)
    (h:∀s',Inv X pins (σ.set i (some v)) H s'->Q () s') (hf:X.fn x=true\/X.env.scope.names.lookup x=some .local:=by first | exact .inl rfl | exact .inr rfl | assumption):wpAny M A (storeName X.env x u) Q E s:=
  zg9 I hN hi hx r (fun s' I' _=>h s' I') hf
theorem Inv.call' {s':ty2q}{ch:List ty1q}(I:Inv X pins σ H s) (ho:s'.os=s.os) (u:Un (frs X.stack) ch H H' s.heap s'.heap) (hok:HOk X.prog X.w H' s'.heap) (hg:AllBare s'.gens)
    (hch:∀b∈ch,(b∈X.ex\/X.s₀.heap.objs.size<=b)/\b≠X.env.locals/\(∀x c,X.env.cells.lookup x=some c->c≠b)/\∀p∈X.pn++pins,p.1≠b):Inv X pins σ H' s':=by
  obtain⟨h',g',d',t',o'⟩:=s';have e:o'=s.os:=ho;subst e;exact I.call (g':=g') (t':=t') (d':=d') u hok hg hch
end
abbrev XK:=ty3q->Option ty1q->Hp->Prop
abbrev St:=List (Option V)
abbrev VK:=V->Hp->Prop
abbrev TE:=St->Hp->VK->Prop
abbrev TT:=St->Hp->(Bool->Hp->Prop)->Prop
abbrev TA:=St->Hp->(List V->Hp->Prop)->Prop
structure Ends where
  nx:St->Hp->Prop
  rt:VK
  bk:St->Hp->Prop:=fun _ _=>False
  ct:St->Hp->Prop:=fun _ _=>False
abbrev TS:=Ends->St->Hp->Prop
def EP (X:Cx) (pins:ty91q) (σ:St) (Q:VK) (u:ty3q) (s':ty2q):Prop:=∃v H',Inv X pins σ H' s'/\RelV v u/\Q v H'
def TP (X:Cx) (pins:ty91q) (σ:St) (Q:Bool->Hp->Prop) (b:Bool) (s':ty2q):Prop:=∃H',Inv X pins σ H' s'/\Q b H'
def AP (X:Cx) (pins:ty91q) (σ:St) (Q:List V->Hp->Prop) (us:List ty3q) (s':ty2q):Prop:=∃vs H',Inv X pins σ H' s'/\Vals vs us/\Q vs H'
def SP (X:Cx) (pins:ty91q) (D:Ends) (f:Flow) (s':ty2q):Prop:=
  match f with
  | .next=>∃σ' H',Inv X pins σ' H' s'/\D.nx σ' H'
  | .brk=>∃σ' H',Inv X pins σ' H' s'/\D.bk σ' H'
  | .cont=>∃σ' H',Inv X pins σ' H' s'/\D.ct σ' H'
  | .ret u=>∃v σ' H',Inv X pins σ' H' s'/\RelV v u/\D.rt v H'
def PE (X:Cx) (e:Expr) (t:TE):Prop:=
  ∀(pins:ty91q) (s:ty2q) (σ:St) (H:Hp) (Q:VK),Inv X pins σ H s->t σ H Q->wpAny (model X.prog X.w) X.A (eval e X.env) (EP X pins σ Q) X.xe s
def PT (X:Cx) (e:Expr) (t:TT):Prop:=
  ∀(pins:ty91q) (s:ty2q) (σ:St) (H:Hp) (Q:Bool->Hp->Prop),Inv X pins σ H s->t σ H Q->wpAny (model X.prog X.w) X.A (isTrue e X.env (eval e X.env)) (TP X pins σ Q) X.xe s
def PW (X:Cx) (e:Expr) (t:TT):Prop:=
  ∀(whole:Sem ty3q) (pins:ty91q) (s:ty2q) (σ:St) (H:Hp) (Q:Bool->Hp->Prop),Inv X pins σ H s->t σ H Q->wpAny (model X.prog X.w) X.A (isTrue e X.env whole) (TP X pins σ Q) X.xe s
theorem PW.pt {X:Cx}{e:Expr}{t:TT}(h:PW X e t):PT X e t:=h _
def PA (X:Cx) (es:List Expr) (t:TA):Prop:=
  ∀(pos:Pos) (pins:ty91q) (s:ty2q) (σ:St) (H:Hp) (Q:List V->Hp->Prop),Inv X pins σ H s->t σ H Q->wpAny (model X.prog X.w) X.A (spliced (backTo pos (starEach es X.env))) (AP X pins σ Q) X.xe s
def PS (X:Cx) (st:Stmt) (t:TS):Prop:=
  ∀(pins:ty91q) (s:ty2q) (σ:St) (H:Hp) (D:Ends),Inv X pins σ H s->t D σ H->wpAny (model X.prog X.w) X.A (exec st X.env) (SP X pins D) X.xe s
def PSs (X:Cx) (st:List Stmt) (t:TS):Prop:=
  ∀(pins:ty91q) (s:ty2q) (σ:St) (H:Hp) (D:Ends),Inv X pins σ H s->t D σ H->wpAny (model X.prog X.w) X.A (execs st X.env) (SP X pins D) X.xe s
theorem thn {α:Type}{t:Sem α}{Q Q':α->ty2q->Prop}{M:Model}{A:Around}{E:ty90q}{s:ty2q}(h:wpAny M A t Q E s) (hQ:∀a s,Q a s->Q' a s):wpAny M A t Q' E s:=al51q h hQ fun _ _ x=>x
section
variable {X:Cx}
theorem bin {a b:Expr}{ta tb:TE}(ha:PE X a ta) (hb:PE X b tb) {pins:ty91q}{s:ty2q}{σ:St}{H:Hp}{R:V->V->Hp->Prop}(I:Inv X pins σ H s) (h:ta σ H fun x H1=>tb σ H1 fun y H2=>R x y H2)
    {α:Type}{Q:α->ty2q->Prop}{f:ty3q->ty3q->Sem α}
    (hf:∀v u s2 x y H2,Inv X pins σ H2 s2->RelV x v->RelV y u->R x y H2->wpAny (model X.prog X.w) X.A (f v u) Q X.xe s2) :
    wpAny (model X.prog X.w) X.A (eval a X.env) (fun v s₁=>wpAny (model X.prog X.w) X.A (eval b X.env) (fun u s₂=>wpAny (model X.prog X.w) X.A (f v u) Q X.xe s₂) X.xe s₁) X.xe s:=by
  refine thn (ha pins s σ H _ I h) fun v s1 hq0=>?_
  obtain⟨x,H1,I1,r1,q1⟩:=hq0;refine thn (hb pins s1 σ H1 _ I1 q1) fun u s2 hq0=>?_
  obtain⟨y,H2,I2,r2,q2⟩:=hq0;exact hf v u s2 x y H2 I2 r1 r2 q2
inductive tVarI (i:Nat) (σ:St) (H:Hp) (Q:VK):Prop
  | mk (v:V) (_:σ[i]? = some (some v)) (_:Q v H)
def tVar (i:Nat):TE:=fun σ H Q=>tVarI i σ H Q
def tC (v:V):TE:=fun _ H Q=>Q v H
theorem zt6 {i:Nat}{x:Str}{pos:Pos}(hN:X.N[i]? = some x) (hv:Vis X.env.scope x) (hd:(x == ("__debug__" : Str))=false:=by decide) (hcd:(x == ("__classdict__" : Str))=false:=by decide):PE X (.Name x pos) (tVar i):=by
  intro pins s σ H Q I h;obtain⟨v,e,h⟩:=h;obtain⟨m,hn,hl⟩:=I.loc;obtain⟨u,r,l⟩:=hl i x v hN e hv;have fin:EP X pins σ Q u s:=⟨v,H,I,r,h⟩;rcases l with ⟨hk,hm⟩ | ⟨hk,c,hc,hcell⟩
  · exact wpAny_Name (wpAny_loadName_local I.ok.kind hk hn hm fin) hd
  · rcases hk with hk | hk
    · exact wpAny_Name (wpAny_loadName_cell I.ok.kind hk hc hcell fin) hd
    · exact wpAny_Name (wpAny_loadName_free I.ok.kind hk hc hcell fin hcd) hd
theorem zj {i j pos}:PE X (.Constant (.int i) j pos) (tC (.int i)):=fun _ _ _ H _ I h=>wpAny_Constant_int ⟨.int i,H,I.tok _,⟨_,rfl⟩,h⟩
theorem zfi {b j pos}:PE X (.Constant (.bool b) j pos) (tC (.bl b)):=fun _ _ _ H _ I h=>Constant_bool ⟨.bl b,H,I,rfl,h⟩
theorem zt7 {j pos}:PE X (.Constant .none j pos) (tC .non):=fun _ _ _ H _ I h=>Constant_none ⟨.non,H,I,rfl,h⟩
theorem zba {x j pos}:PE X (.Constant (.str x) j pos) (tC (.str x)):=fun _ _ _ H _ I h=>Calls.Constant_str ⟨.str x,H,I.tok _,⟨_,rfl⟩,h⟩
def Gl (X:Cx) (x:Str):Prop:=X.env.kindOf x=some .globalImplicit
theorem zep {E:ty90q}{pins:ty91q}{s:ty2q}{σ:St}{H:Hp}{x:Str}{u:ty3q}{pos:Pos}{Q:ty90q}(I:Inv X pins σ H s) (hg:Gl X x) (hm:X.mg x=some u) (h:Q u s)
    (hd:(x == ("__debug__" : Str))=false:=by decide):wpAny (model X.prog X.w) X.A (eval (.Name x pos) X.env) Q E s:=
  Calls.Name_function_global I.ok.kind hg (Calls.loadGlobal_global (by rw[I.ok.glob];exact I.mod.glob.keeps I.bk) hm h) hd
theorem zfw {E:ty90q}{pins:ty91q}{s:ty2q}{σ:St}{H:Hp}{x:Str}{u:ty3q}{pos:Pos}{Q:ty90q}(I:Inv X pins σ H s) (hg:Gl X x) (hm:X.mg x=none) (hv:bootBuiltins x=some u) (h:Q u s)
    (hn:x≠"__name__":=by decide) (hd:(x == ("__debug__" : Str))=false:=by decide):wpAny (model X.prog X.w) X.A (eval (.Name x pos) X.env) Q E s:=by
  obtain⟨mb,h1,h2⟩:=I.mod.blt;exact Calls.Name_function_global I.ok.kind hg (Calls.loadGlobal_builtin (by rw[I.ok.glob];exact I.mod.glob.keeps I.bk) hm (by rw[I.ok.blt];exact h1.keeps I.bk) ((h2 x hn).trans hv) h) hd
variable {a b:Expr}{ta tb:TE}{pos:Pos}
def PC (X:Cx) (op:CmpOp) (a b:Expr) (t:TE):Prop:=
  ∀(pins:ty91q) (s:ty2q) (σ:St) (H:Hp) (Q:VK),Inv X pins σ H s->t σ H Q->
    wpAny (model X.prog X.w) X.A (eval a X.env) (fun v s₁=>wpAny (model X.prog X.w) X.A (eval b X.env) (fun u s₂=>wpAny (model X.prog X.w) X.A (compareOp op v u) (EP X pins σ Q) X.xe s₂) X.xe s₁) X.xe s
theorem zjw (b:Expr) {op:CmpOp}(h:op≠.In) (h2:op≠.NotIn):behindInMarks op b=false:=by
  have e1:(op == CmpOp.In)=false:=by cases op<;>first | rfl | exact absurd rfl h
  have e2:(op == CmpOp.NotIn)=false:=by cases op<;>first | rfl | exact absurd rfl h2
  cases b<;>simp[behindInMarks,e1,e2]
def zv8 (ta:TE):TE:=fun σ H Q=>ta σ H fun x H1=>Q (.bl (!decide (x = .non))) H1
theorem RelV.none_iff {x:V}{v:ty3q}(r:RelV x v):(v == Value.none)=decide (x = .non):=by
  cases x with
  | non=>cases r;rfl
  | bl _=>cases r;rfl
  | int _=>obtain⟨t,rfl⟩:=r;rfl
  | str _=>obtain⟨t,rfl⟩:=r;rfl
  | byt _=>obtain⟨t,rfl⟩:=r;rfl
  | flt _=>obtain⟨t,rfl⟩:=r;rfl
  | ref _=>cases r;rfl
  | ty _=>cases r;rfl
theorem zr3 {j pos'}(ha:PE X a ta):PC X .IsNot a (.Constant .none j pos') (zv8 ta):=by
  intro pins s σ H Q I h;refine thn (ha pins s σ H _ I h) fun v s1 hq0=>?_
  obtain⟨x,H1,I1,r1,q1⟩:=hq0;exact Constant_none (isnot_none_gen ⟨.bl _,H1,I1,by rw[r1.none_iff];rfl,q1⟩)
def tB (t:TE):TT:=fun σ H Q=>t σ H fun x H1=>∃c,x = .bl c/\Q c H1
theorem zq9 {op:CmpOp}{t:TE}(h:PC X op a b t) (h1:behindInMarks op b=false:=by first | exact zjw _ (by decide) (by decide) | rfl):PE X (.Compare a [op] [b] pos) t:=fun pins s σ H Q I hw=>wpAny_Compare1 (h pins s σ H Q I hw) h1
theorem zeq {op:CmpOp}{t:TE}(h:PC X op a b t) (h1:behindInMarks op b=false:=by first | exact zjw _ (by decide) (by decide) | rfl):PT X (.Compare a [op] [b] pos) (tB t):=by
  intro pins s σ H Q I hw;refine wpAny_isTrue_Compare1 (thn (h pins s σ H _ I hw) fun v s1 h1=>thn h1 fun u s2 h2=>thn h2 fun c s3 hq0=>?_) h1;obtain⟨x,H1,I1,r1,q1⟩:=hq0;obtain⟨d,rfl,q⟩:=q1;cases r1;exact al82q ⟨H1,I1,q⟩
theorem zmb {e:Expr}{t:TE}(h:PE X e t) (he:∀whole,isTrue e X.env whole=(do let v ←whole;standAt e.pos;holding [v] (truthy v)):=by intro _;rfl):PT X e (tB t):=by
  intro pins s σ H Q I hw;refine isTrue_plain (thn (h pins s σ H _ I hw) fun v s1 hq0=>?_) (he _);obtain⟨x,H1,I1,r1,q1⟩:=hq0;obtain⟨d,rfl,q⟩:=q1;cases r1;exact al82q ⟨H1,I1,q⟩
variable {tA tB':TT}{rest:List Expr}
def tAnd (t u:TT):TT:=fun σ H Q=>t σ H fun c H1=>if c=true then u σ H1 Q else Q false H1
def tOr (t u:TT):TT:=fun σ H Q=>t σ H fun c H1=>if c=true then Q true H1 else u σ H1 Q
def tNot (t:TT):TT:=fun σ H Q=>t σ H fun c H1=>Q (!c) H1
theorem zer (ha:PT X a tA):PW X (.BoolOp .And [a] pos) tA:=by
  intro wh pins s σ H Q I h;refine isTrue_and (thn (ha pins s σ H Q I h) fun c s1 e=>?_);cases c with
  | true=>exact isTrue_and_nil e
  | false=>exact e
theorem zfx (ha:PT X a tA):PW X (.BoolOp .Or [a] pos) tA:=by
  intro wh pins s σ H Q I h;refine isTrue_or (thn (ha pins s σ H Q I h) fun c s1 e=>?_);cases c with
  | false=>exact isTrue_or_nil e
  | true=>exact e
theorem zha (ha:PT X a tA) (hb:PW X (.BoolOp .And (b::rest) pos) tB'):PW X (.BoolOp .And (a::b::rest) pos) (tAnd tA tB'):=by
  intro wh pins s σ H Q I h;refine isTrue_and (thn (ha pins s σ H _ I h) fun c s1 hq0=>?_);obtain⟨H1,I1,q1⟩:=hq0;cases c with
  | true=>exact hb wh pins s1 σ H1 Q I1 q1
  | false=>exact⟨H1,I1,q1⟩
theorem zkt (ha:PT X a tA) (hb:PW X (.BoolOp .Or (b::rest) pos) tB'):PW X (.BoolOp .Or (a::b::rest) pos) (tOr tA tB'):=by
  intro wh pins s σ H Q I h;refine isTrue_or (thn (ha pins s σ H _ I h) fun c s1 hq0=>?_);obtain⟨H1,I1,q1⟩:=hq0;cases c with
  | true=>exact⟨H1,I1,q1⟩
  | false=>exact hb wh pins s1 σ H1 Q I1 q1
theorem zra (ha:PT X a tA):PT X (.UnaryOp .Not a pos) (tNot tA):=by
  intro pins s σ H Q I h;exact isTrue_not (ha pins s σ H (fun c H1=>Q (!c) H1) I h)
def zv9 (ta tb:TE):TE:=fun σ H Q=>ta σ H fun x H1=>∃c,x = .bl c/\if c=true then tb σ H1 Q else Q (.bl false) H1
def tOrV (ta tb:TE):TE:=fun σ H Q=>ta σ H fun x H1=>∃c,x = .bl c/\if c=true then Q (.bl true) H1 else tb σ H1 Q
theorem zjx {op}{t:TE}(h:PE X a t):PE X (.BoolOp op [a] pos) t:=fun pins s σ H Q I hw=>BoolOp_one (h pins s σ H Q I hw)
theorem zmc (ha:PE X a ta) (hb:PE X (.BoolOp .And (b::rest) pos) tb):PE X (.BoolOp .And (a::b::rest) pos) (zv9 ta tb):=by
  intro pins s σ H Q I h;refine BoolOp_and (thn (ha pins s σ H _ I h) fun v s1 hq0=>?_);obtain⟨x,H1,I1,r1,q1⟩:=hq0;obtain⟨c,rfl,q1⟩:=q1;cases r1;refine al82q ?_;cases c with
  | true=>exact hb pins s1 σ H1 Q I1 q1
  | false=>exact⟨.bl false,H1,I1,rfl,q1⟩
theorem zwa (ha:PE X a ta) (hb:PE X (.BoolOp .Or (b::rest) pos) tb):PE X (.BoolOp .Or (a::b::rest) pos) (tOrV ta tb):=by
  intro pins s σ H Q I h;refine BoolOp_or (thn (ha pins s σ H _ I h) fun v s1 hq0=>?_);obtain⟨x,H1,I1,r1,q1⟩:=hq0;obtain⟨c,rfl,q1⟩:=q1;cases r1;refine al82q ?_;cases c with
  | false=>exact hb pins s1 σ H1 Q I1 q1
  | true=>exact⟨.bl true,H1,I1,rfl,q1⟩
def tIf (t:TT) (ta tb:TE):TE:=fun σ H Q=>t σ H fun c H1=>if c=true then ta σ H1 Q else tb σ H1 Q
theorem zph {c:Expr}(hc:PT X c tA) (ha:PE X a ta) (hb:PE X b tb):PE X (.IfExp c a b pos) (tIf tA ta tb):=by
  intro pins s σ H Q I h;refine wpAny_IfExp (thn (hc pins s σ H _ I h) fun d s1 hq0=>?_);obtain⟨H1,I1,q1⟩:=hq0;cases d with
  | true=>exact ha pins s1 σ H1 Q I1 q1
  | false=>exact hb pins s1 σ H1 Q I1 q1
end
def SqL (K:ty0q) (H:Hp) (a:ty1q) (xs:List V):Prop:=
  Rd H a (.lst xs)\/
    ∃(o:Obj) (its:Array ty3q) (n:Nat),K.lookup a=some o/\o.cls = .type "list"/\o.dict=none/\o.data = .seq its n/\its.size<=sizeLine/\Vals xs its.toList
def SqT (K:ty0q) (H:Hp) (a:ty1q) (xs:List V):Prop:=
  Rd H a (.tup xs)\/
    ∃(o:Obj) (its:Array ty3q) (n:Nat),K.lookup a=some o/\o.cls = .type "tuple"/\o.data = .seq its n/\its.size<=sizeLine/\Vals xs its.toList
def absV:ty3q->Option V
  | .none=>some .non
  | .bool b=>some (.bl b)
  | .int i _=>some (.int i)
  | .str x _=>some (.str x)
  | .bytes b _=>some (.byt b)
  | .float b _=>some (.flt b)
  | .ref a=>some (.ref a)
  | .type n=>some (.ty n)
  | _=>none
theorem RelV.abs {x:V}{u:ty3q}(r:RelV x u):absV u=some x:=by
  cases x with
  | non=>cases r;rfl
  | bl _=>cases r;rfl
  | int _=>obtain⟨t,rfl⟩:=r;rfl
  | str _=>obtain⟨t,rfl⟩:=r;rfl
  | byt _=>obtain⟨t,rfl⟩:=r;rfl
  | flt _=>obtain⟨t,rfl⟩:=r;rfl
  | ref _=>cases r;rfl
  | ty _=>cases r;rfl
theorem RelV.inj {x y:V}{u:ty3q}(r:RelV x u) (q:RelV y u):x=y:=al41q (r.abs.symm.trans q.abs)
theorem Vals.inj:∀{xs ys:List V}{us:List ty3q},Vals xs us->Vals ys us->xs=ys
  | _,_,_,.nil,.nil=>rfl
  | _,_,_,.cons r t,.cons r' t'=>by rw[r.inj r',Vals.inj t t']
section
variable {X:Cx}{pins:ty91q}{σ:St}{H:Hp}{s:ty2q}{a:ty1q}{xs ys:List V}
theorem SqL.of {K:ty0q}(h:H a=some (.lst xs)):SqL K H a xs:=.inl (.inl h)
theorem SqT.of {K:ty0q}(h:H a=some (.tup xs)):SqT K H a xs:=.inl (.inl h)
theorem Inv.list (I:Inv X pins σ H s) (h:SqL X.K H a xs):∃its:List ty3q,Vals xs its/\PlainL s.heap a its.toArray/\xs.length<=sizeLine:=by
  rcases h with h | ⟨o,its,n,hk,hc,hd,hs,hz,r⟩
  · obtain⟨z,its,n,r,e⟩:=h.ok I.hok;exact⟨its,r,⟨_,n,e,rfl,rfl,rfl⟩,z⟩
  · refine⟨its.toList,r,⟨o,n,I.kIn a o hk,hc,hd,by simpa using hs⟩,?_⟩;have e:=r.length;simp only [al81q] at e;lia
theorem Inv.tuple (I:Inv X pins σ H s) (h:SqT X.K H a xs):∃its:List ty3q,Vals xs its/\IsTup s.heap a its.toArray/\xs.length<=sizeLine:=by
  rcases h with h | ⟨o,its,n,hk,hc,hs,hz,r⟩
  · obtain⟨z,its,r,p⟩:=h.ok I.hok;exact⟨its,r,p,z⟩
  · refine⟨its.toList,r,⟨o,I.kIn a o hk,hc,n,by simpa using hs⟩,?_⟩;have e:=r.length;simp only [al81q] at e;lia
theorem Inv.list_inj (I:Inv X pins σ H s) (h:SqL X.K H a xs) (h':SqL X.K H a ys):xs=ys:=by
  obtain⟨its,r,⟨o,n,e,_,_,d⟩,_⟩:=I.list h;obtain⟨its',r',⟨o',n',e',_,_,d'⟩,_⟩:=I.list h';rw[e] at e';cases e';rw[d] at d';injection d' with d1 _
  have:its=its':=by simpa using al61q Array.toList d1
  subst this;exact r.inj r'
theorem Inv.tuple_inj (I:Inv X pins σ H s) (h:SqT X.K H a xs) (h':SqT X.K H a ys):xs=ys:=by
  obtain⟨its,r,⟨o,e,_,n,d⟩,_⟩:=I.tuple h;obtain⟨its',r',⟨o',e',_,n',d'⟩,_⟩:=I.tuple h';rw[e] at e';cases e';rw[d] at d';injection d' with d1 _
  have:its=its':=by simpa using al61q Array.toList d1
  subst this;exact r.inj r'
end
abbrev Cx.wish (X:Cx) (E:ty90q):Cx:={ X with xe:=E }
abbrev Cx.nox (X:Cx):Cx:=X.wish fun _ _=>False
theorem Cx.Ok.wish {X:Cx}(ok:X.Ok) (E:ty90q):(X.wish E).Ok:=
  ⟨ok.mod,ok.kind,ok.glob,ok.blt,ok.above,ok.inj,ok.has,ok.cab,ok.hd,ok.frames,ok.stk,ok.exf,ok.bs,ok.bsz,ok.noex,ok.exfs,ok.funs,ok.frf⟩
theorem Cx.Ok.unwish {X:Cx}{E:ty90q}(ok:(X.wish E).Ok):X.Ok:=
  ⟨ok.mod,ok.kind,ok.glob,ok.blt,ok.above,ok.inj,ok.has,ok.cab,ok.hd,ok.frames,ok.stk,ok.exf,ok.bs,ok.bsz,ok.noex,ok.exfs,ok.funs,ok.frf⟩
section
variable {X:Cx}{pins:ty91q}{σ:St}{H:Hp}{s:ty2q}{E:ty90q}
theorem Inv.wish (I:Inv X pins σ H s) (E:ty90q):Inv (X.wish E) pins σ H s:=⟨I.ok.wish E,I.os,I.bare,I.base,I.loc,I.cell,I.free,I.freeC,I.pin,I.hok,I.len⟩
theorem Inv.unwish (I:Inv (X.wish E) pins σ H s):Inv X pins σ H s:=⟨I.ok.unwish,I.os,I.bare,I.base,I.loc,I.cell,I.free,I.freeC,I.pin,I.hok,I.len⟩
theorem SP.unwish {D:Ends}{f:Flow}{s':ty2q}(h:SP (X.wish E) pins D f s'):SP X pins D f s':=by
  cases f with
  | next=>obtain⟨σ',H',I,q⟩:=h;exact⟨σ',H',I.unwish,q⟩
  | brk=>obtain⟨σ',H',I,q⟩:=h;exact⟨σ',H',I.unwish,q⟩
  | cont=>obtain⟨σ',H',I,q⟩:=h;exact⟨σ',H',I.unwish,q⟩
  | ret u=>obtain⟨v,σ',H',I,r,q⟩:=h;exact⟨v,σ',H',I.unwish,r,q⟩
theorem PSs.nox {st:List Stmt}{t:TS}(h:PSs X.nox st t):PSs X st t:=fun pins s σ H D I hw=>
  al51q (h pins s σ H D (I.wish _) hw) (fun _ _ q=>q.unwish) fun _ _ z=>False.elim z
end
section
variable {X:Cx}{st:Stmt}{rest:List Stmt}{t u:TS}{e:Expr}{te:TE}{pos:Pos}
def zgb:TS:=fun D σ H=>D.nx σ H
def tSeq (t u:TS):TS:=fun D σ H=>t { D with nx:=u D } σ H
theorem zap:PSs X [] zgb:=fun _ _ σ H _ I h=>al170q ⟨σ,H,I,h⟩
theorem zg (h1:PS X st t) (h2:PSs X rest u):PSs X (st::rest) (tSeq t u):=by
  intro pins s σ H D I h;refine wpAny_execs_cons (thn (h1 pins s σ H { D with nx:=u D } I h) fun f s1 q=>?_);cases f with
  | next=>
    obtain⟨σ',H',I',q⟩:=q;exact h2 pins s1 σ' H' D I' q
  | ret v=>exact q
  | brk=>exact q
  | cont=>exact q
theorem zm (h1:PS X st t):PSs X [st] t:=by
  intro pins s σ H D I h;refine wpAny_execs_cons (thn (h1 pins s σ H D I h) fun f s1 q=>?_);cases f with
  | next=>exact al170q q
  | ret v=>exact q
  | brk=>exact q
  | cont=>exact q
theorem Inv.quiet {pins:ty91q}{σ:St}{H:Hp}{s:ty2q}(I:Inv X pins σ H s):interactive X.env=false:=by simp[interactive,I.ok.kind]
def zwb (te:TE):TS:=fun D σ H=>te σ H fun _ H1=>D.nx σ H1
theorem za7 (he:PE X e te) (hs:swapsWith e none pos.line X.env=pure false:=by rfl):PS X (.Expr e pos) (zwb te):=by
  intro pins s σ H D I h;exact wpAny_Expr_any (thn (he pins s σ H _ I h) fun v s1 ⟨x,H1,I1,r1,q1⟩=>⟨σ,H1,I1,q1⟩) I.quiet hs
def tRet (te:TE):TS:=fun D σ H=>te σ H D.rt
theorem zae (he:PE X e te):PS X (.Return (some e) pos) (tRet te):=by
  intro pins s σ H D I h;exact wpAny_Return_some (thn (he pins s σ H _ I h) fun v s1 ⟨x,H1,I1,r1,q1⟩=>⟨x,σ,H1,I1,r1,q1⟩)
def tIfS (c:TT) (t u:TS):TS:=fun D σ H=>c σ H fun b H1=>if b=true then t D σ H1 else u D σ H1
theorem zbm {c:Expr}{a b:List Stmt}{tc:TT}(hc:PT X c tc) (ha:PSs X a t) (hb:PSs X b u):PS X (.If c a b pos) (tIfS tc t u):=by
  intro pins s σ H D I h;refine wpAny_If (thn (hc pins s σ H _ I h) fun d s1 hq0=>?_);obtain⟨H1,I1,q1⟩:=hq0;cases d with
  | true=>exact ha pins s1 σ H1 D I1 q1
  | false=>exact hb pins s1 σ H1 D I1 q1
def zt8:TS:=fun _ _ _=>False
theorem zpi:PS X st zt8:=fun _ _ _ _ _ _ h=>h.elim
end
abbrev TG:=V->St->Hp->(St->Hp->Prop)->Prop
abbrev TGs:=List V->St->Hp->(St->Hp->Prop)->Prop
def PG (X:Cx) (target:Expr) (t:TG):Prop:=
  ∀(pins:ty91q) (s:ty2q) (σ:St) (H:Hp) (v:V) (u:ty3q) (Q:St->Hp->Prop),Inv X pins σ H s->RelV v u->t v σ H Q->
    wpAny (model X.prog X.w) X.A (assign target X.env u) (fun _ s'=>∃σ' H',Inv X pins σ' H' s'/\Q σ' H') X.xe s
def PGs (X:Cx) (ts:List Expr) (t:TGs):Prop:=
  ∀(pins:ty91q) (s:ty2q) (σ:St) (H:Hp) (vs:List V) (us:List ty3q) (Q:St->Hp->Prop),Inv X pins σ H s->Vals vs us->t vs σ H Q->
    wpAny (model X.prog X.w) X.A (assignInOrder ((assignEach ts X.env).map (·.2)) us) (fun _ s'=>∃σ' H',Inv X pins σ' H' s'/\Q σ' H') X.xe s
section
variable {X:Cx}{pos:Pos}
def zw (i:Nat):TG:=fun v σ H Q=>Q (σ.set i (some v)) H
theorem zbb {i:Nat}{x:Str}(hN:X.N.Nodup) (hi:X.N[i]? = some x) (hx:Loc X.env.scope x) (hf:X.fn x=true\/X.env.scope.names.lookup x=some .local:=by first | exact .inl rfl | exact .inr rfl | assumption):PG X (.Name x pos) (zw i):=by
  intro pins s σ H v u Q I r h;exact wpAny_assign_Name (zeh I hN hi hx r (fun s' I'=>⟨_,H,I',h⟩) hf)
def gNil:TGs:=fun vs σ H Q=>vs = []/\Q σ H
def zwc (t:TG) (u:TGs):TGs:=fun vs σ H Q=>∃v r,vs=v::r/\t v σ H fun σ' H'=>u r σ' H' Q
theorem zbt:PGs X [] gNil:=by
  intro pins s σ H vs us Q I r h;obtain⟨e,h⟩:=h;subst e;cases r;exact assignInOrder_nil ⟨σ,H,I,h⟩
theorem zam {e:Expr}{es:List Expr}{t:TG}{u:TGs}(h1:PG X e t) (h2:PGs X es u)
    (hs:(assignEach (e::es) X.env).map (·.2)=assign e X.env::(assignEach es X.env).map (·.2):=by rfl):PGs X (e::es) (zwc t u):=by
  intro pins s σ H vs us Q I r h;obtain⟨v,vr,e1,h⟩:=h;subst e1;cases r with
  | cons r rr=>
    rw[hs];refine assignInOrder_cons (thn (h1 pins s σ H _ _ _ I r h) fun _ s1 hq0=>?_);obtain⟨σ1,H1,I1,q1⟩:=hq0;exact h2 pins s1 σ1 H1 _ _ Q I1 rr q1
def gTup (K:ty0q) (n:Nat) (t:TGs):TG:=fun v σ H Q=>∃a xs,v = .ref a/\SqT K H a xs/\xs.length=n/\t xs σ H Q
theorem zt9 {es:List Expr}{k:Nat}{t:TGs}{n:Nat}(hc:X.calm=true) (h:PGs X es t)
    (hn:(assignEach es X.env).length=n:=by rfl) (hst:(assignEach es X.env).findIdx? (·.1)=none:=by rfl):PG X (.Tuple es k pos) (gTup X.K n t):=by
  intro pins s σ H v u Q I r hw;obtain⟨a,xs,e1,hq,hl,hw⟩:=hw;subst e1;cases r;obtain⟨its,rv,ht,hz⟩:=I.tuple hq;refine assign_Tuple_tuple (I.ok.hd hc) ht (by simp[hn,←hl,rv.length]) hst fun h' hx=>?_
  have I1:Inv X pins σ H { s with heap:=h' }:=I.kept (t':=s.toks) fun b o e=>hx b o (al31q (al14q e)) e
  exact h pins _ σ H xs _ Q I1 (by simpa using rv) hw
def tAsg (te:TE) (g:TG):TS:=fun D σ H=>te σ H fun x H1=>g x σ H1 D.nx
theorem zrb {tg e:Expr}{te:TE}{g:TG}(he:PE X e te) (hg:PG X tg g) (hs:swapsWithSole [tg] e pos.line X.env=pure false:=by rfl) (hw:swappedStores [tg] e X.env=pure none:=by rfl)
    (h1:(assignEach [tg] X.env).map (·.2) = [assign tg X.env]:=by rfl):PS X (.Assign [tg] e pos) (tAsg te g):=by
  intro pins s σ H D I h;refine wpAny_Assign_stores (thn (he pins s σ H _ I h) fun v s1 hq0=>?_) hs hw;obtain⟨x,H1,I1,r1,q1⟩:=hq0;rw[h1];exact thn (hg pins s1 σ H1 x v _ I1 r1 q1) fun _ s2 q=>q
theorem zua {i:Nat}{x:Str}{e:Expr}{te:TE}{pos':Pos}(hN:X.N.Nodup) (hi:X.N[i]? = some x) (hx:Loc X.env.scope x) (he:PE X e te) (hs:swapsWith e (some (.Name x pos')) pos.line X.env=pure false:=by rfl) (hf:X.fn x=true\/X.env.scope.names.lookup x=some .local:=by first | exact .inl rfl | exact .inr rfl | assumption) :
    PS X (.Assign [.Name x pos'] e pos) (tAsg te (zw i)):=by
  intro pins s σ H D I h;refine wpAny_Assign_Name (thn (he pins s σ H _ I h) fun v s1 hq0=>?_) hs;obtain⟨y,H1,I1,r1,q1⟩:=hq0;exact zeh I1 hN hi hx r1 (fun s2 I2=>⟨_,H1,I2,q1⟩) hf
end
section
variable {X:Cx}{pos:Pos}
def zub (c:TT) (tb:TS):TS:=fun D σ H=>∃W:Nat->St->Hp->Prop,(∃m,W m σ H)/\∀m σ H,W m σ H->
  c σ H fun b H1=>if b=true then ∃N:St->Hp->Prop,(∀σ' H',N σ' H'->∃m',m'<m/\W m' σ' H')/\tb { D with nx:=N,ct:=N,bk:=D.nx } σ H1 else D.nx σ H1
theorem zcu {c:Expr}{body:List Stmt}{tc:TT}{tb:TS}(hp:PassesOwn (model X.prog X.w) X.A X.env X.xe) (hc:PT X c tc) (hb:PSs X body tb):PS X (.While c body [] pos) (zub tc tb):=by
  intro pins s σ H D I h;obtain⟨W,⟨m0,w0⟩,turn⟩:=h;refine wpAny_While (codeAny_whileLoop (fun n s'=>∃σ' H',Inv X pins σ' H' s'/\W n σ' H') ?_ m0 ⟨σ,H,I,w0⟩);rintro n s1 ⟨σ1,H1,I1,w1⟩;refine al124q hp (thn (hc pins s1 σ1 H1 _ I1 (turn n σ1 H1 w1)) fun b s2 hq0=>?_);obtain⟨H2,I2,q2⟩:=hq0;cases b with
  | true=>
    obtain⟨N,hN,q2⟩:=q2;rw[al12q rfl];refine al124q hp (thn (hb pins s2 σ1 H2 _ I2 q2) fun f s3 q3=>?_);cases f with
    | next=>
      obtain⟨σ3,H3,I3,n3⟩:=q3;obtain⟨m',hm,w3⟩:=hN σ3 H3 n3;exact⟨m',hm,σ3,H3,I3,w3⟩
    | cont=>
      obtain⟨σ3,H3,I3,n3⟩:=q3;obtain⟨m',hm,w3⟩:=hN σ3 H3 n3;exact⟨m',hm,σ3,H3,I3,w3⟩
    | brk=>exact q3
    | ret v=>exact q3
  | false=>
    rw[al8q al23q];exact al170q ⟨σ1,H2,I2,q2⟩
end
structure It where
  go:Nat->Hp->Prop
  yld:Nat->Hp->V->Hp->Prop
  stop:Nat->Hp->Prop
def FpOk (X:Cx) (pins:ty91q) (H:Hp) (b:ty1q):Prop:=
  H b=none/\b≠X.env.locals/\b ∉ X.fs/\(b∈X.ex\/X.s₀.heap.objs.size<=b)/\(∀x c,X.env.cells.lookup x=some c->c≠b)/\∀p∈X.pn++pins,p.1≠b
theorem Inv.fpOk {X:Cx}{pins:ty91q}{σ:St}{H H':Hp}{s:ty2q}{b:ty1q}(I:Inv X pins σ H s) (hb:s.heap.objs.size<=b) (hn:H' b=none):FpOk X pins H' b:=by
  refine⟨hn,al145q (al37q I.lt hb),I.nofs hb,.inr (al58q I.sz hb),fun x c e z=>?_,fun p hp z=>?_⟩
  · obtain⟨v,q⟩:=I.cell x c e;exact absurd (al37q q.lt (by rw[z];exact hb)) (al53q _)
  · exact absurd (al37q (al14q (I.pin p hp).1) (by rw[z];exact hb)) (al53q _)
structure Turn (P:ty4q) (w:World) (K:ty0q) (tg:Expr) (J:It) (fp:List ty1q) (it:ty1q) (tn:Nat->Heap->Prop):Prop where
  mem:it∈fp
  obj:∀i h,tn i h->∀b∈fp,∃o,h.get? b=some o/\∀v,o.data≠.cell v
  keep:∀i h h',tn i h->(∀b∈fp,∀o,h.get? b=some o->h'.get? b=some o)->tn i h'
  item:∀(X:Cx),X.prog=P->X.w=w->X.K=K->X.calm=true->∀(i:Nat) (pins:ty91q) (s:ty2q) (σ:St) (H:Hp) (E:ty90q),Inv X pins σ H s->(∀b∈fp,FpOk X pins H b)->tn i s.heap->J.go i H->
    wpAny (model P w) X.A (pyNext (.ref it)) (fun r s1=>∃u,r=some u/\
      wpAny (model P w) X.A (letOwnedTupleGo tg (.ref it) u) (fun _ s2=>∃x H',Inv X pins σ H' s2/\RelV x u/\J.yld i H x H'/\tn (i+1) s2.heap/\∀b∈fp,H' b=none) E s1) E s
  done:∀(X:Cx),X.prog=P->X.w=w->X.K=K->X.calm=true->∀(i:Nat) (pins:ty91q) (s:ty2q) (σ:St) (H:Hp) (E:ty90q),Inv X pins σ H s->(∀b∈fp,FpOk X pins H b)->tn i s.heap->J.stop i H->
    wpAny (model P w) X.A (pyNext (.ref it)) (fun r s1=>r=none/\Inv X pins σ H s1) E s
  self:∀(A:Around) (i:Nat) (s:ty2q) (Q:ty90q) (E:ty90q),tn i s.heap->Q (.ref it) s->wpAny (model P w) A (pyIter (.ref it)) Q E s
abbrev TI:=St->Hp->(It->Hp->Prop)->Prop
def PIE (X:Cx) (pins:ty91q) (σ:St) (tg:Expr) (R:It->Hp->Prop) (itv:ty3q) (s2:ty2q):Prop:=
  ∃(it:ty1q) (fp:List ty1q) (tn:Nat->Heap->Prop) (J:It) (H':Hp),itv = .ref it/\Inv X pins σ H' s2/\Turn X.prog X.w X.K tg J fp it tn/\tn 0 s2.heap/\(∀b∈fp,FpOk X pins H' b)/\R J H'
def PI (X:Cx) (tg iter:Expr) (wi:TI):Prop:=
  ∀(pins:ty91q) (s:ty2q) (σ:St) (H:Hp) (R:It->Hp->Prop),Inv X pins σ H s->wi σ H R->
    wpAny (model X.prog X.w) X.A (eval iter X.env) (fun v s1=>wpAny (model X.prog X.w) X.A (pyIter v) (PIE X pins σ tg R) X.xe s1) X.xe s
theorem zpj {M:Model}{A:Around}{E:ty90q}{s:ty2q}{tg:Expr}{it:ty1q}{u:ty3q}{o:Obj}{n:String}{vs:Array ty3q}{Q:Unit->ty2q->Prop}(ho:s.heap.get? it=some o) (hc:o.cls = .type n) (hd:o.data = .fields vs)
    (hn : ["enumerate","zip","dict_itemiterator","dict_reverseitemiterator","odict_iterator","itertools.zip_longest","itertools.pairwise"].contains n=false) (hQ:Q () s):wpAny M A (letOwnedTupleGo tg (.ref it) u) Q E s:=by
  unfold letOwnedTupleGo;cases tg<;>first
    | exact al7q hQ
    | (cases u<;>first
        | exact al7q hQ
        | (refine al2q (wpAny_load ho ?_)
           rw[hc,hd];show wpAny M A (if (["enumerate","zip","dict_itemiterator","dict_reverseitemiterator","odict_iterator","itertools.zip_longest","itertools.pairwise"].contains n&&vs[0]? == some (rawInt _))=true then _ else _) Q E s;rw[al8q (by intro h;rw[hn,Bool.false_and] at h;cases h)];exact al7q hQ))
def Itl (K:ty0q) (a:ty1q):It:=
  ⟨fun i H=>∃xs x,SqL K H a xs/\xs[i]? = some x,fun i H x H'=>H'=H/\∀xs,SqL K H a xs->xs[i]? = some x,fun i H=>∃xs,SqL K H a xs/\xs.length<=i⟩
def Itr (lo:Int) (n:Nat):It:=⟨fun i _=>i<n,fun i H x H'=>H'=H/\x = .int (lo+i),fun i _=>n<=i⟩
theorem zmd {P:ty4q}{w:World}{K:ty0q}{tg:Expr}(a it:ty1q):Turn P w K tg (Itl K a) [it] it (fun i h=>h.IsListIter it a i) where
  mem:=by simp
  obj:=fun i h st b hb=>by
    have e:b=it:=by simpa using hb
    subst e;obtain⟨o,e,c,d⟩:=st;exact⟨o,e,fun v z=>by rw[d] at z;cases z⟩
  keep:=fun i h h' st k=>st.at fun o e=>k it (by simp) o e
  item:=by
    intro X hP hw hK hc i pins s σ H E I hf st hg;subst hP hw hK;obtain⟨xs,x,hq,hx⟩:=hg;obtain⟨its,rv,p,hz⟩:=I.list hq;obtain⟨u,hu,ru⟩:=rv.get hx;obtain⟨f0,f1,f2,f3,f4,f5⟩:=hf it (by simp);refine al93q st p.isList (x:=u) (by simpa using hu) fun h' st' sb=>?_
    have I1:Inv X pins σ H { s with heap:=h' }:=I.turned (t':=s.toks) (fun b o hb e=>(sb.2 b hb).trans e) f0 f1 f3 f4 f5;obtain⟨o,e,c,d⟩:=id st';exact⟨u,rfl,zpj (s:={ s with heap:=h' }) e c d (by decide) ⟨x,H,I1,ru,⟨rfl,fun ys hy=>by rw[I.list_inj hy hq];exact hx⟩,st',fun b hb=>(hf b hb).1⟩⟩
  done:=by
    intro X hP hw hK hc i pins s σ H E I hf st hg;subst hP hw hK;obtain⟨xs,hq,hx⟩:=hg;obtain⟨its,rv,p,hz⟩:=I.list hq;obtain⟨f0,f1,f2,f3,f4,f5⟩:=hf it (by simp);have hl:=rv.length;exact al123q (I.ok.hd hc) st p.isList (by simp;lia) fun h' eb=>⟨rfl,I.turned (t':=s.toks) (fun b o hb e=>eb b o hb e) f0 f1 f3 f4 f5⟩
  self:=fun _ _ _ _ _ st h=>wpAny_pyIter_listiter st h
theorem zku {P:ty4q}{w:World}{K:ty0q}{tg:Expr}(it:ty1q) (lo:Int) (n:Nat):Turn P w K tg (Itr lo n) [it] it (fun i h=>IsRangeIter h it (lo+(i:Nat) * 1) ((n:Int)-(i:Nat)) 1) where
  mem:=by simp
  obj:=fun i h st b hb=>by
    have e:b=it:=by simpa using hb
    subst e;exact⟨_,st,fun v z=>by
      have z':Data.fields _=Data.cell v:=z;cases z'⟩
  keep:=fun i h h' st k=>k it (by simp) _ st
  item:=by
    intro X hP hw hK hc i pins s σ H E I hf st hg;subst hP hw hK;obtain⟨f0,f1,f2,f3,f4,f5⟩:=hf it (by simp);have W:=Walks.range (prog:=X.prog) (w:=X.w) (I.ok.hd hc) it lo 1 n;refine W.item i s _ _ hg st fun v h' tk hv st' kk=>?_
    obtain⟨t,rfl⟩:=hv;have I1:Inv X pins σ H { s with heap:=h',toks:=tk }:=I.turned (fun b o hb e=>kk b o (by simpa using hb) e) f0 f1 f3 f4 f5;refine⟨_,rfl,zpj (s:={ s with heap:=h',toks:=tk }) (n:="range_iterator") st' rfl rfl (by decide) ⟨.int (lo+i),H,I1,⟨t,?_⟩,⟨rfl,rfl⟩,st',fun b hb=>(hf b hb).1⟩⟩;rw[Int.mul_one]
  done:=by
    intro X hP hw hK hc i pins s σ H E I hf st hg;subst hP hw hK;obtain⟨f0,f1,f2,f3,f4,f5⟩:=hf it (by simp);exact wpAny_pyNext_range_end (I.ok.hd hc) st (by have:n<=i:=hg;lia) fun h' eb=>⟨rfl,I.turned (t':=s.toks) (fun b o hb e=>eb b o hb e) f0 f1 f3 f4 f5⟩
  self:=fun _ _ _ _ _ st h=>wpAny_pyIter_rangeiter st h
section
variable {X:Cx}{tg:Expr}
def zuc (K:ty0q) (tl:TE):TI:=fun σ H R=>tl σ H fun x H1=>∃a,x = .ref a/\(∃xs,SqL K H1 a xs)/\R (Itl K a) H1
theorem zr4 {l:Expr}{tl:TE}(hl:PE X l tl):PI X tg l (zuc X.K tl):=by
  intro pins s σ H R I h;refine thn (hl pins s σ H _ I h) fun v s1 hq0=>?_
  obtain⟨x,H1,I1,r1,q1⟩:=hq0;obtain⟨a,e,⟨xs,hq⟩,q⟩:=q1;subst e;cases r1;obtain⟨its,rv,p,hz⟩:=I1.list hq;refine al126q p.isList ?_;refine⟨s1.heap.objs.size,[s1.heap.objs.size],_,_,H1,rfl,I1.kept (t':=s1.toks) fun b o e=>al5q _ e,zmd a _,⟨_,al20q _ rfl,rfl,rfl⟩,fun b hb=>?_,q⟩;have e:b=s1.heap.objs.size:=by simpa using hb
  subst e;exact I1.fpOk (al13q _) (I1.hok.fresh (al13q _))
theorem zjy {pins:ty91q}{σ:St}{H:Hp}{s:ty2q}{R:It->Hp->Prop}{E:ty90q}{lo hi:Int}{t u v:Tok}{tk:Nat}(I:Inv X pins σ H s) (h1 : -(2 ^ 62)<=lo) (h2:lo<2 ^ 62) (h3 : -(2 ^ 62)<=hi) (h4:hi<2 ^ 62)
    (q:R (Itr lo (hi-lo).toNat) H):wpAny (model X.prog X.w) X.A (pyIter (.ref s.heap.objs.size)) (PIE X pins σ tg R) E { s with heap:=s.heap.push { cls:=.type "range",data:=.fields #[.int lo t,.int hi u,.int 1 v] },toks:=tk }:=by
  refine wpAny_pyIter_range (IsRange.new ..) (small_one h1 h2 h3 h4) ?_;have I1:Inv X pins σ H { s with heap:=s.heap.push { cls:=.type "range",data:=.fields #[.int lo t,.int hi u,.int 1 v] },toks:=tk }:=I.kept fun b o e=>al5q _ e
  refine⟨(s.heap.push { cls:=.type "range",data:=.fields #[.int lo t,.int hi u,.int 1 v] }).objs.size,[(s.heap.push { cls:=.type "range",data:=.fields #[.int lo t,.int hi u,.int 1 v] }).objs.size],_,_,H,rfl,
    I1.kept (t':=tk) fun b o e=>al5q _ e,zku _ lo (hi-lo).toNat,?_,fun b hb=>?_,q⟩
  · have e1:lo+((0:Nat):Int) * 1=lo:=by simp
    have e2:(((hi-lo).toNat:Nat):Int)-((0:Nat):Int)=Builtin.Range.rangeSize lo hi 1:=by rw[rangeSize_one];split<;>lia
    show IsRangeIter _ _ (lo+((0:Nat):Int) * 1) ((((hi-lo).toNat:Nat):Int)-((0:Nat):Int)) 1;rw[e1,e2];exact al20q _ rfl
  · have e:b=(s.heap.push { cls:=.type "range",data:=.fields #[.int lo t,.int hi u,.int 1 v] }).objs.size:=by simpa using hb
    subst e;exact I1.fpOk (al13q _) (I1.hok.fresh (al13q _))
def zwd (ta:TA):TI:=fun σ H R=>ta σ H fun vs H1=>∃j:Int,vs = [.int j]/\-(2 ^ 62)<=j/\j<2 ^ 62/\R (Itr 0 j.toNat) H1
def zwe (ta:TA):TI:=fun σ H R=>ta σ H fun vs H1=>∃i j:Int,vs = [.int i,.int j]/\(-(2 ^ 62)<=i/\i<2 ^ 62/\-(2 ^ 62)<=j/\j<2 ^ 62)/\R (Itr i (j-i).toNat) H1
theorem zes {a:Expr}{ta:TA}{p pos:Pos}(hg:Gl X "range") (hm:X.mg "range" = none) (ha:PA X [a] ta) (hs:starEach [a] X.env = [(false,eval a X.env)]:=by rfl):PI X tg (.Call (.Name "range" p) [a] [] pos) (zwd ta):=by
  intro pins s σ H R I h;refine Call_ (zfw I hg hm boot_range (al116q (thn (ha pos pins s σ H _ I h) fun us s1 hq0=>?_) hs rfl));obtain⟨vs,H1,I1,r1,q1⟩:=hq0;obtain⟨j,e,q1,q2,q⟩:=q1;subst e;cases r1 with
  | cons r rr=>
    cases rr;obtain⟨t,rfl⟩:=r;exact call_range_1 (zjy I1 (by lia) (by lia) q1 q2 (by simpa using q))
theorem zet {a b:Expr}{ta:TA}{p pos:Pos}(hg:Gl X "range") (hm:X.mg "range" = none) (ha:PA X [a,b] ta) (hs:starEach [a,b] X.env = [(false,eval a X.env),(false,eval b X.env)]:=by rfl) (hs2:starEach [b] X.env = [(false,eval b X.env)]:=by rfl) :
    PI X tg (.Call (.Name "range" p) [a,b] [] pos) (zwe ta):=by
  intro pins s σ H R I h;refine Call_ (zfw I hg hm boot_range (al116q (thn (ha pos pins s σ H _ I h) fun us s1 hq0=>?_) (by rw[hs,hs2]) (by rw[hs2];rfl)));obtain⟨vs,H1,I1,r1,q1⟩:=hq0;obtain⟨i,j,e,⟨q1,q2,q3,q4⟩,q⟩:=q1;subst e;cases r1 with
  | cons r rr=>
    cases rr with
    | cons r' rr=>
      cases rr;obtain⟨t,rfl⟩:=r;obtain⟨t',rfl⟩:=r';exact call_range_2 (zjy I1 q1 q2 q3 q4 q)
def tFor (wi:TI) (g:TG) (tb:TS):TS:=fun D σ H=>wi σ H fun J H1=>∃W:Nat->Nat->St->Hp->Prop,(∃m,W 0 m σ H1)/\∀i m σ H,W i m σ H->
  (J.stop i H/\D.nx σ H)\/(J.go i H/\∃N:St->Hp->Prop,(∀σ' H',N σ' H'->∃m',m'<m/\W (i+1) m' σ' H')/\∀x H',J.yld i H x H'->g x σ H' fun σ2 H2=>tb { D with nx:=N,ct:=N,bk:=D.nx } σ2 H2)
def zhb (fp:List ty1q) (h:Heap):ty91q:=fp.filterMap fun b=>(h.get? b).map fun o=>(b,o)
theorem zcv {fp:List ty1q}{h:Heap}{b:ty1q}{o:Obj}(hb:b∈fp) (e:h.get? b=some o):(b,o)∈zhb fp h:=List.mem_filterMap.mpr ⟨b,hb,by rw[e];rfl⟩
theorem zme {fp:List ty1q}{h:Heap}{p:ty1q×Obj}(hp:p∈zhb fp h):p.1∈fp/\h.get? p.1=some p.2:=by
  obtain⟨b,hb,e⟩:=List.mem_filterMap.mp hp;cases q:h.get? b with
  | none=>rw[q] at e;cases e
  | some o=>
    rw[q] at e;have e':(b,o)=p:=al41q e;subst e';exact⟨hb,q⟩
theorem Inv.pinned {pins:ty91q}{σ:St}{H:Hp}{s:ty2q}{fp:List ty1q}(I:Inv X pins σ H s) (hf:∀b∈fp,FpOk X pins H b) (ho:∀b∈fp,∃o,s.heap.get? b=some o/\∀v,o.data≠.cell v):Inv X (pins++zhb fp s.heap) σ H s:=
  I.pins_of fun p hp=>(al25q.mp hp).elim (fun z=>I.pin p (al39q _ z)) fun z=>by
    obtain⟨hb,e⟩:=zme z;obtain⟨f0,f1,f2,_⟩:=hf p.1 hb;obtain⟨o,e',d⟩:=ho p.1 hb;rw[e] at e';cases e';exact⟨e,f0,f1,f2,d⟩
theorem Inv.unpinned {pins pl:ty91q}{σ:St}{H:Hp}{s:ty2q}(I:Inv X (pins++pl) σ H s):Inv X pins σ H s:=I.pins_of fun p hp=>I.pin p (al39q _ (al35q _ hp))
theorem zaw {iter:Expr}{body:List Stmt}{wi:TI}{g:TG}{tb:TS}{pos:Pos}(hp:PassesOwn (model X.prog X.w) X.A X.env X.xe) (hc:X.calm=true) (hi:PI X tg iter wi) (hg:PG X tg g) (hb:PSs X body tb)
    (hs:∀x,foldedSetIterable iter X.env x=pure x:=by intro _;rfl):PS X (.For tg iter body [] pos) (tFor wi g tb):=by
  intro pins s σ H D I h;refine wpAny_For (thn (hi pins s σ H _ I h) fun v s1 h1=>thn h1 fun itv s2 h2=>?_) hs;obtain⟨it,fp,tn,J,H2,e,I2,T,st2,f2,W,⟨m0,w0⟩,turn⟩:=h2;subst e;have stat:∀{H':Hp},(∀b∈fp,H' b=none)->∀b∈fp,FpOk X pins H' b:=fun hn b hb=>⟨hn b hb,(f2 b hb).2⟩
  refine codeAny_forLoop_any (fun n s'=>∃i σ' H',Inv X pins σ' H' s'/\tn i s'.heap/\(∀b∈fp,H' b=none)/\W i n σ' H') ?_ m0 ⟨0,σ,H2,I2,st2,fun b hb=>(f2 b hb).1,w0⟩;rintro n s3 ⟨i,σ3,H3,I3,st3,fr3,w3⟩;rcases turn i n σ3 H3 w3 with ⟨stop,qn⟩ | ⟨go,N,hN,step⟩
  · refine al124q hp (thn (T.done X rfl rfl rfl hc i pins s3 σ3 H3 X.xe I3 (stat fr3) st3 stop) fun r s4 hq0=>?_);obtain⟨hr,I4⟩:=hq0;subst hr;exact al170q ⟨σ3,H3,I4,qn⟩
  · refine al124q hp (thn (T.item X rfl rfl rfl hc i pins s3 σ3 H3 X.xe I3 (stat fr3) st3 go) fun r s4 hq0=>?_);obtain⟨u,hr,h4⟩:=hq0;subst hr;refine al124q hp (thn h4 fun _ s5 hq0=>?_);obtain⟨x,H5,I5,r5,y5,st5,fr5⟩:=hq0;have I5':=I5.pinned (stat fr5) (T.obj _ _ st5);refine al124q hp (thn (hg _ s5 σ3 H5 x u _ I5' r5 (step x H5 y5)) fun _ s6 hq0=>?_);obtain⟨σ6,H6,I6,q6⟩:=hq0;refine al124q hp (thn (hb _ s6 σ6 H6 _ I6 q6) fun f s7 q7=>?_);have again:∀{σ7:St}{H7:Hp},Inv X (pins++zhb fp s5.heap) σ7 H7 s7->N σ7 H7->∃m,m<n/\∃i σ' H',Inv X pins σ' H' s7/\tn i s7.heap/\(∀b∈fp,H' b=none)/\W i m σ' H':=fun {σ7 H7} I7 n7=>by
      obtain⟨m',hm,w7⟩:=hN σ7 H7 n7;refine⟨m',hm,i+1,σ7,H7,I7.unpinned,T.keep _ _ _ st5 fun b hb o e=>(I7.pin (b,o) (al39q _ (al39q _ (zcv hb e)))).1,fun b hb=>?_,w7⟩;obtain⟨o,e,d⟩:=T.obj _ _ st5 b hb;exact (I7.pin (b,o) (al39q _ (al39q _ (zcv hb e)))).2.1
    cases f with
    | next=>obtain⟨σ7,H7,I7,n7⟩:=q7;exact again I7 n7
    | cont=>obtain⟨σ7,H7,I7,n7⟩:=q7;exact again I7 n7
    | brk=>obtain⟨σ7,H7,I7,q7⟩:=q7;exact⟨σ7,H7,I7.unpinned,q7⟩
    | ret v=>obtain⟨x7,σ7,H7,I7,r7,q7⟩:=q7;exact⟨x7,σ7,H7,I7.unpinned,r7,q7⟩
end
theorem zat {K:ty0q}{a:ty1q}{xs:List V}{g:TG}{tb:TS}{D:Ends}{σ:St}{H:Hp}(Pv:Nat->St->Hp->Prop) (h0:Pv 0 σ H) (hl:∀i σ H,i<=xs.length->Pv i σ H->SqL K H a xs)
    (hs:∀i x σ H,xs[i]? = some x->Pv i σ H->g x σ H fun σ2 H2=>tb { D with nx:=Pv (i+1),ct:=Pv (i+1),bk:=D.nx } σ2 H2) (hd:∀σ H,Pv xs.length σ H->D.nx σ H) :
    ∃W:Nat->Nat->St->Hp->Prop,(∃m,W 0 m σ H)/\∀i m σ H,W i m σ H->
      ((Itl K a).stop i H/\D.nx σ H)\/((Itl K a).go i H/\∃N:St->Hp->Prop,(∀σ' H',N σ' H'->∃m',m'<m/\W (i+1) m' σ' H')/\∀x H',(Itl K a).yld i H x H'->g x σ H' fun σ2 H2=>tb { D with nx:=N,ct:=N,bk:=D.nx } σ2 H2):=by
  refine⟨fun i m σ H=>m=xs.length-i/\i<=xs.length/\Pv i σ H,⟨xs.length,by simp,al65q _,h0⟩,?_⟩;rintro i m σ H ⟨rfl,hi,p⟩;have q:=hl i σ H hi p
  by_cases hlt:i<xs.length
  · refine .inr ⟨⟨xs,xs[i],q,by simp[hlt]⟩,Pv (i+1),fun σ' H' p'=>⟨xs.length-(i+1),by lia,rfl,hlt,p'⟩,fun x H' y=>?_⟩;obtain⟨e,y⟩:=y;subst e;exact hs i x σ _ (y xs q) p
  · have e:i=xs.length:=by lia
    subst e;exact .inl ⟨⟨xs,q,al13q _⟩,hd σ H p⟩
theorem zeu {lo:Int}{n:Nat}{g:TG}{tb:TS}{D:Ends}{σ:St}{H:Hp}(Pv:Nat->St->Hp->Prop) (h0:Pv 0 σ H)
    (hs:∀i σ H,i<n->Pv i σ H->g (.int (lo+i)) σ H fun σ2 H2=>tb { D with nx:=Pv (i+1),ct:=Pv (i+1),bk:=D.nx } σ2 H2) (hd:∀σ H,Pv n σ H->D.nx σ H) :
    ∃W:Nat->Nat->St->Hp->Prop,(∃m,W 0 m σ H)/\∀i m σ H,W i m σ H->
      ((Itr lo n).stop i H/\D.nx σ H)\/((Itr lo n).go i H/\∃N:St->Hp->Prop,(∀σ' H',N σ' H'->∃m',m'<m/\W (i+1) m' σ' H')/\∀x H',(Itr lo n).yld i H x H'->g x σ H' fun σ2 H2=>tb { D with nx:=N,ct:=N,bk:=D.nx } σ2 H2):=by
  refine⟨fun i m σ H=>m=n-i/\i<=n/\Pv i σ H,⟨n,by simp,al65q _,h0⟩,?_⟩;rintro i m σ H ⟨rfl,hi,p⟩
  by_cases hlt:i<n
  · refine .inr ⟨hlt,Pv (i+1),fun σ' H' p'=>⟨n-(i+1),by lia,rfl,hlt,p'⟩,fun x H' y=>?_⟩;obtain⟨e,y⟩:=y;subst e y;exact hs i σ _ hlt p
  · have e:i=n:=by lia
    subst e;exact .inl ⟨al13q _,hd σ H p⟩
abbrev R2:=V->V->Hp->VK->Prop
def OpR (X:Cx) (f:ty3q->ty3q->Sem ty3q) (r:R2):Prop:=
  ∀(pins:ty91q) (s:ty2q) (σ:St) (H:Hp) (x y:V) (v u:ty3q) (Q:VK),Inv X pins σ H s->RelV x v->RelV y u->r x y H Q->
    wpAny (model X.prog X.w) X.A (f v u) (EP X pins σ Q) X.xe s
def UnR (X:Cx) (f:ty3q->Sem ty3q) (r:V->Hp->VK->Prop):Prop:=
  ∀(pins:ty91q) (s:ty2q) (σ:St) (H:Hp) (x:V) (v:ty3q) (Q:VK),Inv X pins σ H s->RelV x v->r x H Q->
    wpAny (model X.prog X.w) X.A (f v) (EP X pins σ Q) X.xe s
def zbr (X:Cx) (f:ty3q) (r:List V->Hp->VK->Prop):Prop:=
  ∀(pins:ty91q) (s:ty2q) (σ:St) (H:Hp) (xs:List V) (us:List ty3q) (Q:VK),Inv X pins σ H s->Vals xs us->r xs H Q->
    wpAny (model X.prog X.w) X.A (call f us) (EP X pins σ Q) X.xe s
def tOp (r:R2) (ta tb:TE):TE:=fun σ H Q=>ta σ H fun x H1=>tb σ H1 fun y H2=>r x y H2 Q
def tUn (r:V->Hp->VK->Prop) (ta:TE):TE:=fun σ H Q=>ta σ H fun x H1=>r x H1 Q
def rI (C:Int->Int->Prop) (g:Int->Int->V):R2:=fun x y H Q=>∃i j,x = .int i/\y = .int j/\C i j/\Q (g i j) H
inductive rI0I (g:Int->Int->V) (x y:V) (H:Hp) (Q:VK):Prop
  | mk (i j:Int) (_:x = .int i) (_:y = .int j) (_:Q (g i j) H)
def rI0 (g:Int->Int->V):R2:=fun x y H Q=>rI0I g x y H Q
def rU (g:Int->V):V->Hp->VK->Prop:=fun x H Q=>∃i,x = .int i/\Q (g i) H
section
variable {X:Cx}{a b c:Expr}{ta tb tc:TE}{pos:Pos}
theorem binT (ha:PE X a ta) (hb:PE X b tb) {pins:ty91q}{s:ty2q}{σ:St}{H:Hp}{R:V->V->Hp->Prop}(I:Inv X pins σ H s)
    (h:ta σ H fun x H1=>tb σ H1 fun y H2=>R x y H2) {Q:ty90q}{f:ty3q->ty3q->Sem ty3q}
    (hf:∀v u s2 x y H2,Inv X pins σ H2 s2->RelV x v->RelV y u->R x y H2->wpAny (model X.prog X.w) X.A (f v u) Q X.xe s2) :
    wpAny (model X.prog X.w) X.A (eval a X.env) (fun v s₁=>wpAny (model X.prog X.w) X.A (eval b X.env) (fun u s₂=>wpAny (model X.prog X.w) X.A (f v u) Q X.xe s₂) X.xe s₁) X.xe s:=by
  refine thn (ha pins s σ H _ I h) fun v s1 hq0=>?_
  obtain⟨x,H1,I1,r1,q1⟩:=hq0;refine thn (hb pins s1 σ H1 _ I1 q1) fun u s2 hq0=>?_
  obtain⟨y,H2,I2,r2,q2⟩:=hq0;exact hf v u s2 x y H2 I2 r1 r2 q2
theorem zan {op:Operator}{r:R2}(ho:OpR X (binaryOp op) r) (ha:PE X a ta) (hb:PE X b tb):PE X (.BinOp a op b pos) (tOp r ta tb):=by
  intro pins s σ H Q I h;exact wpAny_BinOp (binT ha hb I h fun v u s2 x y H2 I2 rx ry q=>ho pins s2 σ H2 x y v u Q I2 rx ry q)
theorem zhc {op:UnaryOp}{r:V->Hp->VK->Prop}(ho:UnR X (unaryOp op) r) (ha:PE X a ta):PE X (.UnaryOp op a pos) (tUn r ta):=by
  intro pins s σ H Q I h;exact UnaryOp_ (thn (ha pins s σ H _ I h) fun v s1 ⟨x,H1,I1,r1,q1⟩=>ho pins s1 σ H1 x v Q I1 r1 q1)
theorem opI {f:ty3q->ty3q->Sem ty3q}{C:Int->Int->Prop}{g:Int->Int->Int}
    (rule:∀(i j:Int) (t u:Tok) (s:ty2q) (Q:ty90q) (E:ty90q),C i j->Q (.int (g i j) s.toks) { s with toks:=s.toks+1 }->wpAny (model X.prog X.w) X.A (f (.int i t) (.int j u)) Q E s) :
    OpR X f (rI C fun i j=>.int (g i j)):=by
  intro pins s σ H x y v u Q I rx ry h;obtain⟨i,j,rfl,rfl,hc,q⟩:=h;obtain⟨t,rfl⟩:=rx;obtain⟨t',rfl⟩:=ry;exact rule i j t t' s _ _ hc ⟨.int (g i j),H,I.tok _,⟨_,rfl⟩,q⟩
theorem opI0 {f:ty3q->ty3q->Sem ty3q}{g:Int->Int->Int}
    (rule:∀(i j:Int) (t u:Tok) (s:ty2q) (Q:ty90q) (E:ty90q),Q (.int (g i j) s.toks) { s with toks:=s.toks+1 }->wpAny (model X.prog X.w) X.A (f (.int i t) (.int j u)) Q E s) :
    OpR X f (rI0 fun i j=>.int (g i j)):=by
  intro pins s σ H x y v u Q I rx ry h;obtain⟨i,j,rfl,rfl,q⟩:=h;obtain⟨t,rfl⟩:=rx;obtain⟨t',rfl⟩:=ry;exact rule i j t t' s _ _ ⟨.int (g i j),H,I.tok _,⟨_,rfl⟩,q⟩
theorem opB0 {f:ty3q->ty3q->Sem ty3q}{g:Int->Int->Bool}
    (rule:∀(i j:Int) (t u:Tok) (s:ty2q) (Q:ty90q) (E:ty90q),Q (.bool (g i j)) s->wpAny (model X.prog X.w) X.A (f (.int i t) (.int j u)) Q E s) :
    OpR X f (rI0 fun i j=>.bl (g i j)):=by
  intro pins s σ H x y v u Q I rx ry h;obtain⟨i,j,rfl,rfl,q⟩:=h;obtain⟨t,rfl⟩:=rx;obtain⟨t',rfl⟩:=ry;exact rule i j t t' s _ _ ⟨.bl (g i j),H,I,rfl,q⟩
def CDiv (i j:Int):Prop:=0<j/\j<1073741824
def CPow (i j:Int):Prop:=0<=j/\j<=1000000/\i.natAbs<2 ^ 64
def CMul (i j:Int):Prop:=(-(2 ^ 64)<i/\i<2 ^ 64)\/(-(2 ^ 64)<j/\j<2 ^ 64)
theorem CMul.ok {i j:Int}(h:CMul i j):IntMulOk i j:=by
  rcases h with ⟨h1,h2⟩ | ⟨h1,h2⟩
  · exact .of_left (intBits_le_64 h1 h2)
  · exact .of_right (intBits_le_64 h1 h2)
theorem zc0:OpR X (binaryOp .Add) (rI0 fun i j=>.int (i+j)):=opI0 fun _ _ _ _ _ _ _ q=>add_int q
theorem zdz:OpR X (binaryOp .Sub) (rI0 fun i j=>.int (i-j)):=opI0 fun _ _ _ _ _ _ _ q=>sub_int q
theorem zmf:OpR X (binaryOp .Mult) (rI CMul fun i j=>.int (i * j)):=opI fun _ _ _ _ _ _ _ hc q=>mul_int q hc.ok
theorem zcn:OpR X (binaryOp .FloorDiv) (rI CDiv fun i j=>.int (i / j)):=opI fun i j _ _ _ _ _ hc q=>by
  have h1:(0:Int)<j:=hc.1;have h2:j<1073741824:=hc.2;exact floordiv_int (by lia) (by rw[Int.fdiv_eq_ediv_of_nonneg i (by lia)];exact q) (.inl (PyProof.noPylong_small (by lia)))
theorem zbu:OpR X (binaryOp .Mod) (rI (fun _ j=>0<j) fun i j=>.int (i%j)):=opI fun i j _ _ _ _ _ hc q=>by
  have h1:(0:Int)<j:=hc;exact mod_int' (by lia) (by rw[Int.fmod_eq_emod_of_nonneg i (by lia)];exact q)
theorem zrc:OpR X (binaryOp .Pow) (rI CPow fun i j=>.int (i ^ j.toNat)):=opI fun _ _ _ _ _ _ _ hc q=>pow_int_small hc.1 hc.2.1 hc.2.2 q
theorem unI {f:ty3q->Sem ty3q}{g:Int->Int}
    (rule:∀(i:Int) (t:Tok) (s:ty2q) (Q:ty90q) (E:ty90q),Q (.int (g i) s.toks) { s with toks:=s.toks+1 }->wpAny (model X.prog X.w) X.A (f (.int i t)) Q E s) :
    UnR X f (rU fun i=>.int (g i)):=by
  intro pins s σ H x v Q I rx h;obtain⟨i,rfl,q⟩:=h;obtain⟨t,rfl⟩:=rx;exact rule i t s _ _ ⟨.int (g i),H,I.tok _,⟨_,rfl⟩,q⟩
theorem zd0:UnR X (unaryOp .USub) (rU fun i=>.int (-i)):=unI fun _ _ _ _ _ q=>neg_int q
end
def scal:V->V->Bool
  | .non,.non=>true | .non,.int _=>true | .int _,.non=>true | .non,.bl _=>true | .bl _,.non=>true | .non,.str _=>true | .str _,.non=>true
  | .int _,.int _=>true | .bl _,.bl _=>true | .str _,.str _=>true | .byt _,.byt _=>true
  | .int _,.str _=>true | .str _,.int _=>true | .bl _,.str _=>true | .str _,.bl _=>true
  | _,_=>false
def rEq:R2:=fun x y H Q=>scal x y=true/\Q (.bl (decide (x=y))) H
def rNe:R2:=fun x y H Q=>scal x y=true/\Q (.bl (!decide (x=y))) H
theorem zmg {i j:Int}:decide (V.int i=V.int j)=(i == j):=by
  rw[al125q];simp
theorem zrd {i j:Bool}:decide (V.bl i=V.bl j)=(i == j):=by
  rw[al125q];simp
theorem zmh {i j:Str}:decide (V.str i=V.str j)=(i == j):=by
  rw[al125q];simp
theorem zmi {i j:Array UInt8}:decide (V.byt i=V.byt j)=(i.toList == j.toList):=by
  rw[al125q];cases i;cases j;simp
section
variable {X:Cx}{a b c:Expr}{ta tb tc:TE}{pos:Pos}
theorem zau {pins:ty91q}{σ:St}{H:Hp}{s:ty2q}{Q:VK}{k k':Bool}(I:Inv X pins σ H s) (q:Q (.bl k) H) (e:k=k'):EP X pins σ Q (.bool k') s:=by
  subst e;exact⟨.bl k,H,I,rfl,q⟩
theorem zck:OpR X (compareOp .Eq) rEq:=by
  intro pins s σ H x y v u Q I rx ry h;obtain⟨hs,q⟩:=h;cases x with
  | non=>
    cases rx;cases y with
    | non=>cases ry;exact PySem.EqNone.eq_none_none (zau I q (by simp))
    | bl j=>cases ry;exact PySem.EqNone.eq_none_bool (zau I q (by simp))
    | int j=>obtain⟨t',rfl⟩:=ry;exact PySem.EqNone.eq_none_int (zau I q (by simp))
    | str j=>obtain⟨t',rfl⟩:=ry;exact PySem.EqNone.eq_none_str (zau I q (by simp))
    | _=>exact absurd (show false=true from hs) al23q
  | bl i=>
    cases rx;cases y with
    | non=>cases ry;exact PySem.EqNone.eq_bool_none (zau I q (by simp))
    | bl j=>cases ry;exact eq_bool (zau I q zrd)
    | str j=>obtain⟨t',rfl⟩:=ry;exact PySem.EqMixed.eq_bool_str (zau I q (by simp))
    | _=>exact absurd (show false=true from hs) al23q
  | int i=>
    obtain⟨t,rfl⟩:=rx;cases y with
    | non=>cases ry;exact PySem.EqNone.eq_int_none (zau I q (by simp))
    | int j=>obtain⟨t',rfl⟩:=ry;exact eq_int (zau I q zmg)
    | str j=>obtain⟨t',rfl⟩:=ry;exact PySem.EqMixed.eq_int_str (zau I q (by simp))
    | _=>exact absurd (show false=true from hs) al23q
  | str i=>
    obtain⟨t,rfl⟩:=rx;cases y with
    | non=>cases ry;exact PySem.EqNone.eq_str_none (zau I q (by simp))
    | bl j=>cases ry;exact PySem.EqMixed.eq_str_bool (zau I q (by simp))
    | int j=>obtain⟨t',rfl⟩:=ry;exact PySem.EqMixed.eq_str_int (zau I q (by simp))
    | str j=>obtain⟨t',rfl⟩:=ry;exact eq_str (zau I q zmh)
    | _=>exact absurd (show false=true from hs) al23q
  | byt i=>
    obtain⟨t,rfl⟩:=rx;cases y with
    | byt j=>obtain⟨t',rfl⟩:=ry;exact PySem.W.eq_bytes (zau I q zmi)
    | _=>exact absurd (show false=true from hs) al23q
  | _=>cases y<;>exact absurd (show false=true from hs) al23q
theorem zpk:OpR X (compareOp .NotEq) rNe:=by
  intro pins s σ H x y v u Q I rx ry h;obtain⟨hs,q⟩:=h;cases x with
  | non=>
    cases rx;cases y with
    | non=>cases ry;exact PySem.EqNone.ne_none_none (zau I q (by simp))
    | bl j=>cases ry;exact PySem.EqNone.ne_none_bool (zau I q (by simp))
    | int j=>obtain⟨t',rfl⟩:=ry;exact PySem.EqNone.ne_none_int (zau I q (by simp))
    | str j=>obtain⟨t',rfl⟩:=ry;exact PySem.EqNone.ne_none_str (zau I q (by simp))
    | _=>exact absurd (show false=true from hs) al23q
  | bl i=>
    cases rx;cases y with
    | non=>cases ry;exact PySem.EqNone.ne_bool_none (zau I q (by simp))
    | bl j=>cases ry;exact ne_bool (zau I q (al61q not zrd))
    | str j=>obtain⟨t',rfl⟩:=ry;exact PySem.EqMixed.ne_bool_str (zau I q (by simp))
    | _=>exact absurd (show false=true from hs) al23q
  | int i=>
    obtain⟨t,rfl⟩:=rx;cases y with
    | non=>cases ry;exact PySem.EqNone.ne_int_none (zau I q (by simp))
    | int j=>obtain⟨t',rfl⟩:=ry;exact ne_int (zau I q (al61q not zmg))
    | str j=>obtain⟨t',rfl⟩:=ry;exact PySem.EqMixed.ne_int_str (zau I q (by simp))
    | _=>exact absurd (show false=true from hs) al23q
  | str i=>
    obtain⟨t,rfl⟩:=rx;cases y with
    | non=>cases ry;exact PySem.EqNone.ne_str_none (zau I q (by simp))
    | bl j=>cases ry;exact PySem.EqMixed.ne_str_bool (zau I q (by simp))
    | int j=>obtain⟨t',rfl⟩:=ry;exact PySem.EqMixed.ne_str_int (zau I q (by simp))
    | str j=>obtain⟨t',rfl⟩:=ry;exact ne_str (zau I q (al61q not zmh))
    | _=>exact absurd (show false=true from hs) al23q
  | byt i=>
    obtain⟨t,rfl⟩:=rx;cases y with
    | byt j=>obtain⟨t',rfl⟩:=ry;exact PySem.W.ne_bytes (zau I q (al61q not zmi))
    | _=>exact absurd (show false=true from hs) al23q
  | _=>cases y<;>exact absurd (show false=true from hs) al23q
theorem zmj:OpR X (compareOp .Lt) (rI0 fun i j=>.bl (decide (i<j))):=opB0 fun _ _ _ _ _ _ _ q=>lt_int q
theorem zmk:OpR X (compareOp .Gt) (rI0 fun i j=>.bl (decide (j<i))):=opB0 fun _ _ _ _ _ _ _ q=>gt_int q
theorem zah (b:Expr) {op:CmpOp}(h:op≠.In:=by decide) (h2:op≠.NotIn:=by decide):behindInMarks op b=false:=by
  have e1:(op == CmpOp.In)=false:=by cases op<;>first | rfl | exact absurd rfl h
  have e2:(op == CmpOp.NotIn)=false:=by cases op<;>first | rfl | exact absurd rfl h2
  cases b<;>simp[behindInMarks,e1,e2]
theorem zco {op:CmpOp}{r:R2}(ho:OpR X (compareOp op) r) (ha:PE X a ta) (hb:PE X b tb) (hm:behindInMarks op b=false):PE X (.Compare a [op] [b] pos) (tOp r ta tb):=by
  intro pins s σ H Q I h;exact wpAny_Compare1 (binT ha hb I h fun v u s2 x y H2 I2 rx ry q=>ho pins s2 σ H2 x y v u Q I2 rx ry q) hm
def zwf (t:TE):TT:=fun σ H Q=>t σ H fun x H'=>∃k,x = .bl k/\Q k H'
theorem zad {op:CmpOp}{r:R2}(ho:OpR X (compareOp op) r) (ha:PE X a ta) (hb:PE X b tb) (hm:behindInMarks op b=false):PT X (.Compare a [op] [b] pos) (zwf (tOp r ta tb)):=by
  intro pins s σ H Q I h;refine wpAny_isTrue_Compare1 (thn (ha pins s σ H _ I h) fun v s1 ⟨x,H1,I1,r1,q1⟩=>thn (hb pins s1 σ H1 _ I1 q1) fun u s2 ⟨y,H2,I2,r2,q2⟩=>
    thn (ho pins s2 σ H2 x y v u _ I2 r1 r2 q2) fun c s3 ⟨z,H3,I3,r3,k,e,q3⟩=>?_) hm
  subst e;cases r3;exact al82q ⟨H3,I3,q3⟩
theorem zjz:(sizeLine:Nat)<2 ^ 63:=by rw[al95q];decide
theorem zkv:OpR X (binaryOp .Add) (fun x y H Q=>∃i j,x = .str i/\y = .str j/\i.length+j.length<=sizeLine/\Q (.str (i++j)) H):=by
  intro pins s σ H x y v u Q I rx ry h;obtain⟨i,j,rfl,rfl,hz,q⟩:=h;obtain⟨t,rfl⟩:=rx;obtain⟨t',rfl⟩:=ry;exact add_str (fun t' tk=>⟨.str (i++j),H,I.tok _,⟨_,rfl⟩,q⟩) hz
theorem zb3 {x:V}{us:List ty3q}(r:Vals [x] us):∃u,us = [u]/\RelV x u:=by
  cases r with
  | cons r1 r2=>cases r2;exact⟨_,rfl,r1⟩
theorem zml {x y:V}{us:List ty3q}(r:Vals [x,y] us):∃u w',us = [u,w']/\RelV x u/\RelV y w':=by
  cases r with
  | cons r1 r2=>
    cases r2 with
    | cons r3 r4=>cases r4;exact⟨_,_,rfl,r1,r3⟩
theorem zmm (hc:X.calm=true):zbr X (.builtin "max") (fun xs H Q=>∃i j,xs = [.int i,.int j]/\Q (.int (if j > i then j else i)) H):=by
  intro pins s σ H xs us Q I r h;obtain⟨i,j,rfl,q⟩:=h;obtain⟨u,w',rfl,⟨t,rfl⟩,⟨t',rfl⟩⟩:=zml r;refine max_two_ints (I.ok.hd hc) fun h' tk k=>⟨_,H,I.kept k,?_,q⟩
  by_cases hj:j > i
  · rw[al12q hj,al12q hj];exact⟨_,rfl⟩
  · rw[al8q hj,al8q hj];exact⟨_,rfl⟩
theorem zhd:zbr X (.type "str") (fun xs H Q=>∃i,xs = [.int i]/\i.natAbs.log2<1920/\Q (.str (toString i)) H):=by
  intro pins s σ H xs us Q I r h;obtain⟨i,rfl,hz,q⟩:=h;obtain⟨u,rfl,t,rfl⟩:=zb3 r;exact PySem.P.str_of_int hz ⟨.str _,H,I.tok _,⟨_,rfl⟩,q⟩
end
theorem zmn {h:Heap}{dx:ty1q}{mA:Str->Option ty3q}(n:h.Ns1 dx mA):∃od,h.get? dx=some od/\∀name,PySem.W.lookIn name od=some (mA name):=by
  obtain⟨o,es,ep,ho,hd,hk,_,hm⟩:=n;refine⟨o,ho,fun name=>?_⟩;have e:=hm name;unfold nsFind findBy at e;rw[←Array.find?_toList] at e;unfold PySem.W.lookIn;rw[hd];dsimp only;split
  · rename_i y q;rw[q] at e;exact al61q some e
  · rename_i q;rw[q] at e;have a:es.toList.any (·.refKey)=false:=by
      rw[List.any_eq_false];intro y hy;obtain⟨z,t,hkey⟩:=hk y (Array.mem_toList_iff.mp hy);simp[DictEntry.refKey,hkey]
    have a':¬es.toList.any (·.refKey)=true:=by rw[a];exact al23q
    rw[al8q a'];exact al61q some e
theorem RelO.some_of {v:V}{o:Option ty3q}(r:RelO (some v) o):∃u,o=some u/\RelV v u:=by
  cases o with
  | none=>exact (show False from r).elim
  | some u=>exact⟨u,rfl,r⟩
theorem RelO.none_of {o:Option ty3q}(r:RelO none o):o=none:=by
  cases o with
  | none=>rfl
  | some u=>exact (show False from r).elim
theorem zmo {v:V}{u:ty3q}(r:RelV v u):PySem.W.handedIn u=true:=by
  cases v with
  | non=>cases (show u=Value.none from r);rfl
  | bl b=>cases (show u=Value.bool b from r);rfl
  | int i=>obtain⟨t,e⟩:=(show ∃t,u=Value.int i t from r);cases e;rfl
  | str x=>obtain⟨t,e⟩:=(show ∃t,u=Value.str x t from r);cases e;rfl
  | byt b=>obtain⟨t,e⟩:=(show ∃t,u=Value.bytes b t from r);cases e;rfl
  | flt b=>obtain⟨t,e⟩:=(show ∃t,u=Value.float b t from r);cases e;rfl
  | ref a=>cases (show u=Value.ref a from r);rfl
  | ty n=>cases (show u=Value.type n from r);rfl
def NoAttr (K:ty0q) (C:ty1q) (f:Str):Prop:=PySem.W.findIn K (.ref C) f=some none
theorem NoAttr.taker {K:ty0q}{C:ty1q}{f:Str}(n:NoAttr K C f):PySem.W.takerIn K C f=some none:=by
  unfold PySem.W.takerIn;rw[show PySem.W.findIn K (.ref C) f=some none from n];rfl
structure Meth (K:ty0q) (C:ty1q) (m:Str) (f:ty1q):Prop where
  at_:PySem.W.findIn K (.ref C) m=some (some (.ref f))
  fn:PySem.W.isFn K (.ref f)=true
  kp:PySem.W.keepIn K (.ref f)=true
section
variable {X:Cx}{pins:ty91q}{σ:St}{H:Hp}{s:ty2q}{a C dx:ty1q}{fs:List (Str×V)}{f:Str}{v:V}{A:Around}{E:ty90q}
theorem zr5 {prog:ty4q}{w:World}{env:Env}{e:Expr}{f:Str}{pos:Pos}{s:ty2q}{Q:ty90q}(hb:attributeBase e f env (eval e env)=eval e env)
    (h:wpAny (model prog w) A (eval e env) (fun o s₁=>wpAny (model prog w) A (getAttr o f true) Q E s₁) E s):wpAny (model prog w) A (eval (.Attribute e f pos) env) Q E s:=
  Attribute_any_ h (by rw[arm_eval_Attribute,hb])
end
structure Room (k:Nat) (A:Around):Prop where
  hd:A.handled=none
  dp:A.depth+3 * k+5<recursionLimit
  un:A.units+16 * k+200<cLine
theorem Room.mono {j k:Nat}{A:Around}(r:Room k A) (h:j<=k):Room j A:=⟨r.hd,by have:=r.dp;lia,by have:=r.un;lia⟩
theorem Room.deeper {k:Nat}{A:Around}(r:Room (k+1) A) (env:Env):Room k (A.deeper env):=
  ⟨r.hd,by have:=r.dp;show A.depth+1+3 * k+5<_;lia,by have:=r.un;show A.units+3+16 * k+200<_;lia⟩
theorem zkw {A:Around}{C:ty1q}{us:List ty3q}{kw:List (Str×ty3q)}:(A.under (.builtin "type.__call__" ⟨.ref C::us,kw⟩)).depth=A.depth+1:=by
  first | rfl | simp[Around.under,Code.weight,Code.isCreation,Code.isGuard,Code.isCaller,Code.frames,Code.isFrame,guardIds]
theorem zkx {A:Around}{C:ty1q}{us:List ty3q}{kw:List (Str×ty3q)}:(A.under (.builtin "type.__call__" ⟨.ref C::us,kw⟩)).units=A.units+1:=by
  first | rfl | simp[Around.under,Code.cUnits,Code.frames,Code.isFrame]
theorem Room.make {k:Nat}{A:Around}(r:Room (k+1) A) (C:ty1q) (us:List ty3q) (kw:List (Str×ty3q)):Room k (A.under (.builtin "type.__call__" ⟨.ref C::us,kw⟩)):=
  ⟨r.hd,by have:=r.dp;rw[zkw];lia,by have:=r.un;rw[zkx];lia⟩
theorem Room.depth {k:Nat}{A:Around}(r:Room k A):A.depth<recursionLimit:=by have:=r.dp;lia
theorem Room.units {k:Nat}{A:Around}(r:Room k A):A.units+64<cLine:=by have:=r.un;lia
def tNil:TA:=fun _ H Q=>Q [] H
def zud (ta:TE) (tr:TA):TA:=fun σ H Q=>ta σ H fun x H1=>tr σ H1 fun xs H2=>Q (x::xs) H2
section
variable {X:Cx}{e:Expr}{es:List Expr}{te:TE}{t:TA}{pos:Pos}
theorem zh:PA X [] tNil:=fun _ _ _ _ H Q I h=>Calls.spliced_nil ⟨[],H,I,.nil,h⟩
theorem zc (ha:PE X e te) (hr:PA X es t) (hs:starEach (e::es) X.env=(false,eval e X.env)::starEach es X.env:=by rfl):PA X (e::es) (zud te t):=by
  intro pos pins s σ H Q I h;rw[hs];show wpAny _ _ (spliced ((false,eval e X.env)::backTo pos (starEach es X.env))) _ _ s;refine Calls.spliced_cons (thn (ha pins s σ H _ I h) fun u s1 hq0=>?_);obtain⟨x,H1,I1,r1,q1⟩:=hq0;exact thn (hr pos pins s1 σ H1 _ I1 q1) fun us s2 ⟨xs,H2,I2,r2,q2⟩=>⟨x::xs,H2,I2,.cons r1 r2,q2⟩
def tTup (t:TA):TE:=fun σ H Q=>t σ H fun xs H1=>xs.length<=sizeLine/\∀p,H1 p=none->Q (.ref p) (upd H1 p (.tup xs))
def tLst (t:TA):TE:=fun σ H Q=>t σ H fun xs H1=>xs.length<=sizeLine/\∀p,H1 p=none->Q (.ref p) (upd H1 p (.lst xs))
theorem zax {x1}(h:PA X es t):PE X (.Tuple es x1 pos) (tTup t):=by
  intro pins s σ H Q I hq;refine wpAny_Tuple_spliced (thn (h pos pins s σ H _ I hq) fun us s1 ⟨xs,H1,I1,r,z,q⟩=>⟨by rw[←r.length];exact z,?_⟩);have hf:H1 s1.heap.objs.size=none:=I1.hok.fresh (al13q _);refine⟨.ref s1.heap.objs.size,upd H1 s1.heap.objs.size (.tup xs),I1.laid (t':=s1.toks) (fun b u e=>al5q _ e) (al13q _) ?_,rfl,q _ hf⟩;exact⟨z,us,r,⟨_,al20q _ rfl,rfl,_,rfl⟩⟩
theorem zao (h:PA X es t):PE X (.List es pos) (tLst t):=by
  intro pins s σ H Q I hq;refine wpAny_List_spliced (thn (h pos pins s σ H _ I hq) fun us s1 ⟨xs,H1,I1,r,z,q⟩=>⟨by rw[←r.length];exact z,?_⟩);have hf:H1 s1.heap.objs.size=none:=I1.hok.fresh (al13q _);refine⟨.ref s1.heap.objs.size,upd H1 s1.heap.objs.size (.lst xs),I1.laid (t':=s1.toks) (fun b u e=>al5q _ e) (al13q _) ?_,rfl,q _ hf⟩;exact⟨z,us,0,r,al20q _ rfl⟩
end
abbrev Sp:=List V->Hp->VK->XK->Prop
abbrev CXT:=List Env->Hp->ty2q->XK->ty90q
structure Env0 (P:ty4q) (w:World) (K:ty0q) (mg:Str->Option ty3q) (base:Heap) (A:Around) (outer:List Env) (s:ty2q) (H:Hp):Prop where
  frames:A.frames=some outer
  mod:Mod K mg base
  bs:∀b o,base.get? b=some o->s.heap.get? b=some o/\H b=none
  bsz:base.objs.size<=s.heap.objs.size
  funs:s.heap.FunFrames base outer
  frf:∀b∈frs outer,H b=none
  hok:HOk P w H s.heap
  bare:AllBare s.gens
def CE (outer:List Env) (P:ty4q) (w:World) (H:Hp) (s:ty2q) (Q:VK) (u:ty3q) (s':ty2q):Prop:=
  ∃v H',s'.os=s.os/\AllBare s'.gens/\Un (frs outer) [] H H' s.heap s'.heap/\HOk P w H' s'.heap/\RelV v u/\Q v H'
def CR (CX:CXT) (outer:List Env) (P:ty4q) (w:World) (H:Hp) (s:ty2q) (Q:VK) (E:XK) (r:Result) (s':ty2q):Prop:=
  match r with
  | .ok (.ret u)=>CE outer P w H s Q u s'
  | .ok _=>False
  | .error e=>CX outer H s E e s'
structure FnOk (P:ty4q) (w:World) (K:ty0q) (mg:Str->Option ty3q) (base:Heap) (CX:CXT) (k:Nat) (f:ty1q) (fd:FuncData) (ps:List Str) (sp:Sp):Prop where
  len:∀vs H Q E,sp vs H Q E->vs.length=ps.length
  run:∀(A:Around) (outer:List Env) (s:ty2q) (H:Hp) (args:Args) (us:List ty3q) (vs:List V) (Q:VK) (E:XK),Room k A->Env0 P w K mg base A outer s H->BindsTo s fd args (ps.zip us)->Vals vs us->sp vs H Q E->
    codeAny (model P w) A (.call (.ref f) args) (CR CX outer P w H s Q E) s
theorem Env0.make {P:ty4q}{w:World}{K:ty0q}{mg:Str->Option ty3q}{base:Heap}{A:Around}{outer:List Env}{s:ty2q}{H:Hp}(e:Env0 P w K mg base A outer s H) (C:ty1q) (us:List ty3q) (kw:List (Str×ty3q)) :
    Env0 P w K mg base (A.under (.builtin "type.__call__" ⟨.ref C::us,kw⟩)) outer s H:=⟨by first | exact e.frames | (simpa[Around.under,Code.envs,Code.isFrame,pushEnvs] using e.frames),e.mod,e.bs,e.bsz,e.funs,e.frf,e.hok,e.bare⟩
section
variable {X:Cx}{pins:ty91q}{σ:St}{H:Hp}{s s':ty2q}
theorem Inv.env0 (I:Inv X pins σ H s):Env0 X.prog X.w X.K X.mg X.base X.A X.stack s H:=
  ⟨I.ok.frames,I.ok.mod,I.bs,al58q I.ok.bsz I.sz,I.stack,I.stkFree,I.hok,I.bare⟩
theorem Inv.after {Q:VK}{u:ty3q}(I:Inv X pins σ H s) (h:CE X.stack X.prog X.w H s Q u s'):EP X pins σ Q u s':=by
  obtain⟨v,H',os,bare,un,hok,r,q⟩:=h;obtain⟨hh,g,d,t,os'⟩:=s';obtain rfl:os'=s.os:=os;exact⟨v,H',I.call (h':=hh) (g':=g) (d':=d) (t':=t) (ch:=[]) un hok bare (fun b z=>absurd z (by simp)),r,q⟩
end
def zpl (sp:Sp) (dvs:List V) (E:XK) (t:TA):TE:=fun σ H Q=>t σ H fun vs H1=>sp (vs++dvs) H1 Q E
def Binds (K:ty0q) (fd:FuncData) (ps:List Str) (ds:List ty3q):Prop:=
  ∀(s:ty2q) (us:List ty3q),K.In s.heap->(us++ds).length=ps.length->BindsTo s fd ⟨us,[]⟩ (ps.zip (us++ds))
theorem Binds.all {K:ty0q}{fd:FuncData}{ps:List Str}(h:∀us:List ty3q,us.length=ps.length->bindArgs fd ⟨us,[]⟩=pure (ps.zip us)):Binds K fd ps []:=fun s us _ hl=>by
  rw[al62q] at hl ⊢;exact .of_eq (h us hl)
def zhe (CX:CXT) (X:Cx) (E:XK):Prop:=∀(pins:ty91q) (σ:St) (H:Hp) (s:ty2q) (e:ty3q) (s':ty2q),Inv X pins σ H s->CX X.stack H s E e s'->X.xe e s'
section
variable {X:Cx}{CX:CXT}{k:Nat}{f C:ty1q}{fd:FuncData}{ps:List Str}{sp:Sp}{dvs:List V}{ds:List ty3q}{E:XK}{x m:Str}{p pos apos:Pos}{e o:Expr}{es:List Expr}{ta:TE}{t:TA}
theorem zue {pins:ty91q}{σ:St}{H:Hp}{s:ty2q}{Q:VK}{us:List ty3q}{vs:List V}(F:FnOk X.prog X.w X.K X.mg X.base CX k f fd ps sp) (hr:Room k X.A) (hb:Binds X.K fd ps ds) (hd:Vals dvs ds) (hx:zhe CX X E)
    (I:Inv X pins σ H s) (r:Vals vs us) (h:sp (vs++dvs) H Q E):wpAny (model X.prog X.w) X.A (call (.ref f) us) (EP X pins σ Q) X.xe s:=by
  have r2:Vals (vs++dvs) (us++ds):=r.append hd;have hl:(us++ds).length=ps.length:=by rw[←r2.length];exact F.len _ _ _ _ h
  refine al146q (al163q (F.run X.A X.stack s H ⟨us,[]⟩ (us++ds) (vs++dvs) Q E hr I.env0 (hb s us I.kIn hl) r2 h) fun r s' hq=>?_);cases r with
  | error e=>exact hx pins σ H s e s' I hq
  | ok fl=>
    cases fl with
    | ret u=>exact I.after hq
    | next=>exact False.elim hq
    | brk=>exact False.elim hq
    | cont=>exact False.elim hq
theorem zmp (F:FnOk X.prog X.w X.K X.mg X.base CX k f fd ps sp) (hr:Room k X.A) (hg:Gl X x) (hm:X.mg x=some (.ref f)) (hk:PySem.W.keepIn X.K (.ref f)=true) (hb:Binds X.K fd ps ds) (hd:Vals dvs ds) (hx:zhe CX X E)
    (ha:PA X (e::es) t) (hdb:(x == ("__debug__" : Str))=false:=by decide) (he:starEach (e::es) X.env=(false,eval e X.env)::starEach es X.env:=by rfl) (hpl:(backTo pos (starEach es X.env)).any (·.1)=false:=by rfl) :
    PE X (.Call (.Name x p) (e::es) [] pos) (zpl sp dvs E t):=by
  intro pins s σ H Q I h;refine al147q (zep I hg hm ?_ hdb);refine PySem.W.callWith_K (h₀:=X.base) I.ok.mod.kin hk (thn (ha pos pins s σ H _ I h) fun us s1 ⟨vs,H1,I1,r,q⟩=>⟨I1.kIn,?_⟩) he hpl;exact zue F hr hb hd hx I1 r q
end
def PK (X:Cx) (kws:List Keyword) (t:TA):Prop:=
  ∀(pos:Pos) (pins:ty91q) (s:ty2q) (σ:St) (H:Hp) (Q:List V->Hp->Prop),Inv X pins σ H s->t σ H Q->wpAny (model X.prog X.w) X.A (evalAll ((backToKw pos (keywordEach kws X.env)).map (·.2))) (AP X pins σ Q) X.xe s
section
variable {X:Cx}{CX:CXT}{k:Nat}{f C:ty1q}{fd:FuncData}{ps ks:List Str}{sp:Sp}{E:XK}{x m:Str}{p pos apos kpos:Pos}{e o:Expr}{es:List Expr}{kws:List Keyword}{te ta:TE}{t tk:TA}{nm:Option Str}
theorem zuf:PK X [] tNil:=fun _ _ _ _ H Q I h=>wpAny_evalAll_nil ⟨[],H,I,.nil,h⟩
theorem zr6 (ha:PE X e te) (hr:PK X kws t):PK X (⟨nm,e,kpos⟩::kws) (zud te t):=by
  intro pos pins s σ H Q I h;show wpAny _ _ (evalAll ((do let v ←eval e X.env;standAt pos;pure v)::(backToKw pos (keywordEach kws X.env)).map (·.2))) _ _ s;refine wpAny_evalAll_cons (al2q (thn (ha pins s σ H _ I h) fun u s1 ⟨x,H1,I1,r1,q1⟩=>al2q (al167q (al7q ?_))));exact thn (hr pos pins s1 σ H1 _ I1 q1) fun us s2 ⟨xs,H2,I2,r2,q2⟩=>⟨x::xs,H2,I2,.cons r1 r2,q2⟩
variable {g:List ty3q->List ty3q->List ty3q}{gV:List V->List V->List V}
end
structure FnScope (N P:List Str) (sc:Scope):Prop where
  kind:sc.kind = .function
  co:sc.isCoroutine=false
  gen:sc.isGenerator=false
  nd:N.Nodup
  pre:N.take P.length=P
  par:∀x∈P,sc.names.lookup x=some .local\/sc.names.lookup x=some .cell
  nofree:∀y∈sc.names,y.2≠.free
theorem zhf {kindOf:Str->Option NameKind}{x:Str}:∀{binds:List (Str×ty3q)}{m:Str->Option ty3q},(∀v,(x,v) ∉ binds)->bindL kindOf binds m x=m x
  | [],_,_=>rfl
  | (n,v)::r,m,h=>by
    unfold bindL;rw[zhf fun w hw=>h w (al19q _ hw)];split
    · have:x≠n:=by rintro rfl;exact h v al56q
      simp[this]
    · rfl
theorem zhg {kindOf:Str->Option NameKind}{x:Str}:∀{binds:List (Str×ty3q)}{m:Str->Option ty3q},(∀v,(x,v) ∉ binds)->bindC kindOf binds m x=m x
  | [],_,_=>rfl
  | (n,v)::r,m,h=>by
    unfold bindC;rw[zhg fun w hw=>h w (al19q _ hw)];split
    · rfl
    · have:x≠n:=by rintro rfl;exact h v al56q
      simp[this]
theorem zhh {kindOf:Str->Option NameKind}{x:Str}{v:ty3q}:∀{P:List Str}{vs:List ty3q}{i:Nat}{m:Str->Option ty3q},P.Nodup->P[i]? = some x->vs[i]? = some v->kindOf x=some .local->
    bindL kindOf (P.zip vs) m x=some v
  | [],_,_,_,_,h,_,_=>by simp at h
  | _::_,[],_,_,_,_,h,_=>by simp at h
  | p::P,w::vs,0,m,nd,h1,h2,hk=>by
    simp at h1 h2;subst h1;subst h2;show bindL kindOf ((p,w)::P.zip vs) m p=_;unfold bindL;rw[zhf fun v hv=>(al75q.mp nd).1 (al91q hv).1,al12q hk];simp
  | p::P,w::vs,i+1,m,nd,h1,h2,hk=>by
    show bindL kindOf ((p,w)::P.zip vs) m x=_;unfold bindL;exact zhh (i:=i) (al75q.mp nd).2 (by simpa using h1) (by simpa using h2) hk
theorem zhi {kindOf:Str->Option NameKind}{x:Str}{v:ty3q}:∀{P:List Str}{vs:List ty3q}{i:Nat}{m:Str->Option ty3q},P.Nodup->P[i]? = some x->vs[i]? = some v->kindOf x≠some .local->
    bindC kindOf (P.zip vs) m x=some v
  | [],_,_,_,_,h,_,_=>by simp at h
  | _::_,[],_,_,_,_,h,_=>by simp at h
  | p::P,w::vs,0,m,nd,h1,h2,hk=>by
    simp at h1 h2;subst h1;subst h2;show bindC kindOf ((p,w)::P.zip vs) m p=_;unfold bindC;rw[zhg fun v hv=>(al75q.mp nd).1 (al91q hv).1,al8q hk];simp
  | p::P,w::vs,i+1,m,nd,h1,h2,hk=>by
    show bindC kindOf ((p,w)::P.zip vs) m x=_;unfold bindC;exact zhi (i:=i) (al75q.mp nd).2 (by simpa using h1) (by simpa using h2) hk
def start (N:List Str) (vs:List V):St:=vs.map some++List.replicate (N.length-vs.length) none
def cxOf (CX:CXT) (P:ty4q) (w:World) (K:ty0q) (mg:Str->Option ty3q) (base:Heap) (N:List Str) (qual:Str) (scope:Scope) (f:ty1q) (cd:ty3q) (A:Around) (outer:List Env) (s:ty2q) (H:Hp) (E:XK):Cx where
  prog:=P
  w:=w
  K:=K
  mg:=mg
  base:=base
  A:=A.deeper (envOfC qual scope s.heap.objs.size f cd)
  N:=N
  s₀:=s
  H₀:=H
  env:=envOfC qual scope s.heap.objs.size f cd
  outer:=outer
  stack:=envOfC qual scope s.heap.objs.size f cd::outer
  ex:=[]
  calm:=true
  fn:=fun _=>true
  pn:=[]
  xe:=fun e s'=>wpAny (model P w) (A.deeper (envOfC qual scope s.heap.objs.size f cd)) (leaving (envOfC qual scope s.heap.objs.size f cd) e) (fun _ s''=>CX outer H s E e s'') (fun e' s''=>CX outer H s E e' s'') s'
theorem zj0 {sc:Scope}{n:Nat}{x:Str}(h:sc.names.lookup x=some .cell):∃c,(cellsFrom n sc.names []).lookup x=some c:=by
  have q:=PySem.W.cellsFrom_some sc.names n [] (.inl h);exact Option.isSome_iff_exists.mp q
theorem zmq {CX:CXT}{P:ty4q}{w:World}{K:ty0q}{mg:Str->Option ty3q}{base:Heap}{N ps:List Str}{qual:Str}{scope:Scope}{f:ty1q}{cd:ty3q}{A:Around}{outer:List Env}{s s1:ty2q}{H:Hp}{E:XK}{us:List ty3q}{vs:List V}
    (S:FnScope N ps scope) (hd:A.handled=none) (e0:Env0 P w K mg base A outer s H) (hl:vs.length=ps.length) (r:Vals vs us)
    (x:InCallC s s.heap.objs.size (bindL (envOfC qual scope s.heap.objs.size f cd).kindOf (ps.zip us) fun _=>none) (cellsFrom (s.heap.objs.size+1) scope.names []) (bindC (envOfC qual scope s.heap.objs.size f cd).kindOf (ps.zip us) fun _=>none) s1) :
    Inv (cxOf CX P w K mg base N qual scope f cd A outer s H E) [] (start N vs) H s1:=by
  have hpl:ps.length<=N.length:=by have:=al61q List.length S.pre;rw[al28q] at this;lia
  obtain⟨h1,tk,rfl,hk⟩:=x.done;have noA:∀b:ty1q,b ∉ (cxOf CX P w K mg base N qual scope f cd A outer s H E).ex:=fun b z=>absurd (show b∈([]:List ty1q) from z) (by simp)
  refine⟨⟨e0.mod,S.kind,rfl,rfl,al13q _,fun y z c h1 h2=>?_,fun y hy=>?_,fun y c _ h=>?_,fun _=>hd,Around.frames_deeper e0.frames,.inr ⟨rfl,rfl⟩,fun b z=>absurd z (noA b),e0.bs,e0.bsz,fun b _ _=>noA b,fun b z=>absurd z (noA b),e0.funs,e0.frf⟩,
    rfl,e0.bare,Un.kept hk,⟨_,x.toInCall.ns,fun i y v h1 h2 h3=>?_⟩,fun y c h=>⟨_,x.cell y c h⟩,e0.hok.fresh (al13q _),fun y c h=>?_,fun p hp=>absurd (show p∈([]:ty91q) from hp) (by simp),e0.hok.kept hk,?_⟩
  · exact name_of_addr x.apart (PySem.mem_of_lookup h1) (PySem.mem_of_lookup h2)
  · have hy:scope.names.lookup y=some .cell\/scope.names.lookup y=some .free:=hy;rcases hy with hy | hy
    · exact zj0 hy
    · exact absurd rfl (S.nofree _ (PySem.mem_of_lookup hy))
  · exact al162q (x.above y c (PySem.mem_of_lookup h))
  · have hi:i<vs.length:=by
      unfold start at h2
      by_cases hi:i<vs.length
      · exact hi
      · rw[al50q (by simpa using hi)] at h2;rw[List.getElem?_replicate] at h2;split at h2<;>cases h2
    have ha:vs[i]? = some v:=by
      unfold start at h2;rw[al47q (by simpa using hi),al4q] at h2;cases e:vs[i]? with
      | none=>rw[e] at h2;cases h2
      | some a=>rw[e] at h2;cases h2;rfl
    obtain⟨u,hu,rv⟩:=r.get ha;have hp:ps[i]? = some y:=by
      rw[←S.pre,al168q (by lia)];exact h1
    have ndP:ps.Nodup:=by rw[←S.pre];exact S.nd.sublist (List.take_sublist _ _)
    refine⟨u,rv,?_⟩;rcases S.par y (al6q hp) with k | k
    · exact .inl ⟨k,zhh ndP hp hu k⟩
    · obtain⟨c,e⟩:=zj0 (n:=s.heap.objs.size+1) k;refine .inr ⟨.inl k,c,e,?_⟩;have q:=x.cell y c e;rw[zhi ndP hp hu (by show scope.names.lookup y≠_;rw[k];decide)] at q;exact q
  · exact e0.hok.fresh (al162q (x.above y c (PySem.mem_of_lookup h)))
  · unfold start;show _=N.length;rw[al18q,al0q,List.length_replicate];lia
theorem zug {CX:CXT}{P:ty4q}{w:World}{K:ty0q}{mg:Str->Option ty3q}{base:Heap}{k:Nat}{f:ty1q}{name qual:Str}{params:Arguments}{body:List Stmt}{scope:Scope}{dV kV doc pm cdv ct oc:ty3q}{an od:Option ty1q}
    {osl:Array (Option ty3q)}{N ps:List Str}{sp:Sp}(lk:K.lookup f=some ⟨oc,od,.func (PySem.W.fnOf name qual params body scope dV kV doc pm an cdv ct),osl⟩) (hcd:PySem.W.codeIn K cdv qual=true) (S:FnScope N ps scope)
    (len:∀vs H Q E,sp vs H Q E->vs.length=ps.length)
    (hbody:∀(A:Around) (outer:List Env) (s:ty2q) (H:Hp) (vs:List V) (Q:VK) (E:XK),Room k (A.deeper (envOfC qual scope s.heap.objs.size f cdv))->sp vs H Q E->
      ∃t,PSs (cxOf CX P w K mg base N qual scope f cdv A outer s H E) body t/\t { nx:=fun _ H'=>Q .non H',rt:=Q } (start N vs) H) :
    FnOk P w K mg base CX (k+1) f (PySem.W.fnOf name qual params body scope dV kV doc pm an cdv ct) ps sp:=by
  refine⟨len,fun A outer s H args us vs Q E hr e0 hb r hsp=>?_⟩;have hl:=len _ _ _ _ hsp;have KX:K.In s.heap:=e0.mod.kin.keeps fun b o e=>(e0.bs b o e).1
  have lim:s.heap.NoLimit:=e0.mod.nolimit.keeps fun b o e=>(e0.bs b o e).1
  have hkind:∀y∈ps.zip us,scope.names.lookup y.1=some .local\/(scope.names.lookup y.1=some .cell/\((cellsFrom (s.heap.objs.size+1) scope.names []).lookup y.1).isSome=true):=fun ⟨n,v⟩ hy=>by
    rcases S.par n (al91q hy).1 with q | q
    · exact .inl q
    · exact .inr ⟨q,PySem.W.cellsFrom_some _ _ _ (.inl q)⟩
  refine codeAny_call_function hr.depth (KX _ _ lk) rfl S.co S.gen rfl (PySem.W.codeRec_of KX hcd) (hb _ _ _ _ ?_);refine wpAny_newFunctionEnv_cells S.kind hkind fun env he s1 x=>?_
  subst he;refine⟨lim.keeps x.toInCall.keep,codeAny_func ?_⟩;obtain⟨t,ht,hq⟩:=hbody A outer s H vs Q E (hr.deeper _) hsp;have I:Inv (cxOf CX P w K mg base N qual scope f cdv A outer s H E) [] (start N vs) H s1:=zmq S hr.hd e0 hl r x;refine al51q (ht [] s1 (start N vs) H _ I hq) (fun fl s' hs=>?_) fun e s' hs=>hs
  have fin:∀{σ':St}{H':Hp}{v:V}{u:ty3q},Inv (cxOf CX P w K mg base N qual scope f cdv A outer s H E) [] σ' H' s'->RelV v u->Q v H'->CE outer P w H s Q u s':=
    fun {σ' H' v u} J rv q=>⟨v,H',J.os,J.bare,J.base,J.hok,rv,q⟩
  cases fl with
  | ret u=>
    obtain⟨v,σ',H',J,rv,q⟩:=hs;exact fin J rv q
  | next=>
    obtain⟨σ',H',J,q⟩:=hs;exact fin (v:=V.non) (u:=Value.none) J rfl q
  | brk=>
    obtain⟨_,_,_,q⟩:=hs;exact False.elim q
  | cont=>
    obtain⟨_,_,_,q⟩:=hs;exact False.elim q
section
variable {X:Cx}{x:Str}{p pos:Pos}{e:Expr}{es:List Expr}{t:TA}{id T:String}{r:List V->Hp->VK->Prop}
def tCB (r:List V->Hp->VK->Prop) (t:TA):TE:=fun σ H Q=>t σ H fun vs H1=>r vs H1 Q
theorem zac (hc:zbr X (.builtin id) r) (hg:Gl X x) (hm:X.mg x=none) (hv:bootBuiltins x=some (.builtin id)) (ha:PA X (e::es) t) (hn:x≠"__name__":=by decide) (hdb:(x == ("__debug__" : Str))=false:=by decide)
    (he:starEach (e::es) X.env=(false,eval e X.env)::starEach es X.env:=by rfl) (hpl:(backTo pos (starEach es X.env)).any (·.1)=false:=by rfl):PE X (.Call (.Name x p) (e::es) [] pos) (tCB r t):=by
  intro pins s σ H Q I h;refine al147q (zfw I hg hm hv ?_ hn hdb);exact PyProof.Rows.callWith_builtin1 (thn (ha pos pins s σ H _ I h) fun us s1 ⟨vs,H1,I1,r1,q1⟩=>hc pins s1 σ H1 vs us Q I1 r1 q1) he hpl
theorem zbn (hc:zbr X (.type T) r) (hg:Gl X x) (hm:X.mg x=none) (hv:bootBuiltins x=some (.type T)) (ha:PA X (e::es) t) (hn:x≠"__name__":=by decide) (hdb:(x == ("__debug__" : Str))=false:=by decide)
    (he:starEach (e::es) X.env=(false,eval e X.env)::starEach es X.env:=by rfl) (hpl:(backTo pos (starEach es X.env)).any (·.1)=false:=by rfl):PE X (.Call (.Name x p) (e::es) [] pos) (tCB r t):=by
  intro pins s σ H Q I h;refine al147q (zfw I hg hm hv ?_ hn hdb);exact al116q (thn (ha pos pins s σ H _ I h) fun us s1 ⟨vs,H1,I1,r1,q1⟩=>hc pins s1 σ H1 vs us Q I1 r1 q1) he hpl
end
end L2
namespace HT
open PySem PyProof.Rows
section
open PySem.SeqAt
open PySem.AutoSeq1 (wpAny_loadPart')
open PySem.MeetsSeq PySem.MeetsSeq2 PySem.MeetsSeq3
end
section
variable {prog:ty4q}{w:World}{A:Around}{E:ty90q}{s:ty2q}
theorem cat_tup {t b:ty1q}{vs ws:List ty3q}{Q:ty90q}(ht:IsTup s.heap t vs.toArray) (hb:IsTup s.heap b ws.toArray) (hv:vs≠[])
    (h1:ws = []->Q (.ref t) s) (h2:ws≠[]->Q (.ref s.heap.objs.size) { s with heap:=s.heap.push { cls:=.type "tuple",data:=.seq (vs++ws).toArray } })
    (hsz:vs.length+ws.length<=sizeLine):wpAny (model prog w) A (binaryOp .Add (.ref t) (.ref b)) Q E s:=by
  obtain⟨⟨cls,dd,data,sl⟩,ho,hc,n,hd⟩:=id ht;obtain⟨⟨cls2,dd2,data2,sl2⟩,ho2,hc2,n2,hd2⟩:=id hb;simp only at hc hd hc2 hd2;subst hc hd hc2 hd2;have e:vs.toArray++ws.toArray=(vs++ws).toArray:=by simp
  by_cases hw:ws = []
  · exact concat_meets ⟨_,ho,rfl⟩ ⟨_,ho2,rfl⟩ noFill_tuple_add seq_tuple_add PySem.F.slot_tuple_add PySem.F.entry_tuple_add (PySem.F.args_tuple_add_2 _ _)
      (tuple_addW1 t b vs.toArray ws.toArray n n2 dd dd2 sl sl2 (by simpa using hv) (by simp[hw])) ⟨ho,ho2,h1 hw⟩
  · refine concat_meets ⟨_,ho,rfl⟩ ⟨_,ho2,rfl⟩ noFill_tuple_add seq_tuple_add PySem.F.slot_tuple_add PySem.F.entry_tuple_add (PySem.F.args_tuple_add_2 _ _)
      (tuple_addW2 t b vs.toArray ws.toArray n n2 dd dd2 sl sl2 (by simpa using hv) (by simpa using hw) (by rw[al27q,al27q];exact hsz)) ⟨ho,ho2,?_⟩
    rw[e];exact h2 hw
def sIx (n d:Nat):Option Int->Nat
  | none=>d
  | some v=>if v<0 then (v+(n:Int)).toNat else min v.toNat n
end
end HT
namespace L2
open PySem PySem.Spec PyProof.Rows
abbrev TO:=St->Hp->(Option Int->Hp->Prop)->Prop
def PO (X:Cx) (e:Option Expr) (t:TO):Prop:=
  ∀(pins:ty91q) (s:ty2q) (σ:St) (H:Hp) (Q:Option Int->Hp->Prop),Inv X pins σ H s->t σ H Q->
    wpAny (model X.prog X.w) X.A (evalPart e X.env) (fun u s'=>∃o H',Inv X pins σ H' s'/\IsPart u o/\Q o H') X.xe s
def zr7:TO:=fun _ H Q=>Q none H
def zwg (t:TE):TO:=fun σ H Q=>t σ H fun x H1=>∃i,x = .int i/\Q (some i) H1
theorem zky {ns:List Int}:∀{us:List ty3q},Vals (ns.map V.int) us->IntsAre us ns:=by
  induction ns with
  | nil=>intro us r;rw[al175q] at r;cases r;exact .nil
  | cons n ns ih=>
    intro us r;rw[al79q] at r;cases r with
    | cons r1 r2=>
      obtain⟨t,e⟩:=r1;subst e;exact .cons n t (ih r2)
section
variable {X:Cx}{e:Expr}{te:TE}{lo hi:Option Expr}{tl th:TO}{pos p2:Pos}
theorem zgc:PO X none zr7:=by
  intro pins s σ H Q I h;rw[evalPart_none];exact al7q ⟨none,H,I,.none,h⟩
theorem zgd (h:PE X e te):PO X (some e) (zwg te):=by
  intro pins s σ H Q I hw;rw[evalPart_some];refine thn (h pins s σ H _ I hw) fun u s1 hq0=>?_
  obtain⟨x,H1,I1,r1,q1⟩:=hq0;obtain⟨i,rfl,q⟩:=q1;obtain⟨t,rfl⟩:=r1;exact⟨some i,H1,I1,.int i t,q⟩
def SlR (X:Cx) (r:V->Option Int->Option Int->Hp->VK->Prop):Prop:=
  ∀(pins:ty91q) (s:ty2q) (σ:St) (H:Hp) (x:V) (v vl vu:ty3q) (lo hi:Option Int) (sl:ty1q) (Q:VK),Inv X pins σ H s->RelV x v->s.heap.IsSliceOf sl vl vu .none->IsPart vl lo->IsPart vu hi->r x lo hi H Q->
    ∃T id,typeLookup (.type T) "__getitem__" = pure (some (.builtin id))/\s.TypeIs v T/\wpAny (model X.prog X.w) X.A (getItem v (.ref sl)) (EP X pins σ Q) X.xe s
def tSl (r:V->Option Int->Option Int->Hp->VK->Prop) (te:TE) (tl th:TO):TE:=fun σ H Q=>te σ H fun x H1=>tl σ H1 fun l H2=>th σ H2 fun u H3=>r x l u H3 Q
theorem zei {r:V->Option Int->Option Int->Hp->VK->Prop}(hr:SlR X r) (he:PE X e te) (hl:PO X lo tl) (hu:PO X hi th):PE X (.Subscript e (.Slice lo hi none p2) pos) (tSl r te tl th):=by
  intro pins s σ H Q I h;refine Subscript_ (thn (he pins s σ H _ I h) fun v s1 hq0=>?_);obtain⟨x,H1,I1,r1,q1⟩:=hq0;refine wpAny_Slice (thn (hl pins s1 σ H1 _ I1 q1) fun vl s2 ⟨l,H2,I2,pl,q2⟩=>thn (hu pins s2 σ H2 _ I2 q2) fun vu s3 hq0=>?_);obtain⟨u,H3,I3,pu,q3⟩:=hq0;rw[evalPart_none];refine al7q ?_;have I4:Inv X pins σ H3 { s3 with heap:=s3.heap.push { cls:=.type "slice",data:=.fields #[vl,vu,.none] } }:=I3.kept (t':=s3.toks) fun b ob q=>al5q _ q
  obtain⟨T,id,hT,ht,hg⟩:=hr pins { s3 with heap:=s3.heap.push { cls:=.type "slice",data:=.fields #[vl,vu,.none] } } σ H3 x v vl vu l u s3.heap.objs.size Q I4 r1 (Heap.IsSliceOf.new ..) pl pu q3;show wpAny (model X.prog X.w) X.A (subscriptTail e (.Slice lo hi none p2) v (.ref s3.heap.objs.size)) (EP X pins σ Q) X.xe { s3 with heap:=s3.heap.push { cls:=.type "slice",data:=.fields #[vl,vu,.none] } };exact tail_any (ops:=[.ref s3.heap.objs.size,v]) ht hT hg (by with_unfolding_all rfl)
def cutV (xs:List V) (lo hi:Option Int):List V:=(xs.drop (HT.sIx xs.length 0 lo)).take (HT.sIx xs.length xs.length hi-HT.sIx xs.length 0 lo)
theorem zin (xs:List V) (lo hi:Option Int):(cutV xs lo hi).length<=xs.length:=by
  unfold cutV;rw[al28q,al134q];lia
def zuh (K:ty0q):R2:=fun x y H Q=>∃a b xs ys,x = .ref a/\y = .ref b/\SqT K H a xs/\SqT K H b ys/\xs≠[]/\xs.length+ys.length<=sizeLine/\
  (ys = []->Q (.ref a) H)/\(ys≠[]->∀p,H p=none->Q (.ref p) (upd H p (.tup (xs++ys))))
theorem Vals.nil_iff {xs:List V}{us:List ty3q}(r:Vals xs us):us = []↔xs = []:=by
  cases r with
  | nil=>simp
  | cons _ _=>simp
theorem zr8:OpR X (binaryOp .Add) (zuh X.K):=by
  intro pins s σ H x y v u Q I rx ry h;obtain⟨a,b,xs,ys,rfl,rfl,ha,hb,hx,hz,q1,q2⟩:=h;cases rx;cases ry;obtain⟨its,r1,p1,_⟩:=I.tuple ha;obtain⟨its2,r2,p2,_⟩:=I.tuple hb;refine HT.cat_tup p1 p2 (fun z=>hx (r1.nil_iff.mp z)) (fun z=>⟨.ref a,H,I,rfl,q1 (r2.nil_iff.mp z)⟩) (fun z=>?_) (by rw[←r1.length,←r2.length];exact hz);refine⟨.ref s.heap.objs.size,_,I.laid (t':=s.toks) (o:=.tup (xs++ys)) (fun b ob q=>al5q _ q) (al13q _) ?_,rfl,q2 (fun w=>z (r2.nil_iff.mpr w)) _ (I.hok.fresh (al13q _))⟩;exact⟨by rw[al18q];exact hz,_,r1.append r2,IsTup.new _ _⟩
end
def ixN (n:Nat) (i:Int):Option Nat:=if 0<=i then (if i<n then some i.toNat else none) else if -(n:Int)<=i then some (i+n).toNat else none
def atI {α:Type}(xs:List α) (i:Int):Option α:=(ixN xs.length i).bind fun j=>xs[j]?
theorem zr9 {n:Nat}{i:Int}{j:Nat}(h:ixN n i=some j):seqIndex? i n=some j/\j<n/\-(n:Int)<=i/\i<n:=by
  unfold ixN at h
  by_cases h0:0<=i
  · rw[al12q h0] at h
    by_cases h1:i<n
    · rw[al12q h1] at h;have e:i.toNat=j:=al41q h;exact⟨by rw[seqIndex_of h0 h1,e],by lia,by lia,h1⟩
    · rw[al8q h1] at h;cases h
  · rw[al8q h0] at h
    by_cases h1 : -(n:Int)<=i
    · rw[al12q h1] at h;have e:(i+n).toNat=j:=al41q h;exact⟨by rw[seqIndex_neg (by lia) h1,e],by lia,h1,by lia⟩
    · rw[al8q h1] at h;cases h
theorem zio {α:Type}{xs:List α}{i:Int}{v:α}(h:atI xs i=some v):∃j,seqIndex? i xs.length=some j/\xs[j]? = some v/\j<xs.length/\-(xs.length:Int)<=i/\i<xs.length:=by
  unfold atI at h;cases e:ixN xs.length i with
  | none=>rw[e] at h;cases h
  | some j=>
    rw[e] at h;obtain⟨h1,h2,h3,h4⟩:=zr9 e;exact⟨j,h1,h,h2,h3,h4⟩
theorem za2 {α:Type}{xs:List α}{j:Nat}{v:α}(h:xs[j]? = some v):atI xs (j:Int)=some v:=by
  have hj:j<xs.length:=(al3q.mp h).1;have e:ixN xs.length (j:Int)=some j:=by
    unfold ixN;rw[al12q (by lia),al12q (by lia)];simp
  unfold atI;rw[e];exact h
theorem zej {α:Type}(xs:List α) (v:α):atI (xs++[v]) (-1)=some v:=by
  have hl:(xs++[v]).length=xs.length+1:=by simp
  have e:ixN (xs++[v]).length (-1)=some xs.length:=by
    unfold ixN;rw[hl,al8q (by decide),al12q (by lia)]
    congr 1
    lia
  unfold atI;rw[e];show (xs++[v])[xs.length]? = some v;simp
def zmr (b:Expr):Prop:=∀o i,subscripted b false o i=operate [o,i] (getItem o i)
def IxR (X:Cx) (r:R2):Prop:=
  ∀(value slice:Expr) (pins:ty91q) (s:ty2q) (σ:St) (H:Hp) (x y:V) (v u:ty3q) (Q:VK),Inv X pins σ H s->RelV x v->RelV y u->r x y H Q->
    subscripted slice false v u=operate [v,u] (getItem v u)->wpAny (model X.prog X.w) X.A (subscriptTail value slice v u) (EP X pins σ Q) X.xe s
def MtR (X:Cx) (id:String) (r:V->List V->Hp->VK->Prop):Prop:=
  ∀(pins:ty91q) (s:ty2q) (σ:St) (H:Hp) (x:V) (xs:List V) (v:ty3q) (us:List ty3q) (Q:VK),Inv X pins σ H s->RelV x v->Vals xs us->r x xs H Q->
    wpAny (model X.prog X.w) X.A (call (.builtin id) (v::us)) (EP X pins σ Q) X.xe s
section
variable {X:Cx}{a b:Expr}{ta tb:TE}{pos:Pos}
theorem zwh {r:R2}(hr:IxR X r) (ha:PE X a ta) (hb:PE X b tb) (hs:zmr b):PE X (.Subscript a b pos) (tOp r ta tb):=by
  intro pins s σ H Q I h;exact Subscript_ (binT ha hb I h fun v u s2 x y H2 I2 rx ry q=>hr a b pins s2 σ H2 x y v u Q I2 rx ry q (hs _ _))
inductive rIxLI (K:ty0q) (x y:V) (H:Hp) (Q:VK):Prop
  | mk (p:ty1q) (xs:List V) (i:Int) (v:V) (_:x = .ref p) (_:y = .int i) (_:SqL K H p xs) (_:atI xs i=some v) (_:Q v H)
def rIxL (K:ty0q):R2:=fun x y H Q=>rIxLI K x y H Q
inductive rIxTI (K:ty0q) (x y:V) (H:Hp) (Q:VK):Prop
  | mk (p:ty1q) (xs:List V) (i:Int) (v:V) (_:x = .ref p) (_:y = .int i) (_:SqT K H p xs) (_:atI xs i=some v) (_:Q v H)
def rIxT (K:ty0q):R2:=fun x y H Q=>rIxTI K x y H Q
def rIxS:R2:=fun x y H Q=>∃z i c,x = .str z/\y = .int i/\z.length<=sizeLine/\atI z.cps.toList i=some c/\Q (.str ⟨#[c]⟩) H
theorem zsa:IxR X (rIxL X.K):=by
  intro value slice pins s σ H x y v u Q I rx ry h hs;obtain⟨p,xs,i,z,rfl,rfl,hq,he,q⟩:=h;cases rx;obtain⟨t,rfl⟩:=ry;obtain⟨its,r,pl,hz⟩:=I.list hq;obtain⟨j,h1,h2,h3,h4,h5⟩:=zio he;obtain⟨w,ew,rw'⟩:=r.get h2;have hl:=r.length;have hn:=zjz;have fin:EP X pins σ Q w s:=⟨z,H,I,rw',q⟩
  by_cases h0:0<=i
  · have hj:i.toNat=j:=by
      rw[seqIndex_of h0 h5] at h1;exact al41q h1
    exact item_listR pl.isList h0 (by lia) (by rw[hj];simpa using ew) fin hs
  · have hj:(i+(its.toArray.size:Int)).toNat=j:=by
      rw[seqIndex_neg (by lia) h4] at h1;rw[al27q,←hl];exact al41q h1
    exact subscriptTail_builtinR (x:=w) pl.isList.typeIs slot_list_getitem.lookup
      (wpAny_getItem_list_neg (Q:=fun r s'=>r=w/\EP X pins σ Q r s') pl.isList (by lia) (by rw[al27q]<;>lia) (by lia) (by rw[hj];simpa using ew) ⟨rfl,fin⟩) hs
theorem zui:IxR X (rIxT X.K):=by
  intro value slice pins s σ H x y v u Q I rx ry h hs;obtain⟨p,xs,i,z,rfl,rfl,hq,he,q⟩:=h;cases rx;obtain⟨t,rfl⟩:=ry;obtain⟨its,r,pl,hz⟩:=I.tuple hq;obtain⟨j,h1,h2,h3,h4,h5⟩:=zio he;obtain⟨w,ew,rw'⟩:=r.get h2;have hl:=r.length;have hn:=zjz;have fin:EP X pins σ Q w s:=⟨z,H,I,rw',q⟩;exact subscriptTail_builtinR (x:=w) pl.typeIs slot_tuple_getitem.lookup
    (getItem_tuple (j:=j) (Q:=fun r s'=>r=w/\EP X pins σ Q r s') pl (by lia) (by lia) (by rw[al27q,←hl];exact h1) (by simpa using ew) ⟨rfl,fin⟩) hs
theorem zuj:IxR X rIxS:=by
  intro value slice pins s σ H x y v u Q I rx ry h hs;obtain⟨z,i,c,rfl,rfl,hz,he,q⟩:=h;obtain⟨t,rfl⟩:=rx;obtain⟨t',rfl⟩:=ry;obtain⟨j,h1,h2,h3,h4,h5⟩:=zio he;have hl:z.cps.toList.length=z.length:=by simp[Str.length]
  rw[hl] at h1 h4 h5;have hn:=zjz;exact tail_any (typeIs_str s z t) slot_str_getitem.lookup (getItem_str (c:=c) (by
    have e1:decide (i < -(2 ^ 63:Int))=false:=al17q (by lia);have e2:decide (i≥2 ^ 63)=false:=al17q (by lia);rw[e1,e2,Bool.or_false]) (by rw[h1];simpa using h2) ⟨.str ⟨#[c]⟩,H,I.tok _,⟨_,rfl⟩,q⟩) hs
theorem zhj (lo hi:Option Int) (n:Nat):(sliceBounds lo hi none n).1=((HT.sIx n 0 lo:Nat):Int)/\(sliceBounds lo hi none n).2.1=((HT.sIx n n hi:Nat):Int)/\(sliceBounds lo hi none n).2.2=1:=by
  refine⟨?_,?_,rfl⟩
  · cases lo with
    | none=>simp[sliceBounds,HT.sIx]
    | some i=>
      simp only [sliceBounds,HT.sIx,Option.getD_none,show (1:Int) > 0 by decide,if_true]
      by_cases h:i<0
      · simp only [h,if_true]<;>lia
      · simp only [h,al151q]<;>lia
  · cases hi with
    | none=>simp[sliceBounds,HT.sIx]
    | some i=>
      simp only [sliceBounds,HT.sIx,Option.getD_none,show (1:Int) > 0 by decide,if_true]
      by_cases h:i<0
      · simp only [h,if_true]<;>lia
      · simp only [h,al151q]<;>lia
theorem zge (its:List ty3q) (lo hi:Option Int):slicePick its.toArray lo hi none=((its.drop (HT.sIx its.length 0 lo)).take (HT.sIx its.length its.length hi-HT.sIx its.length 0 lo)).toArray:=by
  obtain⟨h1,h2,h3⟩:=zhj lo hi its.toArray.size;unfold slicePick;rw[h1,h2,h3];simp only [sliceRange_one,pick_run,al27q]<;>rfl
def rSlL (K:ty0q):V->Option Int->Option Int->Hp->VK->Prop:=fun x lo hi H Q=>∃a xs,x = .ref a/\SqL K H a xs/\∀p,H p=none->Q (.ref p) (upd H p (.lst (cutV xs lo hi)))
theorem zsb:SlR X (rSlL X.K):=by
  intro pins s σ H x v vl vu lo hi sl Q I rx hs pl pu h;obtain⟨a,xs,rfl,hx,q⟩:=h;cases rx;obtain⟨its,r,ht,hz⟩:=I.list hx;have hlen:=r.length;refine⟨"list",_,slot_list_getitem.lookup,ht.isList.typeIs,?_⟩;refine wpAny_getItem_list_slice ht.isList hs pl pu .none (by simp) ?_ (by rw[al27q]<;>lia);rw[zge,←hlen];refine⟨.ref s.heap.objs.size,_,I.laid (t':=s.toks) (o:=.lst (cutV xs lo hi)) (fun b ob q=>al5q _ q) (al13q _) ?_,rfl,q _ (I.hok.fresh (al13q _))⟩;exact⟨al58q (zin xs lo hi) hz,_,0,(r.drop (HT.sIx xs.length 0 lo)).take (HT.sIx xs.length xs.length hi-HT.sIx xs.length 0 lo),al20q _ rfl⟩
def zb6:V->Bool
  | .non=>true
  | .bl _=>true
  | .int _=>true
  | .str _=>true
  | _=>false
def eqV:V->V->Bool
  | .non,.non=>true
  | .bl a,.bl b=>a == b
  | .bl a,.int b=>(if a then 1 else 0) == b
  | .int a,.bl b=>a == (if b then 1 else 0)
  | .int a,.int b=>a == b
  | .str a,.str b=>a == b
  | _,_=>false
theorem zre {A:Around}{s:ty2q}{y x:V}{u v:ty3q}(ry:RelV y u) (rx:RelV x v) (fy:zb6 y=true) (fx:zb6 x=true):SeqAt.EqAt A s u v (eqV y x):=by
  cases y with
  | non=>
    cases ry;cases x with
    | non=>cases rx;exact SeqAt.EqAt.same _
    | bl b=>cases rx;exact SeqAt.EqAt.none_bool b
    | int b=>obtain⟨t,rfl⟩:=rx;exact SeqAt.EqAt.none_int b t
    | str b=>obtain⟨t,rfl⟩:=rx;exact SeqAt.EqAt.none_str b t
    | _=>exact absurd (show false=true from fx) al23q
  | bl a=>
    cases ry;cases x with
    | non=>cases rx;exact SeqAt.EqAt.bool_none a
    | bl b=>cases rx;exact SeqAt.EqAt.bool_bool a b
    | int b=>obtain⟨t,rfl⟩:=rx;exact SeqAt.EqAt.bool_int a b t
    | str b=>obtain⟨t,rfl⟩:=rx;exact SeqAt.EqAt.bool_str a b t
    | _=>exact absurd (show false=true from fx) al23q
  | int a=>
    obtain⟨t',rfl⟩:=ry;cases x with
    | non=>cases rx;exact SeqAt.EqAt.int_none a t'
    | bl b=>cases rx;exact SeqAt.EqAt.int_bool a t' b
    | int b=>obtain⟨t,rfl⟩:=rx;exact SeqAt.EqAt.int_int a t' b t
    | str b=>obtain⟨t,rfl⟩:=rx;exact SeqAt.EqAt.int_str a t' b t
    | _=>exact absurd (show false=true from fx) al23q
  | str a=>
    obtain⟨t',rfl⟩:=ry;cases x with
    | non=>cases rx;exact SeqAt.EqAt.str_none a t'
    | bl b=>cases rx;exact SeqAt.EqAt.str_bool a t' b
    | int b=>obtain⟨t,rfl⟩:=rx;exact SeqAt.EqAt.str_int a t' b t
    | str b=>obtain⟨t,rfl⟩:=rx;exact SeqAt.EqAt.str_str a t' b t
    | _=>exact absurd (show false=true from fx) al23q
  | _=>exact absurd (show false=true from fy) al23q
def eqU (x:V) (u:ty3q):Bool:=match u with
  | .none=>eqV .non x
  | .bool b=>eqV (.bl b) x
  | .int i _=>eqV (.int i) x
  | .str z _=>eqV (.str z) x
  | _=>false
theorem zrf {x y:V}{u:ty3q}(r:RelV y u) (f:zb6 y=true):eqU x u=eqV y x:=by
  cases y with
  | non=>cases r;rfl
  | bl b=>cases r;rfl
  | int i=>obtain⟨t,rfl⟩:=r;rfl
  | str z=>obtain⟨t,rfl⟩:=r;rfl
  | _=>exact absurd (show false=true from f) al23q
theorem ziq {x:V}:∀{xs:List V}{us:List ty3q},Vals xs us->xs.all zb6=true->us.any (eqU x)=xs.any fun y=>eqV y x
  | _,_,.nil,_=>rfl
  | y::xs,u::us,.cons r t,f=>by
    rw[List.all_cons,al49q] at f;rw[al119q,al119q,zrf r f.1,ziq t f.2]
theorem zgf {A:Around}{s:ty2q}{x:V}{v:ty3q}(rx:RelV x v) (fx:zb6 x=true):∀{xs:List V}{us:List ty3q},Vals xs us->xs.all zb6=true->∀u∈us,SeqAt.EqAt A s u v (eqU x u)
  | _,_,.nil,_=>fun u hu=>by cases hu
  | y::xs,u::us,.cons r t,f=>fun u' hu=>by
    rw[List.all_cons,al49q] at f;rcases al21q.mp hu with rfl | hu
    · rw[zrf r f.1];exact zre r rx f.1 fx
    · exact zgf rx fx t f.2 u' hu
def inV (x:V) (xs:List V):Bool:=xs.any fun y=>eqV y x
def rIn (K:ty0q) (neg:Bool):R2:=fun x y H Q=>∃p xs,y = .ref p/\(SqL K H p xs\/SqT K H p xs)/\zb6 x=true/\xs.all zb6=true/\Q (.bl (if neg then !inV x xs else inV x xs)) H
theorem zms:OpR X (compareOp .In) (rIn X.K false):=by
  intro pins s σ H x y v u Q I rx ry h;obtain⟨p,xs,rfl,hq,fx,fs,q⟩:=h;cases ry;rcases hq with hq | hq
  · obtain⟨its,r,pl,hz⟩:=I.list hq;refine SeqAt.in_listAt (eqU x) pl.isList (fun w hw=>zgf rx fx r fs w (by simpa using hw)) ⟨.bl _,H,I,rfl,?_⟩;rw[show its.toArray.any (eqU x)=its.any (eqU x) by simp,ziq r fs];exact q
  · obtain⟨its,r,pl,hz⟩:=I.tuple hq;refine SeqAt.in_tupleAt (eqU x) pl (fun w hw=>zgf rx fx r fs w (by simpa using hw)) ⟨.bl _,H,I,rfl,?_⟩;rw[show its.toArray.any (eqU x)=its.any (eqU x) by simp,ziq r fs];exact q
theorem zhk:zbr X (.builtin "len") (fun xs H Q=>∃p ys,xs = [.ref p]/\(SqL X.K H p ys\/SqT X.K H p ys)/\Q (.int ys.length) H):=by
  intro pins s σ H xs us Q I r h;obtain⟨p,ys,rfl,hq,q⟩:=h;obtain⟨u,rfl,rx⟩:=zb3 r;cases rx;have hn:=zjz;rcases hq with hq | hq
  · obtain⟨its,r',pl,hz⟩:=I.list hq;have hlen:=r'.length;exact Calls.call_len_list pl.isList (by simp only [al27q]<;>lia) ⟨.int ys.length,H,I.tok _,⟨s.toks+1,by rw[al27q,hlen]⟩,q⟩
  · obtain⟨its,r',pl,hz⟩:=I.tuple hq;have hlen:=r'.length;exact len_tuple pl (by simp only [al27q]<;>lia) ⟨.int ys.length,H,I.tok _,⟨s.toks+1,by rw[al27q,hlen]⟩,q⟩
theorem zhl:zbr X (.type "list") (fun xs H Q=>∃p ys,xs = [.ref p]/\(SqL X.K H p ys\/SqT X.K H p ys)/\∀l,H l=none->Q (.ref l) (upd H l (.lst ys))):=by
  intro pins s σ H xs us Q I r h;obtain⟨p,ys,rfl,hq,q⟩:=h;obtain⟨u,rfl,rx⟩:=zb3 r;cases rx;have fin:∀(its:List ty3q),Vals ys its->ys.length<=sizeLine->∀(h':Heap) (c':Nat),(∀b o',s.heap.get? b=some o'->h'.get? b=some o')->
      h'.get? s.heap.objs.size=some { cls:=.type "list",dict:=none,data:=.seq its.toArray c',slots:=#[] }->EP X pins σ Q (.ref s.heap.objs.size) { s with heap:=h' }:=fun its r' hz h' c' kp e=>
    ⟨.ref s.heap.objs.size,_,I.laid (t':=s.toks) kp (al13q _) (show ObjOk X.prog X.w _ h' _ (.lst ys) from ⟨hz,its,c',r',e⟩),rfl,q _ (I.hok.fresh (al13q _))⟩
  rcases hq with hq | hq
  · obtain⟨its,r',pl,hz⟩:=I.list hq;have hlen:=r'.length;obtain⟨o,ho,hc,n,hd⟩:=pl.isList;exact call_list_seq p (.inl rfl) ho hc hd (fun h' c' kp e=>fin its r' hz h' c' kp e) (by simp only [al27q]<;>lia)
  · obtain⟨its,r',pl,hz⟩:=I.tuple hq;have hlen:=r'.length;obtain⟨o,ho,hc,n,hd⟩:=pl;exact call_list_seq p (.inr rfl) ho hc hd (fun h' c' kp e=>fin its r' hz h' c' kp e) (by simp only [al27q]<;>lia)
def tyV (K:ty0q) (T:String) (x:V) (H:Hp):Prop:=match x with
  | .str _=>T = "str"
  | .int _=>T = "int"
  | .ref p=>(T = "list"/\∃xs,SqL K H p xs)\/(T = "tuple"/\∃o,K.lookup p=some o/\o.cls = .type "tuple"/\o.dict=none)\/
      (T = "dict"/\((∃kvs,H p=some (.dK kvs))\/∃kvs,H p=some (.dT kvs)))\/(T = "set"/\∃S n,H p=some (.set S n))
  | _=>False
theorem zrg {pins:ty91q}{σ:St}{H:Hp}{s:ty2q}{T:String}{x:V}{v:ty3q}(I:Inv X pins σ H s) (r:RelV x v) (ty:tyV X.K T x H) :
    s.TypeIs v T/\∀a,v = .ref a->∃ob,s.heap.get? a=some ob/\ob.dict=none:=by
  cases x with
  | str z=>
    obtain⟨t,rfl⟩:=r;cases (show T = "str" from ty);exact⟨typeIs_str s z t,fun _ e=>nomatch e⟩
  | int i=>
    obtain⟨t,rfl⟩:=r;cases (show T = "int" from ty);exact⟨typeIs_int s i t,fun _ e=>nomatch e⟩
  | ref p=>
    cases r;rcases ty with ⟨rfl,xs,hq⟩ | ⟨rfl,o,hk,hc,hd⟩ | ⟨rfl,hk⟩ | ⟨rfl,S,n,hk⟩
    · obtain⟨its,_,pl,_⟩:=I.list hq;refine⟨pl.isList.typeIs,fun a e=>?_⟩;cases e;obtain⟨o,n,e,c,hd,_⟩:=pl;exact⟨o,e,hd⟩
    · refine⟨⟨o,I.kIn p o hk,hc⟩,fun a e=>?_⟩;cases e;exact⟨o,I.kIn _ o hk,hd⟩
    · have z:∃o,s.heap.get? p=some o/\o.ExactDict:=by
        rcases hk with ⟨kvs,hk⟩ | ⟨kvs,hk⟩
        · obtain⟨_,_,_,_,o,_,_,e,ex,_⟩:=I.hok p _ hk;exact⟨o,e,ex⟩
        · obtain⟨_,_,_,_,o,_,_,e,ex,_⟩:=I.hok p _ hk;exact⟨o,e,ex⟩
      obtain⟨o,e,ex⟩:=z;refine⟨⟨o,e,ex.1⟩,fun a e2=>?_⟩;cases e2;exact⟨o,e,ex.2.1⟩
    · obtain⟨o,_,_,_,e,ex,_⟩:=I.hok p _ hk;refine⟨⟨o,e,ex.1⟩,fun a e2=>?_⟩;cases e2;exact⟨o,e,ex.2.1⟩
  | _=>exact False.elim ty
def tBM0 (K:ty0q) (T:String) (r:V->List V->Hp->VK->Prop) (to:TE):TE:=fun σ H Q=>to σ H fun x H1=>tyV K T x H1/\r x [] H1 Q
def tBM (K:ty0q) (T:String) (r:V->List V->Hp->VK->Prop) (to:TE) (t:TA):TE:=fun σ H Q=>to σ H fun x H1=>tyV K T x H1/\t σ H1 fun xs H2=>r x xs H2 Q
variable {o e:Expr}{es:List Expr}{to:TE}{t:TA}{name:Str}{apos cpos:Pos}{T id:String}{r:V->List V->Hp->VK->Prop}
theorem zuk (pa:PlainAttrs T) (slot:Slot T name id) (hty:typeOf (.builtin id)=pure (.type "method_descriptor")) (hm:MtR X id r) (ho:PE X o to)
    (hbase:attributeBase o name X.env (eval o X.env)=eval o X.env:=by rfl) (hline:(apos.endLine == cpos.line)=true:=by rfl):PE X (.Call (.Attribute o name apos) [] [] cpos) (tBM0 X.K T r to):=by
  intro pins s σ H Q I h;refine wpAny_Call_method0_late hbase hline (thn (ho pins s σ H _ I h) fun v s1 hq0=>?_);obtain⟨x,H1,I1,r1,ty,q1⟩:=hq0;obtain⟨h1,h2⟩:=zrg I1 r1 ty;exact⟨T,id,pa,slot,hty,h1,h2,al148q rfl (PySem.evalArgs_none (hm pins s1 σ H1 x [] v [] Q I1 r1 .nil q1))⟩
theorem zwi (pa:PlainAttrs T) (slot:Slot T name id) (hty:typeOf (.builtin id)=pure (.type "method_descriptor")) (hm:MtR X id r) (ho:PE X o to) (ha:PA X (e::es) t)
    (hbase:attributeBase o name X.env (eval o X.env)=eval o X.env:=by rfl)
    (hfew:((backTo cpos (starEach (e::es) X.env)).all (fun x=>!x.1)&&(backToKw cpos (keywordEach [] X.env)).all (fun x=>x.1.isSome)
      && decide ((e::es).length+([]:List Keyword).length+(if ([]:List Keyword).isEmpty then 0 else 1)<30))=true:=by rfl)
    (hline:(apos.endLine == cpos.line)=true:=by rfl) (hs:starEach (e::es) X.env=(false,eval e X.env)::starEach es X.env:=by rfl) (hplain:(backTo cpos (starEach es X.env)).any (·.1)=false:=by rfl) :
    PE X (.Call (.Attribute o name apos) (e::es) [] cpos) (tBM X.K T r to t):=by
  intro pins s σ H Q I h;refine wpAny_Call_method_late hbase hfew hline rfl (thn (ho pins s σ H _ I h) fun v s1 hq0=>?_);obtain⟨x,H1,I1,r1,ty,q1⟩:=hq0;obtain⟨h1,h2⟩:=zrg I1 r1 ty;refine⟨T,id,pa,slot,hty,h1,h2,?_⟩;have hA:=ha cpos pins s1 σ H1 _ I1 q1;rw[hs] at hA ⊢;refine al148q (by show (false||(backTo cpos (starEach es X.env)).any (·.1))=false;rw[hplain]<;>rfl) (al159q ?_);exact thn hA fun us s2 ⟨vs,H2,I2,r2,q2⟩=>hm pins s2 σ H2 x vs v us Q I2 r1 r2 q2
end
def MtM (X:Cx) (id:String) (r:V->List V->Hp->VK->Prop):Prop:=
  ∀(pins:ty91q) (s:ty2q) (σ:St) (H:Hp) (x:V) (xs:List V) (v:ty3q) (us:List ty3q) (Q:VK),Inv X pins σ H s->RelV x v->Vals xs us->r x xs H Q->
    wpAny (model X.prog X.w) X.A (call (.builtin id) (v::us)) (EP X pins σ Q) X.xe s
theorem Vals.one:∀{x:V}{us:List ty3q},Vals [x] us->∃u,us = [u]/\RelV x u
  | _,_,.cons r .nil=>⟨_,rfl,r⟩
theorem Vals.zero:∀{us:List ty3q},Vals [] us->us = []
  | _,.nil=>rfl
theorem Vals.reverse {xs:List V}{us:List ty3q}(h:Vals xs us):Vals xs.reverse us.reverse:=by
  induction h with
  | nil=>exact .nil
  | cons r t ih=>rw[List.reverse_cons,List.reverse_cons];exact Vals.append ih (.cons r .nil)
section
variable {X:Cx}{pins:ty91q}{σ:St}{H:Hp}{s:ty2q}{l b:ty1q}{xs ys zs:List V}
theorem Inv.lset {its its':List ty3q}{n:Nat}{f:Array ty3q->Array ty3q}{t':Nat}(I:Inv X pins σ H s) (hH:H l=some (.lst xs))
    (e:s.heap.get? l=some { cls:=.type "list",data:=.seq its.toArray n }) (hf:f its.toArray=its'.toArray) (hv:Vals ys its') (hz:ys.length<=sizeLine) :
    Inv X pins σ (upd H l (.lst ys)) { s with heap:=s.heap.update l (Obj.mapSeq f),toks:=t' }:=by
  have q:=PySem.IsL.update e f;rw[hf] at q;refine I.write (x:=l) (e:=l) (by rw[hH];exact trivial) (.inl rfl) (fun b' u hb hu=>(al24q s.heap (Obj.mapSeq f) (al26q hb)).trans hu) ⟨_,q⟩ ?_;exact⟨hz,its',_,hv,q⟩
theorem Inv.lnew {its:List ty3q}{t':Nat}(I:Inv X pins σ H s) (hv:Vals ys its) (hz:ys.length<=sizeLine) :
    Inv X pins σ (upd H s.heap.objs.size (.lst ys)) { s with heap:=s.heap.push { cls:=.type "list",data:=.seq its.toArray },toks:=t' }:=
  I.laid (fun _ _ q=>al5q _ q) (al13q _) ⟨hz,its,0,hv,al20q _ rfl⟩
theorem Inv.fresh (I:Inv X pins σ H s):H s.heap.objs.size=none:=I.hok.fresh (al13q _)
theorem Inv.lstM (I:Inv X pins σ H s) (hH:H l=some (.lst xs)):xs.length<=sizeLine/\∃(its:List ty3q) (n:Nat),Vals xs its/\xs.length=its.length/\s.heap.get? l=some { cls:=.type "list",data:=.seq its.toArray n }:=by
  obtain⟨z,its,n,r,e⟩:=I.hok l _ hH;exact⟨z,its,n,r,r.length,e⟩
theorem zv7 {n:Nat}(h:n<=sizeLine):Builtin.List.listTooLong n=false:=by
  unfold Builtin.List.listTooLong;exact al17q (by lia)
end
section
variable {X:Cx}
inductive rAppendI (x:V) (vs:List V) (H:Hp) (Q:VK):Prop
  | mk (l:ty1q) (xs:List V) (y:V) (_:x = .ref l) (_:vs = [y]) (_:H l=some (.lst xs)) (_:xs.length<sizeLine) (_:Q .non (upd H l (.lst (xs++[y]))))
def zsc:V->List V->Hp->VK->Prop:=fun x vs H Q=>rAppendI x vs H Q
theorem zbc:MtM X "list.append" zsc:=by
  intro pins s σ H x vs v us Q I rx rv h;obtain⟨l,xs,y,rfl,rfl,hH,hz,q⟩:=h;cases rx;obtain⟨u,rfl,ru⟩:=rv.one;obtain⟨z,its,n,r,hl,e⟩:=I.lstM hH;refine call_meets F.slot_list_append ⟨_,e,rfl⟩ F.entry_list_append (F.args_list_append_2 _ _) (PySem.list_append l its.toArray n u (by rw[al27q];lia)) ⟨e,?_⟩;refine⟨.non,_,I.lset (its':=its++[u]) hH e (by simp) (r.append (.cons ru .nil)) ?_,rfl,q⟩;rw[al18q,List.length_singleton];lia
def zpm:V->List V->Hp->VK->Prop:=fun x vs H Q=>∃l xs,x = .ref l/\vs = []/\H l=some (.lst xs)/\Q .non (upd H l (.lst xs.reverse))
theorem zkz:MtM X "list.reverse" zpm:=by
  intro pins s σ H x vs v us Q I rx rv h;obtain⟨l,xs,rfl,rfl,hH,q⟩:=h;cases rx;have hus:=rv.zero;subst hus;obtain⟨z,its,n,r,hl,e⟩:=I.lstM hH;refine call_meets F.slot_list_reverse ⟨_,e,rfl⟩ F.entry_list_reverse (F.args_list_reverse_1 _) (AutoSeq1.list_reverse_list_0 l its.toArray n (by rw[al27q];lia)) ⟨e,?_⟩;refine⟨.non,_,I.lset (its':=its.reverse) hH e (by simp) r.reverse ?_,rfl,q⟩;rw[al165q];lia
def rCat:R2:=fun x y H Q=>∃l b xs zs,x = .ref l/\y = .ref b/\H l=some (.lst xs)/\H b=some (.lst zs)/\xs.length+zs.length<=sizeLine/\∀p,H p=none->Q (.ref p) (upd H p (.lst (xs++zs)))
theorem zfy:OpR X (binaryOp .Add) rCat:=by
  intro pins s σ H x y v u Q I rx ry h;obtain⟨l,b,xs,zs,rfl,rfl,hH,hB,hz,q⟩:=h;cases rx;cases ry;obtain⟨z,its,n,r,hl,e⟩:=I.lstM hH;obtain⟨z2,its2,n2,r2,hl2,e2⟩:=I.lstM hB;refine PySem.P.add_list e e2 ?_ (by rw[al27q,al27q];lia);have ea:its.toArray++its2.toArray=(its++its2).toArray:=by simp
  rw[ea];exact⟨.ref _,_,I.lnew (t':=s.toks) (r.append r2) (by rw[al18q];lia),rfl,q _ I.fresh⟩
end
section
variable {κ:Type} [DecidableEq κ]
def valV (kvs:List (κ×V)) (k:κ):Option V:=(kvs.find? fun kv=>decide (kv.1=k)).map (·.2)
def putK (kvs:List (κ×V)) (k:κ) (v:V):List (κ×V):=
  if (kvs.any fun kv=>decide (kv.1=k))=true then kvs.map (fun kv=>if kv.1=k then (kv.1,v) else kv) else kvs++[(k,v)]
theorem zdc {p:κ×V}{r:List (κ×V)}{k:κ}(e:p.1=k):valV (p::r) k=some p.2:=by simp[valV,al152q,e]
theorem zgg {p:κ×V}{r:List (κ×V)}{k:κ}(e:¬p.1=k):valV (p::r) k=valV r k:=by simp[valV,al152q,e]
theorem zj1 (k:κ):∀kvs:List (κ×V),(kvs.any fun kv=>decide (kv.1=k))=(valV kvs k).isSome
  | []=>rfl
  | p::r=>by
    rw[al119q]
    by_cases e:p.1=k
    · simp only [zdc e,al10q e,Bool.true_or,Option.isSome_some]
    · rw[zgg e,al17q e,Bool.false_or];exact zj1 k r
theorem zb8 (kvs:List (κ×V)) (k:κ) (v:V):(putK kvs k v).length<=kvs.length+1:=by
  unfold putK;split
  · rw[al0q];lia
  · rw[al18q,al99q,List.length_nil];lia
theorem RelO.isSome_eq {o:Option V}{u:Option ty3q}(r:RelO o u):o.isSome=u.isSome:=by
  cases o with
  | none=>cases u with
    | none=>rfl
    | some _=>exact (show False from r).elim
  | some _=>cases u with
    | none=>exact (show False from r).elim
    | some _=>rfl
theorem KV.val {kvs:List (κ×V)}{vs:List (κ×ty3q)}(r:KV kvs vs) (k:κ):RelO (valV kvs k) (valueAt vs k):=by
  unfold KV at r
  induction r with
  | nil=>exact True.intro
  | @cons p q ps qs h t ih=>
    obtain⟨h1,h2⟩:=h
    by_cases e:p.1=k
    · have e':q.1=k:=h1.symm.trans e;have b:valueAt (q::qs) k=some q.2:=by simp[valueAt,al152q,e']
      rw[zdc e,b];exact h2
    · have e':¬q.1=k:=fun z=>e (h1.trans z)
      have b:valueAt (q::qs) k=valueAt qs k:=by simp[valueAt,al152q,e']
      rw[zgg e,b];exact ih
theorem KV.any {kvs:List (κ×V)}{vs:List (κ×ty3q)}(r:KV kvs vs) (k:κ):(kvs.any fun kv=>decide (kv.1=k))=vs.any fun kv=>decide (kv.1=k):=by
  unfold KV at r
  induction r with
  | nil=>rfl
  | cons h t ih=>rw[al119q,al119q,ih,h.1]
theorem KV.repl {kvs:List (κ×V)}{vs:List (κ×ty3q)}(r:KV kvs vs) (k:κ) {y:V}{u:ty3q}(ry:RelV y u) :
    KV (kvs.map fun kv=>if kv.1=k then (kv.1,y) else kv) (vs.map fun kv=>if kv.1=k then (kv.1,u) else kv):=by
  unfold KV at r ⊢
  induction r with
  | nil=>exact .nil
  | @cons p q ps qs h t ih=>
    rw[al79q,al79q];refine .cons ?_ ih;obtain⟨h1,h2⟩:=h
    by_cases e:p.1=k
    · rw[al12q e,al12q (h1.symm.trans e)];exact⟨h1,ry⟩
    · rw[al8q e,al8q (fun z=>e (h1.trans z))];exact⟨h1,h2⟩
theorem KV.put {kvs:List (κ×V)}{vs:List (κ×ty3q)}(r:KV kvs vs) (k:κ) {y:V}{u:ty3q}(ry:RelV y u):KV (putK kvs k y) (stored vs k u):=by
  unfold putK stored;rw[r.any k]
  by_cases e:(vs.any fun kv=>decide (kv.1=k))=true
  · rw[al12q e,al12q e];exact r.repl k ry
  · rw[al8q e,al8q e];exact Paired.snoc r ⟨rfl,ry⟩
theorem KV.length {kvs:List (κ×V)}{vs:List (κ×ty3q)}(r:KV kvs vs):kvs.length=vs.length:=Paired.length r
end
theorem zk0 {P:ty4q}{w:World}{k:Key}{u:ty3q}(r:RelV (kV k) u):(zbf P w).is k u=true:=by
  cases k with
  | inl i=>obtain⟨t,e⟩:=(show ∃t,u=Value.int i t from r);subst e;exact zil P w i t
  | inr x=>obtain⟨t,e⟩:=(show ∃t,u=Value.str x t from r);subst e;exact zim P w x t
theorem zhm {P:ty4q}{w:World}:∀{ks:List Key}{us:List ty3q},Vals (ks.map kV) us->ItemsAre (zbf P w) ks us
  | [],_,r=>by rw[al175q] at r;cases r;exact .nil
  | k::ks,_,r=>by
    rw[al79q] at r;cases r with
    | cons h t=>exact .cons (zk0 h) (zhm t)
abbrev KT (H:Hp):List (List Key×V)->List (List Key×ty1q×ty3q)->Prop:=Paired fun p q=>p.1=q.1/\H q.2.1=some (.tup (p.1.map kV))/\RelV p.2 q.2.2
theorem KT.val {H:Hp}{kvs:List (List Key×V)}{xs:List (List Key×ty1q×ty3q)}(r:KT H kvs xs) (k:List Key):RelO (valV kvs k) ((atKey xs k).map (·.2)):=by
  induction r with
  | nil=>exact True.intro
  | @cons p q ps qs h t ih=>
    obtain⟨h1,_,h2⟩:=h
    by_cases e:p.1=k
    · have e':q.1=k:=h1.symm.trans e;have b:atKey (q::qs) k=some q.2:=by simp[atKey,al152q,e']
      rw[zdc e,b];exact h2
    · have e':¬q.1=k:=fun z=>e (h1.trans z)
      have b:atKey (q::qs) k=atKey qs k:=by simp[atKey,al152q,e']
      rw[zgg e,b];exact ih
theorem KT.repl {H:Hp}{kvs:List (List Key×V)}{xs:List (List Key×ty1q×ty3q)}(r:KT H kvs xs) (k:List Key) {y:V}{u:ty3q}(ry:RelV y u) :
    KT H (kvs.map fun kv=>if kv.1=k then (kv.1,y) else kv) (xs.map (putAt k u)):=by
  induction r with
  | nil=>exact .nil
  | @cons p q ps qs h t ih=>
    rw[al79q,al79q];refine .cons ?_ ih;obtain⟨h1,h2,h3⟩:=h;unfold putAt
    by_cases e:p.1=k
    · rw[al12q e,al12q (h1.symm.trans e)];exact⟨h1,h2,ry⟩
    · rw[al8q e,al8q (fun z=>e (h1.trans z))];exact⟨h1,h2,h3⟩
theorem KT.put {H:Hp}{kvs:List (List Key×V)}{xs:List (List Key×ty1q×ty3q)}(r:KT H kvs xs) (k:List Key) {b:ty1q}{y:V}{u:ty3q}(hb:H b=some (.tup (k.map kV))) (ry:RelV y u) :
    KT H (putK kvs k y) (storedH xs k b u):=by
  have e:(kvs.any fun kv=>decide (kv.1=k))=(atKey xs k).isSome:=by
    rw[zj1,(r.val k).isSome_eq,Option.isSome_map]
  unfold putK storedH;rw[e]
  by_cases q:(atKey xs k).isSome=true
  · rw[al12q q,al12q q];exact r.repl k ry
  · rw[al8q q,al8q q];exact Paired.snoc r ⟨rfl,hb,ry⟩
theorem KT.keeps {H H':Hp}{kvs:List (List Key×V)}{xs:List (List Key×ty1q×ty3q)}(r:KT H kvs xs) (ht:∀b ys,H b=some (.tup ys)->H' b=some (.tup ys)):KT H' kvs xs:=
  Paired.mapP r fun _ _ z=>⟨z.1,ht _ _ z.2.1,z.2.2⟩
section
variable {P:ty4q}{w:World}{H:Hp}{h:Heap}{a:ty1q}
theorem zsd {u:HO}(ok:HOk P w H h) (e:Rd H a u):ObjOk P w H h a u:=e.ok ok
theorem zfj {kvs:List (Key×V)}(ok:HOk P w H h) (e:Rd H a (.dK kvs)):kvs.length<=sizeLine/\(a == sysModules)=false/\∃vs,KV kvs vs/\h.DictOf (zbf P w) a vs:=
  show ObjOk P w H h a (.dK kvs) from zsd ok e
theorem zse {kvs:List (Key×V)}(ok:HOk P w H h) (e:H a=some (.dK kvs)):kvs.length<=sizeLine/\(a == sysModules)=false/\∃vs,KV kvs vs/\h.DictOf (zbf P w) a vs:=zfj ok (.inl e)
theorem zhn {ks:List Key}(ok:HOk P w H h) (e:H a=some (.tup (ks.map kV))):(tupleKind (zbf P w)).is h ks a:=by
  obtain⟨_,its,r,o,h1,h2,n,h3⟩:=(show ObjOk P w H h a (.tup (ks.map kV)) from ok a _ e);exact⟨o,its.toArray,n,h1,h2,h3,by simpa using zhm r⟩
theorem zk1 {kvs:List (List Key×V)}(ok:HOk P w H h) (e:Rd H a (.dT kvs)):kvs.length<=sizeLine/\(a == sysModules)=false/\
    ∃xs,KT H kvs xs/\h.DictOfH (tupleKind (zbf P w)) a xs:=by
  obtain⟨z,y,xs,r,o,es,ep,h1,h2,h3,h4,h5⟩:=(show ObjOk P w H h a (.dT kvs) from zsd ok e);refine⟨z,y,xs,r,o,es,ep,h1,h2,h3,h4,fun x hx=>?_,h5⟩;have all:∀{l:List (List Key×V)}{m:List (List Key×ty1q×ty3q)},KT H l m->∀x∈m,(tupleKind (zbf P w)).is h x.1 x.2.1:=by
    intro l m q
    induction q with
    | nil=>intro x hx;exact nomatch hx
    | @cons p q ps qs hq t ih=>
      intro x hx;rcases al21q.mp hx with e | hx
      · subst e;exact zhn ok (by rw[←hq.1];exact hq.2.1)
      · exact ih x hx
  exact all r x hx
theorem zwj {kvs:List (List Key×V)}(ok:HOk P w H h) (e:H a=some (.dT kvs)):kvs.length<=sizeLine/\(a == sysModules)=false/\
    ∃xs,KT H kvs xs/\h.DictOfH (tupleKind (zbf P w)) a xs:=zk1 ok (.inl e)
end
def DGet (H:Hp) (a:ty1q) (y:V) (r:Option V):Prop:=
  (∃kvs k,Rd H a (.dK kvs)/\y=kV k/\r=valV kvs k)\/∃kvs k b,Rd H a (.dT kvs)/\y = .ref b/\H b=some (.tup (k.map kV))/\r=valV kvs k
def DPut (H:Hp) (a:ty1q) (y v:V) (H':Hp):Prop:=
  (∃kvs k,H a=some (.dK kvs)/\y=kV k/\kvs.length<sizeLine/\H'=upd H a (.dK (putK kvs k v)))\/
  ∃kvs k b,H a=some (.dT kvs)/\y = .ref b/\H b=some (.tup (k.map kV))/\kvs.length<sizeLine/\H'=upd H a (.dT (putK kvs k v))
theorem DGet.k {H:Hp}{a:ty1q}{kvs:List (Key×V)}{k:Key}(e:H a=some (.dK kvs)):DGet H a (kV k) (valV kvs k):=.inl ⟨kvs,k,.inl e,rfl,rfl⟩
theorem DPut.k {H:Hp}{a:ty1q}{kvs:List (Key×V)}{k:Key}{v:V}(e:H a=some (.dK kvs)) (hl:kvs.length<sizeLine):DPut H a (kV k) v (upd H a (.dK (putK kvs k v))):=.inl ⟨kvs,k,e,rfl,hl,rfl⟩
theorem DPut.t {H:Hp}{a b:ty1q}{kvs:List (List Key×V)}{k:List Key}{v:V}(e:H a=some (.dT kvs)) (eb:H b=some (.tup (k.map kV))) (hl:kvs.length<sizeLine) :
    DPut H a (.ref b) v (upd H a (.dT (putK kvs k v))):=.inr ⟨kvs,k,b,e,rfl,eb,hl,rfl⟩
section
variable {X:Cx}{pins:ty91q}{σ:St}{H:Hp}{s:ty2q}{a:ty1q}{y v:V}{u r:ty3q}{o:Option V}{A:Around}{E:ty90q}
theorem Inv.big (I:Inv X pins σ H s):sysModules<s.heap.objs.size:=by
  have h:mainGlobals<s.heap.objs.size:=(I.mod.glob.keeps I.bk).lt;exact Nat.lt_trans (by decide) h
theorem zmt {Q:ty90q}(hu:A.units+1<cLine) (I:Inv X pins σ H s) (g:DGet H a y (some v)) (ry:RelV y u) (h:∀w' s',Inv X pins σ H s'->RelV v w'->Q w' s') :
    wpAny (model X.prog X.w) A (getItem (.ref a) u) Q E s:=by
  rcases g with ⟨kvs,k,e,ey,l⟩ | ⟨kvs,k,b,e,ey,eb,l⟩
  · subst ey;obtain⟨z,hd,vs,rel,dd⟩:=zfj I.hok e;obtain⟨w',hw,rw'⟩:=RelO.some_of (v:=v) (o:=valueAt vs k) (by rw[l];exact rel.val k);exact wpAny_getItem_of (zk0 ry) dd.mapOf hw (h w' _ (I.tok _) rw')
  · subst ey;cases (show u=Value.ref b from ry);obtain⟨z,hd,xs,rel,dd⟩:=zk1 I.hok e;obtain⟨w',hw,rw'⟩:=RelO.some_of (v:=v) (o:=(atKey xs k).map (·.2)) (by rw[l];exact rel.val k);obtain⟨p,hp,hp2⟩:=Option.map_eq_some_iff.mp hw;refine wpAny_getItem_heap (al172q hu) (zhn I.hok eb) dd hp ?_;rw[hp2];exact h w' _ (I.tok _) rw'
theorem d_in {Q:ty90q}(hu:A.units+1<cLine) (I:Inv X pins σ H s) (g:DGet H a y o) (ry:RelV y u) (h:∀s',Inv X pins σ H s'->Q (.bool o.isSome) s') :
    wpAny (model X.prog X.w) A (compareOp .In u (.ref a)) Q E s:=by
  rcases g with ⟨kvs,k,e,ey,l⟩ | ⟨kvs,k,b,e,ey,eb,l⟩
  · subst ey;obtain⟨z,hd,vs,rel,dd⟩:=zfj I.hok e;refine wpAny_in_of (zk0 ry) hd dd.mapOf ?_;rw[←(rel.val k).isSome_eq,←l];exact h _ (I.tok _)
  · subst ey;cases (show u=Value.ref b from ry);obtain⟨z,hd,xs,rel,dd⟩:=zk1 I.hok e;refine wpAny_in_heap (al172q hu) (zhn I.hok eb) hd dd ?_;have q:=(rel.val k).isSome_eq;rw[Option.isSome_map] at q;rw[←q,←l];exact h _ (I.tok _)
theorem zsf {Q:ty90q}(hu:A.units+1<cLine) (I:Inv X pins σ H s) (g:DGet H a y o) (ry:RelV y u) (h:∀s',Inv X pins σ H s'->Q (.bool (!o.isSome)) s') :
    wpAny (model X.prog X.w) A (compareOp .NotIn u (.ref a)) Q E s:=by
  rcases g with ⟨kvs,k,e,ey,l⟩ | ⟨kvs,k,b,e,ey,eb,l⟩
  · subst ey;obtain⟨z,hd,vs,rel,dd⟩:=zfj I.hok e;refine wpAny_notIn_of (zk0 ry) hd dd.mapOf ?_;rw[←(rel.val k).isSome_eq,←l];exact h _ (I.tok _)
  · subst ey;cases (show u=Value.ref b from ry);obtain⟨z,hd,xs,rel,dd⟩:=zk1 I.hok e;refine wpAny_notIn_heap (al172q hu) (zhn I.hok eb) hd dd ?_;have q:=(rel.val k).isSome_eq;rw[Option.isSome_map] at q;rw[←q,←l];exact h _ (I.tok _)
theorem zgh {h':Heap}{t':Nat}{ob:HO}(I:Inv X pins σ H s) (mu:Mut (H a)) (hs:Heap.SameBut a s.heap h') (he:∃q,h'.get? a=some q) (new:ObjOk X.prog X.w (upd H a ob) h' a ob) :
    Inv X pins σ (upd H a ob) { s with heap:=h',toks:=t' }:=
  I.write (x:=a) (e:=a) mu (.inl rfl) (fun b q hb z=>(hs.2 b hb).trans z) he new
theorem zmu {P:ty4q}{w:World}{H':Hp}{h':Heap}{kvs:List (Key×V)}{vs:List (Key×ty3q)}(z:kvs.length<=sizeLine) (hd:(a == sysModules)=false) (rel:KV kvs vs) (dd:h'.DictOf (zbf P w) a vs) :
    ObjOk P w H' h' a (.dK kvs):=⟨z,hd,vs,rel,dd⟩
theorem zmv {H':Hp}{Q:Unit->ty2q->Prop}(hu:A.units+1<cLine) (I:Inv X pins σ H s) (g:DPut H a y v H') (ry:RelV y u) (rv:RelV v r) (h:∀s',Inv X pins σ H' s'->Q () s') :
    wpAny (model X.prog X.w) A (setItem (.ref a) u r) Q E s:=by
  rcases g with ⟨kvs,k,e,ey,l,eH⟩ | ⟨kvs,k,b,e,ey,eb,l,eH⟩
  · subst ey eH;obtain⟨z,hd,vs,rel,dd⟩:=zse I.hok e;have hz:vs.length<=sizeLine:=by rw[←rel.length];exact z
    have hl:(putK kvs k v).length<=sizeLine:=by have:=zb8 kvs k v;lia
    refine wpAny_setItem_pairs (hsz:=hz) (zk0 ry) dd fun h' dd' hs=>h _ ?_
    have he:∃q,h'.get? a=some q:=let ⟨q,_,_,hq,_⟩:=dd';⟨q,hq⟩
    exact zgh I (by rw[e];exact True.intro) hs he (zmu hl hd (rel.put k rv) dd')
  · subst ey eH;cases (show u=Value.ref b from ry);obtain⟨z,hd,xs,rel,dd⟩:=zwj I.hok e;have hz:xs.length<=sizeLine:=by rw[←Paired.length rel];exact z
    have hl:(putK kvs k v).length<=sizeLine:=by have:=zb8 kvs k v;lia
    refine wpAny_setItem_heap (hsz:=hz) (al172q hu) (zhn I.hok eb) dd fun h' dd' hs=>h _ ?_
    obtain⟨q,es,ep,hq,h2,h3,h4,_,h5⟩:=dd';refine zgh I (by rw[e];exact True.intro) hs ⟨q,hq⟩ ⟨hl,hd,_,(rel.put k eb rv).keeps fun c ys ec=>?_,q,es,ep,hq,h2,h3,h4,h5⟩;rw[zo (zcx ec e (fun z=>nomatch z))];exact ec
end
section
variable {X:Cx}{pins:ty91q}{σ:St}{H:Hp}{s:ty2q}{a:ty1q}{kvs:List (Key×V)}{k:Key}{u:ty3q}{A:Around}{E:ty90q}
theorem zul {Q:ty90q}(I:Inv X pins σ H s) (e:Rd H a (.dK kvs)) (h:∀t s',Inv X pins σ H s'->Q (.int kvs.length t) s'):wpAny (model X.prog X.w) A (call (.builtin "len") [.ref a]) Q E s:=by
  obtain⟨z,hd,vs,rel,dd⟩:=zfj I.hok e;refine call_len_dict hd dd (by rw[←rel.length];rw[al95q] at z;lia) ?_;rw[←rel.length];exact h _ _ (I.tok _)
end
def NoSl (i:Expr):Prop:=∀ov iv,subscripted i false ov iv=operate [ov,iv] (getItem ov iv)
theorem zsg {prog:ty4q}{w:World}{A:Around}{E:ty90q}{s:ty2q}{env:Env}{value slice:Expr}{pos:Pos}{T id:String}{Q:ty90q}
    (hl:typeLookup (.type T) "__getitem__" = pure (some (.builtin id))) (hs:NoSl slice)
    (h:wpAny (model prog w) A (eval value env) (fun o s₁=>wpAny (model prog w) A (eval slice env) (fun i s₂=>s₂.TypeIs o T/\wpAny (model prog w) A (getItem o i) Q E s₂) E s₁) E s) :
    wpAny (model prog w) A (eval (.Subscript value slice pos) env) Q E s:=by
  refine Subscript_ (al51q h (fun o s₁ h₁=>al51q h₁ (fun i s₂ h₂=>?_) fun _ _ x=>x) fun _ _ x=>x);obtain⟨hT,h₂⟩:=h₂;unfold subscriptTail;refine al2q ?_;rw[getitemInPython_of_ne hT.not_modules];refine al2q (wpAny_specialOf hT hl ?_);have fin:wpAny (model prog w) A (subscripted slice false o i) (fun r s₃=>wpAny (model prog w) A (letTemporaryGo value o r >>= fun _=>pure r) Q E s₃) E s₂:=by
    rw[hs o i];exact wpAny_operating (al51q h₂ (fun r s₃ h₃=>al2q (wpAny_letTemporaryGo (al7q h₃))) fun _ _ x=>x)
  first
    | exact al7q (al2q fin)
    | exact al2q (al7q (al2q fin))
    | exact al2q fin
theorem zir {X:Cx}{pins:ty91q}{σ:St}{H:Hp}{s:ty2q}{a:ty1q}{y:V}{o:Option V}(I:Inv X pins σ H s) (g:DGet H a y o):s.TypeIs (.ref a) "dict":=by
  rcases g with ⟨kvs,k,e,_,_⟩ | ⟨kvs,k,b,e,_,_,_⟩
  · obtain⟨_,_,vs,_,dd⟩:=zfj I.hok e;exact dd.typeIs
  · obtain⟨_,_,xs,_,dd⟩:=zk1 I.hok e;exact dd.typeIs
def zwk (td ty:TE):TE:=fun σ H Q=>td σ H fun x H1=>ty σ H1 fun y H2=>∃a v,x = .ref a/\DGet H2 a y (some v)/\Q v H2
def tDIn (ty td:TE):TE:=fun σ H Q=>ty σ H fun y H1=>td σ H1 fun x H2=>∃a o,x = .ref a/\DGet H2 a y o/\Q (.bl o.isSome) H2
def zsh (ty td:TE):TE:=fun σ H Q=>ty σ H fun y H1=>td σ H1 fun x H2=>∃a o,x = .ref a/\DGet H2 a y o/\Q (.bl (!o.isSome)) H2
def zwl (td ty tv:TE):TS:=fun D σ H=>tv σ H fun v H1=>td σ H1 fun x H2=>ty σ H2 fun y H3=>∃a H4,x = .ref a/\DPut H3 a y v H4/\D.nx σ H4
section
variable {X:Cx}{o i e value:Expr}{pos pos' tpos:Pos}{td ty tv:TE}
theorem zy (hu:X.A.units+1<cLine) (ho:PE X o td) (hi:PE X i ty) (hs:NoSl i):PE X (.Subscript o i pos) (zwk td ty):=by
  intro pins s σ H Q I h;refine zsg PySem.F.slot_dict_getitem.lookup hs (thn (ho pins s σ H _ I h) fun u s1 ⟨x,H1,I1,rx,q1⟩=>thn (hi pins s1 σ H1 _ I1 q1) fun iv s2 hq0=>?_);obtain⟨y,H2,I2,ry,a,v,ex,g,q2⟩:=hq0;subst ex;obtain rfl:u=Value.ref a:=rx;exact⟨zir I2 g,zmt hu I2 g ry fun w' s3 I3 rw'=>⟨v,H2,I3,rw',q2⟩⟩
theorem zj2 (hu:X.A.units+1<cLine) (hi:PE X i ty) (ho:PE X o td):PC X .In i o (tDIn ty td):=by
  intro pins s σ H Q I h;refine thn (hi pins s σ H _ I h) fun iv s1 ⟨y,H1,I1,ry,q1⟩=>thn (ho pins s1 σ H1 _ I1 q1) fun u s2 hq0=>?_
  obtain⟨x,H2,I2,rx,a,ov,ex,g,q2⟩:=hq0;subst ex;obtain rfl:u=Value.ref a:=rx;exact d_in hu I2 g ry fun s3 I3=>⟨.bl ov.isSome,H2,I3,rfl,q2⟩
theorem zdd (hu:X.A.units+1<cLine) (hi:PE X i ty) (ho:PE X o td):PC X .NotIn i o (zsh ty td):=by
  intro pins s σ H Q I h;refine thn (hi pins s σ H _ I h) fun iv s1 ⟨y,H1,I1,ry,q1⟩=>thn (ho pins s1 σ H1 _ I1 q1) fun u s2 hq0=>?_
  obtain⟨x,H2,I2,rx,a,ov,ex,g,q2⟩:=hq0;subst ex;obtain rfl:u=Value.ref a:=rx;exact zsf hu I2 g ry fun s3 I3=>⟨.bl (!ov.isSome),H2,I3,rfl,q2⟩
theorem zbg (hu:X.A.units+1<cLine) (ho:PE X o td) (hi:PE X i ty) (hv:PE X value tv) (hs:swapsWith value (some (.Subscript o i pos')) pos.line X.env=pure false) :
    PS X (.Assign [.Subscript o i pos'] value pos) (zwl td ty tv):=by
  intro pins s σ H D I h;refine wpAny_Assign_Subscript (thn (hv pins s σ H _ I h) fun r s1 ⟨v,H1,I1,rv,q1⟩=>thn (ho pins s1 σ H1 _ I1 q1) fun u s2 ⟨x,H2,I2,rx,q2⟩=>thn (hi pins s2 σ H2 _ I2 q2) fun iv s3 hq0=>?_) hs;obtain⟨y,H3,I3,ry,a,H4,ex,g,q3⟩:=hq0;subst ex;obtain rfl:u=Value.ref a:=rx;exact zmv hu I3 g ry rv fun s4 I4=>⟨σ,H4,I4,q3⟩
end
theorem zpn {P:ty4q}{w:World}{H:Hp}(h:Heap) (hb:sysModules<h.objs.size):ObjOk P w H (h.push { cls:=.type "dict",data:=.dict #[] }) h.objs.size (.dK []):=
  ⟨al65q _,al67q.mpr (al26q (al31q hb)),[],.nil,Heap.DictOf.new h⟩
theorem zpo {P:ty4q}{w:World}{H:Hp}(h:Heap) (hb:sysModules<h.objs.size):ObjOk P w H (h.push { cls:=.type "dict",data:=.dict #[] }) h.objs.size (.dT []):=
  ⟨al65q _,al67q.mpr (al26q (al31q hb)),[],.nil,_,#[],0,al20q _ rfl,⟨rfl,rfl,rfl⟩,rfl,rfl,List.nodup_nil⟩
def zum:TE:=fun _ H Q=>∀p,H p=none->Q (.ref p) (upd H p (.dK []))
def zun:TE:=fun _ H Q=>∀p,H p=none->Q (.ref p) (upd H p (.dT []))
section
variable {X:Cx}{pos:Pos}
theorem za8:PE X (.Dict [] [] pos) zum:=fun pins s σ H Q I h=>
  wpAny_Dict_empty ⟨.ref s.heap.objs.size,_,I.laid (a:=s.heap.objs.size) (o:=.dK []) (t':=s.toks) (fun _ _ q=>al5q _ q) (al13q _) (zpn s.heap I.big),rfl,h _ (I.hok.fresh (al13q _))⟩
theorem zpp:PE X (.Dict [] [] pos) zun:=fun pins s σ H Q I h=>
  wpAny_Dict_empty ⟨.ref s.heap.objs.size,_,I.laid (a:=s.heap.objs.size) (o:=.dT []) (t':=s.toks) (fun _ _ q=>al5q _ q) (al13q _) (zpo s.heap I.big),rfl,h _ (I.hok.fresh (al13q _))⟩
end
def zfz (kvs more:List (Key×V)):List (Key×V):=more.foldl (fun acc kv=>putK acc kv.1 kv.2) kvs
theorem KV.merge:∀{more:List (Key×V)}{rs:List (Key×ty3q)}{kvs:List (Key×V)}{vs:List (Key×ty3q)},KV more rs->KV kvs vs->KV (zfz kvs more) (merged vs rs):=by
  intro more rs kvs vs r;unfold KV at r
  induction r generalizing kvs vs with
  | nil=>intro q;exact q
  | @cons p q ps qs h t ih=>
    intro r0;have e:KV (putK kvs p.1 p.2) (stored vs q.1 q.2):=by
      have:=r0.put p.1 h.2;rw[←h.1];exact this
    exact ih e
theorem zde:∀(more kvs:List (Key×V)),(zfz kvs more).length<=kvs.length+more.length
  | [],kvs=>by show kvs.length<=kvs.length+0;lia
  | p::r,kvs=>by
    have h1:=zde r (putK kvs p.1 p.2);have h2:=zb8 kvs p.1 p.2;show (zfz (putK kvs p.1 p.2) r).length<=_;rw[al99q];lia
structure M2 (X:Cx) (o:Expr) (m:Str) (apos:Pos) (e f:Expr) (cpos:Pos):Prop where
  base:attributeBase o m X.env (eval o X.env)=eval o X.env
  few:((backTo cpos (starEach [e,f] X.env)).all (fun x=>!x.1)&&(backToKw cpos (keywordEach [] X.env)).all (fun x=>x.1.isSome)
    && decide (([e,f]:List Expr).length+([]:List Keyword).length+(if ([]:List Keyword).isEmpty then 0 else 1)<30))=true
  line:(apos.endLine == cpos.line)=true
  trees:backTo cpos (starEach [e,f] X.env) = [(false,eval e X.env),(false,eval f X.env)]
def IsD (H:Hp) (a:ty1q):Prop:=(∃kvs,Rd H a (.dK kvs))\/∃kvs,Rd H a (.dT kvs)
theorem zuo {X:Cx}{pins:ty91q}{σ:St}{H:Hp}{s:ty2q}{a:ty1q}(I:Inv X pins σ H s) (d:IsD H a) :
    s.TypeIs (.ref a) "dict"/\(∀b,Value.ref a = .ref b->∃ob,s.heap.get? b=some ob/\ob.dict=none)/\(a == sysModules)=false:=by
  rcases d with ⟨kvs,e⟩ | ⟨kvs,e⟩
  · obtain⟨_,hd,vs,_,dd⟩:=zfj I.hok e;refine⟨dd.typeIs,fun b q=>?_,hd⟩;cases q;obtain⟨ob,_,_,h1,h2,_⟩:=dd;exact⟨ob,h1,h2.2.1⟩
  · obtain⟨_,hd,xs,_,dd⟩:=zk1 I.hok e;refine⟨dd.typeIs,fun b q=>?_,hd⟩;cases q;obtain⟨ob,_,_,h1,h2,_⟩:=dd;exact⟨ob,h1,h2.2.1⟩
end L2
namespace Att
open PySem PySem.W PySem.Calls PyProof.Rows
theorem zev {P:Params}{h:Heap}:∀(ns:List Int) (vs:List ty3q),WellAll P h vs (ns.map WData.int)->IntsAre vs ns:=by
  intro ns
  induction ns with
  | nil=>
    intro vs w;rw[al175q] at w;cases w;exact .nil
  | cons n ns ih=>
    intro vs w;rw[al79q] at w;cases w with
    | cons a b=>
      cases a;exact .cons _ _ (ih _ b)
theorem zmw {l:OpenLaw}{n:Nat}(hn:l.most=some n) {P:Params}{h:Heap}{args:List WData}{vals:List ty3q}
    (hpre:l.row.toRowW.claim.pre args=true) (hwl:WellAll P h vals args) :
    ∃a vs ns,vals = [Value.ref a]/\args = [WData.list (ns.map WData.int)]/\h.get? a=some { cls:=.type "list",data:=.seq vs.toArray }/\IntsAre vs ns/\ns.length<=n:=by
  have hsh:WShape.hasAll [] args [.list .int]=true:=(pre_splitW hpre).1;have hc:l.pre.holds [] { args:=args } = true:=(pre_splitW hpre).2;obtain⟨d,r,rfl,h1,h2⟩:=hasAllW_cons hsh;obtain rfl:=hasAllW_nil h2;obtain⟨xs,rfl,h3⟩:=hasW_list h1;obtain⟨ns,rfl⟩:=items_int h3;have hlen:ns.length<=n:=by
    unfold OpenLaw.pre at hc;have h4:(WTm.not (.lt (.lit (.int (n:Int))) (.len (.arg 0)))).holds [] { args:=[.list (ns.map .int)] } = true:=by
      have h4:=(holds_andW hc).1;rw[hn] at h4;exact h4
    have h5:=condW_of h4 (w_not (w_lt w_lit (w_len_list (w_arg rfl))));rw[al0q] at h5;refine al183q fun q=>?_
    have q':(n:Int)<((ns.length:Nat):Int):=by lia
    first
      | (rw[al10q q'] at h5;exact absurd h5 (by decide))
      | (simp at h5;lia)
  cases hwl with
  | cons w1 w2=>
    cases w2;cases w1 with
    | list ho hall=>exact⟨_,_,ns,rfl,rfl,ho,zev ns _ hall,hlen⟩
theorem zmx (l:OpenLaw) (args:List WData):l.row.toRowW.claim.post args (.bool true) args=true:=
  postW_of (r:=l.row.toRowW) (X:=(true == true))
    (show WShape.has [] (.bool true) .bool=true by first | rfl | decide | simp[WShape.has,WShape.arms,WShape.armsAll])
    (show (WTm.eq .res (.lit (.bool true))).value [] { args:=args,res:=some (.bool true),after:=args } = some (.bool (true == true)) from w_eq_bool (w_res rfl) w_lit) rfl
theorem attach_call {l:OpenLaw}{n:Nat}{q:ty4q}{loose:List Str}{XP:(Str->Option ty3q)->Heap->Prop}{YP:World->Heap->Prop}{d:DefRec}
    (hn:l.most=some n) (hdf:d.params.defaults = [])
    (call:∀(w:World) (s₀ s₁:ty2q) (mg mb:Str->Option ty3q) (fa:ty1q) (o:Obj) (pm cd doc:ty3q) (a:ty1q) (vs:List ty3q) (ns:List Int),
      Ground q loose [] XP w s₀ mg mb s₁.heap->YP w s₁.heap->
      s₁.heap.get? fa=some o->o.data = .func (docDef d.name d.params d.body d.scope pm cd doc)->s₁.heap.CodeRec cd d.name->mg d.name=some (.ref fa)->
      s₁.heap.get? a=some { cls:=.type "list",data:=.seq vs.toArray }->IntsAre vs ns->ns.length<=n->s₁.gens = #[]->
      codeAny (model l.prog w) callerA (.call (.ref fa) ⟨[.ref a],[]⟩) (fun r s'=>r = .ok (.ret (.bool true))/\OldK s₁.heap s'.heap/\s'.os=s₁.os/\AllBare s'.gens) s₁) :
    WalkO q loose XP YP l.row.toRowW d [] (fun f vs=>PySem.call f vs):=by
  intro w s₀ s₁ mg mb G Y fa o pm cd doc dV kV ho hd hcd hD hmg hg args vals as hpre hlay hrd hwl hlo;obtain rfl:dV = .none:=Dflts.none hD hdf;obtain rfl:kV = .none:=Dflts.noKw hD;obtain⟨a,vs,ns,rfl,rfl,hobj,hints,hlen⟩:=zmw hn hpre hwl;refine enter_call (al163q (call w s₀ s₁ mg mb fa o pm cd doc a vs ns G Y ho (fd_plain hd) hcd hmg hobj hints hlen hg) fun r s' hq=>?_);obtain⟨rfl,h2,h3,h4⟩:=hq;exact⟨.inl ⟨.bool true,.bool true,[],rfl,fun _=>rfl,.bool true,zmx l _,fun _=>⟨List.Pairwise.nil,fun _ hm=>(nomatch hm)⟩⟩,h2,h3,h4⟩
end Att
namespace L2
open PySem PySem.Spec PyProof.Rows
theorem zho:∀{vs:List ty3q}{ns:List Int},IntsAre vs ns->Vals (ns.map V.int) vs
  | _,_,.nil=>.nil
  | _,_,.cons n t h=>.cons ⟨t,rfl⟩ (zho h)
def Only (H:Hp):Prop:=∀b,H b=none\/∃o xs,H b=some (.frz o (.lst xs))
theorem zpq {P:ty4q}{w:World}{K:ty0q}{mg mb:Str->Option ty3q}{CX:CXT}{k:Nat}{fa a:ty1q}{fd:FuncData}{x:Str}{sp:Sp}{s₁:ty2q}{vs:List ty3q}{ns:List Int}
    (KX:K.In s₁.heap) (hns:s₁.heap.Ns mainGlobals mg) (hb:s₁.heap.Ns builtinsNs mb) (hbb:∀x:Str,x≠"__name__"->mb x=bootBuiltins x) (hlim:s₁.heap.NoLimit) (hg:s₁.gens = #[])
    (ha:s₁.heap.get? a=some { cls:=.type "list",data:=.seq vs.toArray }) (hi:IntsAre vs ns) (hl:ns.length<=sizeLine) (hr:Room k callerA)
    (F:∀base:Heap,K.In base->base.Ns mainGlobals mg->FnOk P w K mg base CX k fa fd [x] sp) (hbind:∀(s:ty2q) (u:ty3q),BindsTo s fd ⟨[u],[]⟩ [(x,u)])
    (hsp:∀H:Hp,Only H->SqL K H a (ns.map V.int)->sp [.ref a] H (fun v _=>v = .bl true) fun _ _ _=>False)
    (hCX:∀H e s',CX [] H s₁ (fun _ _ _=>False) e s'->False) :
    codeAny (model P w) callerA (.call (.ref fa) ⟨[.ref a],[]⟩) (fun r s'=>r = .ok (.ret (.bool true))/\OldK s₁.heap s'.heap/\s'.os=s₁.os/\AllBare s'.gens) s₁:=by
  have rv:=zho hi;have lenV:=hi.length;have core:∀H:Hp,Only H->SqL K H a (ns.map V.int)->HOk P w H s₁.heap->(∀b,H b≠none->b=a)->(H a≠none->K.lookup a=none)->
      codeAny (model P w) callerA (.call (.ref fa) ⟨[.ref a],[]⟩) (fun r s'=>r = .ok (.ret (.bool true))/\OldK s₁.heap s'.heap/\s'.os=s₁.os/\AllBare s'.gens) s₁:=by
    intro H hO hS hok hA hK;have base_of:∀{b:ty1q}{o:Obj},s₁.heap.get? b=some o->H b=none->(hidT s₁.heap H).get? b=some o:=fun e n=>zpg e n
    have noA:∀{b:ty1q}{o:Obj}{es:Array DictEntry}{ep:Nat},s₁.heap.get? b=some o->o.data = .dict es ep->H b=none:=fun {b o es ep} e d=>by
      cases q:H b with
      | none=>rfl
      | some u=>
        have e':b=a:=hA b (by rw[q];simp);subst e';rw[ha] at e;cases e;have d':Data.seq vs.toArray _=Data.dict es ep:=d;cases d'
    have nsK:∀{b:ty1q}{m:Str->Option ty3q},s₁.heap.Ns b m->(hidT s₁.heap H).Ns b m:=fun {b m} ⟨o,es,ep,e,d,r⟩=>⟨o,es,ep,base_of e (noA e d),d,r⟩
    have hKb:K.In (hidT s₁.heap H):=fun b o e=>base_of (KX b o e) (by
      cases q:H b with
      | none=>rfl
      | some u=>
        have e':b=a:=hA b (by rw[q];simp);subst e';rw[hK (by rw[q];simp)] at e;cases e)
    have hM:Mod K mg (hidT s₁.heap H):=⟨hKb,nsK hns,⟨mb,nsK hb,hbb⟩,let ⟨mc,h1,h2⟩:=hlim;⟨mc,nsK h1,h2⟩⟩;have e0:Env0 P w K mg (hidT s₁.heap H) callerA [] s₁ H:=⟨rfl,hM,fun b o e=>zr1 e,Nat.le_of_eq (zma _ _),trivial,fun b hb=>absurd (show b∈([]:List ty1q) from hb) (by simp),hok,.of_eq hg⟩;refine al163q ((F _ hKb (nsK hns)).run callerA [] s₁ H ⟨[.ref a],[]⟩ [.ref a] [.ref a] _ _ hr e0 (hbind s₁ (.ref a)) (.cons rfl .nil) (hsp H hO hS)) fun r s' h=>?_
    cases r with
    | error e=>exact (hCX H e s' h).elim
    | ok fl=>
      cases fl with
      | next=>exact False.elim h
      | brk=>exact False.elim h
      | cont=>exact False.elim h
      | ret u=>
        obtain⟨v,H',os,bare,un,hok',r',q⟩:=h;have q':v = .bl true:=q;subst q';obtain rfl:u=Value.bool true:=r';refine⟨rfl,OldK.of_keep fun b o e=>?_,os,bare⟩;cases q:H b with
        | none=>exact un.keep b o e q (by intro z;exact absurd (show b∈([]:List ty1q) from z) (by simp)) (by simp)
        | some u=>
          rcases hO b with z | ⟨ob,xs,z⟩
          · rw[q] at z;cases z
          · have z2:=un.frzs b ob _ z;obtain⟨e1,_⟩:=hok b _ z;obtain⟨e2,_⟩:=hok' b _ z2;rw[e] at e1;cases e1;exact e2
  cases hk:K.lookup a with
  | some o=>
    have e:=KX a o hk;rw[ha] at e;cases e;refine core (fun _=>none) (fun _=>.inl rfl) (.inr ⟨_,vs.toArray,_,hk,rfl,rfl,rfl,by rw[al27q,lenV];exact hl,by simpa using rv⟩) (fun b u z=>by have z':(none:Option HO)=some u:=z;cases z') (fun b z=>absurd rfl z) fun z=>absurd rfl z
  | none=>
    refine core (fun b=>if b=a then some (.frz { cls:=.type "list",data:=.seq vs.toArray } (.lst (ns.map V.int))) else none) (fun b=>?_) (.inl (.inr ⟨{ cls:=.type "list",data:=.seq vs.toArray },al12q rfl⟩)) (fun b u z=>?_) (fun b z=>?_) fun _=>hk
    · by_cases hb:b=a
      · exact .inr ⟨_,_,al12q hb⟩
      · exact .inl (al8q hb)
    · by_cases hb:b=a
      · have z':=(al12q hb).symm.trans z;cases z';subst hb;exact⟨ha,by rw[al0q];exact hl,vs,_,rv,ha⟩
      · have z':=(al8q hb).symm.trans z;cases z'
    · by_cases hb:b=a
      · exact hb
      · exact absurd (al8q hb) z
abbrev KOf {K:ty0q}{h:Heap}(_:K.In h):ty0q:=K
theorem zsi {l:PySem.W.OpenLaw}{n k:Nat}{q:ty4q}{loose:List Str}{XP:(Str->Option ty3q)->Heap->Prop}{YP:World->Heap->Prop}{d:DefRec}{K:Params->ty0q}{CX:World->CXT}{sp:World->Sp}{x:Str}
    (hn:l.most=some n) (hn2:n<=sizeLine) (hdf:d.params.defaults = []) (hr:Room k callerA)
    (hY:∀(w:World) (h:Heap),YP w h->(K w.params).In h)
    (F:∀(w:World) (mg:Str->Option ty3q) (fa:ty1q) (h:Heap),(K w.params).In h->h.Ns mainGlobals mg->mg d.name=some (.ref fa)->
      ∃fd:FuncData,(∀(s:ty2q) (u:ty3q),BindsTo s fd ⟨[u],[]⟩ [(x,u)])/\
        ∀base:Heap,(K w.params).In base->base.Ns mainGlobals mg->FnOk l.prog w (K w.params) mg base (CX w) k fa fd [x] (sp w))
    (hsp:∀(w:World) (H:Hp) (a:ty1q) (ns:List Int),ns.length<=n->Only H->SqL (K w.params) H a (ns.map V.int)->sp w [.ref a] H (fun v _=>v = .bl true) fun _ _ _=>False)
    (hCX:∀(w:World) (H:Hp) (s:ty2q) (e:ty3q) (s':ty2q),CX w [] H s (fun _ _ _=>False) e s'->False) :
    PySem.W.WalkO q loose XP YP l.row.toRowW d [] (fun f vs=>PySem.call f vs):=by
  refine Att.attach_call hn hdf fun w s₀ s₁ mg mb fa o pm cd doc a vs ns G Y ho hd hcd hmg hobj hints hlen hg=>?_
  have KX:=hY w _ Y;obtain⟨fd,hb,hF⟩:=F w mg fa _ KX G.T.g hmg;exact zpq KX G.T.g G.T.b G.T.builtins G.T.nolimit hg hobj hints (al58q hlen hn2) hr hF hb (fun H hO hS=>hsp w H a ns hlen hO hS) fun H e s'=>hCX w H s₁ e s'
theorem walk_ofK {l:PySem.W.OpenLaw}{n k:Nat}{q:ty4q}{loose:List Str}{XP:(Str->Option ty3q)->Heap->Prop}{YP:World->Heap->Prop}{d:DefRec}{K:Params->ty0q}{CX:CXT}{sp:ty0q->Sp}{x:Str}
    (hn:l.most=some n) (hn2:n<=sizeLine) (hdf:d.params.defaults = []) (hr:Room k callerA)
    (hY:∀(w:World) (h:Heap),YP w h->(K w.params).In h)
    (F:∀(w:World) (mg:Str->Option ty3q) (fa:ty1q) (h:Heap),(K w.params).In h->h.Ns mainGlobals mg->mg d.name=some (.ref fa)->
      ∃fd:FuncData,(∀(s:ty2q) (u:ty3q),BindsTo s fd ⟨[u],[]⟩ [(x,u)])/\
        ∀base:Heap,(K w.params).In base->base.Ns mainGlobals mg->FnOk l.prog w (K w.params) mg base CX k fa fd [x] (sp (K w.params)))
    (hsp:∀(K:ty0q) (H:Hp) (a:ty1q) (ns:List Int),ns.length<=n->Only H->SqL K H a (ns.map V.int)->sp K [.ref a] H (fun v _=>v = .bl true) fun _ _ _=>False)
    (hCX:∀(H:Hp) (s:ty2q) (e:ty3q) (s':ty2q),CX [] H s (fun _ _ _=>False) e s'->False) :
    PySem.W.WalkO q loose XP YP l.row.toRowW d [] (fun f vs=>PySem.call f vs):=
  zsi (K:=K) (CX:=fun _=>CX) (sp:=fun w=>sp (K w.params)) hn hn2 hdf hr hY F (fun w H a ns h1 h2 h3=>hsp (K w.params) H a ns h1 h2 h3) fun _ H s e s'=>hCX H s e s'
def zgi (s:Stmt) (j:Nat):Stmt:=match s with
  | .ClassDef _ _ _ body _ _ _ _ _ _ _=>body.getD j (.Pass ⟨0,0,0,0⟩)
  | _=>.Pass ⟨0,0,0,0⟩
def zc5 (s:Stmt):Arguments:=match s with
  | .FunctionDef _ a _ _ _ _ _ _ _ _=>a
  | _=>{ posonlyargs:=[],args:=[],vararg:=none,kwonlyargs:=[],kw_defaults:=[],kwarg:=none,defaults:=[] }
def zbv (s:Stmt):List Stmt:=match s with
  | .FunctionDef _ _ b _ _ _ _ _ _ _=>b
  | _=>[]
def zp (s:Stmt):Scope:=match s with
  | .FunctionDef _ _ _ _ _ _ sc _ _ _=>sc
  | _=>{ kind:=.function,names:=[],isGenerator:=false,isCoroutine:=false }
abbrev CX0:CXT:=fun _ _ _ _ _ _=>False
abbrev E0:XK:=fun _ _ _=>False
theorem zwm {X:Cx}:zhe CX0 X E0:=fun _ _ _ _ _ _ _ h=>h.elim
structure Fun (K:ty0q) (x qual:Str) (st:Stmt) (f:ty1q) (fd:FuncData):Prop where
  ex:∃(oc:ty3q) (od:Option ty1q) (kV doc pm:ty3q) (an:Option ty1q) (cdv ct:ty3q) (osl:Array (Option ty3q)),
    fd=PySem.W.fnOf x qual (zc5 st) (zbv st) (zp st) .none kV doc pm an cdv ct/\K.lookup f=some ⟨oc,od,.func fd,osl⟩/\PySem.W.codeIn K cdv qual=true
  kp:PySem.W.keepIn K (.ref f)=true
section
variable {P:ty4q}{w:World}{K:ty0q}{mg:Str->Option ty3q}{base:Heap}
theorem Fun.ok {x qual:Str}{st:Stmt}{f:ty1q}{fd:FuncData}{N ps:List Str}{k:Nat}{sp:Sp}(F:Fun K x qual st f fd) (S:FnScope N ps (zp st)) (len:∀vs H Q E,sp vs H Q E->vs.length=ps.length)
    (hbody:∀(cdv:ty3q) (A:Around) (outer:List Env) (s:ty2q) (H:Hp) (vs:List V) (Q:VK) (E:XK),Room k (A.deeper (envOfC qual (zp st) s.heap.objs.size f cdv))->sp vs H Q E->
      ∃t,PSs (cxOf CX0 P w K mg base N qual (zp st) f cdv A outer s H E).nox (zbv st) t/\t { nx:=fun _ H'=>Q .non H',rt:=Q } (start N vs) H):FnOk P w K mg base CX0 (k+1) f fd ps sp:=by
  obtain⟨oc,od,kV,doc,pm,an,cdv,ct,osl,rfl,lk,hcd⟩:=F.ex;refine zug lk hcd S len fun A outer s H vs Q E hr hsp=>?_
  obtain⟨t,h,q⟩:=hbody cdv A outer s H vs Q E hr hsp;exact⟨t,h.nox,q⟩
theorem zrh {x qual:Str}{st:Stmt}{f:ty1q}{oc:ty3q}{od an:Option ty1q}{osl:Array (Option ty3q)}{kV doc pm cdv ct:ty3q}(l:K.lookup f=some ⟨oc,od,.func (PySem.W.fnOf x qual (zc5 st) (zbv st) (zp st) .none kV doc pm an cdv ct),osl⟩)
    (c:PySem.W.codeIn K cdv qual=true) (k:PySem.W.keepIn K (.ref f)=true):Fun K x qual st f (PySem.W.fnOf x qual (zc5 st) (zbv st) (zp st) .none kV doc pm an cdv ct):=⟨⟨oc,od,kV,doc,pm,an,cdv,ct,osl,rfl,l,c⟩,k⟩
end
theorem zbw {A:Around}{k:Nat}(hr:Room k A):A.units+1<cLine:=al173q (Nat.add_le_add_left (by decide:1<=64) _) hr.units
theorem zz {n:Nat}(h:n<=1000):n<sizeLine:=al173q h (by decide)
section
variable {X:Cx}
theorem pv (i:Nat) {x:Str}{pos:Pos}(hN:X.N[i]? = some x:=by rfl) (hv:Vis X.env.scope x:=by first | exact Or.inl rfl | exact Or.inr (Or.inl rfl) | exact Or.inr (Or.inr rfl)) (hd:(x == ("__debug__" : Str))=false:=by decide)
    (hcd:(x == ("__classdict__" : Str))=false:=by decide):PE X (.Name x pos) (tVar i):=zt6 hN hv hd hcd
end
theorem iteF {A B:Prop}(h:B):if false=true then A else B:=by
  rw[al8q al23q];exact h
theorem iteT {A B:Prop}(h:A):if true=true then A else B:=by
  rw[al12q rfl];exact h
theorem ite2 {c A B:Prop} [Decidable c] (h1:c->A) (h2:¬c->B):if c then A else B:=by
  by_cases h:c
  · rw[al12q h];exact h1 h
  · rw[al8q h];exact h2 h
def Same (H H':Hp):Prop:=∀b o,H b=some o->H' b=some o
theorem Same.refl (H:Hp):Same H H:=fun _ _ h=>h
theorem Same.trans {H H1 H2:Hp}(a:Same H H1) (b:Same H1 H2):Same H H2:=fun c o h=>b c o (a c o h)
theorem Same.free {H H':Hp}(e:Same H H') {l:ty1q}(h:H' l=Option.none):H l=Option.none:=by
  cases q:H l with
  | none=>rfl
  | some o=>
    rw[e l o q] at h;cases h
theorem Same.seq {K:ty0q}{H H':Hp}{a:ty1q}{xs:List V}(e:Same H H') (h:SqL K H a xs):SqL K H' a xs:=by
  rcases h with (h | ⟨o,h⟩) | h
  · exact .inl (.inl (e _ _ h))
  · exact .inl (.inr ⟨o,e _ _ h⟩)
  · exact .inr h
section
variable {X:Cx}
theorem zmy:zbr X (.builtin "len") (fun xs H Q=>∃a kvs,xs = [V.ref a]/\H a=some (.dK kvs)/\Q (.int kvs.length) H):=by
  intro pins s σ H xs us Q I r h;obtain⟨a,kvs,rfl,ha,q⟩:=h;obtain⟨u,rfl,ru⟩:=zb3 r;cases ru;exact zul I (.inl ha) fun t s' I'=>⟨.int kvs.length,H,I',⟨t,rfl⟩,q⟩
end
def zb7 (cells:List (Str×ty1q)):List (Str×NameKind)->List (Str×ty1q)->List (Str×ty1q)
  | [],cs=>cs
  | (n,k)::r,cs=>zb7 cells r (if (k == NameKind.free)=true then (match cells.lookup n with | some c=>(n,c)::cs | none=>cs) else cs)
theorem zd5 {scope:Scope}{env:Env}(h:∀x∈scope.names,x.2 = .free->∃c,env.cells.lookup x.1=some c):closureFor scope env=pure (zb7 env.cells scope.names []):=by
  unfold closureFor;have go:∀(names:List (Str×NameKind)) (cs:List (Str×ty1q)),(∀x∈names,x.2 = .free->∃c,env.cells.lookup x.1=some c)->
      (forIn names cs (fun (x:Str×NameKind) (r:List (Str×ty1q))=>if (x.2 == NameKind.free)=true then (do let a ←cellOf env x.1;pure (ForInStep.yield ((x.1,a)::r))) else pure (ForInStep.yield r)):Sem (List (Str×ty1q)))=pure (zb7 env.cells names cs):=by
    intro names
    induction names with
    | nil=>intro cs _;rfl
    | cons x r ih=>
      intro cs hc;obtain⟨n,k⟩:=x;have hr:∀y∈r,y.2 = .free->∃c,env.cells.lookup y.1=some c:=fun y hy=>hc y (al19q _ hy)
      rw[al153q];cases e:(k == NameKind.free) with
      | true=>
        obtain⟨c,hl⟩:=hc (n,k) al56q (by simpa using e);have hl':env.cells.lookup n=some c:=hl;have ec:cellOf env n=pure c:=by unfold cellOf;rw[hl']
        show (_ >>= _)=pure (zb7 env.cells r (if (k == NameKind.free)=true then _ else _));rw[e,hl'];simp only [if_true,ec,pure_bind];exact ih _ hr
      | false=>
        show (_ >>= _)=pure (zb7 env.cells r (if (k == NameKind.free)=true then _ else _));rw[e];simp only [al84q,al151q,pure_bind];exact ih _ hr
  exact (al61q (· >>= fun r=>pure r) (go scope.names [] h)).trans (pure_bind _ _)
theorem za6 {α:Type}{y n:Str}{c:α}{r:List (Str×α)}(h:y=n):((n,c)::r).lookup y=some c:=by
  subst h;simp
theorem zbi {α:Type}{y n:Str}{c:α}{r:List (Str×α)}(h:¬y=n):((n,c)::r).lookup y=r.lookup y:=by
  rw[List.lookup_cons,al67q.mpr h]
theorem zew {cells:List (Str×ty1q)}{n:Str}{k:NameKind}{cs:List (Str×ty1q)}(hs:∀y d,cs.lookup y=some d->cells.lookup y=some d) :
    ∀y d,(if (k == NameKind.free)=true then (match cells.lookup n with | some c=>(n,c)::cs | none=>cs) else cs).lookup y=some d->cells.lookup y=some d:=by
  intro y d h;split at h
  · split at h
    · rename_i c hc
      by_cases hy:y=n
      · rw[za6 hy] at h;rw[hy,hc];exact h
      · rw[zbi hy] at h;exact hs y d h
    · exact hs y d h
  · exact hs y d h
theorem zdp (cells:List (Str×ty1q)):∀(names:List (Str×NameKind)) (cs:List (Str×ty1q)),(∀y d,cs.lookup y=some d->cells.lookup y=some d)->
    ∀y d,(zb7 cells names cs).lookup y=some d->cells.lookup y=some d
  | [],_,hs,y,d,h=>hs y d h
  | (n,k)::r,cs,hs,y,d,h=>zdp cells r _ (zew hs) y d h
theorem zf0 (cells:List (Str×ty1q)) {x:Str}{c:ty1q}(hc:cells.lookup x=some c):∀(names:List (Str×NameKind)) (cs:List (Str×ty1q)),(∀y d,cs.lookup y=some d->cells.lookup y=some d)->
    ((x,NameKind.free)∈names\/cs.lookup x=some c)->(zb7 cells names cs).lookup x=some c
  | [],_,_,h=>by
    rcases h with h | h
    · cases h
    · exact h
  | (n,k)::r,cs,hs,h=>by
    refine zf0 cells hc r _ (zew hs) ?_
    by_cases hx:(x,NameKind.free)=(n,k)
    · cases hx
      right
      rw[al12q (by rfl),hc];exact za6 rfl
    · rcases h with h | h
      · rcases al21q.mp h with h | h
        · exact absurd h hx
        · exact .inl h
      · right
        split
        · split
          · rename_i c' hc'
            by_cases hn:x=n
            · rw[za6 hn];rw[hn,hc'] at hc;exact hc
            · rw[zbi hn];exact h
          · exact h
        · exact h
theorem zb4 (env:Env) (x:Str):∀names:List (Str×NameKind),
    (names.map fun (n,k)=>if (k == NameKind.free&&env.scope.kind == .function&&env.kindOf n == some .cell) then (n,NameKind.cell) else (n,k)).lookup x =
      (names.lookup x).map fun k=>if (k == NameKind.free&&env.scope.kind == .function&&env.kindOf x == some .cell) then NameKind.cell else k
  | []=>rfl
  | (n,k)::r=>by
    have ih:=zb4 env x r;rw[al79q]
    by_cases hx:x=n
    · subst hx;rw[za6 rfl];show List.lookup x ((if (k == NameKind.free&&env.scope.kind == .function&&env.kindOf x == some .cell)=true then (x,NameKind.cell) else (x,k))::_)=some (if (k == NameKind.free&&env.scope.kind == .function&&env.kindOf x == some .cell)=true then NameKind.cell else k)
      by_cases hc:(k == NameKind.free&&env.scope.kind == .function&&env.kindOf x == some .cell)=true
      · rw[al12q hc,al12q hc];exact za6 rfl
      · rw[al8q hc,al8q hc];exact za6 rfl
    · rw[zbi hx,←ih];show List.lookup x ((if (k == NameKind.free&&env.scope.kind == .function&&env.kindOf n == some .cell)=true then (n,NameKind.cell) else (n,k))::_)=_
      by_cases hc:(k == NameKind.free&&env.scope.kind == .function&&env.kindOf n == some .cell)=true
      · rw[al12q hc];exact zbi hx
      · rw[al8q hc];exact zbi hx
theorem zhp {scope:Scope}{env:Env}{x:Str}(h:scope.names.lookup x=some .free):(relabel scope env).names.lookup x=some .cell\/(relabel scope env).names.lookup x=some .free:=by
  have e:=zb4 env x scope.names;rw[h] at e;have e':(relabel scope env).names.lookup x=some (if (NameKind.free == NameKind.free&&env.scope.kind == .function&&env.kindOf x == some .cell)=true then NameKind.cell else NameKind.free):=e;rw[e'];split
  · exact .inl rfl
  · exact .inr rfl
theorem zhq {scope:Scope}{env:Env}{x:Str}(nc:∀y∈scope.names,y.2≠.cell) (h:(relabel scope env).names.lookup x=some .cell\/(relabel scope env).names.lookup x=some .free):(x,NameKind.free)∈scope.names:=by
  have e:=zb4 env x scope.names;have e':(relabel scope env).names.lookup x=_:=e;cases q:scope.names.lookup x with
  | none=>
    rw[q] at e';rw[e'] at h;rcases h with h | h<;>cases h
  | some k=>
    rw[q] at e';have m:=PySem.mem_of_lookup q;cases k with
    | free=>exact m
    | cell=>exact absurd rfl (nc _ m)
    | _=>
      rw[e'] at h;rcases h with h | h<;>cases h
structure CompScope (scope osc:Scope) (cap:List Str):Prop where
  kind:scope.kind = .function
  nocell:∀y∈scope.names,y.2≠.cell
  loc:∀y∈scope.names,y.2 = .local->scope.names.lookup y.1=some .local
  free:∀y∈scope.names,y.2 = .free->osc.names.lookup y.1=some .cell\/osc.names.lookup y.1=some .free
  cap:∀x∈cap,scope.names.lookup x=some .free
def cxC (X:Cx) (N:List Str) (scope:Scope) (C:ty1q) (s:ty2q) (H:Hp) (ex:List ty1q):Cx where
  prog:=X.prog
  w:=X.w
  K:=X.K
  mg:=X.mg
  base:=X.base
  A:=X.A
  N:=N
  s₀:=s
  H₀:=H
  env:=compEnvC scope (zb7 X.env.cells scope.names []) C X.env
  outer:=X.stack
  stack:=X.stack
  ex:=ex
  fn:=fun _=>false
  calm:=X.calm
  pn:=[]
  xe:=fun _ _=>False
def st0 (own:List Str) (ix:List Nat) (σ:St):St:=own.map (fun _=>none)++ix.map fun i=>(σ[i]?).join
theorem zf1 {X:Cx}{pins:ty91q}{σ:St}{H:Hp}{s:ty2q}{scope:Scope}{cap:List Str}(I:Inv X pins σ H s) (S:CompScope scope X.env.scope cap) :
    closureFor scope X.env=pure (zb7 X.env.cells scope.names []):=
  zd5 fun x hx hf=>I.ok.has x.1 (S.free x hx hf)
theorem zpr {X:Cx}{pins:ty91q}{σ:St}{H:Hp}{s:ty2q}{scope:Scope}{own cap:List Str}{ix:List Nat}{fp:List ty1q}{h₁:Heap}{m:Str->Option ty3q}{tk:Nat}
    (I:Inv X pins σ H s) (S:CompScope scope X.env.scope cap) (hix:ix.map (fun i=>X.N[i]?)=cap.map some) (hf:∀b∈fp,FpOk X pins H b) (hlt:∀b∈fp,b<s.heap.objs.size)
    (hn:h₁.Ns s.heap.objs.size m) (hk:∀b o,s.heap.get? b=some o->h₁.get? b=some o) :
    Inv (cxC X (own++cap) scope s.heap.objs.size s H fp) [] (st0 own ix σ) H { s with heap:=h₁,toks:=tk }:=by
  have sub:∀y d,(zb7 X.env.cells scope.names []).lookup y=some d->X.env.cells.lookup y=some d:=zdp _ _ _ (fun y d h=>by cases h);have has:∀y c,(y,NameKind.free)∈scope.names->X.env.cells.lookup y=some c->(zb7 X.env.cells scope.names []).lookup y=some c:=fun y c hy hc=>zf0 _ hc _ _ (fun y d h=>by cases h) (.inl hy)
  have hlen:ix.length=cap.length:=by
    have:=al61q List.length hix;simpa using this
  refine⟨⟨I.mod,S.kind,I.ok.glob,I.ok.blt,al13q _,fun x y c e1 e2=>I.ok.inj x y c (sub _ _ e1) (sub _ _ e2),fun x hx=>?_,fun x c z=>(by cases z),I.ok.hd,I.ok.frames,.inl rfl,fun b hb=>⟨al31q (hlt b hb),fun x c e=>(hf b hb).2.2.2.2.1 x c (sub _ _ e)⟩,I.bs,
      al58q I.ok.bsz I.sz,fun b o e hb=>?_,fun b hb z=>?_,I.stack,I.stkFree⟩,rfl,I.bare,Un.kept hk,⟨m,hn,fun i x v e1 e2 e3=>?_⟩,fun x c e=>?_,I.hok.fresh (al13q _),fun x c e=>I.freeC x c (sub _ _ e),fun p hp=>absurd (show p∈([]:ty91q) from hp) (by simp),I.hok.kept hk,?_⟩
  · have m':=zhq (env:=X.env) S.nocell hx;obtain⟨c,hc⟩:=I.ok.has x (S.free _ m' rfl);exact⟨c,has x c m' hc⟩
  · obtain⟨f0,f1,f2,f3,f4,f5⟩:=hf b hb;rcases f3 with z | z
    · exact I.ok.noex b o e z
    · exact absurd (al37q (al37q (al14q e) I.ok.bsz) z) (al53q _)
  · obtain⟨f0,f1,f2,f3,f4,f5⟩:=hf b hb;rcases al21q.mp (I.stkSub b z) with z | z
    · exact f1 z
    · exact f2 z
  · have e1:(own++cap)[i]? = some x:=e1;unfold st0 at e2
    by_cases hi:i<own.length
    · rw[al47q (by simpa using hi),al4q] at e2;cases q:own[i]? with
      | none=>rw[q] at e2;cases e2
      | some y=>rw[q] at e2;cases e2
    · rw[al50q (by simpa using hi)] at e1;rw[al50q (by simpa using hi),al0q,al4q] at e2;generalize i-own.length=j at e1 e2;cases q:ix[j]? with
      | none=>rw[q] at e2;cases e2
      | some k=>
        rw[q] at e2;have e2:(σ[k]?).join=some v:=al41q e2;have eσ:σ[k]? = some (some v):=by
          cases q2:σ[k]? with
          | none=>rw[q2] at e2;cases e2
          | some o=>rw[q2] at e2;exact al61q some e2
        have eN:X.N[k]? = some x:=by
          have:=al61q (fun l=>l[j]?) hix;simp only [al4q,q,e1,Option.map_some] at this;exact al41q this
        have hfr:=S.cap x (al6q e1);have hmem:=PySem.mem_of_lookup hfr;have hout:=S.free _ hmem rfl;obtain⟨m0,hn0,hl⟩:=I.loc;obtain⟨u,r,l⟩:=hl k x v eN eσ (.inr hout);rcases l with ⟨kd,_⟩ | ⟨kd,c,e,z⟩
        · have kd:X.env.scope.names.lookup x=some .local:=kd;rcases hout with ho | ho<;>(have ho:X.env.scope.names.lookup x=_:=ho;rw[kd] at ho;cases ho)
        · exact⟨u,r,.inr ⟨zhp hfr,c,has x c hmem e,z.keeps hk⟩⟩
  · obtain⟨v,q⟩:=I.cell x c (sub _ _ e);exact⟨v,q.keeps hk⟩
  · show (st0 own ix σ).length=(own++cap).length;unfold st0;simp[hlen]
theorem zps {X:Cx}{pins:ty91q}{σ σ':St}{H H':Hp}{s s':ty2q}{scope:Scope}{N:List Str}{fp:List ty1q}{h':Heap}
    (I:Inv X pins σ H s) (hf:∀b∈fp,FpOk X pins H b) (J:Inv (cxC X N scope s.heap.objs.size s H fp) [] σ' H' s') (hs:Heap.SameBut s.heap.objs.size s'.heap h'):Inv X pins σ H' { s' with heap:=h' }:=by
  have ne:∀b o,s.heap.get? b=some o->b≠s.heap.objs.size:=fun b o e=>al31q (al14q e)
  have B:Un (frs X.stack) fp H H' s.heap s'.heap:=J.base;refine I.call' (s':={ s' with heap:=h' }) (ch:=fp) J.os ⟨fun b o e n hb hx=>?_,fun b o e n hb hx=>?_,B.free,fun b o e hx=>?_,B.tups,B.frzs,B.tbls⟩ (fun b ob e=>?_) J.bare fun b hb=>?_
  · exact (hs.2 b (ne b o e)).trans (B.keep b o e n hb hx)
  · obtain⟨sl,e1⟩:=B.slot b o e n hb hx;exact⟨sl,(hs.2 b (ne b o e)).trans e1⟩
  · obtain⟨o',e1⟩:=B.there b o e hx;exact⟨o',(hs.2 b (ne b o e)).trans e1⟩
  · have fr:H' s.heap.objs.size=none:=J.free;refine (J.hok b ob e).stay (fun c w' hc q=>(hs.2 c ?_).trans q) (fun _ q=>q) fun _ _ q=>q
    rintro rfl;rcases hc with hc | hc
    · rw[←hc,fr] at e;cases e
    · rw[fr] at hc;cases hc
  · obtain⟨f0,f1,f2,f3,f4,f5⟩:=hf b hb;exact⟨f3,f1,f4,f5⟩
def PIf (X:Cx) (ifs:List Expr) (t:TT):Prop:=
  ∀(pins:ty91q) (s:ty2q) (σ:St) (H:Hp) (Q:Bool->Hp->Prop),Inv X pins σ H s->t σ H Q->
    wpAny (model X.prog X.w) X.A (forIn ifs true fun c r=>if r=true then do let ok ←isTrue c X.env (eval c X.env);pure (ForInStep.yield ok) else pure (ForInStep.yield r)) (TP X pins σ Q) X.xe s
def tYes:TT:=fun _ H Q=>Q true H
theorem zbp {X:Cx}:PIf X [] tYes:=fun _ s σ H Q I h=>wpAny_tests_nil ⟨H,I,h⟩
theorem zmz {X:Cx}{c:Expr}{t:TT}(h:PT X c t):PIf X [c] t:=fun pins s σ H Q I hw=>wpAny_tests_one (h pins s σ H Q I hw)
theorem zcy {prog:ty4q}{w:World}{A:Around}{R:Result->ty2q->Prop}{s:ty2q}{elt target iter:Expr}{ifs:List Expr}{scope:Scope}{pos:Pos}{it acc:ty3q}{env:Env}(I:Nat->ty2q->Prop)
    (turn:∀n s,I n s->wpAny (model prog w) A (pyNext it) (fun r s₁=>match r with
      | none=>R (.ok .next) s₁
      | some v=>wpAny (model prog w) A (letOwnedTupleGo target it v) (fun _ s₁'=>wpAny (model prog w) A (assign target env v) (fun _ s₂=>
          wpAny (model prog w) A (forIn ifs true fun c r=>if r=true then do let ok ←isTrue c env (eval c env);pure (ForInStep.yield ok) else pure (ForInStep.yield r)) (fun ok s₃=>
            if ok=true then wpAny (model prog w) A (eval elt env) (fun x s₄=>
              wpAny (model prog w) A (call (.builtin "list.append") [acc,x]) (fun _ s₅=>∃m,m<n/\I m s₅) (notedBy (model prog w) A env fun e s'=>R (.error e) s') s₄) (notedBy (model prog w) A env fun e s'=>R (.error e) s') s₃
            else ∃m,m<n/\I m s₃) (notedBy (model prog w) A env fun e s'=>R (.error e) s') s₂) (notedBy (model prog w) A env fun e s'=>R (.error e) s') s₁') (notedBy (model prog w) A env fun e s'=>R (.error e) s') s₁) (notedBy (model prog w) A env fun e s'=>R (.error e) s') s)
    (n:Nat) (h:I n s):codeAny (model prog w) A (.compLoop (.ListComp elt [⟨target,iter,ifs,0⟩] scope pos) 0 it acc env) R s:=by
  refine codeAny_loop rfl I (fun n s hI=>?_) n h;show wpAny _ A ((compTurn (.ListComp elt [⟨target,iter,ifs,0⟩] scope pos) 0 it acc env).onRaise (fun x=>do noteFrame x env;theTreesLotGoes x)) _ _ s;refine wpAny_noted ?_;rw[compTurn_list];refine al2q (al167q (al2q (al51q (turn n s hI) (fun r s₁ h₁=>?_) fun _ _ h'=>h')));cases r with
  | none=>exact al7q h₁
  | some v=>
    refine al2q (al51q h₁ (fun _ s₁' h₁'=>?_) fun _ _ h'=>h');refine al2q (al51q h₁' (fun _ s₂ h₂=>al2q (al51q h₂ (fun ok s₃ h₃=>?_) fun _ _ h'=>h')) fun _ _ h'=>h');cases ok with
    | false=>exact al7q ⟨rfl,h₃⟩
    | true=>
      exact al2q (al2q (al51q h₃ (fun x s₄ h₄=>al2q (al51q h₄ (fun _ s₅ h₅=>al7q (al7q ⟨rfl,h₅⟩)) fun _ _ h'=>h')) fun _ _ h'=>h'))
def zpt (own:List Str) (ix:List Nat) (J:It) (g:TG) (tc:TT) (te:TE) (σ:St) (H1:Hp) (D:ty1q) (Q:VK):Prop:=
  ∃W:Nat->Nat->St->List V->Hp->Prop,(∃m,W 0 m (st0 own ix σ) [] (upd H1 D (.lst [])))/\∀i m σ' ys H',W i m σ' ys H'->H' D=some (.lst ys)/\
    ((J.stop i H'/\Q (.ref D) H')\/(J.go i H'/\ys.length<sizeLine/\∀x H2,J.yld i H' x H2->g x σ' H2 fun σ3 H3=>tc σ3 H3 fun b H4=>
      if b=true then te σ3 H4 fun y H5=>H5 D=some (.lst ys)/\∃m',m'<m/\W (i+1) m' σ3 (ys++[y]) (upd H5 D (.lst (ys++[y]))) else H4 D=some (.lst ys)/\∃m',m'<m/\W (i+1) m' σ3 ys H4))
def zup (own:List Str) (ix:List Nat) (wi:TI) (g:TG) (tc:TT) (te:TE):TE:=fun σ H Q=>wi σ H fun J H1=>∀D,H1 D=none->zpt own ix J g tc te σ H1 D Q
section
variable {X:Cx}{tg iter elt:Expr}{ifs:List Expr}{scope:Scope}{pos:Pos}{own cap:List Str}{ix:List Nat}{wi:TI}{g:TG}{tc:TT}{te:TE}
theorem zj3 {pins:ty91q}{σ:St}{s:ty2q}{E:ty90q}{RR:ty3q->ty1q->Result->ty2q->Prop}{Q:VK}
    (hc:X.calm=true) (S:CompScope scope X.env.scope cap) (hix:ix.map (fun i=>X.N[i]?)=cap.map some)
    (hg:∀C s H ex,PG (cxC X (own++cap) scope C s H ex) tg g) (ht:∀C s H ex,PIf (cxC X (own++cap) scope C s H ex) ifs tc) (he:∀C s H ex,PE (cxC X (own++cap) scope C s H ex) elt te)
    {itv:ty3q}(h:PIE X pins σ tg (fun J H1=>∀D,H1 D=none->zpt own ix J g tc te σ H1 D Q) itv s)
    (hR:∀(D C:ty1q) (s':ty2q) (H':Hp) (m:Str->Option ty3q),s'.heap.Ns C m->FpOk X pins H' C->(∀h',Heap.SameBut C s'.heap h'->Inv X pins σ H' { s' with heap:=h' })->Q (.ref D) H'->RR (.ref D) C (.ok .next) s') :
    wpAny (model X.prog X.w) X.A (newList []) (fun acc s₃=>wpAny (model X.prog X.w) X.A (newFunctionEnv scope X.env.globals (zb7 X.env.cells scope.names []) [] X.env.qual none .none (some X.env)) (fun cenv s₄=>
      codeAny (model X.prog X.w) X.A (.compStart (.ListComp elt [⟨tg,iter,ifs,0⟩] scope pos) 0 itv acc { cenv with scope:=relabel scope X.env }) (RR acc cenv.locals) s₄) E s₃) E s:=by
  obtain⟨it,fp,tn,J,H2,rfl,I2,T,st2,f2,q2⟩:=h;refine al70q (wpAny_newFunctionEnv S.nocell (by intro y hy;simp at hy) (fun h₁ hns₁ hsb₁=>?_) S.kind);dsimp only at hns₁ hsb₁ ⊢;have hD:H2 s.heap.objs.size=none:=I2.hok.fresh (al13q _);obtain⟨W,⟨m0,w0⟩,turn⟩:=q2 s.heap.objs.size hD;have I3:Inv X pins σ (upd H2 s.heap.objs.size (.lst [])) { s with heap:=s.heap.push { cls:=.type "list",data:=.seq ([]:List ty3q).toArray } }:=I2.lnew (t':=s.toks) (its:=[]) .nil (al65q _);have ltD:∀b∈fp,b<s.heap.objs.size:=fun b hb=>by
    obtain⟨o,e,_⟩:=T.obj 0 _ st2 b hb;exact al14q e
  have f3:∀b∈fp,FpOk X pins (upd H2 s.heap.objs.size (.lst [])) b:=fun b hb=>⟨by rw[zo (al31q (ltD b hb))];exact (f2 b hb).1,(f2 b hb).2⟩
  generalize hH:s.heap.push { cls:=.type "list",data:=.seq ([]:List ty3q).toArray } = H3 at I3 hns₁ hsb₁ ⊢;have sz:H3.objs.size=s.heap.objs.size+1:=by rw[←hH,al109q]
  have up:∀b o,H3.get? b=some o->h₁.get? b=some o:=fun b o e=>hsb₁.extBut b o (al31q (al14q e)) (al5q _ e)
  have old:∀b o,s.heap.get? b=some o->h₁.get? b=some o:=fun b o e=>up b o (by rw[←hH];exact al5q _ e)
  have lt3:∀b∈fp,b<({ s with heap:=H3 }:ty2q).heap.objs.size:=fun b hb=>by show b<H3.objs.size;rw[sz];exact al113q (ltD b hb)
  have st4:tn 0 h₁:=T.keep _ _ _ st2 fun b _ o e=>old b o e
  have stat:∀{H':Hp},(∀b∈fp,H' b=none)->∀b∈fp,FpOk (cxC X (own++cap) scope H3.objs.size { s with heap:=H3 } (upd H2 s.heap.objs.size (.lst [])) fp) [] H' b:=fun hn b hb=>
    ⟨hn b hb,al31q (lt3 b hb),fun z=>(al21q.mp (I3.stkSub b z)).elim (f2 b hb).2.1 (f2 b hb).2.2.1,.inl hb,fun x c e=>(f2 b hb).2.2.2.2.1 x c (zdp _ _ _ (fun y d h=>by cases h) _ _ e),fun p hp=>absurd (show p∈([]:ty91q) from hp) (by simp)⟩
  have loop:∀s₄:ty2q,s₄ = { s with heap:=h₁,toks:=s.toks+([]:List (Str×ty3q)).length }->
      codeAny (model X.prog X.w) X.A (.compLoop (.ListComp elt [⟨tg,iter,ifs,0⟩] scope pos) 0 (.ref it) (.ref s.heap.objs.size) (compEnvC scope (zb7 X.env.cells scope.names []) H3.objs.size X.env))
        (RR (.ref s.heap.objs.size) H3.objs.size) s₄:=by
    rintro s₄ rfl;have I4:=zpr (own:=own) (fp:=fp) (tk:=s.toks+([]:List (Str×ty3q)).length) I3 S hix f3 lt3 hns₁ up;refine zcy (fun n s'=>∃i σ' ys H',Inv (cxC X (own++cap) scope H3.objs.size { s with heap:=H3 } (upd H2 s.heap.objs.size (.lst [])) fp) [] σ' H' s'/\tn i s'.heap/\(∀b∈fp,H' b=none)/\W i n σ' ys H') ?_ m0
      ⟨0,_,[],_,I4,st4,fun b hb=>(f3 b hb).1,w0⟩
    rintro n s5 ⟨i,σ5,ys,H5,I5,st5,fr5,w5⟩;obtain⟨hD5,turn5⟩:=turn i n σ5 ys H5 w5;rcases turn5 with ⟨stop,q⟩ | ⟨go,hz,step⟩
    · refine thn (T.done (cxC X (own++cap) scope H3.objs.size { s with heap:=H3 } (upd H2 s.heap.objs.size (.lst [])) fp) rfl rfl rfl hc i [] s5 σ5 H5 _ I5 (stat fr5) st5 stop) fun r s6 hq0=>?_
      obtain⟨hr,I6⟩:=hq0;subst hr;obtain⟨m6,hn6,_⟩:=I6.loc;exact hR _ _ s6 H5 m6 hn6 (I3.fpOk (al13q _) I6.free) (fun h' hs=>zps I3 f3 I6 hs) q
    · refine thn (T.item (cxC X (own++cap) scope H3.objs.size { s with heap:=H3 } (upd H2 s.heap.objs.size (.lst [])) fp) rfl rfl rfl hc i [] s5 σ5 H5 _ I5 (stat fr5) st5 go) fun r s6 hq0=>?_
      obtain⟨u,hr,h6⟩:=hq0;subst hr;refine thn h6 fun _ s7 hq0=>?_
      obtain⟨x,H7,I7,r7,y7,st7,fr7⟩:=hq0;have I7':=I7.pinned (stat fr7) (T.obj _ _ st7);refine al51q (hg _ _ _ _ _ s7 σ5 H7 x u _ I7' r7 (step x H7 y7)) (fun _ s8 hq0=>?_) fun _ _ z=>False.elim z
      obtain⟨σ8,H8,I8,q8⟩:=hq0;refine al51q (ht _ _ _ _ _ s8 σ8 H8 _ I8 q8) (fun ok s9 hq0=>?_) fun _ _ z=>False.elim z
      obtain⟨H9,I9,q9⟩:=hq0;have again:∀{s':ty2q}{σ':St}{H':Hp}{ys':List V}{m':Nat},Inv (cxC X (own++cap) scope H3.objs.size { s with heap:=H3 } (upd H2 s.heap.objs.size (.lst [])) fp) ([]++zhb fp s7.heap) σ' H' s'->m'<n->W (i+1) m' σ' ys' H'->
          ∃m,m<n/\∃i σ' ys H',Inv (cxC X (own++cap) scope H3.objs.size { s with heap:=H3 } (upd H2 s.heap.objs.size (.lst [])) fp) [] σ' H' s'/\tn i s'.heap/\(∀b∈fp,H' b=none)/\W i m σ' ys H':=fun {s' σ' H' ys' m'} I' hm w'=>by
        refine⟨m',hm,i+1,σ',ys',H',I'.unpinned,T.keep _ _ _ st7 fun b hb o e=>(I'.pin (b,o) (al39q _ (al39q _ (zcv hb e)))).1,fun b hb=>?_,w'⟩;obtain⟨o,e,d⟩:=T.obj _ _ st7 b hb;exact (I'.pin (b,o) (al39q _ (al39q _ (zcv hb e)))).2.1
      cases ok with
      | false=>
        rw[al8q al23q] at q9 ⊢;obtain⟨_,m',hm,w'⟩:=q9;exact again I9 hm w'
      | true=>
        rw[al12q rfl] at q9 ⊢;refine al51q (he _ _ _ _ _ s9 σ8 H9 _ I9 q9) (fun v s10 hq0=>?_) fun _ _ z=>False.elim z
        obtain⟨y,H10,I10,r10,hD10,m',hm,w'⟩:=hq0;refine al51q (zbc (X:=cxC X (own++cap) scope H3.objs.size { s with heap:=H3 } (upd H2 s.heap.objs.size (.lst [])) fp) _ s10 σ8 H10 (.ref s.heap.objs.size) [y] (.ref s.heap.objs.size) [v] (fun _ H'=>H'=upd H10 s.heap.objs.size (.lst (ys++[y]))) I10 rfl (.cons r10 .nil) ⟨_,ys,y,rfl,rfl,hD10,hz,rfl⟩)
          (fun _ s11 ⟨_,H11,I11,_,e11⟩=>?_) fun _ _ z=>False.elim z
        subst e11;exact again I11 hm w'
  exact codeAny_compStart_list (loop _ rfl) (T.self _ 0 _ _ _ st4 (loop _ rfl))
theorem zbx {osc:Scope}(hc:X.calm=true) (S':CompScope scope osc cap) (hix:ix.map (fun i=>X.N[i]?)=cap.map some) (hi:PI X tg iter wi)
    (hg:∀C s H ex,PG (cxC X (own++cap) scope C s H ex) tg g) (ht:∀C s H ex,PIf (cxC X (own++cap) scope C s H ex) ifs tc) (he:∀C s H ex,PE (cxC X (own++cap) scope C s H ex) elt te)
    (hs:∀x,foldedSetIterable iter X.env x=pure x:=by intro _;rfl) (ho:X.env.scope=osc:=by rfl):PE X (.ListComp elt [⟨tg,iter,ifs,0⟩] scope pos) (zup own ix wi g tc te):=by
  have S:CompScope scope X.env.scope cap:=ho▸S';intro pins s σ H Q I h;rw[eval_ListComp];refine wpAny_comprehension_free (use:=none) rfl hs (zf1 I S) S.kind S.loc (thn (hi pins s σ H _ I h) fun xv s₁ h₁=>thn h₁ fun itv s₂ h₂=>?_);refine zj3 (RR:=fun acc C=>compPost (model X.prog X.w) X.A X.xe none (EP X pins σ Q) acc C) hc S hix hg ht he h₂ fun D C s' H' m hn _ hI q=>?_
  exact⟨m,hn,fun h' hs'=>⟨.ref D,H',hI h' hs',rfl,q⟩⟩
theorem zis {osc:Scope}{i:Nat}{y:Str}{py spos:Pos}(hc:X.calm=true) (hN:X.N.Nodup) (hi':X.N[i]? = some y) (hy:X.env.scope.names.lookup y=some .local)
    (hsw:swapsWith (.ListComp elt [⟨tg,iter,ifs,0⟩] scope pos) (some (.Name y py)) spos.line X.env=pure true) (S':CompScope scope osc cap) (hix:ix.map (fun i=>X.N[i]?)=cap.map some) (hi:PI X tg iter wi)
    (hg:∀C s H ex,PG (cxC X (own++cap) scope C s H ex) tg g) (ht:∀C s H ex,PIf (cxC X (own++cap) scope C s H ex) ifs tc) (he:∀C s H ex,PE (cxC X (own++cap) scope C s H ex) elt te)
    (hs:∀x,foldedSetIterable iter X.env x=pure x:=by intro _;rfl) (ho:X.env.scope=osc:=by rfl):PS X (.Assign [.Name y py] (.ListComp elt [⟨tg,iter,ifs,0⟩] scope pos) spos) (tAsg (zup own ix wi g tc te) (zw i)):=by
  have S:CompScope scope X.env.scope cap:=ho▸S';intro pins s σ H D I h;rw[exec_Assign_Name_used _ _ _ _ hsw];refine al2q (al167q (al2q ?_));show wpAny _ X.A (do let _ ←comprehension (.ListComp elt [⟨tg,iter,ifs,0⟩] scope pos) scope X.env _ (newList []) false (eval iter X.env) (some (assign (.Name y py) X.env))) _ _ s;refine al2q (al51q (wpAny_comprehension_free (use:=some (assign (.Name y py) X.env)) (Q:=fun _ s'=>SP X pins D .next s') rfl hs (zf1 I S) S.kind S.loc
    (thn (hi pins s σ H _ I h) fun xv s₁ h₁=>thn h₁ fun itv s₂ h₂=>?_)) (fun _ s' hq=>al7q (al7q hq)) fun _ _ e=>e)
  refine zj3 (RR:=fun acc C=>compPost (model X.prog X.w) X.A X.xe (some (assign (.Name y py) X.env)) (fun _ s'=>SP X pins D .next s') acc C) hc S hix hg ht he h₂ fun D' C s' H' m hn hF hI q=>?_
  show wpAny _ X.A (assign (.Name y py) X.env (.ref D')) _ _ _;have I':Inv X pins σ H' s':=hI s'.heap (Heap.SameBut.refl ..);refine wpAny_assign_Name (zg9 I' hN hi' (.inl hy) (v:=.ref D') rfl (fun s'' I'' hq0=>?_) (.inr hy));obtain⟨a,hs'',ha⟩:=hq0;obtain⟨f0,f1,f2,f3,f4,f5⟩:=hF;have hCa:C≠a:=by
    rcases ha with ha | ha
    · rw[ha];exact f1
    · exact fun z=>f4 _ _ ha z.symm
  exact⟨m,hn.sameBut hs'' hCa,fun h' hs'=>⟨_,H',I''.turned (t':=s''.toks) (fun b o hb e=>(hs'.2 b hb).trans e) f0 f1 f3 f4 f5,q⟩⟩
end
structure Fix (J:It) (xs:List V) (P:Hp->Prop):Prop where
  go:∀i H,P H->i<xs.length->J.go i H
  yld:∀i H x H',P H->J.yld i H x H'->H'=H/\(i<xs.length->xs[i]? = some x)
  stop:∀i H,P H->xs.length<=i->J.stop i H
theorem zb1 {K:ty0q}{a:ty1q}{xs:List V}:Fix (Itl K a) xs (fun H=>SqL K H a xs):=
  ⟨fun i H h hi=>⟨xs,xs[i],h,by simp[hi]⟩,fun i H x H' h y=>⟨y.1,fun _=>y.2 xs h⟩,fun i H h hi=>⟨xs,h,hi⟩⟩
theorem zit {lo:Int}{n:Nat}:Fix (Itr lo n) ((List.range n).map fun i=>V.int (lo+(i:Nat))) (fun _=>True):=
  ⟨fun i H h hi=>by show i<n;simpa using hi,fun i H x H' h y=>⟨y.1,fun hi=>by
    have hi':i<n:=by simpa using hi
    rw[al4q,al105q hi',y.2];rfl⟩,fun i H h hi=>by show n<=i;simpa using hi⟩
def sg (c:Nat):V:=.str ⟨#[c]⟩
section
variable {X:Cx}
theorem zc6:∀{bs:List Bool}{us:List ty3q},Vals (bs.map V.bl) us->us=bs.map Value.bool
  | [],_,r=>by cases r;rfl
  | b::bs,_,r=>by
    cases r with
    | cons r1 r2=>rw[show _=Value.bool b from r1,zc6 r2];rfl
theorem zm0 (bs:List Bool):((List.range bs.length).all fun i=>(bs[i]?).getD true)=bs.all id:=by
  rw[al125q,al94q,al94q];constructor
  · intro h b hb;obtain⟨i,hi,e⟩:=al127q.mp hb;have:=h i (al36q.mpr hi);rw[al1q hi,al184q,e] at this;exact this
  · intro h i hi;have hi':=al36q.mp hi;rw[al1q hi',al184q];exact h _ (al46q hi')
theorem zm1 (hc:X.calm=true):zbr X (.builtin "all") (fun xs H Q=>∃(a:ty1q) (bs:List Bool),xs = [V.ref a]/\SqL X.K H a (bs.map V.bl)/\Q (.bl (bs.all id)) H):=by
  intro pins s σ H xs us Q I r h;obtain⟨a,bs,rfl,ha,q⟩:=h;obtain⟨u,rfl,ru⟩:=zb3 r;cases ru;obtain⟨its,rv,pl,hz⟩:=I.list ha;have e:its=bs.map Value.bool:=zc6 rv;subst e;have hl:=pl.isList;have hlt:a<s.heap.objs.size:=by obtain⟨_,e,_⟩:=hl;exact al14q e
  refine call_all_walk (al126q hl ?_);refine⟨s.heap.objs.size,[s.heap.objs.size,a],[s.heap.objs.size],(bs.map Value.bool).toArray.size,_,_,fun i=>(bs[i]?).getD true,rfl,Walks.list (A:=X.A.in1) (I.ok.hd hc) _ a (al31q hlt) (bs.map Value.bool).toArray,
    ⟨⟨_,al20q _ rfl,rfl,rfl⟩,hl.push _⟩,fun i v s' Q' E' hP hQ=>?_,fun h' tk hk=>?_⟩
  · have hP':(bs.map Value.bool)[i]? = some v:=by simpa using hP
    rw[al4q] at hP';cases e:bs[i]? with
    | none=>rw[e] at hP';cases hP'
    | some b=>
      rw[e] at hP';cases hP';simp only [e,al184q] at hQ;exact al82q hQ
  · have e:((List.range (bs.map Value.bool).toArray.size).all fun i=>(bs[i]?).getD true)=bs.all id:=by
      rw[al27q,al0q];exact zm0 bs
    rw[e];refine⟨.bl (bs.all id),H,?_,rfl,q⟩;exact I.kept fun b o eb=>hk b o (fun z=>by rw[al85q.mp z] at eb;exact absurd (al14q eb) (al53q _)) (al5q _ eb)
theorem zf2:∀{ys:List Str}{us:List ty3q},Vals (ys.map V.str) us->StrsAre us ys
  | [],_,r=>by cases r;exact .nil
  | y::ys,_,r=>by
    cases r with
    | cons r1 r2=>
      obtain⟨t,rfl⟩:=r1;exact .cons y t (zf2 r2)
end
theorem lenC {Pl:List ty3q->Prop}{n:Nat}(h:∀a r,r.length=n->Pl (a::r)):∀us:List ty3q,us.length=n+1->Pl us:=fun us e=>by
  cases us with
  | nil=>cases e
  | cons a r=>exact h a r (Nat.succ.inj e)
theorem len1 {Pl:List ty3q->Prop}(h:∀a,Pl [a]):∀us:List ty3q,us.length=1->Pl us:=lenC fun a r e=>by
  cases r with
  | nil=>exact h a
  | cons=>cases e
theorem len2 {Pl:List ty3q->Prop}(h:∀a b,Pl [a,b]):∀us:List ty3q,us.length=2->Pl us:=lenC fun a=>len1 (h a)
theorem len3 {Pl:List ty3q->Prop}(h:∀a b c,Pl [a,b,c]):∀us:List ty3q,us.length=3->Pl us:=lenC fun a=>len2 (h a)
theorem len4 {Pl:List ty3q->Prop}(h:∀a b c d,Pl [a,b,c,d]):∀us:List ty3q,us.length=4->Pl us:=lenC fun a=>len3 (h a)
def Df (K:ty0q) (mg:Str->Option ty3q) (x:Str) (st:Stmt) (ps:List Str):Prop:=
  ∃(f:ty1q) (fd:FuncData),Fun K x x st f fd/\mg x=some (.ref f)/\∀us:List ty3q,us.length=ps.length->bindArgs fd ⟨us,[]⟩=pure (ps.zip us)
theorem df_mk {K:ty0q}{h:Heap}{mg:Str->Option ty3q}(X:K.In h) (G:h.Ns mainGlobals mg) {x:Str}{st:Stmt}{ps:List Str}{f:ty1q}{oc kV dc pm cd ct:ty3q}{od an:Option ty1q}{sl:Array (Option ty3q)}
    (hb:∀(kV doc pm:ty3q) (an:Option ty1q) (cdv ct:ty3q) (us:List ty3q),us.length=ps.length->bindArgs (PySem.W.fnOf x x (zc5 st) (zbv st) (zp st) .none kV doc pm an cdv ct) ⟨us,[]⟩=pure (ps.zip us))
    (a:PySem.W.nsIn K mainGlobals x=some (some (.ref f))) (l:K.lookup f=some ⟨oc,od,.func (PySem.W.fnOf x x (zc5 st) (zbv st) (zp st) .none kV dc pm an cd ct),sl⟩) (c:PySem.W.codeIn K cd x=true) (k:PySem.W.keepIn K (.ref f)=true):Df K mg x st ps:=
  ⟨f,_,zrh l c k,PySem.W.mg_of X G a,fun us hl=>hb kV dc pm an cd ct us hl⟩
theorem const_mk {K:ty0q}{h:Heap}{mg:Str->Option ty3q}(X:K.In h) (G:h.Ns mainGlobals mg) {x:Str}{u:ty3q}(a:PySem.W.nsIn K mainGlobals x=some (some u)):mg x=some u:=PySem.W.mg_of X G a
theorem blt_mk {K:ty0q}{h:Heap}{mg:Str->Option ty3q}(X:K.In h) (G:h.Ns mainGlobals mg) {x:Str}(a:PySem.W.nsIn K mainGlobals x=some none):mg x=none:=PySem.W.mg_none_of X G a
def Has (P:ty4q) (w:World) (K:ty0q) (mg:Str->Option ty3q) (base:Heap) (x:Str) (ps:List Str) (k:Nat) (sp:Sp):Prop:=
  ∃(f:ty1q) (fd:FuncData),mg x=some (.ref f)/\PySem.W.keepIn K (.ref f)=true/\(∃oc od osl,K.lookup f=some ⟨oc,od,.func fd,osl⟩)/\(∀us:List ty3q,us.length=ps.length->bindArgs fd ⟨us,[]⟩=pure (ps.zip us))/\FnOk P w K mg base CX0 k f fd ps sp
section
variable {P:ty4q}{w:World}{K:ty0q}{mg:Str->Option ty3q}{base:Heap}
theorem Df.has {x:Str}{st:Stmt}{N ps:List Str}{k:Nat}{sp:Sp}(D:Df K mg x st ps) (S:FnScope N ps (zp st)) (len:∀vs H Q E,sp vs H Q E->vs.length=ps.length)
    (hbody:∀(f:ty1q) (cdv:ty3q) (A:Around) (outer:List Env) (s:ty2q) (H:Hp) (vs:List V) (Q:VK) (E:XK),Room k (A.deeper (envOfC x (zp st) s.heap.objs.size f cdv))->sp vs H Q E->
      ∃t,PSs (cxOf CX0 P w K mg base N x (zp st) f cdv A outer s H E).nox (zbv st) t/\t { nx:=fun _ H'=>Q .non H',rt:=Q } (start N vs) H):Has P w K mg base x ps (k+1) sp:=by
  obtain⟨f,fd,F,a,b⟩:=D;obtain⟨oc,od,kV,doc,pm,an,cdv,ct,osl,e,lk,hcd⟩:=id F.ex;exact⟨f,fd,a,F.kp,⟨oc,od,osl,lk⟩,b,F.ok S len (hbody f)⟩
end
section
variable {X:Cx}{k:Nat}{ps:List Str}{sp:Sp}{x:Str}{p pos:Pos}{e:Expr}{es:List Expr}{t:TA}
theorem zwn (F:Has X.prog X.w X.K X.mg X.base x ps k sp) (hr:Room k X.A) (hg:Gl X x) (ha:PA X (e::es) t) (hdb:(x == ("__debug__" : Str))=false:=by decide)
    (he:starEach (e::es) X.env=(false,eval e X.env)::starEach es X.env:=by rfl) (hpl:(backTo pos (starEach es X.env)).any (·.1)=false:=by rfl):PE X (.Call (.Name x p) (e::es) [] pos) (zpl sp [] E0 t):=by
  obtain⟨f,fd,a,kp,lk,b,G⟩:=F;exact zmp G hr hg a kp (.all b) .nil zwm ha hdb he hpl
end
theorem law_walk {l:PySem.W.OpenLaw}{q:ty4q}{loose:List Str}{XP:(Str->Option ty3q)->Heap->Prop}{YP:World->Heap->Prop}{d:DefRec}{K:Params->ty0q}{k:Nat}{x:Str}{sp:ty0q->Sp}
    (hn:l.most=some 63) (hdf:d.params.defaults = []) (hr:Room k callerA) (hY:∀(w:World) (h:Heap),YP w h->(K w.params).In h)
    (hsp:∀(K:ty0q) (H:Hp) (a:ty1q) (ns:List Int),ns.length<=63->SqL K H a (ns.map V.int)->sp K [.ref a] H (fun v _=>v = .bl true) fun _ _ _=>False)
    (F:∀(w:World) (mg:Str->Option ty3q) (h:Heap),(K w.params).In h->h.Ns mainGlobals mg->∀base:Heap,(K w.params).In base->base.Ns mainGlobals mg->Has l.prog w (K w.params) mg base d.name [x] k (sp (K w.params))) :
    PySem.W.WalkO q loose XP YP l.row.toRowW d [] (fun f vs=>PySem.call f vs):=by
  refine L2.walk_ofK (n:=63) (k:=k) (x:=x) (CX:=CX0) (sp:=sp) hn (by decide) hdf hr hY (fun w mg fa h KX G hmg=>?_) (fun K H a ns hl _ hS=>hsp K H a ns hl hS) fun _ _ _ _ z=>z
  obtain⟨f,fd,a,kp,⟨oc,od,osl,lk⟩,b,_⟩:=F w mg h KX G h KX G;have ef:fa=f:=by
    rw[hmg] at a;cases a;rfl
  subst ef;refine⟨fd,fun s u=>.of_eq (b [u] rfl),fun base kb nb=>?_⟩;obtain⟨f',fd',a',kp',⟨oc',od',osl',lk'⟩,b',G'⟩:=F w mg h KX G base kb nb;have ef:f'=fa:=by
    rw[hmg] at a';cases a';rfl
  subst ef;rw[lk] at lk';cases lk';exact G'
inductive DEq (K:ty0q) (H:Hp):Nat->V->V->Bool->Prop where
  | flat {n:Nat}{x y:V}(fx:zb6 x=true) (fy:zb6 y=true):DEq K H n x y (eqV x y)
  | lst {n:Nat}{a b:ty1q}{xs ys:List V}(e:Nat->Bool) (hx:SqL K H a xs) (hy:SqL K H b ys) (hl:xs.length=ys.length) (he:∀(i:Nat) x y,xs[i]? = some x->ys[i]? = some y->DEq K H n x y (e i)) :
      DEq K H (n+1) (.ref a) (.ref b) ((List.range xs.length).all e)
  | lstN {n:Nat}{a b:ty1q}{xs ys:List V}(hx:SqL K H a xs) (hy:SqL K H b ys) (hl:xs.length≠ys.length):DEq K H (n+1) (.ref a) (.ref b) false
  | tup {n:Nat}{a b:ty1q}{xs ys:List V}(e:Nat->Bool) (hx:SqT K H a xs) (hy:SqT K H b ys) (he:∀(i:Nat) x y,xs[i]? = some x->ys[i]? = some y->DEq K H n x y (e i)) :
      DEq K H (n+1) (.ref a) (.ref b) ((List.range (min xs.length ys.length)).all e&&xs.length == ys.length)
  | lt {n:Nat}{a b:ty1q}{xs ys:List V}(hx:SqL K H a xs) (hy:SqT K H b ys):DEq K H (n+1) (.ref a) (.ref b) false
  | tl {n:Nat}{a b:ty1q}{xs ys:List V}(hx:SqT K H a xs) (hy:SqL K H b ys):DEq K H (n+1) (.ref a) (.ref b) false
theorem zgj {x:V}(h:zb6 x=true):eqV x x=true:=by
  cases x<;>first | rfl | (simp[zb6] at h;done) | (simp[eqV];done)
section
variable {X:Cx}{pins:ty91q}{σ:St}{H:Hp}{s:ty2q}
theorem zm2 (I:Inv X pins σ H s) {a:ty1q}{xs ys:List V}(hx:SqL X.K H a xs) (hy:SqT X.K H a ys):False:=by
  obtain⟨its,_,⟨o,n,e,c,_,_⟩,_⟩:=I.list hx;obtain⟨its',_,⟨o',e',c',_⟩,_⟩:=I.tuple hy;rw[e] at e';cases e';rw[c] at c';injection c' with c'
  exact absurd c' (by decide)
theorem DEq.refl (I:Inv X pins σ H s) {n:Nat}{x y:V}{b:Bool}(h:DEq X.K H n x y b):x=y->b=true:=by
  induction h with
  | flat fx fy=>intro e;subst e;exact zgj fx
  | lst e hx hy hl he ih=>
    intro q;cases q;have:=I.list_inj hx hy;subst this;rw[al94q];intro i hi;have hi:=al36q.mp hi;exact ih i _ _ (al1q hi) (al1q hi) rfl
  | lstN hx hy hl=>
    intro q;cases q;exact absurd (al61q List.length (I.list_inj hx hy)) hl
  | tup e hx hy he ih=>
    intro q;cases q;have:=I.tuple_inj hx hy;subst this;rw[Nat.min_self,al185q,Bool.and_true,al94q];intro i hi;have hi:=al36q.mp hi;exact ih i _ _ (al1q hi) (al1q hi) rfl
  | lt hx hy=>intro q;cases q;exact (zm2 I hx hy).elim
  | tl hx hy=>intro q;cases q;exact (zm2 I hy hx).elim
theorem zdf (A:Around):A.in1.units<=A.units+1:=by
  first
    | exact al13q _
    | exact al128q _
    | (unfold Around.in1;simp)
theorem DEq.at (I:Inv X pins σ H s) {n:Nat}{x y:V}{b:Bool}(h:DEq X.K H n x y b):∀{u v:ty3q}{A:Around},RelV x u->RelV y v->A.units+n<cLine->
    SeqAt.EqAt A s u v b/\((∃p q,x = .ref p/\y = .ref q)->SeqAt.RcAt A s u v b):=by
  induction h with
  | flat fx fy=>
    intro u v A ru rv hu;refine⟨zre ru rv fx fy,fun hq0=>?_⟩;obtain⟨p,q,e,_⟩:=hq0;subst e;cases fx
  | @lst n a b xs ys e hx hy hl he ih=>
    intro u v A ru rv hu;cases ru;cases rv;obtain⟨its,r1,p1,_⟩:=I.list hx;obtain⟨its2,r2,p2,_⟩:=I.list hy;have l1:=r1.length;have l2:=r2.length;have h1:=zdf A;have rc:SeqAt.RcAt A s (.ref a) (.ref b) ((List.range xs.length).all e):=by
      have:=SeqAt.RcAt.lists (A:=A) (e:=e) p1.isList p2.isList (by simp;lia) (by lia) (fun j j1 j2=>by
        have g1:xs[j]? = some (xs[j]'(by simp at j1;lia)):=al1q _;have g2:ys[j]? = some (ys[j]'(by simp at j2;lia)):=al1q _;obtain⟨w1,q1,t1⟩:=r1.get g1;obtain⟨w2,q2,t2⟩:=r2.get g2;have:=(ih j _ _ g1 g2 t1 t2 (A:=A.in1) (by lia)).1;have z1:its.toArray[j]=w1:=by
          have:=al3q.mp q1;obtain⟨_,z⟩:=this;simpa using z
        have z2:its2.toArray[j]=w2:=by
          have:=al3q.mp q2;obtain⟨_,z⟩:=this;simpa using z
        rw[z1,z2];exact this)
      have es:its.toArray.size=xs.length:=by simp;lia
      rw[es] at this;exact this
    refine⟨?_,fun _=>rc⟩
    by_cases hab:a=b
    · subst hab;have:=(DEq.lst e hx hy hl he).refl I rfl;rw[this];exact .same _
    · exact .of_refs hab rc
  | @lstN n a b xs ys hx hy hl=>
    intro u v A ru rv hu;cases ru;cases rv;obtain⟨its,r1,p1,_⟩:=I.list hx;obtain⟨its2,r2,p2,_⟩:=I.list hy;have l1:=r1.length;have l2:=r2.length;have rc:SeqAt.RcAt A s (.ref a) (.ref b) false:=SeqAt.RcAt.lists_lengths p1.isList p2.isList (by simp;lia) (by lia);refine⟨?_,fun _=>rc⟩
    by_cases hab:a=b
    · subst hab;exact absurd (al61q List.length (I.list_inj hx hy)) hl
    · exact .of_refs hab rc
  | @tup n a b xs ys e hx hy he ih=>
    intro u v A ru rv hu;cases ru;cases rv;obtain⟨its,r1,p1,_⟩:=I.tuple hx;obtain⟨its2,r2,p2,_⟩:=I.tuple hy;have l1:=r1.length;have l2:=r2.length;have h1:=zdf A;have rc:SeqAt.RcAt A s (.ref a) (.ref b) ((List.range (min xs.length ys.length)).all e&&xs.length == ys.length):=by
      have:=SeqAt.RcAt.tuples (A:=A) (e:=e) (show s.heap.IsTuple a its.toArray from p1) (show s.heap.IsTuple b its2.toArray from p2) (by lia) (fun j j1 j2=>by
        have g1:xs[j]? = some (xs[j]'(by simp at j1;lia)):=al1q _;have g2:ys[j]? = some (ys[j]'(by simp at j2;lia)):=al1q _;obtain⟨w1,q1,t1⟩:=r1.get g1;obtain⟨w2,q2,t2⟩:=r2.get g2;have:=(ih j _ _ g1 g2 t1 t2 (A:=A.in1) (by lia)).1;have z1:its.toArray[j]=w1:=by
          have:=al3q.mp q1;obtain⟨_,z⟩:=this;simpa using z
        have z2:its2.toArray[j]=w2:=by
          have:=al3q.mp q2;obtain⟨_,z⟩:=this;simpa using z
        rw[z1,z2];exact this)
      have es:its.toArray.size=xs.length:=by simp;lia
      have es2:its2.toArray.size=ys.length:=by simp;lia
      rw[es,es2] at this;exact this
    refine⟨?_,fun _=>rc⟩
    by_cases hab:a=b
    · subst hab;have:=(DEq.tup e hx hy he).refl I rfl;rw[this];exact .same _
    · exact .of_refs hab rc
  | @lt n a b xs ys hx hy=>
    intro u v A ru rv hu;cases ru;cases rv;obtain⟨its,r1,p1,_⟩:=I.list hx;obtain⟨its2,r2,p2,_⟩:=I.tuple hy;exact⟨SeqAt.EqAt.list_tuple p1.isList (show s.heap.IsTuple b its2.toArray from p2) (by lia),fun _=>SeqAt.RcAt.list_tuple p1.isList (show s.heap.IsTuple b its2.toArray from p2) (by lia)⟩
  | @tl n a b xs ys hx hy=>
    intro u v A ru rv hu;cases ru;cases rv;obtain⟨its,r1,p1,_⟩:=I.tuple hx;obtain⟨its2,r2,p2,_⟩:=I.list hy;exact⟨SeqAt.EqAt.tuple_list (show s.heap.IsTuple a its.toArray from p1) p2.isList (by lia),fun _=>SeqAt.RcAt.tuple_list (show s.heap.IsTuple a its.toArray from p1) p2.isList (by lia)⟩
end
section
variable {X:Cx}{pins:ty91q}{σ:St}{H:Hp}{s:ty2q}
theorem zj4 (I:Inv X pins σ H s) {n:Nat}{xs ys:List V}{its its2:List ty3q}{e:Nat->Bool}(r1:Vals xs its) (r2:Vals ys its2) (he:∀(i:Nat) x y,xs[i]? = some x->ys[i]? = some y->DEq X.K H n x y (e i)) {A:Around}(hu:A.units+n<cLine) :
    ∀(j:Nat) (h1:j<its.toArray.size) (h2:j<its2.toArray.size),SeqAt.EqAt A s its.toArray[j] its2.toArray[j] (e j):=fun j j1 j2=>by
  have l1:=r1.length;have l2:=r2.length;have g1:xs[j]? = some (xs[j]'(by simp at j1;lia)):=al1q _;have g2:ys[j]? = some (ys[j]'(by simp at j2;lia)):=al1q _;obtain⟨w1,q1,t1⟩:=r1.get g1;obtain⟨w2,q2,t2⟩:=r2.get g2;have:=((he j _ _ g1 g2).at I t1 t2 (A:=A) hu).1;have z1:its.toArray[j]=w1:=by
    obtain⟨_,z⟩:=al3q.mp q1;simpa using z
  have z2:its2.toArray[j]=w2:=by
    obtain⟨_,z⟩:=al3q.mp q2;simpa using z
  rw[z1,z2];exact this
theorem DEq.ne (I:Inv X pins σ H s) {n:Nat}{p q:ty1q}{b:Bool}(h:DEq X.K H n (.ref p) (.ref q) b) {A:Around}(hu:A.units+n<cLine):SeqAt.RcNeAt A s (.ref p) (.ref q) (!b):=by
  have h1:=zdf A;cases h with
  | flat fx fy=>cases fx
  | lst e hx hy hl he=>
    obtain⟨its,r1,p1,_⟩:=I.list hx;obtain⟨its2,r2,p2,_⟩:=I.list hy;have l1:=r1.length;have l2:=r2.length;have:=SeqAt.RcNeAt.lists (A:=A) (e:=e) p1.isList p2.isList (by simp;lia) (by lia) (zj4 I r1 r2 he (A:=A.in1) (by lia));rw[al27q,←l1] at this;exact this
  | lstN hx hy hl=>
    obtain⟨its,r1,p1,_⟩:=I.list hx;obtain⟨its2,r2,p2,_⟩:=I.list hy;have l1:=r1.length;have l2:=r2.length;exact SeqAt.RcNeAt.lists_lengths p1.isList p2.isList (by simp;lia) (by lia)
  | tup e hx hy he=>
    obtain⟨its,r1,p1,_⟩:=I.tuple hx;obtain⟨its2,r2,p2,_⟩:=I.tuple hy;have l1:=r1.length;have l2:=r2.length;have:=SeqAt.RcNeAt.tuples (A:=A) (e:=e) (show s.heap.IsTuple p its.toArray from p1) (show s.heap.IsTuple q its2.toArray from p2) (by lia) (zj4 I r1 r2 he (A:=A.in1) (by lia));rw[al27q,al27q,←l1,←l2] at this;exact this
  | lt hx hy=>
    obtain⟨its,r1,p1,_⟩:=I.list hx;obtain⟨its2,r2,p2,_⟩:=I.tuple hy;exact SeqAt.RcNeAt.list_tuple p1.isList (show s.heap.IsTuple q its2.toArray from p2) (by lia)
  | tl hx hy=>
    obtain⟨its,r1,p1,_⟩:=I.tuple hx;obtain⟨its2,r2,p2,_⟩:=I.list hy;exact SeqAt.RcNeAt.tuple_list (show s.heap.IsTuple p its.toArray from p1) p2.isList (by lia)
end
section
variable {X:Cx}
def rEqD (K:ty0q):R2:=fun x y H Q=>∃p q b,x = .ref p/\y = .ref q/\DEq K H 8 x y b/\Q (.bl b) H
theorem zuq (hu:X.A.units+9<cLine):OpR X (compareOp .Eq) (rEqD X.K):=by
  intro pins s σ H x y v u Q I rx ry h;obtain⟨p,q,b,rfl,rfl,d,hq⟩:=h;exact (d.at I rx ry (A:=X.A) (by lia)).2 ⟨p,q,rfl,rfl⟩ X.prog X.w _ _ ⟨.bl b,H,I,rfl,hq⟩
def rNeD (K:ty0q):R2:=fun x y H Q=>∃p q b,x = .ref p/\y = .ref q/\DEq K H 8 x y b/\Q (.bl (!b)) H
theorem zur (hu:X.A.units+9<cLine):OpR X (compareOp .NotEq) (rNeD X.K):=by
  intro pins s σ H x y v u Q I rx ry h;obtain⟨p,q,b,rfl,rfl,d,hq⟩:=h;cases rx;cases ry;exact d.ne I (A:=X.A) (by lia) X.prog X.w _ _ ⟨.bl (!b),H,I,rfl,hq⟩
def rInD (K:ty0q) (neg:Bool):R2:=fun x y H Q=>∃(p:ty1q) (xs:List V) (e:V->Bool),y = .ref p/\(SqL K H p xs\/SqT K H p xs)/\(∀z∈xs,DEq K H 8 z x (e z))/\Q (.bl (if neg then !xs.any e else xs.any e)) H
theorem zm3:∀{xs:List V}{us:List ty3q}{u:ty3q},Vals xs us->u∈us->∃x∈xs,RelV x u
  | _,_,_,.cons r t,h=>by
    rcases al21q.mp h with h | h
    · subst h;exact⟨_,al56q ..,r⟩
    · obtain⟨x,hx,q⟩:=zm3 t h;exact⟨x,al19q _ hx,q⟩
def absE (e:V->Bool) (u:ty3q):Bool:=match absV u with
  | some x=>e x
  | none=>false
theorem zm4 {e:V->Bool}{x:V}{u:ty3q}(r:RelV x u):absE e u=e x:=by unfold absE;rw[r.abs]
theorem ziu {e:V->Bool}:∀{xs:List V}{us:List ty3q},Vals xs us->us.any (absE e)=xs.any e
  | _,_,.nil=>rfl
  | _,_,.cons r t=>by rw[al119q,al119q,zm4 r,ziu t]
theorem zm5 (hu:X.A.units+10<cLine):OpR X (compareOp .NotIn) (rInD X.K true):=by
  intro pins s σ H x y v u Q I rx ry h;obtain⟨p,xs,e,rfl,hq,hd,q⟩:=h;cases ry;have h1:=zdf X.A;have items:∀{its:List ty3q},Vals xs its->∀z,z∈its.toArray->SeqAt.EqAt X.A.in1 s z v (absE e z):=fun {its} r z hz=>by
    obtain⟨x',hx',rz⟩:=zm3 r (by simpa using hz);rw[zm4 rz];exact ((hd x' hx').at I rz rx (A:=X.A.in1) (by lia)).1
  rcases hq with hq | hq
  · obtain⟨its,r,pl,hz⟩:=I.list hq;refine SeqAt.notIn_listAt (absE e) pl.isList (items r) ⟨.bl _,H,I,rfl,?_⟩;rw[show its.toArray.any (absE e)=its.any (absE e) by simp,ziu r];exact q
  · obtain⟨its,r,pl,hz⟩:=I.tuple hq;refine SeqAt.notIn_tupleAt (absE e) pl (items r) ⟨.bl _,H,I,rfl,?_⟩;rw[show its.toArray.any (absE e)=its.any (absE e) by simp,ziu r];exact q
end
def Wd (v:V):Prop:=(∃x,v = .str x/\x.length<=100)\/∃i:Int,v = .int i/\i.natAbs<10 ^ 60
theorem Wd.flat {v:V}(h:Wd v):zb6 v=true:=by
  rcases h with ⟨x,rfl,_⟩ | ⟨i,rfl,_⟩<;>rfl
theorem zus {i:Int}(h:i.natAbs<10 ^ 60):i.natAbs.log2<1920:=by
  by_cases h0:i.natAbs=0
  · rw[h0];decide
  · exact (Nat.log2_lt h0).mpr (al37q h (by decide))
def eqL (xs ys:List V):Bool:=(List.range (min xs.length ys.length)).all (fun i=>match xs[i]?,ys[i]? with | some x,some y=>eqV x y | _,_=>true)&&xs.length == ys.length
theorem DEq.flatT {K:ty0q}{H:Hp}{n:Nat}{a b:ty1q}{xs ys:List V}(hx:SqT K H a xs) (hy:SqT K H b ys) (fx:∀x∈xs,zb6 x=true) (fy:∀x∈ys,zb6 x=true):DEq K H (n+1) (.ref a) (.ref b) (eqL xs ys):=by
  refine DEq.tup _ hx hy fun i x y e1 e2=>?_
  rw[e1,e2];exact DEq.flat (fx x (al6q e1)) (fy y (al6q e2))
theorem zek {xs:List V}(h:∀x∈xs,zb6 x=true):eqL xs xs=true:=by
  unfold eqL;rw[al185q,Bool.and_true,al94q];intro i hi;rw[Nat.min_self] at hi;have hi:=al36q.mp hi;rw[al1q hi];exact zgj (h _ (al46q hi))
theorem DEq.sameL {K:ty0q}{H:Hp}{n:Nat}{a b:ty1q}{xs:List V}(hx:SqL K H a xs) (hy:SqL K H b xs) (h:∀x∈xs,DEq K H n x x true):DEq K H (n+1) (.ref a) (.ref b) true:=by
  have:=DEq.lst (n:=n) (fun _=>true) hx hy rfl fun i x y e1 e2=>by
    rw[e1] at e2;cases e2;exact h x (al6q e1)
  rw[show (List.range xs.length).all (fun _=>true)=true from al94q.mpr fun _ _=>rfl] at this;exact this
theorem DEq.sameT {K:ty0q}{H:Hp}{n:Nat}{a b:ty1q}{xs ys:List V}(hx:SqT K H a xs) (hy:SqT K H b ys) (hl:xs.length=ys.length) (h:∀(i:Nat) x y,xs[i]? = some x->ys[i]? = some y->DEq K H n x y true):DEq K H (n+1) (.ref a) (.ref b) true:=by
  have:=DEq.tup (n:=n) (fun _=>true) hx hy h;rw[show (List.range (min xs.length ys.length)).all (fun _=>true)=true from al94q.mpr fun _ _=>rfl,hl,al185q] at this;exact this
theorem Same.tup {K:ty0q}{H H':Hp}{a:ty1q}{xs:List V}(e:Same H H') (h:SqT K H a xs):SqT K H' a xs:=by
  rcases h with (h | ⟨o,h⟩) | h
  · exact .inl (.inl (e _ _ h))
  · exact .inl (.inr ⟨o,e _ _ h⟩)
  · exact .inr h
theorem Same.new {H:Hp}{D:ty1q}{o:HO}(h:H D=none):Same H (upd H D o):=fun b u e=>by rw[zo (zq e h)];exact e
theorem Same.upd {H H':Hp}{D:ty1q}{o:HO}(e:Same H H') (h:H D=none):Same H (upd H' D o):=fun b u q=>by
  rw[zo (zq q h)];exact e b u q
theorem zm6 {J:It}{xs:List V}{P:Hp->Prop}{own:List Str}{ix:List Nat}{te:TE}{σ:St}{H1:Hp}{D:ty1q}{Q:VK}(F:Fix J xs P) (f:V->V) (hD:H1 D=none)
    (hP:∀H',Same H1 H'->P H') (hz:xs.length<=sizeLine)
    (he:∀x∈xs,∀H' (Q':VK),Same H1 H'->(∀H'',Same H' H''->Q' (f x) H'')->te ((st0 own ix σ).set 0 (some x)) H' Q')
    (hQ:∀H',Same H1 H'->H' D=some (.lst (xs.map f))->Q (.ref D) H'):zpt own ix J (zw 0) tYes te σ H1 D Q:=by
  refine⟨fun i m σ' ys H'=>m=xs.length-i/\i<=xs.length/\(∀z,σ'.set 0 z=(st0 own ix σ).set 0 z)/\ys=(xs.take i).map f/\Same H1 H'/\H' D=some (.lst ys),
    ⟨xs.length,by simp,al65q _,fun _=>rfl,by simp,Same.new hD,zf⟩,?_⟩
  rintro i m σ' ys H' ⟨rfl,hi,hσ,rfl,hs,hDy⟩;refine⟨hDy,?_⟩
  by_cases hlt:i<xs.length
  · refine .inr ⟨F.go i _ (hP _ hs) hlt,?_,fun x H2 y=>?_⟩
    · rw[al0q,al28q];lia
    · obtain⟨e,y'⟩:=F.yld i _ x H2 (hP _ hs) y;subst e;have hx:=y' hlt;have hm:x∈xs:=al6q hx;unfold zw tYes;dsimp only;rw[al12q rfl,hσ];refine he x hm _ _ hs fun H'' hs'=>⟨hs' D _ hDy,xs.length-(i+1),by lia,rfl,hlt,fun z=>List.set_set ..,?_,(hs.trans hs').upd hD,zf⟩
      rw[al9q,hx,al15q];rfl
  · have e:i=xs.length:=by lia
    subst e;refine .inl ⟨F.stop _ _ (hP _ hs) (al13q _),hQ _ hs ?_⟩;rw[al22q] at hDy;exact hDy
section
variable {X:Cx}(K:ty0q) (h:X.K=K)
include h
theorem zab:IxR X (rIxL K):=h▸zsa
theorem zx:IxR X (rIxT K):=h▸zui
theorem zel:SlR X (rSlL K):=h▸zsb
theorem zpu:OpR X (binaryOp .Add) (zuh K):=h▸zr8
theorem zk2:OpR X (compareOp .In) (rIn K false):=h▸zms
theorem zgk (hu:X.A.units+9<cLine):OpR X (compareOp .Eq) (rEqD K):=h▸zuq hu
theorem zc7 (hu:X.A.units+9<cLine):OpR X (compareOp .NotEq) (rNeD K):=h▸zur hu
theorem zk3 (hu:X.A.units+10<cLine):OpR X (compareOp .NotIn) (rInD K true):=h▸zm5 hu
theorem zag:zbr X (.builtin "len") (fun xs H Q=>∃p ys,xs = [.ref p]/\(SqL K H p ys\/SqT K H p ys)/\Q (.int ys.length) H):=h▸zhk
theorem zb9:zbr X (.type "list") (fun xs H Q=>∃p ys,xs = [.ref p]/\(SqL K H p ys\/SqT K H p ys)/\∀l,H l=none->Q (.ref l) (upd H l (.lst ys))):=h▸zhl
theorem zk4 (hc:X.calm=true):zbr X (.builtin "all") (fun xs H Q=>∃(a:ty1q) (bs:List Bool),xs = [V.ref a]/\SqL K H a (bs.map V.bl)/\Q (.bl (bs.all id)) H):=h▸zm1 hc
variable {o e:Expr}{es:List Expr}{to:TE}{t:TA}{name:Str}{apos cpos:Pos}{T id:String}{r:V->List V->Hp->VK->Prop}
theorem zm7 (pa:PlainAttrs T) (slot:Slot T name id) (hty:typeOf (.builtin id)=pure (.type "method_descriptor")) (hm:MtR X id r) (ho:PE X o to)
    (hbase:attributeBase o name X.env (eval o X.env)=eval o X.env:=by rfl) (hline:(apos.endLine == cpos.line)=true:=by rfl):PE X (.Call (.Attribute o name apos) [] [] cpos) (tBM0 K T r to):=h▸zuk pa slot hty hm ho hbase hline
theorem zcp (pa:PlainAttrs T) (slot:Slot T name id) (hty:typeOf (.builtin id)=pure (.type "method_descriptor")) (hm:MtR X id r) (ho:PE X o to) (ha:PA X (e::es) t)
    (hbase:attributeBase o name X.env (eval o X.env)=eval o X.env:=by rfl)
    (hfew:((backTo cpos (starEach (e::es) X.env)).all (fun x=>!x.1)&&(backToKw cpos (keywordEach [] X.env)).all (fun x=>x.1.isSome)
      && decide ((e::es).length+([]:List Keyword).length+(if ([]:List Keyword).isEmpty then 0 else 1)<30))=true:=by rfl)
    (hline:(apos.endLine == cpos.line)=true:=by rfl) (hs:starEach (e::es) X.env=(false,eval e X.env)::starEach es X.env:=by rfl) (hplain:(backTo cpos (starEach es X.env)).any (·.1)=false:=by rfl) :
    PE X (.Call (.Attribute o name apos) (e::es) [] cpos) (tBM K T r to t):=h▸zwi pa slot hty hm ho ha hbase hfew hline hs hplain
end
section
variable {X:Cx}{tg:Expr}(K:ty0q) (h:X.K=K)
include h
theorem zai {l:Expr}{tl:TE}(hl:PE X l tl):PI X tg l (zuc K tl):=h▸zr4 hl
theorem zby {es:List Expr}{k:Nat}{t:TGs}{n:Nat}{pos:Pos}(hc:X.calm=true) (h':PGs X es t)
    (hn:(assignEach es X.env).length=n:=by rfl) (hst:(assignEach es X.env).findIdx? (·.1)=none:=by rfl):PG X (.Tuple es k pos) (gTup K n t):=h▸zt9 hc h' hn hst
end
theorem hu10 {A:Around}{k:Nat}(hr:Room k A):A.units+9<cLine:=al173q (Nat.add_le_add_left (by decide:9<=64) _) hr.units
theorem hu11 {A:Around}{k:Nat}(hr:Room k A):A.units+10<cLine:=al173q (Nat.add_le_add_left (by decide:10<=64) _) hr.units
theorem zcw {c:TT}{t u:TS}{D:Ends}{σ:St}{H:Hp}(b:Bool) (ht:∀Q':Bool->Hp->Prop,(∀H',Same H H'->Q' b H')->c σ H Q') (hs:∀H',Same H H'->if b=true then t D σ H' else u D σ H'):tIfS c t u D σ H:=ht _ hs
theorem zcq {c:TT}{t u:TS}{D:Ends}{σ:St}{H:Hp}(b:Bool) (ht:∀Q':Bool->Hp->Prop,Q' b H->c σ H Q') (hs:if b=true then t D σ H else u D σ H):tIfS c t u D σ H:=ht _ hs
theorem DEq.nilL {K:ty0q}{H:Hp}{n:Nat}{a b:ty1q}{xs:List V}(hx:SqL K H a xs) (hy:SqL K H b []):DEq K H (n+1) (.ref a) (.ref b) (decide (xs = [])):=by
  by_cases h:xs = []
  · subst h;exact DEq.lst (fun _=>true) hx hy rfl fun i x y e _=>by simp at e
  · rw[al17q h];exact DEq.lstN hx hy fun z=>h (al135q.mp z)
theorem ziv {α:Type}{x:α}{xs:List α}:atI (x::xs) 0=some x:=by
  have:=za2 (xs:=x::xs) (j:=0) (v:=x) rfl;exact this
theorem zk5 {x:V}{xs:List V}:cutV (x::xs) (some 1) none=xs:=by
  unfold cutV HT.sIx;simp
theorem zar {n:Nat}(h:n<=1000):n<=sizeLine:=al162q (zz h)
open Builtin Builtin.Str
section
variable {X:Cx}{pins:ty91q}{σ:St}{H:Hp}{s:ty2q}{h':Heap}
theorem Inv.turnedL {t':Nat}{ch:List ty1q}(I:Inv X pins σ H s) (k:∀b o,b ∉ ch->s.heap.get? b=some o->h'.get? b=some o) (hf:∀b∈ch,FpOk X pins H b):Inv X pins σ H { s with heap:=h',toks:=t' }:=by
  have nit:∀b u,H b=some u->b ∉ ch:=fun b u e z=>by rw[(hf b z).1] at e;cases e
  refine I.step (g':=s.gens) (d':=s.drawn) (ch:=ch) (fun b hb=>⟨(hf b hb).2.2.2.1,(hf b hb).2.1,(hf b hb).2.2.2.2.1,(hf b hb).2.2.2.2.2⟩) (fun b o _ _ hc e _=>k b o hc e) (fun b o _ _ hc e _=>⟨o.slots,k b o hc e⟩) (fun _ _ _ _ n=>n)
    (fun b o hc e=>⟨o,k b o hc e⟩) (fun _ _ e=>e) (fun _ _ _ e=>e) (fun b ps e=>⟨#[],by rw[e];simp⟩) (fun m hm=>?_) (fun b u e=>?_) I.bare
  · obtain⟨o,es,ep,ho,r⟩:=hm;exact⟨o,es,ep,k _ o (fun z=>(hf _ z).2.1 rfl) ho,r⟩
  · refine (I.hok b u e).stay (fun c v hc q=>k c v ?_ q) (fun _ q=>q) fun _ _ q=>q
    rcases hc with z | z
    · rw[z];exact nit b u e
    · exact nit c _ z
end
open Sem (wp)
open Sem (wp)
def RawD (h:Heap) (d:ty1q) (es:Array DictEntry) (ep:Nat):Prop:=∃o,h.get? d=some o/\o.ExactDict/\o.data = .dict es ep
theorem RawD.at {h h':Heap}{d:ty1q}{es:Array DictEntry}{ep:Nat}(q:RawD h d es ep) (k:∀o,h.get? d=some o->h'.get? d=some o):RawD h' d es ep:=let ⟨o,ho,r⟩:=q;⟨o,k o ho,r⟩
theorem RawD.typeIs {s:ty2q}{d:ty1q}{es:Array DictEntry}{ep:Nat}(q:RawD s.heap d es ep):s.TypeIs (.ref d) "dict":=let ⟨o,ho,c,_⟩:=q;⟨o,ho,c.1⟩
section
variable {prog:ty4q}{w:World}{A:Around}{E:ty90q}{s:ty2q}
theorem zgl {d:ty1q}{es:Array DictEntry}{ep:Nat}{Q:ty90q}(hd:(d == sysModules)=false) (hm:RawD s.heap d es ep)
    (hQ:Q (.ref s.heap.objs.size) { s with heap:=s.heap.push { cls:=.type "dict_keyiterator",data:=.fields #[.ref d,.int 0 0,.int es.size 0,.int ep 0] } }):wpAny (model prog w) A (pyIter (.ref d)) Q E s:=by
  obtain⟨o,ho,hc,hdat⟩:=id hm;have T:s.TypeIs (.ref d) "dict":=hm.typeIs;refine wpAny_pyIter_slot T F.slot_dict_iter (al100q F.slot_dict_iter T F.entry_dict_iter ?_ (F.args_dict_iter_1 _));unfold Builtin.«dict.__iter__»;refine al2q ?_;unfold Builtin.Dict.dictSlotNone;refine al2q (wpAny_notOrdered_dict T ?_);show wpAny (model prog w) _ (pure (Value.ref d)) _ _ s;refine al7q ?_;show wpAny (model prog w) _ (Builtin.Dict.showsAll d >>= _) _ _ s;unfold Builtin.Dict.showsAll;rw[al8q (by rw[hd];exact al23q)];refine al2q (al7q (al2q (al176q ho hdat (al2q (al190q ho hdat ?_)))));exact al2q (al70q (al7q ⟨_,rfl,"dict_keyiterator",_,⟨_,al20q _ rfl,rfl⟩,al97q.lookup,hQ⟩))
theorem zj5 {it d:ty1q}{i ep:Nat}{es:Array DictEntry}{e:DictEntry}{Q:Option ty3q->ty2q->Prop}(hit:s.heap.IsKeyIter it d i es.size ep) (hm:RawD s.heap d es ep) (hx:es[i]? = some e)
    (hQ:∀h1,h1.IsKeyIter it d (i+1) es.size ep->Heap.SameBut it s.heap h1->Q (some e.key) { s with heap:=h1 }):wpAny (model prog w) A (pyNext (.ref it)) Q E s:=by
  obtain⟨o,ho,hc,hd⟩:=id hit;obtain⟨od,hod,hcd,hdd⟩:=id hm;obtain⟨hlt,he⟩:=al38q.mp hx;subst he;unfold pyNext;refine al2q (al187q (al136q (name:=Str.ofString "__next__") hit.typeIs al97q (al100q al97q hit.typeIs F.entry_dict_keyiterator_next ?_ (F.args_dict_keyiterator_next_1 _))));refine al2q (al7q (al2q (al2q ?_)));refine al2q (al110q hit.typeIs (al7q (al2q (wpAny_fieldsOf ho hd ?_))));have own:Builtin.Dict_items.ownsTuple "dict_keyiterator" = false:=by decide
  simp only [own,al84q,al151q];show wpAny (model prog w) _ (if (Value.ref d == Value.none)=true then _ else _) _ _ s;rw[al8q (show ¬((Value.ref d == Value.none)=true) from al23q)];refine al2q (al7q (al2q (al176q hod hdd ?_)));rw[al8q (by simp)];refine al2q (al7q (al2q (al190q hod hdd ?_)));rw[al8q (by simp)];refine al7q ?_;simp only [show ¬((i:Int)<0) from by lia,al151q,al129q,al42q hlt];refine al2q (al2q (al110q hit.typeIs (al7q (al2q (wpAny_isOneOf_keyiter hit.typeIs ?_)))));show wpAny (model prog w) _ (setField (.ref it) 1 (rawInt ((i:Int)+1)) >>= _) _ _ s;refine al2q (al122q ho hd (by simp) ?_);have nx:(s.heap.update it (Obj.mapFields (·.setIfInBounds 1 (rawInt ((i:Int)+1))))).IsKeyIter it d (i+1) es.size ep:=
    ⟨_,al33q _ ho (al66q (al72q hd _)),(Obj.cls_mapFields ..).trans hc,by rw[al72q hd];simp[rawInt]⟩
  refine al2q (al60q (al2q (wpAny_isOneOf_keyiter (s:={ s with heap:=s.heap.update it (Obj.mapFields (·.setIfInBounds 1 (rawInt ((i:Int)+1)))) }) nx.typeIs ?_)));show wpAny (model prog w) _ (pure es[i].key) _ _ _;exact al7q (al7q ⟨_,rfl,al7q (hQ _ nx (Heap.SameBut.update ..))⟩)
theorem zm8 {it d:ty1q}{i ep:Nat}{es:Array DictEntry}{Q:Option ty3q->ty2q->Prop}(hh:A.handled=none) (hit:s.heap.IsKeyIter it d i es.size ep) (hm:RawD s.heap d es ep) (hx:es.size<=i)
    (hQ:∀h1,Heap.ExtBut it s.heap h1->Q none { s with heap:=h1 }):wpAny (model prog w) A (pyNext (.ref it)) Q E s:=by
  obtain⟨o,ho,hc,hd⟩:=id hit;obtain⟨od,hod,hcd,hdd⟩:=id hm;unfold pyNext;refine al2q (al187q (al136q (name:=Str.ofString "__next__") hit.typeIs al97q (al100q al97q hit.typeIs F.entry_dict_keyiterator_next ?_ (F.args_dict_keyiterator_next_1 _))));refine al2q (al7q (al2q (al2q ?_)));refine al2q (al110q hit.typeIs (al7q (al2q (wpAny_fieldsOf ho hd ?_))));have own:Builtin.Dict_items.ownsTuple "dict_keyiterator" = false:=by decide
  simp only [own,al84q,al151q];show wpAny (model prog w) _ (if (Value.ref d == Value.none)=true then _ else _) _ _ s;rw[al8q (show ¬((Value.ref d == Value.none)=true) from al23q)];refine al2q (al7q (al2q (al176q hod hdd ?_)));rw[al8q (by simp)];refine al2q (al7q (al2q (al190q hod hdd ?_)));rw[al8q (by simp)];refine al7q ?_;simp only [show ¬((i:Int)<0) from by lia,al151q,al129q,al117q hx];refine al2q (al2q (al110q hit.typeIs (al7q ?_)));show wpAny (model prog w) _ (setField (.ref it) 0 .none >>= _) _ _ s;refine al2q (al122q ho hd (by simp) ?_);show wpAny (model prog w) _ (newExc (.type "StopIteration") [] >>= _) _ _ _;refine al2q ?_;simp only [newExc,newTuple];refine al2q (al70q (al2q (m:=firstArgMember _ _) (al189q (a:=Value.none) (by first | rfl | (simp only [firstArgMember];rfl)) (al70q ?_ (by size_fits)))) (by size_fits));simp only [raiseNew];refine al2q (wpAny_handled ?_);rw[show A.in1.handled=none from hh];refine al2q (al7q (wpAny_throw ?_));exact al2q (al137q (T:="StopIteration") (b:=true) ⟨_,al20q _ rfl,rfl⟩ isSubtype_stop (al7q (hQ _ (((Heap.SameBut.update ..).extBut.push _).push _))))
theorem zhr (hh:A.handled=none) (I d:ty1q) (hne:d≠I) (es:Array DictEntry) (ep:Nat) :
    Walks prog w A I [I,d] [I] es.size (fun i v=>∃e,es[i]? = some e/\v=e.key) (fun i h=>h.IsKeyIter I d i es.size ep/\RawD h d es ep) where
  sub:=fun b hb=>by simp at hb;simp[hb]
  frame:=fun _ _ _ st hk=>⟨st.1.at fun o e=>hk I (by simp) o e,st.2.at fun o e=>hk d (by simp) o e⟩
  item:=fun i s Q E hi st hQ=>by
    have hx:es[i]? = some es[i]:=al42q hi;exact zj5 st.1 st.2 hx fun h1 it' hs=>hQ _ h1 s.toks ⟨_,hx,rfl⟩ ⟨it',st.2.at fun o e=>(hs.2 d hne).trans e⟩ fun b o hb e=>(hs.2 b (fun h=>hb (by simp[h]))).trans e
  done:=fun s Q E st hQ=>zm8 hh st.1 st.2 (al13q _) fun h1 he=>hQ h1 s.toks fun b o hb e=>he b o (fun h=>hb (by simp[h])) e
  self:=fun _ _ _ _ st hQ=>wpAny_pyIter_keyiter st.1 hQ
theorem zhs {d:ty1q}{Q:Bool->ty2q->Prop}(T:s.TypeIs (.ref d) "dict") (hq:Q false s):wpAny (model prog w) A (Builtin.List.listLengthHint (.ref d)) Q E s:=by
  unfold Builtin.List.listLengthHint;refine al2q (wpAny_specialOf T F.slot_dict_len.lookup ?_);have e:splitId "dict.__len__" = some ("dict","__len__"):=by kernel_rfl
  simp only [e];have sub:isSubtype (.type "dict") (.type "dict")=pure true:=by rw[al138q];kernel_rfl
  exact al2q (al137q (T:="dict") (b:=true) T sub (al2q (al191q T (al7q hq))))
theorem zm9 {d:ty1q}{Q:Bool->ty2q->Prop}(T:s.TypeIs (.ref d) "dict_values") (hq:Q false s):wpAny (model prog w) A (Builtin.List.listLengthHint (.ref d)) Q E s:=by
  unfold Builtin.List.listLengthHint;refine al2q (wpAny_specialOf T F.slot_dict_values_len.lookup ?_);have e:splitId "dict_values.__len__" = some ("dict_values","__len__"):=by kernel_rfl
  simp only [e];have sub:isSubtype (.type "dict_values") (.type "dict_values")=pure true:=by rw[al138q];kernel_rfl
  exact al2q (al137q (T:="dict_values") (b:=true) T sub (al2q (al191q T (al7q hq))))
end
section
variable {prog:ty4q}{w:World}{A:Around}{s:ty2q}{R:Result->ty2q->Prop}{I:ty1q}{fp wr:List ty1q}{n:Nat}{P:Nat->ty3q->Prop}{St:Nat->Heap->Prop}
theorem zht (W:Walks prog w A.in1 I fp wr n P St) (hn:n<=sizeLine) (S:ty1q) (c:Nat) (hst:St 0 s.heap) (hS:S ∉ fp) (hl:s.heap.get? S=some { cls:=.type "list",data:=.seq #[] c })
    (hR:∀s1 acc c1,Moved (S::wr) (fun a b=>b=a) s s1->s1.heap.get? S=some { cls:=.type "list",dict:=none,data:=.seq acc c1,slots:=#[] }->ItemsOf P acc n->R (.ok (.ret .none)) s1) :
    wpAny (model prog w) A.in1 (rule "list.extend.makes-room" >>= fun _=>Builtin.List.listTouch (.ref S) >>= fun _=>again (.builtin "list.extend.loop" ⟨[.ref S,.ref I,.none],[]⟩))
      (fun fin s1=>match fin with | .done f=>R (.ok f) s1 | .again c1=>c1.quiet=true/\codeAny (model prog w) A c1 R s1) (fun e s1=>R (.error e) s1) s:=by
  refine al2q (al160q (al2q ?_));show wpAny (model prog w) A.in1 (updateSeq S (·.push .none) >>= fun _=>updateSeq S (·.pop)) _ _ _;refine al2q (al63q hl rfl ?_);have l2:=al33q (Obj.mapSeq (·.push Value.none)) hl rfl;refine al63q (hz:=by seq_fits) l2 rfl ?_;have l3:=al33q (Obj.mapSeq (·.pop)) l2 rfl;have oth:∀b o,b≠S->s.heap.get? b=some o->((s.heap.update S (Obj.mapSeq (·.push Value.none))).update S (Obj.mapSeq (·.pop))).get? b=some o:=fun b o hb e=>(al24q _ _ (al26q hb)).trans ((al24q _ _ (al26q hb)).trans e)
  refine al7q ⟨al71q F.plain_extend_loop _,codeAny_extend_loopS W.toS hn _ hS _ n 0 _ _ _ rfl (al65q _) (W.toS.frame 0 s _ s.toks hst (al13q _) fun b hb o e=>oth b o (fun h=>hS (h▸hb)) e) l3 (ItemsOf.nil P) fun s1 acc c1 hm h1 h2=>?_⟩;have m0:Moved (S::wr) (fun (a b:Array GenState)=>b=a) s { s with heap:=(s.heap.update S (Obj.mapSeq (·.push Value.none))).update S (Obj.mapSeq (·.pop)) }:=⟨fun b o hb e=>oth b o (fun h=>hb (by simp[h])) e,rfl,rfl,rfl,al13q _⟩;exact hR s1 acc c1 (Moved.trans (fun _ _ _ h1 h2=>h2.trans h1) m0 hm) h1 h2
end
section
variable {prog:ty4q}{w:World}{A:Around}{s:ty2q}{R:Result->ty2q->Prop}
theorem zhu {S:ty1q}{x:ty3q}(hl:s.heap.get? S=some { cls:=.type "list",data:=.seq #[] })
    (h:wpAny (model prog w) A.in1 (Builtin.List.listExtendWith (.ref S) x .none) (fun fin s1=>match fin with | .done f=>R (.ok f) s1 | .again c1=>c1.quiet=true/\codeAny (model prog w) A c1 R s1) (fun e s1=>R (.error e) s1)
      { s with heap:=s.heap.update S (Obj.mapSeq (fun _=>(#[]:Array ty3q))) }) :
    wpAny (model prog w) A.in1 (Builtin.«list.__init__» ⟨[.ref S,x],[]⟩) (fun fin s1=>match fin with | .done f=>R (.ok f) s1 | .again c1=>c1.quiet=true/\codeAny (model prog w) A c1 R s1) (fun e s1=>R (.error e) s1) s:=by
  show wpAny (model prog w) A.in1 (do let was ←Builtin.List.listItems (.ref S);Builtin.List.listUpdate (.ref S) (fun _=>#[]);letGo was.toList.reverse;Builtin.List.listExtendWith (.ref S) x .none) _ _ s;refine al2q ?_;unfold Builtin.List.listItems;refine al2q (al86q hl rfl (al7q ?_));show wpAny (model prog w) A.in1 (updateSeq S (fun _=>#[]) >>= fun _=>letGo (#[]:Array ty3q).toList.reverse >>= fun _=>Builtin.List.listExtendWith (.ref S) x .none) _ _ s;exact al2q (al63q hl rfl (al2q (al106q h)))
end
section
variable {prog:ty4q}{w:World}{A:Around}{E:ty90q}{s:ty2q}
theorem zhv {d:ty1q}{es:Array DictEntry}{ep:Nat}{Q:ty90q}(hh:A.handled=none) (hd:(d == sysModules)=false) (hm:RawD s.heap d es ep) (hn:es.size<=sizeLine)
    (hQ:∀h1 acc c tk,(∀b o,s.heap.get? b=some o->h1.get? b=some o)->h1.get? s.heap.objs.size=some { cls:=.type "list",dict:=none,data:=.seq acc c,slots:=#[] }->ItemsOf (fun i v=>∃e,es[i]? = some e/\v=e.key) acc es.size->
      Q (.ref s.heap.objs.size) { s with heap:=h1,toks:=tk }):wpAny (model prog w) A (call (.type "list") [.ref d]) Q E s:=by
  have dl:d<s.heap.objs.size:=by obtain⟨o,ho,_⟩:=hm;exact al14q ho
  refine callType_codes (Q₁:=fun obj s1=>obj = .ref s.heap.objs.size/\s1 = { s with heap:=s.heap.push { cls:=.type "list",data:=.seq #[] } }) F.called_list (F.typeCall_list_1 _) F.entry_list_init (code_list_new _ ⟨rfl,rfl⟩) fun obj s1 h1=>?_
  obtain⟨rfl,rfl⟩:=h1;have hS:(s.heap.push { cls:=.type "list",data:=.seq #[] }).get? s.heap.objs.size=some { cls:=.type "list",data:=.seq #[] }:=al20q _ rfl;refine⟨⟨_,hS,rfl⟩,F.args_list_init_2 _ _,zhu hS ?_⟩;have l2:=al33q (Obj.mapSeq (fun _=>(#[]:Array ty3q))) hS rfl;have old:∀b o,s.heap.get? b=some o->((s.heap.push { cls:=.type "list",data:=.seq #[] }).update s.heap.objs.size (Obj.mapSeq (fun _=>(#[]:Array ty3q)))).get? b=some o:=fun b o e=>
    (al24q _ _ (fun z=>al53q _ (z▸al14q e))).trans (al5q _ e)
  have hm2:=hm.at (h':=(s.heap.push { cls:=.type "list",data:=.seq #[] }).update s.heap.objs.size (Obj.mapSeq (fun _=>(#[]:Array ty3q)))) fun o e=>old d o e
  have zu:((s.heap.push { cls:=.type "list",data:=.seq #[] }).update s.heap.objs.size (Obj.mapSeq (fun _=>(#[]:Array ty3q)))).objs.size=s.heap.objs.size+1:=by rw[Heap.size_update,al109q]
  generalize (s.heap.push { cls:=.type "list",data:=.seq #[] }).update s.heap.objs.size (Obj.mapSeq (fun _=>(#[]:Array ty3q)))=g at l2 old hm2 zu;have T:({ s with heap:=g }:ty2q).TypeIs (.ref d) "dict":=hm2.typeIs;unfold Builtin.List.listExtendWith;refine al2q (al191q T ?_);have sr:Builtin.List.listSameRef (.ref s.heap.objs.size) (.ref d)=false:=by
    have:s.heap.objs.size≠d:=al26q (al31q dl);simp[Builtin.List.listSameRef,this]
  have t1:(Value.type "dict" == Value.type "list")=false:=by decide
  have t2:(Value.type "dict" == Value.type "tuple")=false:=by decide
  simp only [sr,t1,t2,Bool.or_false,al84q,al151q];refine al2q (zgl (s:={ s with heap:=g }) hd hm2 ?_);have hm3:=hm2.at (h':=g.push { cls:=.type "dict_keyiterator",data:=.fields #[.ref d,.int 0 0,.int es.size 0,.int ep 0] }) fun o e=>al5q _ e
  refine al2q (al60q (zhs (s:={ s with heap:=g.push { cls:=.type "dict_keyiterator",data:=.fields #[.ref d,.int 0 0,.int es.size 0,.int ep 0] } }) hm3.typeIs ?_));have dI:d≠g.objs.size:=by rw[zu];exact al31q (al113q dl)
  have SI:s.heap.objs.size ∉ [g.objs.size,d]:=by
    rw[zu];intro z;simp only [al21q,al64q,al192q] at z;rcases z with z | z
    · exact absurd z (al31q (al139q _))
    · exact absurd z (al26q (al31q dl))
  refine zht (A:=A.in1) (s:={ s with heap:=g.push { cls:=.type "dict_keyiterator",data:=.fields #[.ref d,.int 0 0,.int es.size 0,.int ep 0] } }) (zhr (A:=A.in1.in1) hh g.objs.size d dI es ep) hn _ _ ⟨⟨_,al20q _ rfl,rfl,rfl⟩,hm3⟩ SI (al5q _ l2) fun s2 acc c hmv h2 h3=>?_
  obtain⟨hp,ge,dr,tk,os⟩:=s2;obtain⟨m1,m2,m3,m4,m5⟩:=hmv;obtain rfl:ge=s.gens:=m2;obtain rfl:dr=s.drawn:=m3;obtain rfl:os=s.os:=m4;refine⟨rfl,hQ hp acc c tk (fun b o e=>m1 b o ?_ (al5q _ (old b o e))) h2 h3⟩;intro z;have bl:=al14q e;simp only [al21q,al64q,al192q] at z;rcases z with z | z
  · exact absurd bl (by rw[z];exact al53q _)
  · have z:b=g.objs.size:=z;rw[z,zu] at bl;exact absurd bl (al164q (al128q _))
theorem zhw {κ:Type} [DecidableEq κ] {knd:KeyKind prog w κ}{d v:ty1q}{kvs:List (κ×ty3q)}{Q:ty90q}(hh:A.handled=none) (hv:s.heap.IsValuesView v d) (hm:s.heap.DictOf knd d kvs) (hn:kvs.length<=sizeLine)
    (hQ:∀h1 acc c tk,(∀b o,s.heap.get? b=some o->h1.get? b=some o)->h1.get? s.heap.objs.size=some { cls:=.type "list",dict:=none,data:=.seq acc c,slots:=#[] }->ItemsOf (fun i v=>∃k,kvs[i]? = some (k,v)) acc kvs.length->
      Q (.ref s.heap.objs.size) { s with heap:=h1,toks:=tk }):wpAny (model prog w) A (call (.type "list") [.ref v]) Q E s:=by
  obtain⟨ep,hm⟩:=hm.dictAt;have dl:d<s.heap.objs.size:=hm.lt_size;have vl:v<s.heap.objs.size:=by obtain⟨o,ho,_⟩:=hv;exact al14q ho
  refine callType_codes (Q₁:=fun obj s1=>obj = .ref s.heap.objs.size/\s1 = { s with heap:=s.heap.push { cls:=.type "list",data:=.seq #[] } }) F.called_list (F.typeCall_list_1 _) F.entry_list_init (code_list_new _ ⟨rfl,rfl⟩) fun obj s1 h1=>?_
  obtain⟨rfl,rfl⟩:=h1;have hS:(s.heap.push { cls:=.type "list",data:=.seq #[] }).get? s.heap.objs.size=some { cls:=.type "list",data:=.seq #[] }:=al20q _ rfl;refine⟨⟨_,hS,rfl⟩,F.args_list_init_2 _ _,zhu hS ?_⟩;have l2:=al33q (Obj.mapSeq (fun _=>(#[]:Array ty3q))) hS rfl;have old:∀b o,s.heap.get? b=some o->((s.heap.push { cls:=.type "list",data:=.seq #[] }).update s.heap.objs.size (Obj.mapSeq (fun _=>(#[]:Array ty3q)))).get? b=some o:=fun b o e=>
    (al24q _ _ (fun z=>al53q _ (z▸al14q e))).trans (al5q _ e)
  have hm2:=hm.keep old;have hv2:((s.heap.push { cls:=.type "list",data:=.seq #[] }).update s.heap.objs.size (Obj.mapSeq (fun _=>(#[]:Array ty3q)))).IsValuesView v d:=let ⟨o,ho,r⟩:=hv;⟨o,old v o ho,r⟩
  have zu:((s.heap.push { cls:=.type "list",data:=.seq #[] }).update s.heap.objs.size (Obj.mapSeq (fun _=>(#[]:Array ty3q)))).objs.size=s.heap.objs.size+1:=by rw[Heap.size_update,al109q]
  generalize (s.heap.push { cls:=.type "list",data:=.seq #[] }).update s.heap.objs.size (Obj.mapSeq (fun _=>(#[]:Array ty3q)))=g at l2 old hm2 hv2 zu;have T:({ s with heap:=g }:ty2q).TypeIs (.ref v) "dict_values":=hv2.typeIs;unfold Builtin.List.listExtendWith;refine al2q (al191q T ?_);have sr:Builtin.List.listSameRef (.ref s.heap.objs.size) (.ref v)=false:=by
    have:s.heap.objs.size≠v:=al26q (al31q vl);simp[Builtin.List.listSameRef,this]
  have t1:(Value.type "dict_values" == Value.type "list")=false:=by decide
  have t2:(Value.type "dict_values" == Value.type "tuple")=false:=by decide
  simp only [sr,t1,t2,Bool.or_false,al84q,al151q];refine al2q (wpAny_pyIter_values (s:={ s with heap:=g }) hv2 hm2 ?_);have hm3:=hm2.push { cls:=.type "dict_valueiterator",data:=.fields #[.ref d,.int 0 0,.int kvs.length 0,.int ep 0] };have hv3:(g.push { cls:=.type "dict_valueiterator",data:=.fields #[.ref d,.int 0 0,.int kvs.length 0,.int ep 0] }).IsValuesView v d:=let ⟨o,ho,r⟩:=hv2;⟨o,al5q _ ho,r⟩
  refine al2q (al60q (zm9 (s:={ s with heap:=g.push { cls:=.type "dict_valueiterator",data:=.fields #[.ref d,.int 0 0,.int kvs.length 0,.int ep 0] } }) hv3.typeIs ?_));have dI:d≠g.objs.size:=by rw[zu];exact al31q (al113q dl)
  have SI:s.heap.objs.size ∉ [g.objs.size,d]:=by
    rw[zu];intro z;simp only [al21q,al64q,al192q] at z;rcases z with z | z
    · exact absurd z (al31q (al139q _))
    · exact absurd z (al26q (al31q dl))
  refine zht (A:=A.in1) (s:={ s with heap:=g.push { cls:=.type "dict_valueiterator",data:=.fields #[.ref d,.int 0 0,.int kvs.length 0,.int ep 0] } }) (Walks.dictValues (A:=A.in1.in1) hh g.objs.size d dI kvs ep) hn _ _ ⟨⟨_,al20q _ rfl,rfl,rfl⟩,hm3⟩ SI (al5q _ l2) fun s2 acc c hmv h2 h3=>?_
  obtain⟨hp,ge,dr,tk,os⟩:=s2;obtain⟨m1,m2,m3,m4,m5⟩:=hmv;obtain rfl:ge=s.gens:=m2;obtain rfl:dr=s.drawn:=m3;obtain rfl:os=s.os:=m4;refine⟨rfl,hQ hp acc c tk (fun b o e=>m1 b o ?_ (al5q _ (old b o e))) h2 h3⟩;intro z;have bl:=al14q e;simp only [al21q,al64q,al192q] at z;rcases z with z | z
  · exact absurd bl (by rw[z];exact al53q _)
  · have z:b=g.objs.size:=z;rw[z,zu] at bl;exact absurd bl (al164q (al128q _))
end
theorem Vals.of_get:∀{xs:List V}{us:List ty3q},xs.length=us.length->(∀(i:Nat) x u,xs[i]? = some x->us[i]? = some u->RelV x u)->Vals xs us
  | [],[],_,_=>.nil
  | x::xs,u::us,hl,h=>.cons (h 0 x u rfl rfl) (Vals.of_get (by simpa using hl) fun i y v e1 e2=>h (i+1) y v (by simpa using e1) (by simpa using e2))
  | [],_::_,hl,_=>by simp at hl
  | _::_,[],hl,_=>by simp at hl
theorem zna {k:Key}{v:ty3q}(h:zik k v=true):RelV (kV k) v:=by
  rcases zaz h with ⟨i,t,rfl,rfl⟩ | ⟨x,t,rfl,rfl⟩
  · exact⟨t,rfl⟩
  · exact⟨t,rfl⟩
theorem Paired.get' {α β:Type}{F:α->β->Prop}:∀{l₁:List α}{l₂:List β}{i:Nat}{a:α},Paired F l₁ l₂->l₁[i]? = some a->∃b,l₂[i]? = some b/\F a b
  | _,_,_,_,.nil,e=>by simp at e
  | _,_,0,_,.cons r _,e=>by simp at e;subst e;exact⟨_,rfl,r⟩
  | _,_,i+1,a,.cons _ t,e=>by
    obtain⟨u,h1,h2⟩:=Paired.get' (i:=i) (a:=a) t (by simpa using e);exact⟨u,by simpa using h1,h2⟩
section
variable {X:Cx}
theorem zj6 {pins:ty91q}{σ:St}{H:Hp}{s:ty2q}{Q:VK}{ys:List V}{h1:Heap}{acc:Array ty3q}{c tk:Nat}(I:Inv X pins σ H s) (kp:∀b o,s.heap.get? b=some o->h1.get? b=some o)
    (e:h1.get? s.heap.objs.size=some { cls:=.type "list",dict:=none,data:=.seq acc c,slots:=#[] }) (r:Vals ys acc.toList) (hz:ys.length<=sizeLine) (q:∀l,H l=none->Q (.ref l) (upd H l (.lst ys))):EP X pins σ Q (.ref s.heap.objs.size) { s with heap:=h1,toks:=tk }:=
  ⟨.ref s.heap.objs.size,_,I.laid (t':=tk) (o:=.lst ys) kp (al13q _) ⟨hz,acc.toList,c,r,by simpa using e⟩,rfl,q _ (I.hok.fresh (al13q _))⟩
theorem zd1 (hc:X.calm=true):zbr X (.type "list") (fun xs H Q=>∃p kvs,xs = [V.ref p]/\H p=some (.dK kvs)/\∀l,H l=none->Q (.ref l) (upd H l (.lst (kvs.map fun kv=>kV kv.1)))):=by
  intro pins s σ H xs us Q I r h;obtain⟨p,kvs,rfl,hp,q⟩:=h;obtain⟨u,rfl,ru⟩:=zb3 r;cases ru;obtain⟨z,hd,vs,rel,o,es,ep,e,ex,dt,kk,pr,nd⟩:=I.hok p _ hp;have l1:kvs.length=vs.length:=Paired.length rel;have l2:es.size=vs.length:=by rw[←pr.length];simp
  refine zhv (I.ok.hd hc) hd ⟨o,e,ex,dt⟩ (by lia) fun h1 acc c tk kp el it=>zj6 I kp el (Vals.of_get ?_ fun i x v ex ev=>?_) (by rw[al0q];exact z) q
  · have:=it.1;simp only [al0q,al81q];lia
  · rw[al4q] at ex;cases ek:kvs[i]? with
    | none=>rw[ek] at ex;cases ex
    | some kv=>
      rw[ek] at ex;cases ex;obtain⟨en,hen,rfl⟩:=it.2 i v (by simpa using ev);obtain⟨w',hw,rw'⟩:=Paired.get' rel ek;have:=(pr.get? (e:=en) (k:=w'.1) (v:=w'.2) (by simpa using hen) (by rw[hw])).1;have e1:kv.1=w'.1:=rw'.1;show RelV (kV kv.1) en.key;rw[e1];exact zna this
def vwO (p d:ty1q):HO:=.ext fun h=>h.IsValuesView p d
theorem znb:MtR X "dict.values" (fun x xs H Q=>∃d kvs,x=V.ref d/\xs = []/\H d=some (.dK kvs)/\∀p,H p=none->Q (.ref p) (upd H p (vwO p d))):=by
  intro pins s σ H x xs v us Q I rx rs h;obtain⟨d,kvs,rfl,rfl,hd,q⟩:=h;cases rx;cases rs;obtain⟨z,hs,vs,rel,dd⟩:=I.hok d _ hd;refine call_meetsIn PySem.F.slot_dict_values dd.typeIs PySem.F.entry_dict_values (PySem.F.args_dict_values_1 _) (meets_dict_values (zbf X.prog X.w) d hs) ⟨⟨vs,dd⟩,?_⟩;refine⟨.ref s.heap.objs.size,_,I.laid (t':=s.toks) (a:=s.heap.objs.size) (o:=vwO s.heap.objs.size d) (fun b u e=>al5q _ e) (al13q _) ⟨⟨_,al20q _ rfl,rfl,rfl⟩,⟨_,al20q _ rfl⟩,fun h1 h2 ⟨o,ho,r⟩ k=>⟨o,k o ho,r⟩⟩,rfl,q _ (I.hok.fresh (al13q _))⟩
theorem zhx (hc:X.calm=true):zbr X (.type "list") (fun xs H Q=>∃p d kvs,xs = [V.ref p]/\H p=some (vwO p d)/\H d=some (.dK kvs)/\∀l,H l=none->Q (.ref l) (upd H l (.lst (kvs.map (·.2))))):=by
  intro pins s σ H xs us Q I r h;obtain⟨p,d,kvs,rfl,hp,hd,q⟩:=h;obtain⟨u,rfl,ru⟩:=zb3 r;cases ru;obtain⟨z,hs,vs,rel,dd⟩:=I.hok d _ hd;obtain⟨hv,_,_⟩:=I.hok p _ hp;have l1:kvs.length=vs.length:=Paired.length rel;refine zhw (I.ok.hd hc) hv dd (by lia) fun h1 acc c tk kp el it=>zj6 I kp el (Vals.of_get ?_ fun i x v ex ev=>?_) (by rw[al0q];exact z) q
  · have:=it.1;simp only [al0q,al81q];lia
  · rw[al4q] at ex;cases ek:kvs[i]? with
    | none=>rw[ek] at ex;cases ex
    | some kv=>
      rw[ek] at ex;cases ex;obtain⟨k,hk⟩:=it.2 i v (by simpa using ev);obtain⟨w',hw,rw'⟩:=Paired.get' rel ek;rw[hk] at hw;cases hw;exact rw'.2
end
def DfM (K:ty0q) (C:ty1q) (qual m:Str) (st:Stmt) (ps:List Str):Prop:=
  ∃(f:ty1q) (fd:FuncData),Fun K m qual st f fd/\Meth K C m f/\∀us:List ty3q,us.length=ps.length->bindArgs fd ⟨us,[]⟩=pure (ps.zip us)
theorem dfm_mk {K:ty0q}{C:ty1q}{qual m:Str}{st:Stmt}{ps:List Str}{f:ty1q}{oc kV dc pm cd ct:ty3q}{od an:Option ty1q}{sl:Array (Option ty3q)}
    (hb:∀(kV doc pm:ty3q) (an:Option ty1q) (cdv ct:ty3q) (us:List ty3q),us.length=ps.length->bindArgs (PySem.W.fnOf m qual (zc5 st) (zbv st) (zp st) .none kV doc pm an cdv ct) ⟨us,[]⟩=pure (ps.zip us))
    (a:PySem.W.findIn K (.ref C) m=some (some (.ref f))) (l:K.lookup f=some ⟨oc,od,.func (PySem.W.fnOf m qual (zc5 st) (zbv st) (zp st) .none kV dc pm an cd ct),sl⟩) (c:PySem.W.codeIn K cd qual=true) (k:PySem.W.keepIn K (.ref f)=true)
    (i:PySem.W.isFn K (.ref f)=true):DfM K C qual m st ps:=⟨f,_,zrh l c k,⟨a,i,k⟩,fun us hl=>hb kV dc pm an cd ct us hl⟩
def HasM (P:ty4q) (w:World) (K:ty0q) (mg:Str->Option ty3q) (base:Heap) (C:ty1q) (m:Str) (ps:List Str) (k:Nat) (sp:Sp):Prop:=
  ∃(f:ty1q) (fd:FuncData),Meth K C m f/\(∀us:List ty3q,us.length=ps.length->bindArgs fd ⟨us,[]⟩=pure (ps.zip us))/\FnOk P w K mg base CX0 k f fd ps sp
section
variable {P:ty4q}{w:World}{K:ty0q}{mg:Str->Option ty3q}{base:Heap}
theorem DfM.has {C:ty1q}{qual m:Str}{st:Stmt}{N ps:List Str}{k:Nat}{sp:Sp}(D:DfM K C qual m st ps) (S:FnScope N ps (zp st)) (len:∀vs H Q E,sp vs H Q E->vs.length=ps.length)
    (hbody:∀(f:ty1q) (cdv:ty3q) (A:Around) (outer:List Env) (s:ty2q) (H:Hp) (vs:List V) (Q:VK) (E:XK),Room k (A.deeper (envOfC qual (zp st) s.heap.objs.size f cdv))->sp vs H Q E->
      ∃t,PSs (cxOf CX0 P w K mg base N qual (zp st) f cdv A outer s H E).nox (zbv st) t/\t { nx:=fun _ H'=>Q .non H',rt:=Q } (start N vs) H):HasM P w K mg base C m ps (k+1) sp:=by
  obtain⟨f,fd,F,a,b⟩:=D;obtain⟨oc,od,kV,doc,pm,an,cdv,ct,osl,e,lk,hcd⟩:=id F.ex;exact⟨f,fd,a,b,F.ok S len (hbody f)⟩
end
section
variable {X:Cx}(K:ty0q) (h:X.K=K)
include h
end
def zsj (n i:Nat) (p:Prop):Prop:=∃m',m'<n-i/\m'=n-(i+1)/\i+1<=n/\p
theorem zcl {n i:Nat}{p:Prop}(h:i<n) (q:p):zsj n i p:=⟨n-(i+1),by lia,rfl,h,q⟩
theorem zaj {α:Type}{xs:List α}{i:Nat}{x:α}(h:xs[i]? = some x):i<xs.length:=(al3q.mp h).1
theorem zbd {J:It}{xs:List V}{P:Hp->Prop}{own:List Str}{ix:List Nat}{g:TG}{tc:TT}{te:TE}{σ:St}{H1:Hp}{D:ty1q}{Q:VK}(F:Fix J xs P)
    (R:Nat->St->List V->Hp->Prop) (h0:R 0 (st0 own ix σ) [] (upd H1 D (.lst [])))
    (hP:∀i σ' ys H',R i σ' ys H'->P H'/\H' D=some (.lst ys)/\ys.length<=i) (hz:xs.length<=sizeLine)
    (hs:∀i x σ' ys H',xs[i]? = some x->R i σ' ys H'->g x σ' H' fun σ3 H3=>tc σ3 H3 fun b H4=>
      if b=true then te σ3 H4 fun y H5=>H5 D=some (.lst ys)/\zsj xs.length i (R (i+1) σ3 (ys++[y]) (upd H5 D (.lst (ys++[y])))) else H4 D=some (.lst ys)/\zsj xs.length i (R (i+1) σ3 ys H4))
    (hQ:∀σ' ys H',R xs.length σ' ys H'->Q (.ref D) H'):zpt own ix J g tc te σ H1 D Q:=by
  refine⟨fun i m σ' ys H'=>m=xs.length-i/\i<=xs.length/\R i σ' ys H',⟨xs.length,by simp,al65q _,h0⟩,?_⟩;rintro i m σ' ys H' ⟨rfl,hi,r⟩;obtain⟨p1,p2,p3⟩:=hP i σ' ys H' r;refine⟨p2,?_⟩
  by_cases hlt:i<xs.length
  · refine .inr ⟨F.go i _ p1 hlt,by lia,fun x H2 y=>?_⟩;obtain⟨e,y'⟩:=F.yld i _ x H2 p1 y;subst e;exact hs i x σ' ys _ (y' hlt) r
  · have e:i=xs.length:=by lia
    subst e;exact .inl ⟨F.stop _ _ p1 (al13q _),hQ σ' ys H' r⟩
end L2
namespace Dm
open PySem PySem.NumText
abbrev co (x:Str):List Nat:=x.cps.toList
theorem zut {x y:Str}(h:co x=co y):x=y:=by
  cases x with
  | mk a=>cases y with
    | mk b=>
      have:a=b:=by
        have h:a.toList=b.toList:=h;exact Array.toList_inj.mp h
      rw[this]
def zwo:Str:="abcdefghijklmnopqrstuvwxyz0123456789-"
def zwp (l:List Nat) (sg:Str):Bool:=l.all fun c=>decide (c∈co sg)
def zgm (x:Str):Bool:=decide (1<=x.length)&&decide (x.length<=12)&&zwp (co x) zwo
def za0 (ns:List Int) (i:Int):Int:=ns.getD i.toNat 0
def pt (c k m:Int):Int:=(c%99991+17) * (48271+7919 * k)%65537 * (k+3)%8191%m
theorem zbz {f:Nat->Str}{n:Nat}(h:∀i j,i<n->j<n->f i=f j->i=j):((List.range n).map f).Nodup:=by
  unfold List.Nodup;rw[al177q];refine List.Pairwise.imp_of_mem (R:=(·≠·)) (fun {a b} ha hb hab e=>?_) List.nodup_range;exact hab (h a b (al36q.mp ha) (al36q.mp hb) e)
end Dm
namespace Dm
open PySem PySem.NumText L2
def znc:List Str:=["over","cuts","fills","same"]
def zuu (z:Int):Prop:=z.natAbs<10 ^ 60
inductive TieOk (us:List Str):List V->Prop where
  | plain {kd x y:Str}(hk:kd∈znc) (hx:x∈us) (hy:y∈us):TieOk us [.str kd,.str x,.str y]
  | after {x y:Str}{n:Int}(hx:x∈us) (hy:y∈us) (h0:0<=n) (h1:zuu n):TieOk us [.str "after",.str x,.str y,.int n]
theorem TieOk.mono {us us':List Str}{ws:List V}(h:TieOk us ws) (s:∀x∈us,x∈us'):TieOk us' ws:=by
  cases h with
  | plain hk hx hy=>exact .plain hk (s _ hx) (s _ hy)
  | after hx hy h0 h1=>exact .after (s _ hx) (s _ hy) h0 h1
theorem zsk {x:Str}(h:zgm x=true):x.length<=12:=by
  unfold zgm at h;simp only [al49q,decide_eq_true_eq] at h;exact h.1.2
theorem zpv:∀k∈znc,k.length<=100:=by decide +kernel
theorem TieOk.words {us:List Str}{ws:List V}(h:TieOk us ws) (hu:∀x∈us,zgm x=true):(∀v∈ws,Wd v)/\ws.length<=5/\∃x r,ws = .str x::r:=by
  have nm:∀x∈us,Wd (.str x):=fun x hx=>.inl ⟨x,rfl,al58q (zsk (hu x hx)) (by decide)⟩
  cases h with
  | plain hk hx hy=>
    refine⟨fun v hv=>?_,by simp,_,_,rfl⟩;simp only [al21q,al64q,al192q] at hv;rcases hv with rfl | rfl | rfl
    · exact .inl ⟨_,rfl,zpv _ hk⟩
    · exact nm _ hx
    · exact nm _ hy
  | after hx hy h0 h1=>
    refine⟨fun v hv=>?_,by simp,_,_,rfl⟩;simp only [al21q,al64q,al192q] at hv;rcases hv with rfl | rfl | rfl | rfl
    · exact .inl ⟨_,rfl,by decide +kernel⟩
    · exact nm _ hx
    · exact nm _ hy
    · exact .inr ⟨_,rfl,h1⟩
abbrev Tups (H:Hp):List ty1q->List (List V)->Prop:=Paired fun a ws=>H a=some (.tup ws)
theorem Tups.same {H H':Hp}(s:Same H H'):∀{as:List ty1q}{wss:List (List V)},Tups H as wss->Tups H' as wss
  | _,_,.nil=>.nil
  | _,_,.cons h t=>.cons (s _ _ h) (Tups.same s t)
theorem Tups.get {H:Hp}:∀{as:List ty1q}{wss:List (List V)}{a:ty1q},Tups H as wss->a∈as->∃ws∈wss,H a=some (.tup ws)
  | _,_,_,.cons h t,ha=>by
    rcases al21q.mp ha with ha | ha
    · subst ha;exact⟨_,al56q ..,h⟩
    · obtain⟨ws,hw,e⟩:=Tups.get t ha;exact⟨ws,al19q _ hw,e⟩
theorem Tups.snoc {H:Hp}{a:ty1q}{ws:List V}{as:List ty1q}{wss:List (List V)}(t:Tups H as wss) (h:H a=some (.tup ws)):Tups H (as++[a]) (wss++[ws]):=Paired.snoc t h
theorem Tups.stay {H H':Hp}(s:∀b xs,H b=some (.tup xs)->H' b=some (.tup xs)):∀{as:List ty1q}{wss:List (List V)},Tups H as wss->Tups H' as wss
  | _,_,.nil=>.nil
  | _,_,.cons h t=>.cons (s _ _ h) (Tups.stay s t)
theorem za1 {H:Hp}{p:ty1q}{xs ys:List V}(h:H p=some (.lst xs)):∀b zs,H b=some (.tup zs)->upd H p (.lst ys) b=some (.tup zs):=fun b zs e=>by
  rw[zo (zcx e h (by intro z;cases z))];exact e
theorem za3 {xs:List Str}(nd:xs.Nodup) (k:Nat) (h:k<xs.length):xs[k] ∉ xs.take k:=by
  intro z;obtain⟨j,hj,e⟩:=al127q.mp z;rw[List.getElem_take] at e;rw[al28q] at hj;have:=(List.getElem_inj nd).mp e;lia
theorem zuv {x y:V}(hx:Wd x) (hy:Wd y):eqV x y=decide (x=y):=by
  rcases hx with ⟨a,rfl,_⟩ | ⟨a,rfl,_⟩<;>rcases hy with ⟨b,rfl,_⟩ | ⟨b,rfl,_⟩
  · show (a == b)=_
    by_cases h:a=b
    · subst h;simp
    · rw[al17q (fun z=>h (V.str.inj z))];exact al67q.mpr h
  · exact (al17q (fun z=>nomatch z)).symm
  · exact (al17q (fun z=>nomatch z)).symm
  · show (a == b)=_
    by_cases h:a=b
    · subst h;simp
    · rw[al17q (fun z=>h (V.int.inj z))];exact al67q.mpr h
theorem zuw {xs ys:List V}(hx:∀v∈xs,Wd v) (hy:∀v∈ys,Wd v):eqL xs ys=decide (xs=ys):=by
  by_cases h:xs=ys
  · subst h;rw[zek fun x q=>(hx x q).flat,al10q rfl]
  · rw[al17q h];rw[←Bool.not_eq_true];intro q;unfold eqL at q;rw[al49q] at q;obtain⟨q1,q2⟩:=q;have q2:xs.length=ys.length:=by simpa using q2
    apply h;apply List.ext_getElem q2;intro i h1 h2;have:=al94q.mp q1 i (al36q.mpr (by lia));rw[al1q h1,al1q h2] at this;have e:eqV xs[i] ys[i]=true:=this;rw[zuv (hx _ (al46q h1)) (hy _ (al46q h2))] at e;exact al16q e
theorem Tups.len {H:Hp}{as:List ty1q}{wss:List (List V)}(t:Tups H as wss):as.length=wss.length:=Paired.length t
theorem Tups.any {H:Hp}{as:List ty1q}{wss:List (List V)}{ws:List V}(t:Tups H as wss):∀(e:V->Bool),(∀a vs,vs∈wss->H a=some (.tup vs)->e (.ref a)=decide (vs=ws))->(as.map V.ref).any e=decide (ws∈wss):=by
  intro e he
  induction t with
  | nil=>simp
  | @cons a vs as wss h t ih=>
    rw[al79q,al119q,he a vs (al56q ..) h,ih fun b us q r=>he b us (al19q _ q) r]
    by_cases q:vs=ws
    · subst q;simp
    · rw[al17q q,Bool.false_or];have:ws∈vs::wss↔ws∈wss:=by
        rw[al21q];constructor
        · rintro (z | z)
          · exact absurd z.symm q
          · exact z
        · exact .inr
      exact al120q.mpr this.symm
def tupE (H:Hp) (ws:List V):V->Bool
  | .ref a=>match H a with
    | some (.tup vs)=>decide (vs=ws)
    | _=>false
  | _=>false
theorem znd {H:Hp}{ws vs:List V}{a:ty1q}(h:H a=some (.tup vs)):tupE H ws (.ref a)=decide (vs=ws):=by
  show (match H a with | some (.tup vs)=>decide (vs=ws) | _=>false)=_;rw[h]
theorem Tups.anyE {H:Hp}{as:List ty1q}{wss:List (List V)}{ws:List V}(t:Tups H as wss):(as.map V.ref).any (tupE H ws)=decide (ws∈wss):=t.any _ fun _ _ _ h=>znd h
theorem Tups.deq {K:ty0q}{H:Hp}{n:Nat}{as:List ty1q}{wss:List (List V)}{ws:List V}{p:ty1q}(t:Tups H as wss) (hw:∀vs∈wss,∀v∈vs,Wd v) (hp:H p=some (.tup ws)) (hv:∀v∈ws,Wd v) :
    ∀z∈as.map V.ref,DEq K H (n+1) z (.ref p) (tupE H ws z):=by
  intro z hz;obtain⟨a,ha,rfl⟩:=al32q.mp hz;obtain⟨vs,hvs,e⟩:=t.get ha;rw[znd e,←zuw (hw vs hvs) hv];exact DEq.flatT (SqT.of e) (SqT.of hp) (fun x q=>(hw vs hvs x q).flat) fun x q=>(hv x q).flat
theorem ziw {α:Type}{H:Hp}{g:α->List V}{ads:List ty1q}{ps:List α}{i:Nat}{x:V}(t:Tups H ads (ps.map g)) (hx:(ads.map V.ref)[i]? = some x) :
    ∃q p,x = .ref q/\ps[i]? = some p/\ads[i]? = some q/\H q=some (.tup (g p)):=by
  rw[al4q] at hx;cases e:ads[i]? with
  | none=>rw[e] at hx;cases hx
  | some q=>
    rw[e] at hx;cases hx;obtain⟨ws,h1,h2⟩:=Paired.get' t e;rw[al4q] at h1;cases e':ps[i]? with
    | none=>rw[e'] at h1;cases h1
    | some p=>
      rw[e'] at h1;cases h1;exact⟨q,p,rfl,rfl,rfl,h2⟩
theorem zj7 {α:Type}{p:α->Prop}{xs:List α}{i:Nat}{x:α}(hx:xs[i]? = some x) (h:∀y∈xs.take i,p y) (hp:p x):∀y∈xs.take (i+1),p y:=by
  intro y hy;rw[al9q,hx,al25q] at hy;rcases hy with hy | hy
  · exact h y hy
  · simp at hy;subst hy;exact hp
theorem zux {u v:V}{i:Int}(h0:0<=i) (h1:i<2):∃z,atI [u,v] i=some z/\(z=u\/z=v):=by
  have h:i=0\/i=1:=by lia
  rcases h with rfl | rfl
  · exact⟨u,rfl,.inl rfl⟩
  · exact⟨v,rfl,.inr rfl⟩
structure Tie where
  k:Str
  a:Str
  b:Str
  g:Option Int
def tieV (t:Tie):List V:=.str t.k :: .str t.a :: .str t.b::(match t.g with
  | some n=>[V.int n]
  | none=>[])
def SAME:Str:="same"
structure TOk (us:List Str) (t:Tie):Prop where
  ok:TieOk us (tieV t)
  a:t.a∈us
  b:t.b∈us
theorem zne (t:Tie):atI (tieV t) 0=some (.str t.k):=ziv
theorem zri (t:Tie):atI (tieV t) 1=some (.str t.a):=za2 (xs:=tieV t) (j:=1) rfl
theorem zrj (t:Tie):atI (tieV t) 2=some (.str t.b):=za2 (xs:=tieV t) (j:=2) rfl
theorem zsl {xs:List V}{z:Int}(h0:0<=z) (h1:z<=xs.length):cutV xs none (some z)=xs.take z.toNat:=by
  unfold cutV HT.sIx;simp;split
  · lia
  · congr 1
    lia
theorem zix {x y:Str}(h1:¬co x<co y) (h2:¬co y<co x):x=y:=by
  rw[List.not_lt] at h1 h2;exact zut (List.le_antisymm h2 h1)
theorem zdg {x y:Str}(h1:co x<co y) (h2:co y<co x):False:=al69q _ (al169q h1 h2)
theorem zsm {y m f:List Nat}(h1:y<m) (h2:¬f<m):y<f:=by
  exact al34q fun z=>h2 (List.lt_of_le_of_lt (List.not_lt.mp z) h1)
def minS (x y:Str):Str:=if co y<co x then y else x
theorem zsn (x y:Str):minS x y=x\/minS x y=y:=by unfold minS;split<;>simp
theorem zuy (x y:Str):¬co x<co (minS x y):=by
  unfold minS;split
  · next h=>exact fun z=>zdg h z
  · exact al69q _
theorem zuz (x y:Str):¬co y<co (minS x y):=by
  unfold minS;split
  · exact al69q _
  · next h=>exact h
def Nb (ts:List Tie) (y z:Str):Prop:=∃t∈ts,t.k=SAME/\((t.a=y/\t.b=z)\/(t.b=y/\t.a=z))
inductive Cn (ts:List Tie):Str->Str->Prop where
  | refl (x:Str):Cn ts x x
  | step {x y z:Str}(h:Cn ts x y) (n:Nb ts y z):Cn ts x z
theorem Nb.symm {ts:List Tie}{y z:Str}(h:Nb ts y z):Nb ts z y:=by
  obtain⟨t,ht,hk,h⟩:=h;exact⟨t,ht,hk,h.elim (fun q=>.inr ⟨q.2,q.1⟩) fun q=>.inl ⟨q.2,q.1⟩⟩
theorem Cn.trans {ts:List Tie}{x y z:Str}(h:Cn ts x y) (h2:Cn ts y z):Cn ts x z:=by
  induction h2 with
  | refl=>exact h
  | step _ n ih=>exact ih.step n
theorem Cn.one {ts:List Tie}{y z:Str}(n:Nb ts y z):Cn ts y z:=(Cn.refl y).step n
theorem Cn.symm {ts:List Tie}{x y:Str}(h:Cn ts x y):Cn ts y x:=by
  induction h with
  | refl=>exact .refl _
  | step _ n ih=>exact (Cn.one n.symm).trans ih
theorem Nb.mono {ts ts':List Tie}{y z:Str}(h:Nb ts y z) (s:∀t∈ts,t∈ts'):Nb ts' y z:=by
  obtain⟨t,ht,r⟩:=h;exact⟨t,s t ht,r⟩
theorem Cn.mono {ts ts':List Tie}{y z:Str}(h:Cn ts y z) (s:∀t∈ts,t∈ts'):Cn ts' y z:=by
  induction h with
  | refl=>exact .refl _
  | step _ n ih=>exact ih.step (n.mono s)
theorem Nb.mem {us:List Str}{ts:List Tie}{y z:Str}(h:Nb ts y z) (ht:∀t∈ts,t.a∈us/\t.b∈us):z∈us:=by
  obtain⟨t,h1,_,h2⟩:=h;rcases h2 with ⟨_,rfl⟩ | ⟨_,rfl⟩
  · exact (ht t h1).2
  · exact (ht t h1).1
theorem Cn.mem {us:List Str}{ts:List Tie}{y z:Str}(h:Cn ts y z) (hy:y∈us) (ht:∀t∈ts,t.a∈us/\t.b∈us):z∈us:=by
  cases h with
  | refl=>exact hy
  | step _ n=>exact n.mem ht
def jn (lab:Str->Str) (f s:Str):Str->Str:=fun x=>if lab x=f\/lab x=s then minS f s else lab x
def stp (lab:Str->Str) (t:Tie):Str->Str:=if t.k=SAME then jn lab (lab t.a) (lab t.b) else lab
def labs (ts:List Tie):Str->Str:=ts.foldl stp id
structure Good (ts:List Tie) (lab:Str->Str):Prop where
  to:∀x,Cn ts x (lab x)
  eq:∀x y,Cn ts x y->lab x=lab y
  le:∀x y,Cn ts x y->¬co y<co (lab x)
theorem zpw:Good [] id:=by
  have h:∀x y,Cn [] x y->x=y:=by
    intro x y c
    induction c with
    | refl=>rfl
    | step _ n _=>obtain⟨t,ht,_⟩:=n;cases ht
  exact⟨fun x=>.refl x,h,fun x y c=>by rw[h x y c];exact al69q _⟩
theorem znf {ts:List Tie}{lab:Str->Str}{t:Tie}(g:Good ts lab):Good (ts++[t]) (stp lab t):=by
  have sub:∀u∈ts,u∈ts++[t]:=fun u hu=>al35q _ hu
  by_cases hk:t.k=SAME
  · unfold stp;rw[al12q hk];have nt:Nb (ts++[t]) t.a t.b:=⟨t,by simp,hk,.inl ⟨rfl,rfl⟩⟩;have ca:∀x,lab x=lab t.a->Cn (ts++[t]) x t.a:=fun x e=>by
      have h1:=(g.to x).mono sub;have h2:=(g.to t.a).mono sub;rw[e] at h1;exact h1.trans h2.symm
    have cb:∀x,lab x=lab t.b->Cn (ts++[t]) x t.b:=fun x e=>by
      have h1:=(g.to x).mono sub;have h2:=(g.to t.b).mono sub;rw[e] at h1;exact h1.trans h2.symm
    have la:Cn (ts++[t]) t.a (lab t.a):=(g.to t.a).mono sub;have lb:Cn (ts++[t]) t.b (lab t.b):=(g.to t.b).mono sub;have to:∀x,Cn (ts++[t]) x (jn lab (lab t.a) (lab t.b) x):=by
      intro x;unfold jn;split
      · next h=>
        have hx:Cn (ts++[t]) x t.a:=h.elim (ca x) fun e=>(cb x e).trans (Cn.one nt.symm)
        rcases zsn (lab t.a) (lab t.b) with e | e
        · rw[e];exact hx.trans la
        · rw[e];exact (hx.trans (Cn.one nt)).trans lb
      · exact (g.to x).mono sub
    have ja:jn lab (lab t.a) (lab t.b) t.a=minS (lab t.a) (lab t.b):=al12q (.inl rfl);have jb:jn lab (lab t.a) (lab t.b) t.b=minS (lab t.a) (lab t.b):=al12q (.inr rfl);have eq:∀x y,Cn (ts++[t]) x y->jn lab (lab t.a) (lab t.b) x=jn lab (lab t.a) (lab t.b) y:=by
      intro x y c
      induction c with
      | refl=>rfl
      | @step y z _ n ih=>
        rw[ih];obtain⟨u,hu,hku,h⟩:=n;rcases al25q.mp hu with hu | hu
        · have:lab y=lab z:=g.eq y z (Cn.one ⟨u,hu,hku,h⟩);unfold jn;rw[this]
        · have hu:u=t:=by simpa using hu
          subst hu;rcases h with ⟨rfl,rfl⟩ | ⟨rfl,rfl⟩
          · rw[ja,jb]
          · rw[ja,jb]
    refine⟨to,eq,fun x y c=>?_⟩;rw[eq x y c];have old:=g.le y y (.refl y);unfold jn;split
    · next h=>
      rcases h with e | e
      · intro z;rw[e] at old;exact old (zsm z (zuy _ _))
      · intro z;rw[e] at old;exact old (zsm z (zuz _ _))
    · exact old
  · unfold stp;rw[al8q hk];have back:∀x y,Cn (ts++[t]) x y->Cn ts x y:=by
      intro x y c
      induction c with
      | refl=>exact .refl _
      | step _ n ih=>
        obtain⟨u,hu,hku,h⟩:=n;rcases al25q.mp hu with hu | hu
        · exact ih.step ⟨u,hu,hku,h⟩
        · have hu:u=t:=by simpa using hu
          subst hu;exact absurd hku hk
    exact⟨fun x=>(g.to x).mono sub,fun x y c=>g.eq x y (back x y c),fun x y c=>g.le x y (back x y c)⟩
theorem zj8:∀(ts2 ts:List Tie) (lab:Str->Str),Good ts lab->Good (ts++ts2) (ts2.foldl stp lab)
  | [],ts,lab,g=>by rw[al62q];exact g
  | t::r,ts,lab,g=>by
    have:=zj8 r (ts++[t]) (stp lab t) (znf g);rw[al156q] at this;exact this
theorem zdh (ts:List Tie):Good ts (labs ts):=zj8 ts [] id zpw
theorem zhy {ts:List Tie}{i:Nat}{t:Tie}(h:ts[i]? = some t):labs (ts.take (i+1))=stp (labs (ts.take i)) t:=by
  unfold labs;rw[al9q,h,List.foldl_append];rfl
theorem zj9 {us:List Str}{ts:List Tie}{x:Str}(hx:x∈us) (ht:∀t∈ts,t.a∈us/\t.b∈us):labs ts x∈us:=((zdh ts).to x).mem hx ht
def dN (us:List Str) (lab:Str->Str):List (Key×V):=us.map fun x=>(Sum.inr x,V.str (lab x))
theorem zc1 {us:List Str}{lab:Str->Str}{x:Str}(h:x∈us):valV (dN us lab) (Sum.inr x)=some (.str (lab x)):=by
  induction us with
  | nil=>cases h
  | cons y r ih=>
    unfold dN;rw[al79q]
    by_cases e:y=x
    · subst e;exact zdc rfl
    · have hx:x∈r:=by
        rcases al21q.mp h with h | h
        · exact absurd h.symm e
        · exact h
      have:=ih hx;unfold valV at this ⊢;rw[List.find?_cons_of_neg (by simpa using e)];exact this
theorem zu0 {us:List Str}{lab:Str->Str}{x y:Str}(h:x∈us):putK (dN us lab) (Sum.inr x) (.str y)=dN us (fun z=>if z=x then y else lab z):=by
  have ha:((dN us lab).any fun kv=>decide (kv.1=(Sum.inr x:Key)))=true:=by
    rw[al108q];exact⟨(Sum.inr x,V.str (lab x)),al32q.mpr ⟨x,h,rfl⟩,al10q rfl⟩
  unfold putK;rw[al12q ha];unfold dN;rw[al73q];apply al68q;intro z _;show (if (Sum.inr z:Key)=Sum.inr x then (Sum.inr z,V.str y) else (Sum.inr z,V.str (lab z)))=_
  by_cases e:z=x
  · subst e;simp
  · rw[al8q (fun q=>e (al188q q))];show _=(Sum.inr z,V.str (if z=x then y else lab z));rw[al8q e]
theorem zu1 {us:List Str}{x:Str}(h:x ∉ us):putK (dN us id) (Sum.inr x) (.str x)=dN (us++[x]) id:=by
  have ha:¬((dN us id).any fun kv=>decide (kv.1=(Sum.inr x:Key)))=true:=by
    rw[al108q];rintro ⟨kv,h1,h2⟩;obtain⟨z,hz,rfl⟩:=al32q.mp h1;have h2:z=x:=al188q (al16q h2);subst h2;exact h hz
  unfold putK;rw[al8q ha];unfold dN;rw[al15q];rfl
theorem zem {us:List Str}{f g:Str->Str}(h:∀x∈us,f x=g x):dN us f=dN us g:=by
  unfold dN;apply al68q;intro x hx;rw[h x hx]
theorem zrk (us:List Str) (f:Str->Str):(dN us f).length=us.length:=al0q _
theorem zso (us:List Str) (f:Str->Str):((dN us f).map fun kv=>kV kv.1)=us.map V.str:=by
  unfold dN;rw[al73q];rfl
theorem za9 {us rs:List Str}(hn:rs.Nodup) (hs:∀x∈rs,x∈us):rs.length<=us.length:=by
  induction rs generalizing us with
  | nil=>simp
  | cons a r ih=>
    rw[al75q] at hn;have ha:=hs a (by simp);have h2:∀x∈r,x∈us.erase a:=fun x hx=>by
      refine (List.mem_erase_of_ne (fun z=>by subst z;exact hn.1 hx)).mpr (hs x (al19q _ hx))
    have:=ih hn.2 h2;rw[al131q ha] at this;have hp:0<us.length:=al149q ha;rw[al99q];lia
def ziy (l:List Str):Prop:=l.Pairwise (fun a b=>¬co b<co a)
theorem zd2:∀{a b:List Str},a.Perm b->ziy a->ziy b->a=b
  | [],b,p,_,_=>by rw[List.nil_perm.mp p]
  | x::r,[],p,_,_=>by have:=p.length_eq;cases this
  | x::r,y::r',p,ha,hb=>by
    have hx:x∈y::r':=p.mem_iff.mp (by simp);have hy:y∈x::r:=p.mem_iff.mpr (by simp);have e:x=y:=by
      rcases al21q.mp hx with h | h
      · exact h
      · rcases al21q.mp hy with h2 | h2
        · exact h2.symm
        · exact zix ((al57q.mp hb).1 x h) ((al57q.mp ha).1 y h2)
    subst e;rw[zd2 (List.Perm.cons_inv p) (al57q.mp ha).2 (al57q.mp hb).2]
def insS (x:Str):List Str->List Str
  | []=>[x]
  | y::r=>if co y<co x then y::insS x r else x::y::r
def srt:List Str->List Str
  | []=>[]
  | x::r=>insS x (srt r)
theorem zex (x:Str):∀l,(insS x l).Perm (x::l)
  | []=>.refl _
  | y::r=>by
    unfold insS;split
    · exact ((zex x r).cons y).trans (.swap x y r)
    · exact .refl _
theorem zca:∀l,(srt l).Perm l
  | []=>.refl _
  | x::r=>(zex x (srt r)).trans ((zca r).cons x)
theorem zf3 (x:Str):∀l,ziy l->ziy (insS x l)
  | [],_=>List.pairwise_singleton ..
  | y::r,h=>by
    unfold insS;obtain⟨h1,h2⟩:=al57q.mp h;split
    · next c=>
      refine al57q.mpr ⟨fun z hz=>?_,zf3 x r h2⟩;rcases al21q.mp ((zex x r).mem_iff.mp hz) with e | hz
      · subst e;exact fun q=>zdg q c
      · exact h1 z hz
    · next c=>
      refine al57q.mpr ⟨fun z hz=>?_,h⟩;rcases al21q.mp hz with e | hz
      · subst e;exact c
      · intro q;exact h1 z hz (zsm q c)
theorem zey:∀l,ziy (srt l)
  | []=>.nil
  | x::r=>zf3 x (srt r) (zey r)
theorem zka {ms us:List Str}(p:ms.Perm us) (h:ziy ms):ms=srt us:=zd2 (p.trans (zca us).symm) h (zey us)
theorem zez {us:List Str}(h:us.Nodup):(srt us).Nodup:=(zca us).nodup_iff.mpr h
theorem srt_mem {us:List Str}{x:Str}:x∈srt us↔x∈us:=(zca us).mem_iff
theorem ziz (us:List Str):(srt us).length=us.length:=(zca us).length_eq
theorem zkb {us:List Str}(h:us.Nodup):(srt us).Pairwise (fun a b=>co a<co b):=by
  have h1:=zey us;have h2:=zez h;refine (h1.and h2).imp fun {a b} hq0=>?_
  obtain⟨p,q⟩:=hq0;exact al34q fun k=>q (zix k p)
theorem zpx {ss:List Str}(h:ss.Pairwise (fun a b=>co a<co b)) {i j:Nat}{x y:Str}(hx:ss[i]? = some x) (hy:ss[j]? = some y) (hl:co x<co y):i<j:=by
  obtain⟨hi,ex⟩:=al3q.mp hx;obtain⟨hj,ey⟩:=al3q.mp hy;rcases al101q i j with c | c | c
  · exact c
  · subst c;rw[ex] at ey;subst ey;exact absurd hl (al69q _)
  · have:=(al48q.mp h) j i hj hi c;rw[ex,ey] at this;exact (zdg hl this).elim
def dV (ks:List Str) (f:Str->V):List (Key×V):=ks.map fun x=>(Sum.inr x,f x)
theorem zbk {ks:List Str}{f:Str->V}{x:Str}(h:x∈ks):valV (dV ks f) (Sum.inr x)=some (f x):=by
  induction ks with
  | nil=>cases h
  | cons y r ih=>
    unfold dV;rw[al79q]
    by_cases e:y=x
    · subst e;exact zdc rfl
    · have hx:x∈r:=by
        rcases al21q.mp h with h | h
        · exact absurd h.symm e
        · exact h
      have:=ih hx;unfold valV at this ⊢;rw[List.find?_cons_of_neg (by simpa using e)];exact this
theorem zc8 {ks:List Str}{f:Str->V}{x:Str}(h:x ∉ ks):valV (dV ks f) (Sum.inr x)=none:=by
  unfold valV;rw[List.find?_eq_none.mpr]
  · rfl
  · intro kv hkv;obtain⟨z,hz,rfl⟩:=al32q.mp hkv;intro e;have e:z=x:=al188q (al16q e);subst e;exact h hz
theorem zkc {ks:List Str}{f:Str->V}{x:Str}{v:V}(h:x∈ks):putK (dV ks f) (Sum.inr x) v=dV ks (fun z=>if z=x then v else f z):=by
  have ha:((dV ks f).any fun kv=>decide (kv.1=(Sum.inr x:Key)))=true:=by
    rw[al108q];exact⟨(Sum.inr x,f x),al32q.mpr ⟨x,h,rfl⟩,al10q rfl⟩
  unfold putK;rw[al12q ha];unfold dV;rw[al73q];apply al68q;intro z _;show (if (Sum.inr z:Key)=Sum.inr x then (Sum.inr z,v) else (Sum.inr z,f z))=(Sum.inr z,if z=x then v else f z)
  by_cases e:z=x
  · subst e;simp
  · rw[al8q (fun q=>e (al188q q)),al8q e]
theorem zc2 {ks:List Str}{f:Str->V}{x:Str}{v:V}(h:x ∉ ks):putK (dV ks f) (Sum.inr x) v=dV (ks++[x]) (fun z=>if z=x then v else f z):=by
  have ha:¬((dV ks f).any fun kv=>decide (kv.1=(Sum.inr x:Key)))=true:=by
    rw[al108q];rintro ⟨kv,h1,h2⟩;obtain⟨z,hz,rfl⟩:=al32q.mp h1;have h2:z=x:=al188q (al16q h2);subst h2;exact h hz
  unfold putK;rw[al8q ha];unfold dV;rw[al15q]
  congr 1
  · apply al68q;intro z hz;have:¬z=x:=fun e=>h (e▸hz)
    show _=(Sum.inr z,if z=x then v else f z);rw[al8q this]
  · show [(Sum.inr x,v)] = [(Sum.inr x,if x=x then v else f x)];rw[al12q rfl]
theorem zbe {ks:List Str}{f g:Str->V}(h:∀x∈ks,f x=g x):dV ks f=dV ks g:=by
  unfold dV;apply al68q;intro x hx;rw[h x hx]
theorem zas (ks:List Str) (f:Str->V):(dV ks f).length=ks.length:=al0q _
theorem zgn (ks:List Str) (f:Str->V):((dV ks f).map fun kv=>kV kv.1)=ks.map V.str:=by
  unfold dV;rw[al73q];rfl
theorem zsp (ks:List Str) (f:Str->V):((dV ks f).map (·.2))=ks.map f:=by
  unfold dV;rw[al73q];rfl
def zn (ts:List Tie) (ss:List Str):List Str:=ss.filter fun x=>decide (labs ts x=x)
def zcm (ts:List Tie) (ss:List Str) (k:Str):List Str:=ss.filter fun x=>decide (labs ts x=k)
def zch (us:List Str) (ts:List Tie):List (List Str):=(zn ts (srt us)).map (zcm ts (srt us))
theorem zhz {ts:List Tie}{ss:List Str}{i:Nat}{u:Str}(h:ss[i]? = some u):zn ts (ss.take (i+1))=zn ts (ss.take i)++(if labs ts u=u then [u] else []):=by
  unfold zn;rw[al9q,h,al87q]
  by_cases c:labs ts u=u
  · rw[al12q c];simp[c]
  · rw[al8q c];simp[c]
theorem zgo {ts:List Tie}{ss:List Str}{i:Nat}{u k:Str}(h:ss[i]? = some u):zcm ts (ss.take (i+1)) k=zcm ts (ss.take i) k++(if labs ts u=k then [u] else []):=by
  unfold zcm;rw[al9q,h,al87q]
  by_cases c:labs ts u=k
  · rw[al12q c];simp[c]
  · rw[al8q c];simp[c]
theorem zh0 (ts:List Tie) (x:Str):labs ts (labs ts x)=labs ts x:=((zdh ts).eq x _ ((zdh ts).to x)).symm
theorem zi0 (ts:List Tie) (x:Str):¬co x<co (labs ts x):=(zdh ts).le x x (.refl x)
theorem zsq {us:List Str}{ts:List Tie}(nd:us.Nodup) (ht:∀t∈ts,t.a∈us/\t.b∈us) {i:Nat}{u:Str}(h:(srt us)[i]? = some u) (hne:labs ts u≠u):labs ts u∈zn ts ((srt us).take i):=by
  have hu:u∈us:=srt_mem.mp (al6q h);have hl:labs ts u∈srt us:=srt_mem.mpr (zj9 hu ht);obtain⟨j,hj,ej⟩:=al127q.mp hl;have ej':(srt us)[j]? = some (labs ts u):=by rw[al1q hj,ej]
  have hlt:co (labs ts u)<co u:=al34q fun k=>hne (zix k (zi0 ts u))
  have hij:=zpx (zkb nd) ej' h hlt;unfold zn;rw[al43q];refine⟨?_,al10q (zh0 ts u)⟩;rw[List.mem_take_iff_getElem];exact⟨j,by lia,ej⟩
theorem zsr {us:List Str}{ts:List Tie}(nd:us.Nodup) {i:Nat}{u:Str}(h:(srt us)[i]? = some u):u ∉ zn ts ((srt us).take i)/\(labs ts u=u->zcm ts ((srt us).take i) u = []):=by
  have hi:=(al3q.mp h).1;have eu:=(al3q.mp h).2;have hlt:∀x∈(srt us).take i,co x<co u:=by
    intro x hx;obtain⟨j,hj,ej⟩:=List.mem_take_iff_getElem.mp hx;have:=(al48q.mp (zkb nd)) j i (by lia) hi (by lia);rw[ej,eu] at this;exact this
  refine⟨fun z=>?_,fun e=>?_⟩
  · have:=hlt u (al43q.mp z).1;exact al69q _ this
  · unfold zcm;rw[al150q];intro x hx c;have c:labs ts x=u:=al16q c;have:=zi0 ts x;rw[c] at this;exact this (hlt x hx)
section
variable {us:List Str}{ts:List Tie}
theorem keys_mem {k:Str}:k∈zn ts (srt us)↔k∈us/\labs ts k=k:=by
  unfold zn;rw[al43q,srt_mem,al40q]
theorem zav (nd:us.Nodup):(zn ts (srt us)).Nodup:=(zez nd).sublist (al114q ..)
theorem zng (nd:us.Nodup):(zn ts (srt us)).Pairwise (fun a b=>co a<co b):=(zkb nd).sublist (al114q ..)
theorem zu2 (nd:us.Nodup) (k:Str):(zcm ts (srt us) k).Pairwise (fun a b=>co a<co b):=(zkb nd).sublist (al114q ..)
theorem grp_mem {k y:Str}:y∈zcm ts (srt us) k↔y∈us/\labs ts y=k:=by
  unfold zcm;rw[al43q,srt_mem,al40q]
theorem zcb (ht:∀t∈ts,t.a∈us/\t.b∈us) {x:Str}(hx:x∈us):labs ts x∈zn ts (srt us):=keys_mem.mpr ⟨zj9 hx ht,zh0 ts x⟩
theorem zkd (nd:us.Nodup) {k:Str}(hk:k∈zn ts (srt us)):∃r,zcm ts (srt us) k=k::r:=by
  obtain⟨h1,h2⟩:=keys_mem.mp hk;have hm:k∈zcm ts (srt us) k:=grp_mem.mpr ⟨h1,h2⟩;have hp:=zu2 (ts:=ts) nd k;cases e:zcm ts (srt us) k with
  | nil=>rw[e] at hm;cases hm
  | cons x r=>
    rw[e] at hm hp;rcases al21q.mp hm with z | z
    · rw[z];exact⟨r,rfl⟩
    · have h3:=(al57q.mp hp).1 k z;have hx:x∈zcm ts (srt us) k:=by rw[e];simp
      have h4:=zi0 ts x;rw[(grp_mem.mp hx).2] at h4;exact absurd h3 h4
theorem zgp (nd:us.Nodup):(zch us ts).length<=us.length:=by
  unfold zch;rw[al0q];have:=al59q (fun x=>decide (labs ts x=x)) (srt us);rw[ziz] at this;exact this
end
structure Fnd where
  n:Str
  u:Str
  lo:Int
  hi:Int
def fndV (f:Fnd):List V:=[.str f.n,.str f.u,.int f.lo,.int f.hi]
theorem TOk.mono {us us':List Str}{t:Tie}(h:TOk us t) (s:∀x∈us,x∈us'):TOk us' t:=⟨h.ok.mono s,s _ h.a,s _ h.b⟩
theorem znh {xs:List V}{z:Int}(h0:0<=z) (h1:z<=xs.length):cutV xs (some z) none=xs.drop z.toNat:=by
  unfold cutV HT.sIx;simp;split
  · lia
  · rw[Nat.min_eq_left (by lia)];apply al52q;rw[al134q];lia
abbrev Ln:=Str->List (Str×ty1q)
def zak (ts:List Tie) (z:List (Tie×ty1q)):Ln:=fun k=>(z.filter fun p=>decide (p.1.k≠SAME/\labs ts p.1.a=k)).map fun p=>(labs ts p.1.b,p.2)
theorem zke {ts:List Tie}{z:List (Tie×ty1q)}{i:Nat}{t:Tie}{r:ty1q}{k:Str}(h:z[i]? = some (t,r)):zak ts (z.take (i+1)) k=zak ts (z.take i) k++(if t.k≠SAME/\labs ts t.a=k then [(labs ts t.b,r)] else []):=by
  unfold zak;rw[al9q,h,al87q,al15q]
  by_cases c:t.k≠SAME/\labs ts t.a=k
  · rw[al12q c];simp[c.1,c.2]
  · rw[al8q c]
    congr 1
    have:((some (t,r)).toList.filter fun p=>decide (p.1.k≠SAME/\labs ts p.1.a=k)) = []:=by
      rw[al150q];intro p hp;have:p=(t,r):=by simpa using hp
      subst this;intro e;exact c (al16q e)
    rw[this];rfl
theorem lnk_mem {ts:List Tie}{z:List (Tie×ty1q)}{k l:Str}{r:ty1q}:(l,r)∈zak ts z k↔∃t,(t,r)∈z/\t.k≠SAME/\labs ts t.a=k/\labs ts t.b=l:=by
  unfold zak;rw[al32q];constructor
  · rintro ⟨⟨t,r'⟩,h,e⟩;rw[al43q,al40q] at h;simp only [Prod.mk.injEq] at e;obtain⟨e1,e2⟩:=e;subst e2;exact⟨t,h.1,h.2.1,h.2.2,e1⟩
  · rintro ⟨t,h1,h2,h3,h4⟩;refine⟨(t,r),?_,by simp[h4]⟩;rw[al43q,al40q];exact⟨h1,h2,h3⟩
theorem zgq {ts:List Tie}{z:List (Tie×ty1q)}{k:Str}:(zak ts z k).length<=z.length:=by
  unfold zak;rw[al0q];exact al59q _ _
inductive Wk (ln:Ln) (s:Str):List ty1q->Str->Prop
  | nil:Wk ln s [] s
  | snoc {rs:List ty1q}{m l:Str}{r:ty1q}(w:Wk ln s rs m) (h:(l,r)∈ln m):Wk ln s (rs++[r]) l
def Rc (ln:Ln) (s:Str) (n:Nat) (v:Str):Prop:=∃rs,Wk ln s rs v/\rs.length=n
theorem Rc.zero {ln:Ln}{s v:Str}(h:Rc ln s 0 v):v=s:=by
  obtain⟨rs,w,e⟩:=h;cases w with
  | nil=>rfl
  | snoc w h=>simp at e
theorem Rc.succ {ln:Ln}{s v:Str}{n:Nat}(h:Rc ln s (n+1) v):∃u r,Rc ln s n u/\(v,r)∈ln u:=by
  obtain⟨rs,w,e⟩:=h;cases w with
  | nil=>simp at e
  | snoc w h=>exact⟨_,_,⟨_,w,by simpa using e⟩,h⟩
theorem Rc.step {ln:Ln}{s v u:Str}{n:Nat}{r:ty1q}(h:Rc ln s n u) (e:(v,r)∈ln u):Rc ln s (n+1) v:=by
  obtain⟨rs,w,q⟩:=h;exact⟨_,w.snoc e,by simp[q]⟩
structure Bf (ln:Ln) (s:Str) (d:Nat) (M ns:List Str):Prop where
  met:∀v∈M,∃j,1<=j/\j<=d/\Rc ln s j v
  no:∀j,1<=j->j<=d->¬Rc ln s j s
  all:∀v,Rc ln s d v->(∀j,1<=j->j<d->¬Rc ln s j v)->v∈ns
theorem Bf.zero {ln:Ln}{s:Str}:Bf ln s 0 [] [s]:=
  ⟨fun v h=>(al64q h).elim,fun j h1 h2=>by lia,fun v h _=>by rw[h.zero];simp⟩
theorem Bf.succ {ln:Ln}{s:Str}{d:Nat}{M ns ms:List Str}(b:Bf ln s d M ns) (hm:∀v∈ms,Rc ln s (d+1) v) (hs:∀u∈ns,∀v r,(v,r)∈ln u->v≠s/\v∈M++ms):Bf ln s (d+1) (M++ms) ms:=by
  refine⟨fun v h=>?_,fun j h1 h2 q=>?_,fun v h hj=>?_⟩
  · rcases al25q.mp h with h | h
    · obtain⟨j,a,c,e⟩:=b.met v h;exact⟨j,a,by lia,e⟩
    · exact⟨d+1,by lia,by lia,hm v h⟩
  · by_cases c:j<=d
    · exact b.no j h1 c q
    · have e:j=d+1:=by lia
      subst e;obtain⟨u,r,hu,he⟩:=q.succ
      by_cases c2:∃j,1<=j/\j<d/\Rc ln s j u
      · obtain⟨j,a1,a2,a3⟩:=c2;exact b.no (j+1) (by lia) (by lia) (a3.step he)
      · exact (hs u (b.all u hu fun j a1 a2 a3=>c2 ⟨j,a1,a2,a3⟩) s r he).1 rfl
  · obtain⟨u,r,hu,he⟩:=h.succ;have hu':u∈ns:=b.all u hu fun j a1 a2 a3=>hj (j+1) (by lia) (by lia) (a3.step he)
    rcases al25q.mp (hs u hu' v r he).2 with h | h
    · obtain⟨j,a1,a2,a3⟩:=b.met v h;exact absurd a3 (hj j a1 (by lia))
    · exact h
theorem Bf.done {ln:Ln}{s:Str}{d:Nat}{M:List Str}(b:Bf ln s d M []):∀j,1<=j->¬Rc ln s j s:=by
  have low:∀j v,1<=j->Rc ln s j v->∃j',1<=j'/\j'<=d/\Rc ln s j' v/\j'<max d 1:=by
    intro j
    induction j with
    | zero=>intro v h;lia
    | succ j ih=>
      intro v _ h;have at_d:Rc ln s d v->∃j',1<=j'/\j'<=d/\Rc ln s j' v/\j'<max d 1:=fun q=>by
        by_cases c:∃j,1<=j/\j<d/\Rc ln s j v
        · obtain⟨i,a1,a2,a3⟩:=c;exact⟨i,a1,by lia,a3,by lia⟩
        · exact nomatch b.all v q fun i a1 a2 a3=>c ⟨i,a1,a2,a3⟩
      by_cases c1:j+1<d
      · exact⟨j+1,by lia,by lia,h,by lia⟩
      · by_cases c2:j+1=d
        · exact at_d (c2▸h)
        · obtain⟨u,r,hu,he⟩:=h.succ
          by_cases c3:j=0
          · have:d=0:=by lia
            subst this;subst c3;exact (nomatch b.all s ⟨[],.nil,rfl⟩ fun i a1 a2 a3=>by lia)
          · obtain⟨j',a1,a2,a3,a4⟩:=ih u (by lia) hu
            by_cases c4:j'+1=d
            · exact at_d (c4▸a3.step he)
            · exact⟨j'+1,by lia,by lia,a3.step he,by lia⟩
  intro j h q;obtain⟨j',a1,a2,a3,_⟩:=low j s h q;exact b.no j' a1 a2 a3
structure Bn (H:Hp) (pd:ty1q) (ob:Obj) (keys:List Str) (ln:Ln) (ad:Str->ty1q) (bs:Str->List ty1q):Prop where
  d:H pd=some (.frz ob (.dK (dV keys fun k=>.ref (ad k))))
  l:∀k∈keys,H (ad k)=some (.lst ((bs k).map V.ref))
  e:∀k∈keys,Paired (fun b (p:Str×ty1q)=>H b=some (.tup [.str p.1,.ref p.2])) (bs k) (ln k)
theorem Bn.same {H H':Hp}{pd:ty1q}{ob:Obj}{keys:List Str}{ln:Ln}{ad:Str->ty1q}{bs:Str->List ty1q}(b:Bn H pd ob keys ln ad bs) (s:Same H H'):Bn H' pd ob keys ln ad bs:=
  ⟨s _ _ b.d,fun k hk=>s _ _ (b.l k hk),fun k hk=>Paired.mapP (b.e k hk) fun _ _ h=>s _ _ h⟩
theorem zbj {α:Type}{F:ty1q->α->Prop}{as:List ty1q}{ps:List α}{i:Nat}{x:V}(t:Paired F as ps) (hx:(as.map V.ref)[i]? = some x):∃q p,x = .ref q/\ps[i]? = some p/\as[i]? = some q/\F q p:=by
  rw[al4q] at hx;cases e:as[i]? with
  | none=>rw[e] at hx;cases hx
  | some q=>
    rw[e] at hx;cases hx;obtain⟨p,h1,h2⟩:=Paired.get' t e;exact⟨q,p,rfl,h1,rfl,h2⟩
def zu3 (H:Hp) (b:ty1q) (e:Str×List ty1q):Prop:=∃q,H b=some (.tup [.str e.1,.ref q])/\H q=some (.lst (e.2.map V.ref))
def WayN (pl:ty1q) (H:Hp) (b:ty1q) (e:Str×List ty1q):Prop:=∃q,q≠pl/\H b=some (.tup [.str e.1,.ref q])/\H q=some (.lst (e.2.map V.ref))
def tru:Str->V:=fun _=>.bl true
theorem zni {M:List Str}{v:Str}(h:v ∉ M):putK (dV M tru) (Sum.inr v) (.bl true)=dV (M++[v]) tru:=by
  rw[zc2 h];refine zbe fun z _=>?_
  unfold tru;split<;>rfl
structure Grow (Hw H':Hp) (pm pl:ty1q) (ln:Ln) (s:Str) (keys M:List Str) (d:Nat) (ml:List ty1q) (fs:List (Str×List ty1q)):Prop where
  kp:∀b o,b≠pm->Hw b=some o->H' b=some o
  m:H' pm=some (.dK (dV (M++fs.map Prod.fst) tru))
  l:H' pl=some (.lst (ml.map V.ref))
  w:Paired (WayN pl H') ml fs
  ok:∀e∈fs,Wk ln s e.2 e.1/\e.2.length=d+1/\e.1∈keys
  nd:(M++fs.map Prod.fst).Nodup
section
variable {Hw H':Hp}{pm pl:ty1q}{ln:Ln}{s:Str}{keys M:List Str}{d:Nat}{ml:List ty1q}{fs:List (Str×List ty1q)}
theorem Grow.add (g:Grow Hw H' pm pl ln s keys M d ml fs) (hw:Hw pl=none) (npl:pl≠pm) {v:Str}{rs:List ty1q}(hv:v ∉ M++fs.map Prod.fst) {H2:Hp}(s2:Same (upd H' pm (.dK (dV (M++fs.map Prod.fst++[v]) tru))) H2) {q b:ty1q}
    (hq:H2 q=some (.lst (rs.map V.ref))) (nq:q≠pl) (hb:H2 b=some (.tup [.str v,.ref q])) (ok:Wk ln s rs v/\rs.length=d+1/\v∈keys) :
    Grow Hw (upd H2 pl (.lst (ml.map V.ref++[.ref b]))) pm pl ln s keys M d (ml++[b]) (fs++[(v,rs)]):=by
  have l2:H2 pl=some (.lst (ml.map V.ref)):=s2 _ _ (by rw[zo npl];exact g.l);have ntup:∀b vs,H2 b=some (.tup vs)->b≠pl:=fun b vs e z=>by rw[z,l2] at e;cases e
  refine⟨fun c o n e=>?_,?_,?_,?_,fun e he=>?_,?_⟩
  · rw[zo (zq e hw)];exact s2 _ _ (by rw[zo n];exact g.kp c o n e)
  · rw[zo (al26q npl),al15q,←al156q];exact s2 _ _ zf
  · rw[zf,al15q];rfl
  · refine Paired.snoc (Paired.mapP g.w fun c e h=>?_) ?_
    · obtain⟨q',n',h1,h2⟩:=h;have h1':=s2 _ _ (show upd H' pm (.dK (dV (M++fs.map Prod.fst++[v]) tru)) c=_ by rw[zo (fun z=>by rw[z,g.m] at h1;cases h1)];exact h1);have h2':=s2 _ _ (show upd H' pm (.dK (dV (M++fs.map Prod.fst++[v]) tru)) q'=_ by rw[zo (fun z=>by rw[z,g.m] at h2;cases h2)];exact h2);exact⟨q',n',by rw[zo (ntup _ _ h1')];exact h1',by rw[zo n'];exact h2'⟩
    · exact⟨q,nq,by rw[zo (ntup _ _ hb)];exact hb,by rw[zo nq];exact hq⟩
  · rcases al25q.mp he with he | he
    · exact g.ok e he
    · have:e=(v,rs):=by simpa using he
      subst this;exact ok
  · rw[al15q,←al156q];rw[al102q];refine⟨g.nd,by simp,fun a ha c hc e=>?_⟩;have hc:c=v:=by simpa using hc
    subst hc;subst e;exact hv ha
end
theorem Bn.get {H:Hp}{pd:ty1q}{ob:Obj}{keys:List Str}{ln:Ln}{ad:Str->ty1q}{bs:Str->List ty1q}(b:Bn H pd ob keys ln ad bs) {k:Str}(hk:k∈keys):DGet H pd (.str k) (some (.ref (ad k))):=by
  have:DGet H pd (kV (Sum.inr k)) (valV (dV keys fun k=>.ref (ad k)) (Sum.inr k)):=.inl ⟨_,_,.inr ⟨ob,b.d⟩,rfl,rfl⟩
  rwa [zbk hk] at this
def Shr (ln:Ln) (s:Str) (rs:List ty1q):Prop:=(rs = []/\∀j,1<=j->¬Rc ln s j s)\/(rs≠[]/\Wk ln s rs s/\∀j,1<=j->j<rs.length->¬Rc ln s j s)
def Rnd (ln:Ln) (keys:List Str) (rs:List ty1q):Prop:=(rs = []/\∀s∈keys,∀j,1<=j->¬Rc ln s j s)\/(rs≠[]/\(∃s∈keys,Wk ln s rs s)/\∀s∈keys,∀j,1<=j->j<rs.length->¬Rc ln s j s)
theorem Rnd.nil {ln:Ln}:Rnd ln [] []:=.inl ⟨rfl,fun s h=>(al64q h).elim⟩
theorem Rnd.step {ln:Ln}{keys:List Str}{u:Str}{rs xs:List ty1q}(h:Rnd ln keys rs) (g:Shr ln u xs):Rnd ln (keys++[u]) (if xs≠[]/\(rs = []\/xs.length<rs.length) then xs else rs):=by
  have mem:∀{s:Str},s∈keys++[u]->s∈keys\/s=u:=fun h=>by simpa using h
  have low:∀{n:Nat},n<=xs.length\/xs = []->∀j,1<=j->j<n->¬Rc ln u j u:=fun hn j h1 h2=>by
    rcases g with ⟨e,g⟩ | ⟨e,_,g⟩
    · exact g j h1
    · exact g j h1 (by rcases hn with hn | hn;lia;exact absurd hn e)
  by_cases c:xs≠[]/\(rs = []\/xs.length<rs.length)
  · rw[al12q c];rcases g with ⟨e,_⟩ | ⟨_,g1,g2⟩
    · exact absurd e c.1
    · refine .inr ⟨c.1,⟨u,by simp,g1⟩,fun s hs j h1 h2=>?_⟩;rcases mem hs with hs | rfl
      · rcases h with ⟨_,h⟩ | ⟨hn,_,h⟩
        · exact h s hs j h1
        · rcases c.2 with z | z
          · exact absurd z hn
          · exact h s hs j h1 (by lia)
      · exact g2 j h1 h2
  · rw[al8q c];rcases h with ⟨e,h⟩ | ⟨hn,⟨s,hs,hw⟩,h⟩
    · have ex:xs = []:=al34q fun z=>c ⟨z,.inl e⟩
      refine .inl ⟨e,fun s hs j h1=>?_⟩;rcases mem hs with hs | rfl
      · exact h s hs j h1
      · rcases g with ⟨_,g⟩ | ⟨z,_⟩
        · exact g j h1
        · exact absurd ex z
    · refine .inr ⟨hn,⟨s,al35q _ hs,hw⟩,fun s hs j h1 h2=>?_⟩;rcases mem hs with hs | rfl
      · exact h s hs j h1 h2
      · refine low (n:=rs.length) ?_ j h1 h2
        by_cases z:xs = []
        · exact .inr z
        · exact .inl (al183q fun q=>c ⟨z,.inr q⟩)
theorem zbs {us:List Str}{ts:List Tie}{ads:List ty1q}(ht:∀t∈ts,t.a∈us/\t.b∈us):∀k∈zn ts (srt us),∀l r,(l,r)∈zak ts (ts.zip ads) k->l∈zn ts (srt us):=by
  intro k _ l r h;obtain⟨t,h1,_,_,rfl⟩:=lnk_mem.mp h;exact zcb ht (ht t (al91q h1).1).2
theorem zi1 {ks:List Str}{f:Str->V}{i:Nat}{k:Key}{v:V}(h:(dV ks f)[i]? = some (k,v)):∃u,ks[i]? = some u/\k=Sum.inr u/\v=f u:=by
  unfold dV at h;rw[al4q] at h;cases e:ks[i]? with
  | none=>rw[e] at h;cases h
  | some u=>
    rw[e] at h;cases h;exact⟨u,rfl,rfl,rfl⟩
abbrev Lk:=List (Str×Str)
theorem Wk.seq {ln:Ln}{s t:Str}{rs:List ty1q}(w:Wk ln s rs t):∃vs:Nat->Str,vs 0=s/\vs rs.length=t/\∀i,i<rs.length->∃r,rs[i]? = some r/\(vs (i+1),r)∈ln (vs i):=by
  induction w with
  | nil=>exact⟨fun _=>s,rfl,rfl,fun i h=>by simp at h⟩
  | @snoc rs m l r w h ih=>
    obtain⟨vs,h0,h1,h2⟩:=ih;refine⟨fun i=>if i=rs.length+1 then l else vs i,?_,?_,fun i hi=>?_⟩
    · dsimp only;rw[al8q (by lia)];exact h0
    · dsimp only;rw[al12q (by simp)]
    · dsimp only;rw[al18q] at hi;have hi:i<rs.length+1:=hi
      by_cases c:i=rs.length
      · subst c;rw[al12q rfl,al8q (by lia),h1];exact⟨r,by simp,h⟩
      · obtain⟨r',e,q⟩:=h2 i (by lia);rw[al8q (by lia),al8q (by lia)];exact⟨r',by rw[al47q (by lia)];exact e,q⟩
theorem zh1 {ln:Ln}{F:List Str}(hn:F≠[]) (h:∀x∈F,∃y∈F,∃r,(y,r)∈ln x):∃s∈F,∃j,1<=j/\Rc ln s j s:=by
  obtain⟨x0,h0⟩:=List.exists_mem_of_ne_nil F hn;have hf:∃f:Str->Str,∀x∈F,f x∈F/\∃r,(f x,r)∈ln x:=by
    refine⟨fun x=>if c:x∈F then (h x c).choose else x,fun x hx=>?_⟩;dsimp only;rw[dif_pos hx];exact (h x hx).choose_spec
  obtain⟨f,hf⟩:=hf
  let x:Nat->Str:=fun n=>Nat.rec x0 (fun _ y=>f y) n
  have hx:∀n,x n∈F:=by
    intro n
    induction n with
    | zero=>exact h0
    | succ n ih=>exact (hf _ ih).1
  have go:∀i d,Rc ln (x i) d (x (i+d)):=by
    intro i d
    induction d with
    | zero=>exact⟨[],.nil,rfl⟩
    | succ d ih=>
      obtain⟨r,e⟩:=(hf _ (hx (i+d))).2;exact ih.step e
  have rep:∃i j,i<j/\x i=x j:=by
    refine al107q fun hn=>?_
    have nd:((List.range (F.length+1)).map x).Nodup:=zbz fun i j _ _ e=>by
      rcases al101q i j with c | c | c
      · exact absurd ⟨i,j,c,e⟩ hn
      · exact c
      · exact absurd ⟨j,i,c,e.symm⟩ hn
    have:=za9 nd (us:=F) fun y hy=>by
      obtain⟨i,_,rfl⟩:=al32q.mp hy;exact hx i
    simp at this;lia
  obtain⟨i,j,hij,e⟩:=rep;refine⟨x i,hx i,j-i,by lia,?_⟩;have:=go i (j-i)
  rwa [show i+(j-i)=j by lia,←e] at this
structure Tel (K:ty0q) (H:Hp) (p pu pt:ty1q) (x y:V) (us:List Str) (ads:List ty1q) (ts:List Tie):Prop where
  p:SqT K H p [x,.ref pu,.ref pt,y]
  u:SqL K H pu (us.map V.str)
  t:SqL K H pt (ads.map V.ref)
  tt:Tups H ads (ts.map tieV)
  nd:us.Nodup
  ul:us.length<64
  tl:ts.length<=900
  ok:∀t∈ts,TOk us t
section
variable {K:ty0q}{H H':Hp}{p pu pt:ty1q}{x y:V}{us:List Str}{ads:List ty1q}{ts:List Tie}
theorem Tel.same (h:Tel K H p pu pt x y us ads ts) (s:Same H H'):Tel K H' p pu pt x y us ads ts:=⟨s.tup h.p,s.seq h.u,s.seq h.t,h.tt.same s,h.nd,h.ul,h.tl,h.ok⟩
theorem Tel.ends (h:Tel K H p pu pt x y us ads ts):∀t∈ts,t.a∈us/\t.b∈us:=fun t ht=>⟨(h.ok t ht).a,(h.ok t ht).b⟩
theorem Tel.len (h:Tel K H p pu pt x y us ads ts):ads.length=ts.length:=by have:=h.tt.len;rw[al0q] at this;exact this
theorem Tel.klen (h:Tel K H p pu pt x y us ads ts):(zn ts (srt us)).length<=63:=by
  have:=zgp (us:=us) (ts:=ts) h.nd;have:=h.ul;unfold zch at *;rw[al0q] at *;lia
end
def zpy:Str:="after"
def zaa (t:Tie):Int:=t.g.getD 0
theorem TOk.after {us:List Str}{t:Tie}(h:TOk us t) (e:t.k=zpy):atI (tieV t) 3=some (.int (zaa t)):=by
  have h:=h.ok;obtain⟨k,a,b,g⟩:=t;cases g with
  | some n=>exact za2 (xs:=tieV ⟨k,a,b,some n⟩) (j:=3) rfl
  | none=>
    exfalso;unfold tieV at h;simp only at h e;subst e;cases h with
    | plain hk hx hy=>revert hk;decide
theorem TOk.plain {us:List Str}{t:Tie}(h:TOk us t) (e:t.k≠zpy):zaa t=0:=by
  have h:=h.ok;obtain⟨k,a,b,g⟩:=t;cases g with
  | none=>rfl
  | some n=>
    exfalso;unfold tieV at h;simp only at h e;generalize ew:([V.str k,V.str a,V.str b,V.int n]:List V)=ws at h;cases h with
    | plain hk hx hy=>simp at ew
    | after hx hy h0 h1=>
      simp only [List.cons.injEq,V.str.injEq] at ew;exact e ew.1
theorem zpz {α:Type}{xs:List α}{i:Nat}{v:α}(hi:i<xs.length) (h:xs[if i=0 then xs.length-1 else i-1]? = some v):atI xs (0+(i:Int)-1)=some v:=by
  unfold atI ixN
  by_cases c:i=0
  · subst c;rw[al12q rfl] at h;rw[al8q (by lia),al12q (by lia)];rw[show (0+((0:Nat):Int)-1+(xs.length:Int)).toNat=xs.length-1 by lia];exact h
  · rw[al8q c] at h;rw[al12q (by lia),al12q (by lia),show (0+(i:Int)-1).toNat=i-1 by lia];exact h
structure Rtie (ts:List Tie) (ads:List ty1q) (rs:List ty1q) (vs:Nat->Str):Prop where
  at':∀i r,rs[i]? = some r->∃t,(t,r)∈ts.zip ads/\t.k≠SAME/\labs ts t.a=vs i/\labs ts t.b=vs (i+1)
  cl:vs 0=vs rs.length
theorem Wk.rtie {ts:List Tie}{ads:List ty1q}{s:Str}{rs:List ty1q}(w:Wk (zak ts (ts.zip ads)) s rs s):∃vs,Rtie ts ads rs vs:=by
  obtain⟨vs,h0,h1,h2⟩:=w.seq;refine⟨vs,fun i r e=>?_,by rw[h0,h1]⟩;obtain⟨r',e',q⟩:=h2 i (zaj e);rw[e] at e';cases e';obtain⟨t,a,b,c,d⟩:=lnk_mem.mp q;exact⟨t,a,b,c,d⟩
theorem Rnd.rtie {us:List Str}{ts:List Tie}{ads:List ty1q}{rs:List ty1q}(h:Rnd (zak ts (ts.zip ads)) (zn ts (srt us)) rs):∃vs,Rtie ts ads rs vs:=by
  rcases h with ⟨e,_⟩ | ⟨_,⟨s,_,w⟩,_⟩
  · subst e;exact⟨fun _=>"",fun i r e=>by simp at e,rfl⟩
  · exact w.rtie
theorem Rnd.nil_iff {ln:Ln}{keys:List Str}{rs:List ty1q}(h:Rnd ln keys rs):rs≠[]↔∃s∈keys,∃j,1<=j/\Rc ln s j s:=by
  rcases h with ⟨e,h⟩ | ⟨e,⟨s,hs,w⟩,_⟩
  · exact⟨fun z=>absurd e z,fun ⟨s,hs,j,hj,r⟩=>absurd r (h s hs j hj)⟩
  · exact⟨fun _=>⟨s,hs,_,al115q.mpr e,_,w,rfl⟩,fun _=>e⟩
def zu4 (ln:Ln) (keys:List Str) (m:Nat):Prop:=(m=0/\∀s∈keys,∀j,1<=j->j<=keys.length->¬Rc ln s j s)\/(1<=m/\(∃s∈keys,Rc ln s m s)/\∀s∈keys,∀j,1<=j->j<m->¬Rc ln s j s)
theorem zi2 {ln:Ln}{keys:List Str}(cl:∀k∈keys,∀l r,(l,r)∈ln k->l∈keys) {s:Str}{L:Nat}(hs:s∈keys) (h:Rc ln s L s) (hm:∀s∈keys,∀j,1<=j->j<L->¬Rc ln s j s):L<=keys.length:=by
  obtain⟨rs,w,e⟩:=h;obtain⟨vs,v0,v1,st⟩:=w.seq;rw[e] at v1 st;have hk:∀i,i<=L->vs i∈keys:=by
    intro i
    induction i with
    | zero=>intro _;rw[v0];exact hs
    | succ i ih=>
      intro hi;obtain⟨r,_,q⟩:=st i (by lia);exact cl _ (ih (by lia)) _ _ q
  have go:∀i d,i+d<=L->Rc ln (vs i) d (vs (i+d)):=by
    intro i d
    induction d with
    | zero=>intro _;exact⟨[],.nil,rfl⟩
    | succ d ih=>
      intro hi;obtain⟨r,_,q⟩:=st (i+d) (by lia);exact (ih (by lia)).step q
  have nd:((List.range L).map vs).Nodup:=zbz fun i j hi hj e=>by
    have main:∀i j,i<j->j<L->vs i≠vs j:=fun i j hij hj e=>by
      have:=go i (j-i) (by lia);rw[show i+(j-i)=j by lia,←e] at this;exact hm _ (hk i (by lia)) _ (by lia) (by lia) this
    rcases al101q i j with c | c | c
    · exact absurd e (main i j c hj)
    · exact c
    · exact absurd e.symm (main j i c hi)
  have:=za9 nd (us:=keys) fun y hy=>by
    obtain⟨i,hi,rfl⟩:=al32q.mp hy;exact hk i (by have:=al36q.mp hi;lia)
  simpa using this
theorem zkf {ln:Ln}{keys:List Str}(cl:∀k∈keys,∀l r,(l,r)∈ln k->l∈keys) {rs:List ty1q}{m:Nat}(h:Rnd ln keys rs) (b:zu4 ln keys m):rs.length=m:=by
  rcases h with ⟨e,h⟩ | ⟨e,⟨s,hs,w⟩,h⟩
  · rcases b with ⟨em,_⟩ | ⟨h1,⟨s,hs,r⟩,_⟩
    · rw[e,em];rfl
    · exact absurd r (h s hs m h1)
  · have hr:Rc ln s rs.length s:=⟨rs,w,rfl⟩;have hp:=al115q.mpr e;rcases b with ⟨em,b⟩ | ⟨h1,⟨s',hs',r⟩,b⟩
    · exact absurd hr (b s hs _ hp (zi2 cl hs hr h))
    · rcases al101q rs.length m with c | c | c
      · exact absurd hr (b s hs _ hp c)
      · exact c
      · exact absurd r (h s' hs' m h1 c)
def NoR (ln:Ln) (keys:List Str):Prop:=∀s∈keys,∀j,1<=j->¬Rc ln s j s
def zd6 (M:List Str) (L:List (Str×ty1q)):Bool:=L.all fun p=>decide (p.1∈M)
def zdq (ln:Ln) (keys M:List Str):List Str:=keys.filter fun x=>decide (x ∉ M)&&zd6 M (ln x)
theorem znj {M:List Str}{L:List (Str×ty1q)}:zd6 M L=true↔∀l r,(l,r)∈L->l∈M:=by
  unfold zd6;rw[al94q];constructor
  · intro h l r hm;exact al16q (h (l,r) hm)
  · intro h p hp;exact al10q (h p.1 p.2 hp)
theorem frees_mem {ln:Ln}{keys M:List Str}{x:Str}:x∈zdq ln keys M↔x∈keys/\x ∉ M/\∀l r,(l,r)∈ln x->l∈M:=by
  unfold zdq;rw[al43q,al49q,al40q,znj]
theorem zp0 {ln:Ln}{keys M:List Str}(cl:∀k∈keys,∀l r,(l,r)∈ln k->l∈keys) (nr:NoR ln keys) (hx:∃x∈keys,x ∉ M):zdq ln keys M≠[]:=by
  intro z;obtain⟨x,h1,h2⟩:=hx;obtain⟨s,hs,j,hj,r⟩:=zh1 (ln:=ln) (F:=keys.filter fun x=>decide (x ∉ M)) (List.ne_nil_of_mem (al43q.mpr ⟨h1,al10q h2⟩)) fun y hy=>by
    rw[al43q,al40q] at hy;refine al107q fun hn=>?_
    have:y∈zdq ln keys M:=frees_mem.mpr ⟨hy.1,hy.2,fun l r hl=>al34q fun q=>hn ⟨l,al43q.mpr ⟨cl y hy.1 l r hl,al10q q⟩,r,hl⟩⟩;rw[z] at this;cases this
  exact nr s (al43q.mp hs).1 j hj r
structure Ord (ln:Ln) (keys os:List Str):Prop where
  nd:os.Nodup
  sub:∀x∈os,x∈keys
  low:∀(i:Nat) o,os[i]? = some o->∀l r,(l,r)∈ln o->l∈os.take i
  least:∀(i:Nat) o,os[i]? = some o->∀x∈keys,x ∉ os.take i->(∀l r,(l,r)∈ln x->l∈os.take i)->¬co x<co o
theorem Ord.nil {ln:Ln}{keys:List Str}:Ord ln keys []:=⟨by simp,by simp,by simp,by simp⟩
theorem Ord.snoc {ln:Ln}{keys os:List Str}{u:Str}{r:List Str}(h:Ord ln keys os) (kl:keys.Pairwise (fun a b=>co a<co b)) (hu:zdq ln keys os=u::r):Ord ln keys (os++[u]):=by
  have hm:u∈zdq ln keys os:=by rw[hu];simp
  obtain⟨m1,m2,m3⟩:=frees_mem.mp hm;have at':∀(i:Nat) o,(os++[u])[i]? = some o->(i<os.length/\os[i]? = some o/\(os++[u]).take i=os.take i)\/(i=os.length/\o=u/\(os++[u]).take i=os):=by
    intro i o e
    by_cases c:i<os.length
    · rw[al47q c] at e;exact .inl ⟨c,e,by rw[List.take_append_of_le_length (by lia)]⟩
    · have hi:=(al3q.mp e).1;rw[al18q] at hi;have hi:i<os.length+1:=hi;have:i=os.length:=by lia
      subst this;simp at e;exact .inr ⟨rfl,e.symm,by simp⟩
  refine⟨?_,fun x hx=>?_,fun i o e l r' hl=>?_,fun i o e x hx hn hl=>?_⟩
  · rw[al102q];refine⟨h.nd,by simp,fun a ha b hb e=>?_⟩;have hb:b=u:=by simpa using hb
    subst hb;subst e;exact m2 ha
  · rcases al25q.mp hx with hx | hx
    · exact h.sub x hx
    · have:x=u:=by simpa using hx
      rw[this];exact m1
  · rcases at' i o e with ⟨c,e',et⟩ | ⟨c,rfl,et⟩
    · rw[et];exact h.low i o e' l r' hl
    · rw[et];exact m3 l r' hl
  · rcases at' i o e with ⟨c,e',et⟩ | ⟨c,rfl,et⟩
    · rw[et] at hn hl;exact h.least i o e' x hx hn hl
    · rw[et] at hn hl;have hxf:x∈zdq ln keys os:=frees_mem.mpr ⟨hx,hn,hl⟩;have pw:(zdq ln keys os).Pairwise (fun a b=>co a<co b):=kl.sublist (al114q ..);rw[hu] at hxf pw;rcases al21q.mp hxf with rfl | hxf
      · exact al69q _
      · exact fun z=>zdg z ((al57q.mp pw).1 x hxf)
theorem Ord.perm {ln:Ln}{keys os:List Str}(h:Ord ln keys os) (kn:keys.Nodup) (hl:os.length=keys.length):os.Perm keys:=by
  rw[List.perm_ext_iff_of_nodup h.nd kn];intro x;refine⟨h.sub x,fun hx=>?_⟩;refine al34q fun hn=>?_
  have:=za9 (us:=keys) (rs:=x::os) (al75q.mpr ⟨hn,h.nd⟩) fun y hy=>by
    rcases al21q.mp hy with rfl | hy
    · exact hx
    · exact h.sub y hy
  rw[al99q] at this;lia
theorem zh2 {K:ty0q}{H:Hp}{n:Nat}{xs:List Str}:∀x∈xs.map V.str,DEq K H n x x true:=fun x hx=>by
  obtain⟨z,_,rfl⟩:=al32q.mp hx;have:=DEq.flat (K:=K) (H:=H) (n:=n) (x:=.str z) (y:=.str z) rfl rfl
  rwa [show eqV (.str z) (.str z)=true from by simp[eqV]] at this
end Dm
namespace L2
open PySem PySem.Spec PyProof.Rows
theorem zp1 {prog:ty4q}{w:World}{A:Around}{P:Nat->ty3q->Prop}(val:Nat->Str) (hval:∀i v,P i v->∃t,v=Value.str (val i) t) :
    CmpOf prog w A .Lt P (fun i j=>decide ((val i).cps.toList<(val j).cps.toList)):=fun i j vi vj s Q E hi hj h=>by
  obtain⟨t,rfl⟩:=hval i vi hi;obtain⟨u,rfl⟩:=hval j vj hj;exact richCompare_gives (op:=.Lt) (typeIs_str s _ t) (typeIs_str s _ u) PySem.F.slot_str_lt PySem.F.entry_str_lt (PySem.F.args_str_lt_2 _ _) (gives_str_lt _ _ t u) (fun x=>nomatch x) h
theorem zh3 {prog:ty4q}{w:World}{A:Around}{E:ty90q}{s:ty2q}{a b:Str}{t u:Tok}{Q:ty90q}(hh:A.handled=none)
    (h:∀h' tk,(∀c o,s.heap.get? c=some o->h'.get? c=some o)->Q (if b.cps.toList<a.cps.toList then .str b u else .str a t) { s with heap:=h',toks:=tk }) :
    wpAny (model prog w) A (call (.builtin "min") [.str a t,.str b u]) Q E s:=by
  have hT:(s.heap.push { cls:=.type "tuple",data:=.seq #[.str a t,.str b u] }).IsTuple s.heap.objs.size #[.str a t,.str b u]:=⟨_,al20q _ rfl,rfl,0,rfl⟩;refine call_min_two (wpAny_pyIter_tuple hT ?_);have hsz:(s.heap.push { cls:=.type "tuple",data:=.seq #[.str a t,.str b u] }).objs.size=s.heap.objs.size+1:=al109q ..;refine⟨_,[_,s.heap.objs.size],[_],_,_,_,_,rfl,Walks.tuple (A:=A.in1) hh _ s.heap.objs.size (by rw[hsz];exact al31q (al139q _)) #[.str a t,.str b u],
    ⟨⟨_,al20q _ rfl,rfl,rfl⟩,hT.push _⟩,fun c hc=>?_,(by show 0<2;decide),zp1 (fun i=>if i=0 then a else b) (fun i v e=>?_),fun v h' tk hP hk=>?_⟩
  · show c<((s.heap.push _).push _).objs.size;rw[al109q,hsz];rcases al21q.mp hc with rfl | hc
    · rw[hsz];exact al139q _
    · rcases al21q.mp hc with rfl | hc
      · exact al113q (al139q _)
      · cases hc
  · match i,e with
    | 0,e=>cases e;exact⟨t,rfl⟩
    | 1,e=>cases e;exact⟨u,rfl⟩
    | i+2,e=>simp at e
  · have hold:∀c o,s.heap.get? c=some o->h'.get? c=some o:=fun c o e=>by
      refine hk c o (fun hm=>?_) (al5q _ (al5q _ e));rcases al21q.mp hm with e1 | hm
      · have:=al14q e;rw[e1,hsz] at this;exact al53q _ (Nat.lt_of_succ_lt this)
      · cases hm
    have:=h h' tk hold;have hv:v=if b.cps.toList<a.cps.toList then Value.str b u else Value.str a t:=by
      have hP':(#[Value.str a t,Value.str b u])[argBest (fun i j=>decide ((if i=0 then a else b).cps.toList<(if j=0 then a else b).cps.toList)) 1]? = some v:=hP
      by_cases hba:b.cps.toList<a.cps.toList
      · have e:argBest (fun i j=>decide ((if i=0 then a else b).cps.toList<(if j=0 then a else b).cps.toList)) 1=1:=by simp[argBest,hba]
        rw[e] at hP';rw[al12q hba];exact (al41q hP').symm
      · have e:argBest (fun i j=>decide ((if i=0 then a else b).cps.toList<(if j=0 then a else b).cps.toList)) 1=0:=by simp[argBest,hba]
        rw[e] at hP';rw[al8q hba];exact (al41q hP').symm
    rw[hv];exact this
theorem zci:∀(r:List Str) (x:Str),risingS x r=true->(x::r).Pairwise (fun a b=>¬b.cps.toList<a.cps.toList)
  | [],x,_=>List.pairwise_singleton ..
  | y::r,x,h=>by
    unfold risingS at h;rw[al49q] at h;have ih:=zci r y h.2;have h1:¬y.cps.toList<x.cps.toList:=by
      intro z;have:ltCps y.cps.toList x.cps.toList=true:=by rw[ltCps_eq];exact al10q z
      rw[this] at h;simp at h
    refine al57q.mpr ⟨fun b hb=>?_,ih⟩;rcases al21q.mp hb with rfl | hb
    · exact h1
    · intro z;have h2:=(al57q.mp ih).1 b hb;rw[List.not_lt] at h1 h2;exact absurd z (List.not_lt.mpr (List.le_trans h1 h2))
theorem zd7 {ss:List Str}(h:sortedS ss=true):ss.Pairwise (fun a b=>¬b.cps.toList<a.cps.toList):=by
  cases ss with
  | nil=>exact .nil
  | cons x r=>exact zci r x h
section
variable {X:Cx}
theorem zk6 (hc:X.calm=true):zbr X (.builtin "min") (fun xs H Q=>∃i j,xs = [.str i,.str j]/\Q (.str (if j.cps.toList<i.cps.toList then j else i)) H):=by
  intro pins s σ H xs us Q I r h;obtain⟨i,j,rfl,q⟩:=h;obtain⟨u,w',rfl,⟨t,rfl⟩,⟨t',rfl⟩⟩:=zml r;refine zh3 (I.ok.hd hc) fun h' tk k=>⟨_,H,I.kept k,?_,q⟩
  by_cases hj:j.cps.toList<i.cps.toList
  · rw[al12q hj,al12q hj];exact⟨_,rfl⟩
  · rw[al8q hj,al8q hj];exact⟨_,rfl⟩
theorem zb2 {K:ty0q}(h:X.K=K):zbr X (.builtin "sorted") (fun xs H Q=>∃(a:ty1q) (ns:List Str),xs = [V.ref a]/\SqL K H a (ns.map V.str)/\ns.length<64/\
    ∀(p:ty1q) (ms:List Str),H p=none->ms.Perm ns->ms.Pairwise (fun a b=>¬b.cps.toList<a.cps.toList)->Q (.ref p) (upd H p (.lst (ms.map V.str)))):=by
  subst h;intro pins s σ H xs us Q I r h;obtain⟨a,ns,rfl,ha,hn,q⟩:=h;obtain⟨u,rfl,ru⟩:=zb3 r;cases ru;obtain⟨its,rv,pl,hz⟩:=I.list ha;have hl:=rv.length;rw[al0q] at hl;refine PyProof.Rows.sorted_strs pl.isList (zf2 rv) (by lia) fun out ms a1 a2 a3=>?_
  obtain⟨e,he⟩:=PyProof.Rows.sortedAll_at s.heap its out;have hn':H (s.heap.objs.size+1)=none:=I.hok.fresh (al128q _);have hm:ms.length=ns.length:=a2.length_eq;have hs:sizeLine=16777216:=al95q;have vs:∀{us:List ty3q}{ys:List Str},StrsAre us ys->Vals (ys.map V.str) us:=by
    intro us ys h
    induction h with
    | nil=>exact .nil
    | cons x t _ ih=>exact .cons ⟨t,rfl⟩ ih
  refine⟨.ref (s.heap.objs.size+1),_,I.laid (t':=s.toks) (a:=s.heap.objs.size+1) (o:=.lst (ms.map V.str)) (fun b o eb=>PyProof.Rows.sortedAll_old eb) (al128q _) ⟨?_,out.toList,e,vs a1,?_⟩,rfl,q _ ms hn' a2 (zd7 a3)⟩
  · rw[al0q];lia
  · rw[he]
end
end L2
namespace HT
open PySem PySem.Spec PyProof.Rows PySem.Calls
end HT
namespace L2
open PySem PySem.Spec PyProof.Rows
section
variable {X:Cx}{pins:ty91q}{σ:St}{H:Hp}{s:ty2q}{a:ty1q}{u r:ty3q}{A:Around}{E:ty90q}
theorem zh4 {kvs:List (Key×V)}{k:Key}{z:V}{Q:ty90q}(I:Inv X pins σ H s) (e:H a=some (.dK kvs)) (ry:RelV (kV k) u) (rz:RelV z r) (hl:kvs.length<sizeLine)
    (h1:∀v,valV kvs k=some v->∀w' s',Inv X pins σ H s'->RelV v w'->Q w' s') (h2:valV kvs k=none->∀s',Inv X pins σ (upd H a (.dK (putK kvs k z))) s'->Q r s') :
    wpAny (model X.prog X.w) A (call (.builtin "dict.setdefault") [.ref a,u,r]) Q E s:=by
  obtain⟨hz,hd,vs,rel,dd⟩:=zse I.hok e;refine call_meetsIn PySem.F.slot_dict_setdefault dd.typeIs PySem.F.entry_dict_setdefault (PySem.F.args_dict_setdefault_3 _ _ _) (kt_meets_setdefault (zbf X.prog X.w) a (zk0 ry) hd r)
    ⟨vs,dd,by rw[←rel.length];exact hz,fun v hv=>?_,fun hn h' dd' hs=>?_⟩
  · cases l:valV kvs k with
    | some v0=>
      obtain⟨w',hw,rw'⟩:=RelO.some_of (v:=v0) (o:=valueAt vs k) (by rw[←l];exact rel.val k);rw[hw] at hv;cases hv;exact h1 v0 l _ _ (I.tok _) rw'
    | none=>
      have hn:valueAt vs k=none:=RelO.none_of (by have:=rel.val k;rw[l] at this;exact this);rw[hn] at hv;cases hv
  · cases l:valV kvs k with
    | some v0=>
      obtain⟨w',hw,rw'⟩:=RelO.some_of (v:=v0) (o:=valueAt vs k) (by rw[←l];exact rel.val k);rw[hw] at hn;cases hn
    | none=>
      have hl2:(putK kvs k z).length<=sizeLine:=by have:=zb8 kvs k z;lia
      have he:∃q,h'.get? a=some q:=let ⟨q,_,_,hq,_⟩:=dd';⟨q,hq⟩
      exact h2 l _ (zgh I (by rw[e];exact True.intro) hs he (zmu hl2 hd (rel.put k rz) dd'))
end
def zwq (td ty tx:TE):TE:=fun σ H Q=>td σ H fun x H1=>∃a,x = .ref a/\IsD H1 a/\ty σ H1 fun y H2=>tx σ H2 fun z H3=>∃kvs k,H3 a=some (.dK kvs)/\y=kV k/\kvs.length<sizeLine/\
  (∀v,valV kvs k=some v->Q v H3)/\(valV kvs k=none->Q z (upd H3 a (.dK (putK kvs k z))))
theorem zk7 {X:Cx}{o e f:Expr}{apos cpos:Pos}{td ty tx:TE}(ho:PE X o td) (he:PE X e ty) (hf:PE X f tx) (m:M2 X o "setdefault" apos e f cpos):PE X (.Call (.Attribute o "setdefault" apos) [e,f] [] cpos) (zwq td ty tx):=by
  intro pins s σ H Q I h;refine wpAny_Call_method m.base m.few m.line PySem.F.plainAttrs_dict PySem.F.slot_dict_setdefault PySem.F.type_dict_setdefault (thn (ho pins s σ H _ I h) fun u s1 hq0=>?_);obtain⟨x,H1,I1,rx,a,ex,d,q1⟩:=hq0;subst ex;obtain rfl:u=Value.ref a:=rx;obtain⟨t1,t2,_⟩:=zuo I1 d;refine⟨t1,t2,?_⟩;rw[m.trees];refine al148q rfl (al159q (Calls.spliced_cons (thn (he pins s1 σ H1 _ I1 q1) fun iv s2 ⟨y,H2,I2,ry,q2⟩=>
    Calls.spliced_cons (thn (hf pins s2 σ H2 _ I2 q2) fun fv s3 ⟨z,H3,I3,rz,kvs,k,ea,ey,hl,q3,q4⟩=>Calls.spliced_nil ?_))))
  subst ey;exact zh4 I3 ea ry rz hl (fun v l w' s4 I4 rw'=>⟨v,H3,I4,rw',q3 v l⟩) fun l s4 I4=>⟨z,_,I4,rz,q4 l⟩
def dd {κ:Type} [DecidableEq κ] (val:Nat->κ):Nat->List κ
  | 0=>[]
  | i+1=>if val i∈dd val i then dd val i else dd val i++[val i]
section
variable {prog:ty4q}{w:World}{A:Around}{s:ty2q}{R:Result->ty2q->Prop}{I:ty1q}{fp wr:List ty1q}{n:Nat}{P:Nat->ty3q->Prop}{St:Nat->Heap->Prop}
theorem zk8 (W:Walks prog w A.in1 I fp wr n P St) (hn:n<=sizeLine) (S:ty1q) (c:Nat) (hst:St 0 s.heap) (hS:S ∉ fp) (hl:s.heap.get? S=some { cls:=.type "list",data:=.seq #[] c }) (r:ty3q)
    (hR:∀s1 acc c1,Moved (S::wr) (fun a b=>b=a) s s1->s1.heap.get? S=some { cls:=.type "list",dict:=none,data:=.seq acc c1,slots:=#[] }->ItemsOf P acc n->R (.ok (.ret r)) s1) :
    wpAny (model prog w) A.in1 (rule "list.extend.makes-room" >>= fun _=>Builtin.List.listTouch (.ref S) >>= fun _=>again (.builtin "list.extend.loop" ⟨[.ref S,.ref I,r],[]⟩))
      (fun fin s1=>match fin with | .done f=>R (.ok f) s1 | .again c1=>c1.quiet=true/\codeAny (model prog w) A c1 R s1) (fun e s1=>R (.error e) s1) s:=by
  refine al2q (al160q (al2q ?_));show wpAny (model prog w) A.in1 (updateSeq S (·.push .none) >>= fun _=>updateSeq S (·.pop)) _ _ _;refine al2q (al63q hl rfl ?_);have l2:=al33q (Obj.mapSeq (·.push Value.none)) hl rfl;refine al63q (hz:=by seq_fits) l2 rfl ?_;have l3:=al33q (Obj.mapSeq (·.pop)) l2 rfl;have oth:∀b o,b≠S->s.heap.get? b=some o->((s.heap.update S (Obj.mapSeq (·.push Value.none))).update S (Obj.mapSeq (·.pop))).get? b=some o:=fun b o hb e=>(al24q _ _ (al26q hb)).trans ((al24q _ _ (al26q hb)).trans e)
  refine al7q ⟨al71q PySem.F.plain_extend_loop _,codeAny_extend_loopS W.toS hn _ hS _ n 0 _ _ _ rfl (al65q _) (W.toS.frame 0 s _ s.toks hst (al13q _) fun b hb o e=>oth b o (fun h=>hS (h▸hb)) e) l3 (ItemsOf.nil P) fun s1 acc c1 hm h1 h2=>?_⟩;have m0:Moved (S::wr) (fun (a b:Array GenState)=>b=a) s { s with heap:=(s.heap.update S (Obj.mapSeq (·.push Value.none))).update S (Obj.mapSeq (·.pop)) }:=⟨fun b o hb e=>oth b o (fun h=>hb (by simp[h])) e,rfl,rfl,rfl,al13q _⟩;exact hR s1 acc c1 (Moved.trans (fun _ _ _ h1 h2=>h2.trans h1) m0 hm) h1 h2
end
section
variable {prog:ty4q}{w:World}{A:Around}{E:ty90q}{s:ty2q}
theorem zk9 {P:Nat->ty3q->Prop}{acc:Array ty3q}{n:Nat}(h:ItemsOf P acc n) (l:List ty3q) (hl:l.length=n) (hp:∀i v,P i v->l[i]? = some v):acc.toList=l:=by
  apply al157q;intro i
  by_cases hi:i<n
  · have hs:i<acc.size:=by rw[h.1];exact hi
    have e:acc[i]? = some acc[i]:=al42q hs;rw[hp i _ (h.2 i _ e),al154q,e]
  · have h1:acc.toList.length<=i:=by rw[al81q,h.1];lia
    have h2:l.length<=i:=by lia
    rw[al96q h1,al96q h2]
end
def Itd (a:ty1q) (ob:Obj) (kvs:List (Key×V)):It:=
  ⟨fun i H=>H a=some (.frz ob (.dK kvs))/\i<kvs.length,fun i H x H'=>H'=H/\∃kv,kvs[i]? = some kv/\x=kV kv.1,fun i H=>H a=some (.frz ob (.dK kvs))/\kvs.length<=i⟩
theorem znk {P:ty4q}{w:World}{K:ty0q}{tg:Expr}(a it:ty1q) {ob:Obj}{kvs:List (Key×V)}{es:Array DictEntry}{ep:Nat}(hd:ob.data = .dict es ep) (hl:es.size=kvs.length):Turn P w K tg (Itd a ob kvs) [it] it (fun i h=>h.IsKeyIter it a i es.size ep) where
  mem:=by simp
  obj:=fun i h st b hb=>by
    have e:b=it:=by simpa using hb
    subst e;obtain⟨o,e,c,d⟩:=st;exact⟨o,e,fun v z=>by rw[d] at z;cases z⟩
  keep:=fun i h h' st k=>st.at fun o e=>k it (by simp) o e
  item:=by
    intro X hP hw hK hc i pins s σ H E I hf st hg;subst hP hw hK;obtain⟨hq,hx⟩:=hg;obtain⟨e0,z,hs,vs,rel,o,es',ep',e,ex,dt,kk,pr,nd⟩:=I.hok a _ hq;rw[e0] at e;cases e;rw[hd] at dt;cases dt;have hi:i<es.size:=by lia
    have hen:es[i]? = some es[i]:=al42q hi;obtain⟨f0,f1,f2,f3,f4,f5⟩:=hf it (by simp);refine zj5 st ⟨ob,e0,ex,hd⟩ hen fun h' st' sb=>?_
    have I1:Inv X pins σ H { s with heap:=h' }:=I.turned (t':=s.toks) (fun b o hb e=>(sb.2 b hb).trans e) f0 f1 f3 f4 f5;obtain⟨oi,ei,ci,di⟩:=id st';have ek:kvs[i]? = some kvs[i]:=al1q hx;obtain⟨w',hw,rw'⟩:=Paired.get' rel ek;have:=(pr.get? (e:=es[i]) (k:=w'.1) (v:=w'.2) (i:=i) (by rw[al154q];exact hen) (by rw[hw])).1;have e1:kvs[i].1=w'.1:=rw'.1;exact⟨_,rfl,zpj (s:={ s with heap:=h' }) ei ci di (by decide) ⟨kV kvs[i].1,H,I1,by rw[e1];exact zna this,⟨rfl,_,ek,rfl⟩,st',fun b hb=>(hf b hb).1⟩⟩
  done:=by
    intro X hP hw hK hc i pins s σ H E I hf st hg;subst hP hw hK;obtain⟨hq,hx⟩:=hg;obtain⟨e0,z,hs,vs,rel,o,es',ep',e,ex,dt,kk,pr,nd⟩:=I.hok a _ hq;rw[e0] at e;cases e;obtain⟨f0,f1,f2,f3,f4,f5⟩:=hf it (by simp);exact zm8 (I.ok.hd hc) st ⟨ob,e0,ex,hd⟩ (by lia) fun h' eb=>⟨rfl,I.turned (t':=s.toks) (fun b o hb e=>eb b o hb e) f0 f1 f3 f4 f5⟩
  self:=fun _ _ _ _ _ st h=>wpAny_pyIter_keyiter st h
section
variable {X:Cx}{tg:Expr}
def zwr (tl:TE):TI:=fun σ H R=>tl σ H fun x H1=>∃a ob kvs,x = .ref a/\H1 a=some (.frz ob (.dK kvs))/\R (Itd a ob kvs) H1
theorem zb5 {l:Expr}{tl:TE}(hl:PE X l tl):PI X tg l (zwr tl):=by
  intro pins s σ H R I h;refine thn (hl pins s σ H _ I h) fun v s1 hq0=>?_
  obtain⟨x,H1,I1,r1,q1⟩:=hq0;obtain⟨a,ob,kvs,e,hq,q⟩:=q1;subst e;cases r1;obtain⟨e0,z,hs,vs,rel,o,es,ep,e,ex,dt,kk,pr,nd⟩:=I1.hok a _ hq;have e0':=e0;rw[e0] at e;cases e;have l1:kvs.length=vs.length:=Paired.length rel;have l2:es.size=vs.length:=by rw[←pr.length];simp
  refine zgl hs ⟨ob,e0,ex,dt⟩ ?_;refine⟨s1.heap.objs.size,[s1.heap.objs.size],_,_,H1,rfl,I1.kept (t':=s1.toks) fun b o e=>al5q _ e,znk a _ dt (l2.trans l1.symm),⟨_,al20q _ rfl,rfl,rfl⟩,fun b hb=>?_,q⟩;have e:b=s1.heap.objs.size:=by simpa using hb
  subst e;exact I1.fpOk (al13q _) (I1.hok.fresh (al13q _))
theorem zcc {a:ty1q}{ob:Obj}{kvs:List (Key×V)}{g:TG}{tb:TS}{D:Ends}{σ:St}{H:Hp}(Pv:Nat->St->Hp->Prop) (h0:Pv 0 σ H) (hl:∀i σ H,i<=kvs.length->Pv i σ H->H a=some (.frz ob (.dK kvs)))
    (hs:∀i k v σ H,kvs[i]? = some (k,v)->Pv i σ H->g (kV k) σ H fun σ2 H2=>tb { D with nx:=Pv (i+1),ct:=Pv (i+1),bk:=D.nx } σ2 H2) (hd:∀σ H,Pv kvs.length σ H->D.nx σ H) :
    ∃W:Nat->Nat->St->Hp->Prop,(∃m,W 0 m σ H)/\∀i m σ H,W i m σ H->
      ((Itd a ob kvs).stop i H/\D.nx σ H)\/((Itd a ob kvs).go i H/\∃N:St->Hp->Prop,(∀σ' H',N σ' H'->∃m',m'<m/\W (i+1) m' σ' H')/\∀x H',(Itd a ob kvs).yld i H x H'->g x σ H' fun σ2 H2=>tb { D with nx:=N,ct:=N,bk:=D.nx } σ2 H2):=by
  refine⟨fun i m σ H=>m=kvs.length-i/\i<=kvs.length/\Pv i σ H,⟨kvs.length,by simp,al65q _,h0⟩,?_⟩;rintro i m σ H ⟨rfl,hi,p⟩;have q:=hl i σ H hi p
  by_cases hlt:i<kvs.length
  · refine .inr ⟨⟨q,hlt⟩,Pv (i+1),fun σ' H' p'=>⟨kvs.length-(i+1),by lia,rfl,hlt,p'⟩,fun x H' y=>?_⟩;obtain⟨e,kv,y,rfl⟩:=y;subst e;exact hs i kv.1 kv.2 σ _ y p
  · have e:i=kvs.length:=by lia
    subst e;exact .inl ⟨⟨q,al13q _⟩,hd σ H p⟩
theorem Inv.frozen {pins:ty91q}{σ:St}{H:Hp}{s:ty2q}{a:ty1q}{kvs:List (Key×V)}(I:Inv X pins σ H s) (h:H a=some (.dK kvs)):∃ob,Inv X pins σ (upd H a (.frz ob (.dK kvs))) s:=by
  obtain⟨o,e⟩:∃o,s.heap.get? a=some o:=by
    obtain⟨_,_,_,_,o,_,_,e,_⟩:=I.hok a _ h;exact⟨o,e⟩
  have ok:=I.hok a _ h;refine⟨o,I.write (e:=a) (h':=s.heap) (t':=s.toks) (by rw[h];trivial) (.inl rfl) (fun b u _ q=>q) ⟨o,e⟩ ⟨e,?_⟩⟩;obtain⟨z,hd,vs,r⟩:=ok;exact⟨z,hd,vs,r⟩
def tFrz (ts:TS):TS:=fun D σ H=>ts D σ H\/∃a kvs,H a=some (.dK kvs)/\∀ob,ts D σ (upd H a (.frz ob (.dK kvs)))
theorem zd3 {st:Stmt}{ts:TS}(h:PS X st ts):PS X st (tFrz ts):=by
  intro pins s σ H D I q;rcases q with q | ⟨a,kvs,ha,q⟩
  · exact h pins s σ H D I q
  · obtain⟨ob,I'⟩:=I.frozen ha;exact h pins s σ _ D I' (q ob)
end
section
variable {X:Cx}{tg:Expr}
theorem zgr {a:ty1q}{ob:Obj}{kvs:List (Key×V)}:Fix (Itd a ob kvs) (kvs.map fun kv=>kV kv.1) (fun H=>H a=some (.frz ob (.dK kvs))):=
  ⟨fun i H h hi=>⟨h,by simpa using hi⟩,fun i H x H' h y=>⟨y.1,fun _=>by obtain⟨kv,h1,h2⟩:=y.2;rw[al4q,h1,h2];rfl⟩,fun i H h hi=>⟨h,by simpa using hi⟩⟩
theorem zla:zbr X (.builtin "len") (fun xs H Q=>∃a kvs,xs = [V.ref a]/\Rd H a (.dK kvs)/\Q (.int kvs.length) H):=by
  intro pins s σ H xs us Q I r h;obtain⟨a,kvs,rfl,ha,q⟩:=h;obtain⟨u,rfl,ru⟩:=zb3 r;cases ru;exact zul I ha fun t s' I'=>⟨.int kvs.length,H,I',⟨t,rfl⟩,q⟩
end
section
variable {prog:ty4q}{w:World}{A:Around}{E:ty90q}{s:ty2q}
theorem zi3 {S d:ty1q}{es:Array DictEntry}{ep:Nat}{c:Nat}{r:ty3q}{R:Result->ty2q->Prop}(hh:A.handled=none) (hd:(d == sysModules)=false) (hm:RawD s.heap d es ep) (hz:es.size<=sizeLine)
    (hS:s.heap.get? S=some { cls:=.type "list",data:=.seq #[] c }) (hne:S≠d)
    (hR:∀h1 acc c1 tk,(∀b o,b≠S->s.heap.get? b=some o->h1.get? b=some o)->h1.get? S=some { cls:=.type "list",dict:=none,data:=.seq acc c1,slots:=#[] }->acc.toList=es.toList.map (·.key)->R (.ok (.ret r)) { s with heap:=h1,toks:=tk }) :
    wpAny (model prog w) A.in1 (Builtin.List.listExtendWith (.ref S) (.ref d) r) (fun fin s1=>match fin with | .done f=>R (.ok f) s1 | .again c1=>c1.quiet=true/\codeAny (model prog w) A c1 R s1) (fun e s1=>R (.error e) s1) s:=by
  have dl:d<s.heap.objs.size:=by obtain⟨o,ho,_⟩:=hm;exact al14q ho
  have sl:S<s.heap.objs.size:=al14q hS;have T:s.TypeIs (.ref d) "dict":=hm.typeIs;unfold Builtin.List.listExtendWith;refine al2q (al191q T ?_);have sr:Builtin.List.listSameRef (.ref S) (.ref d)=false:=by simp[Builtin.List.listSameRef,hne]
  have t1:(Value.type "dict" == Value.type "list")=false:=by decide
  have t2:(Value.type "dict" == Value.type "tuple")=false:=by decide
  simp only [sr,t1,t2,Bool.or_false,al84q,al151q];refine al2q (zgl hd hm ?_);have old:∀b o,s.heap.get? b=some o->(s.heap.push { cls:=.type "dict_keyiterator",data:=.fields #[.ref d,.int 0 0,.int es.size 0,.int ep 0] }).get? b=some o:=fun b o e=>al5q _ e
  have hm3:=hm.at (h':=s.heap.push { cls:=.type "dict_keyiterator",data:=.fields #[.ref d,.int 0 0,.int es.size 0,.int ep 0] }) fun o e=>old d o e
  refine al2q (al60q (zhs (s:={ s with heap:=s.heap.push { cls:=.type "dict_keyiterator",data:=.fields #[.ref d,.int 0 0,.int es.size 0,.int ep 0] } }) hm3.typeIs ?_));have SI:S ∉ [s.heap.objs.size,d]:=by
    simp only [al21q,al64q,al192q];exact fun z=>z.elim (al31q sl) hne
  refine zk8 (A:=A) (s:={ s with heap:=s.heap.push { cls:=.type "dict_keyiterator",data:=.fields #[.ref d,.int 0 0,.int es.size 0,.int ep 0] } }) (zhr (A:=A.in1) hh s.heap.objs.size d (al31q dl) es ep) hz S c ⟨⟨_,al20q _ rfl,rfl,rfl⟩,hm3⟩ SI (old _ _ hS) r fun s1 acc c1 hmv h1 h2=>?_
  obtain⟨hp1,ge,dr,tk,os⟩:=s1;obtain⟨m1,m2,m3,m4,m5⟩:=hmv;obtain rfl:ge=s.gens:=m2;obtain rfl:dr=s.drawn:=m3;obtain rfl:os=s.os:=m4;refine hR hp1 acc c1 tk (fun b o hb e=>m1 b o ?_ (old b o e)) h1 (zk9 h2 (es.toList.map (·.key)) (by rw[al0q,al81q]) fun i v ⟨e,h3,h4⟩=>by rw[al4q,al154q,h3,h4];rfl);intro z;simp only [al21q,al64q,al192q] at z;exact z.elim hb fun z=>absurd (al14q e) (by rw[z];exact al53q _)
theorem zh5 {d:ty1q}{es:Array DictEntry}{ep:Nat}{Q:List ty3q->ty2q->Prop}(hh:A.handled=none) (hd:(d == sysModules)=false) (hm:RawD s.heap d es ep) (hz:es.size<=sizeLine)
    (hQ:∀h1 tk,(∀b o,s.heap.get? b=some o->h1.get? b=some o)->s.heap.objs.size<h1.objs.size->Q (es.toList.map (·.key)) { s with heap:=h1,toks:=tk }):wpAny (model prog w) A (collect (.ref d)) Q E s:=by
  have dl:d<s.heap.objs.size:=by obtain⟨o,ho,_⟩:=hm;exact al14q ho
  unfold collect;refine al2q (wpAny_runValue (al76q PySem.F.entry_proto_collect ?_));rw[al54q PySem.F.plain_proto_collect _];show wpAny _ A.in1 (newList [] >>= fun l=>again (.builtin "list.__iadd__" ⟨[l,.ref d],[]⟩)) _ _ s;refine al2q (al70q ?_);refine al7q ⟨al71q PySem.F.plain_list_iadd _,al76q PySem.F.entry_list_iadd ?_⟩;rw[al54q PySem.F.plain_list_iadd _];show wpAny _ A.in1 (Builtin.List.listExtendWith (.ref s.heap.objs.size) (.ref d) (.ref s.heap.objs.size)) _ _ _;have hS:(s.heap.push { cls:=.type "list",data:=.seq ([]:List ty3q).toArray }).get? s.heap.objs.size=some { cls:=.type "list",data:=.seq #[] }:=al20q _ rfl;have old:∀b o,s.heap.get? b=some o->(s.heap.push { cls:=.type "list",data:=.seq ([]:List ty3q).toArray }).get? b=some o:=fun b o e=>al5q _ e
  have hm2:=hm.at (h':=s.heap.push { cls:=.type "list",data:=.seq ([]:List ty3q).toArray }) (fun o e=>old d o e);refine zi3 (prog:=prog) (A:=A) (r:=.ref s.heap.objs.size) (R:=fun r s'=>match r with
    | .ok (.ret v)=>wpAny (model prog w) A (match v with
      | .ref a=>do
        let o ←load a
        match o.data with
        | .seq xs _=>pure xs.toList
        | _=>unsupported "internal:collect"
      | _=>unsupported "internal:collect") Q E s'
    | .ok _=>False
    | .error e=>E e s') (s:={ s with heap:=s.heap.push { cls:=.type "list",data:=.seq ([]:List ty3q).toArray } }) hh hd hm2 hz hS (al26q (al31q dl)) fun h1 acc c1 tk k e p=>?_
  show wpAny _ A (load s.heap.objs.size >>= _) _ _ _;refine al2q (wpAny_load e ?_);rw[←p] at hQ;exact al7q (hQ h1 tk (fun b o eb=>k b o (fun z=>al53q _ (z▸al14q eb)) (old b o eb)) (al14q e))
end
theorem znl {prog:ty4q}{w:World}{A:Around}{s:ty2q}{a b:Int}{t u:Tok}{Q:ty90q}{E:ty90q}(q:Q (.bool (decide (a > b))) s):wpAny (model prog w) A (richCompare .Gt (.int a t) (.int b u)) Q E s:=
  CmpOf.ints_gt (P:=fun i v=>(i=0/\v = .int a t)\/(i=1/\v = .int b u)) (fun i=>if i=0 then a else b) (fun i v h=>by
    rcases h with ⟨rfl,rfl⟩ | ⟨rfl,rfl⟩
    · exact⟨t,rfl⟩
    · exact⟨u,rfl⟩) 0 1 _ _ s Q E (.inl ⟨rfl,rfl⟩) (.inr ⟨rfl,rfl⟩) q
section
variable {prog:ty4q}{w:World}{A:Around}{R:Result->ty2q->Prop}
structure MaxAt (h:Heap) (l it S:ty1q) (its:Array ty3q) (vb:ty3q) (j:Nat) (c:Nat):Prop where
  i:h.IsListIter it l j
  l:h.IsList l its
  s:h.get? S=some { cls:=.type "list",dict:=none,data:=.seq #[vb,vb] c,slots:=#[] }
theorem znm {l it S:ty1q}{its:Array ty3q}{val:Nat->Int}{dv:ty3q}(hh:A.handled=none) (hv:∀i v,its[i]? = some v->∃t,v=Value.int (val i) t) (n1:S≠it) (n2:S≠l) (n3:l≠it) :
    ∀(k j b:Nat) (s:ty2q) (vb:ty3q) (c:Nat),its.size-j=k->MaxAt s.heap l it S its vb j c->its[b]? = some vb->(∀i,i<j->val i<=val b)->j<=its.size->
      (∀(v:ty3q) (b':Nat) (h':Heap) (tk:Nat),its[b']? = some v->(∀i,i<its.size->val i<=val b')->(∀d o,d≠it->d≠S->s.heap.get? d=some o->h'.get? d=some o)->R (.ok (.ret v)) { s with heap:=h',toks:=tk })->
      codeAny (model prog w) A (.builtin "max.loop" ⟨[.ref it,.none,.ref S],[("default",dv)]⟩) R s:=by
  have nm:(toString "max" ++ toString ".loop" : String) = "max.loop":=by decide
  intro k
  induction k with
  | zero=>
    intro j b s vb c hk M eb best hj q;refine al76q al140q ?_;rw[al54q al55q _];show wpAny _ A.in1 (seqItems? (.ref S) >>= _) _ _ s;refine al2q (al86q M.s rfl (al2q (al77q (al123q (A:=A.in1) hh M.i M.l (al117q (show its.size<=j by lia)) fun h' eb'=>?_))));have s':=eb' S _ n1 M.s;refine al2q (m:=updateSeq S (fun _=>#[])) ?_;refine al63q s' rfl (al2q (al106q (al7q ?_)));exact q vb b _ s.toks eb (fun i hi=>best i (by lia)) fun d o d1 d2 e=>by
      rw[al24q _ _ (al26q d2)];exact eb' d o d1 e
  | succ k ih=>
    intro j b s vb c hk M eb best hj q;have hlt:j<its.size:=by lia
    have ej:its[j]? = some its[j]:=al42q hlt;obtain⟨t1,e1⟩:=hv j _ ej;obtain⟨t2,e2⟩:=hv b _ eb;refine al76q al140q ?_;rw[al54q al55q _];show wpAny _ A.in1 (seqItems? (.ref S) >>= _) _ _ s;refine al2q (al86q M.s rfl (al2q (al77q (al93q M.i M.l ej fun h' it' sb=>?_))));have s':h'.get? S=_:=(sb.2 S n1).trans M.s;have l':h'.IsList l its:=by
      obtain⟨o,ho,r⟩:=M.l;exact⟨o,(sb.2 l n3).trans ho,r⟩
    rw[e1,e2];rw[e1] at ej;rw[e2] at s' eb;refine al2q (al7q ?_);refine al2q (al77q (al60q (al2q (znl (s:={ s with heap:=h' }) (t:=t1) (u:=t2) ?_))));refine al2q (al60q (al82q (al2q (al106q (al7q ?_)))))
    by_cases c1:val j > val b
    · rw[al10q c1,al12q rfl];refine al2q (m:=updateSeq S (fun _=>#[Value.int (val j) t1,Value.int (val j) t1])) ?_;refine al63q s' rfl (al2q (al106q ?_));rw[nm];have keep:∀d o,d≠S->h'.get? d=some o->(h'.update S (Obj.mapSeq fun _=>#[Value.int (val j) t1,Value.int (val j) t1])).get? d=some o:=fun d o d1 e=>(al24q _ _ (al26q d1)).trans e
      obtain⟨c',M'⟩:∃c',MaxAt (h'.update S (Obj.mapSeq fun _=>#[Value.int (val j) t1,Value.int (val j) t1])) l it S its (Value.int (val j) t1) (j+1) c':=by
        refine⟨_,it'.at fun o e=>keep it o (al26q n1) e,?_,al33q _ s' rfl⟩;obtain⟨o,ho,r⟩:=l';exact⟨o,keep l o (al26q n2) ho,r⟩
      refine al7q ⟨al71q al55q _,ih (j+1) j _ _ _ (by lia) M' ej (fun i hi=>?_) hlt fun v b' h2 tk ev hb kp=>?_⟩
      · by_cases c2:i=j
        · subst c2;exact al111q _
        · have:=best i (by lia);lia
      · exact q v b' h2 tk ev hb fun d o d1 d2 e=>kp d o d1 d2 (keep d o d2 ((sb.2 d d1).trans e))
    · rw[al17q c1,al8q al23q];refine al2q (al106q ?_);rw[nm];refine al7q ⟨al71q al55q _,ih (j+1) b { s with heap:=h' } _ c (by lia) ⟨it',l',s'⟩ eb (fun i hi=>?_) hlt fun v b' h2 tk ev hb kp=>?_⟩
      · by_cases c2:i=j
        · subst c2;lia
        · exact best i (by lia)
      · exact q v b' h2 tk ev hb fun d o d1 d2 e=>kp d o d1 d2 ((sb.2 d d1).trans e)
theorem zlb {l it S:ty1q}{its:Array ty3q}{val:Nat->Int}{dv:ty3q}{s:ty2q}{c:Nat}(hh:A.handled=none) (hv:∀i v,its[i]? = some v->∃t,v=Value.int (val i) t) (n1:S≠it) (n2:S≠l) (n3:l≠it)
    (hi:s.heap.IsListIter it l 0) (hl:s.heap.IsList l its) (hS:s.heap.get? S=some { cls:=.type "list",dict:=none,data:=.seq #[] c,slots:=#[] })
    (q:∀(v:ty3q) (h':Heap) (tk:Nat),(its.size=0/\v=dv)\/(∃b,its[b]? = some v/\∀i,i<its.size->val i<=val b)->(∀d o,d≠it->d≠S->s.heap.get? d=some o->h'.get? d=some o)->R (.ok (.ret v)) { s with heap:=h',toks:=tk }) :
    codeAny (model prog w) A (.builtin "max.loop" ⟨[.ref it,.none,.ref S],[("default",dv)]⟩) R s:=by
  have nm:(toString "max" ++ toString ".loop" : String) = "max.loop":=by decide
  refine al76q al140q ?_;rw[al54q al55q _];show wpAny _ A.in1 (seqItems? (.ref S) >>= _) _ _ s
  by_cases h0:its.size=0
  · refine al2q (al86q hS rfl (al2q (al77q (al123q (A:=A.in1) hh hi hl (al117q (by lia)) fun h' eb'=>?_))));refine al2q (al160q (al7q ?_));exact q dv h' s.toks (.inl ⟨h0,rfl⟩) fun d o d1 _ e=>eb' d o d1 e
  · have ej:its[0]? = some its[0]:=al42q (by lia);refine al2q (al86q hS rfl (al2q (al77q (al93q hi hl ej fun h' it' sb=>?_))));have s':h'.get? S=_:=(sb.2 S n1).trans hS;have l':h'.IsList l its:=by
      obtain⟨o,ho,r⟩:=hl;exact⟨o,(sb.2 l n3).trans ho,r⟩
    refine al2q (al7q ?_);refine al2q (m:=updateSeq S (fun _=>#[its[0],its[0]])) ?_;refine al63q s' rfl ?_;rw[nm];have keep:∀d o,d≠S->h'.get? d=some o->(h'.update S (Obj.mapSeq fun _=>#[its[0],its[0]])).get? d=some o:=fun d o d1 e=>(al24q _ _ (al26q d1)).trans e
    obtain⟨c',M'⟩:∃c',MaxAt (h'.update S (Obj.mapSeq fun _=>#[its[0],its[0]])) l it S its its[0] 1 c':=by
      refine⟨_,it'.at fun o e=>keep it o (al26q n1) e,?_,al33q _ s' rfl⟩;obtain⟨o,ho,r⟩:=l';exact⟨o,keep l o (al26q n2) ho,r⟩
    refine al7q ⟨al71q al55q _,znm hh hv n1 n2 n3 _ 1 0 _ _ _ rfl M' ej (fun i hi=>?_) (by lia) fun v b' h2 tk ev hb kp=>?_⟩
    · have:i=0:=by lia
      subst this;exact al111q _
    · exact q v h2 tk (.inr ⟨b',ev,hb⟩) fun d o d1 d2 e=>kp d o d1 d2 (keep d o d2 ((sb.2 d d1).trans e))
end
section
variable {prog:ty4q}{w:World}{A:Around}{E:ty90q}{s:ty2q}
theorem zp2 (a d:ty3q):argsOk "max" ⟨[a],[("default",d)]⟩:=by unfold argsOk;kernel_rfl
theorem znn {l:ty1q}{its:Array ty3q}{val:Nat->Int}{dv:ty3q}{Q:ty90q}(hh:A.handled=none) (hl:s.heap.IsList l its) (hv:∀i v,its[i]? = some v->∃t,v=Value.int (val i) t)
    (q:∀(v:ty3q) (h':Heap) (tk:Nat),(its.size=0/\v=dv)\/(∃b,its[b]? = some v/\∀i,i<its.size->val i<=val b)->(∀d o,s.heap.get? d=some o->h'.get? d=some o)->Q v { s with heap:=h',toks:=tk }) :
    wpAny (model prog w) A (call (.builtin "max") [.ref l] [("default",dv)]) Q E s:=by
  have nm:(toString "max" ++ toString ".loop" : String) = "max.loop":=by decide
  have hlt:l<s.heap.objs.size:=by obtain⟨_,e,_⟩:=hl;exact al14q e
  have body:wpAny (model prog w) A.in1 (Builtin.«max» ⟨[.ref l],[("default",dv)]⟩) (fun fin s'=>match fin with
      | .done f=>(match (Except.ok f:Result) with | .ok (.ret v)=>Q v s' | .ok _=>False | .error e=>E e s')
      | .again c'=>c'.quiet=true/\codeAny (model prog w) A c' (fun r s'=>match r with | .ok (.ret v)=>Q v s' | .ok _=>False | .error e=>E e s') s') E s:=by
    show wpAny _ A.in1 (Builtin.Builtins.bindParams "max" ["key","default"] 0 ⟨[],[("default",dv)]⟩ >>= _) _ _ s;refine al2q (al189q (show Builtin.Builtins.bindParams "max" ["key","default"] 0 ⟨[],[("default",dv)]⟩=pure [none,some dv] from rfl) ?_);refine al2q (al7q (al2q (al126q hl ?_)));refine al2q (al70q ?_);rw[nm];have zu:(s.heap.push { cls:=.type "list_iterator",data:=.fields #[.ref l,.int 0 0] }).objs.size=s.heap.objs.size+1:=al109q ..;have old1:∀d o,s.heap.get? d=some o->(s.heap.push { cls:=.type "list_iterator",data:=.fields #[.ref l,.int 0 0] }).get? d=some o:=fun d o e=>al5q _ e
    have hit:(s.heap.push { cls:=.type "list_iterator",data:=.fields #[.ref l,.int 0 0] }).IsListIter s.heap.objs.size l 0:=⟨_,al20q _ rfl,rfl,rfl⟩;have hl1:(s.heap.push { cls:=.type "list_iterator",data:=.fields #[.ref l,.int 0 0] }).IsList l its:=by
      obtain⟨o,ho,r⟩:=hl;exact⟨o,old1 l o ho,r⟩
    generalize s.heap.push { cls:=.type "list_iterator",data:=.fields #[.ref l,.int 0 0] } = g at zu old1 hit hl1;have hl2:(g.push { cls:=.type "list",data:=.seq ([]:List ty3q).toArray }).IsList l its:=by
      obtain⟨o,ho,r⟩:=hl1;exact⟨o,al5q _ ho,r⟩
    refine al7q ⟨al71q al55q _,zlb (it:=s.heap.objs.size) (S:=g.objs.size) hh hv ?_ ?_ ?_ (hit.at fun o e=>al5q _ e) hl2 (al20q _ rfl) fun v h' tk hb kp=>?_⟩
    · rw[zu];exact Nat.succ_ne_self _
    · rw[zu];exact al26q (al31q (al113q hlt))
    · exact al31q hlt
    · refine q v h' tk hb fun d o e=>kp d o (fun z=>?_) (fun z=>?_) (al5q _ (old1 d o e))
      · exact absurd (al14q e) (by rw[z];exact al53q _)
      · exact absurd (al14q e) (by rw[z,zu];exact al164q (al128q _))
  refine al146q (al88q F.plain_max F.entry_max ?_);have ha:=zp2 (.ref l) dv;simp only [checkBuiltinCall,F.kind_max];cases sg:Manifest.signature? "max" with
  | none=>exact al7q body
  | some g=>
    simp only [argsOk,sg] at ha;have ha:Bind.checkArgs "max" g ⟨[.ref l],[("default",dv)]⟩=pure ():=ha;show wpAny _ A.in1 (Bind.checkArgs "max" g ⟨[.ref l],[("default",dv)]⟩) _ _ s;rw[ha];exact al7q body
end
def zi4 (ns:List Int) (d m:Int):Prop:=(ns = []/\m=d)\/(m∈ns/\∀y∈ns,y<=m)
def zws (K:ty0q) (d:Int) (te:TE):TE:=fun σ H Q=>te σ H fun x H1=>∃(p:ty1q) (ns:List Int),x = .ref p/\SqL K H1 p (ns.map V.int)/\∀m,zi4 ns d m->Q (.int m) H1
section
variable {X:Cx}
theorem zss (K:ty0q) (hK:X.K=K) (d:Int) {e:Expr}{te:TE}{p pos kpos cpos:Pos}{j:Nat}(hc:X.calm=true) (hg:Gl X "max") (hm:X.mg "max" = none) (he:PE X e te)
    (hs:starEach [e] X.env = [(false,eval e X.env)]:=by rfl):PE X (.Call (.Name "max" p) [e] [⟨some "default",.Constant (.int d) j cpos,kpos⟩] pos) (zws K d te):=by
  subst hK;intro pins s σ H Q I h;refine al147q (zfw I hg hm boot_max ?_);refine PySem.W.callWith_of (P:=fun _=>True) (first:=[]) (by rw[hs];rfl) (fun h _=>⟨.machine,.inr (.inl rfl),fun _ _ _ _ _ q=>al7q q⟩) (PyProof.Rows.evalArgs_kw2 rfl ?_ hs);refine thn (zc he zh hs pos pins s σ H (fun vs H1=>match vs with | [x]=>∃(p:ty1q) (ns:List Int),x = .ref p/\SqL X.K H1 p (ns.map V.int)/\∀m,zi4 ns d m->Q (.int m) H1 | _=>False) I h) fun us s1 hq0=>?_
  obtain⟨vs,H1,I1,r,q⟩:=hq0
  match vs,q with
  | [x],q=>
    obtain⟨l,ns,rfl,hl,q⟩:=q;obtain⟨u,rfl,ru⟩:=zb3 r;cases ru;refine thn (zr6 (nm:=some "default") (kpos:=kpos) (zj (i:=d) (j:=j) (pos:=cpos)) zuf pos pins s1 σ H1 (fun zs H2=>zs = [.int d]/\H2=H1) I1 ⟨rfl,rfl⟩) fun ws s2 ⟨zs,H2,I2,rz,q2⟩=>⟨trivial,?_⟩
    obtain⟨rfl,rfl⟩:=q2;obtain⟨v,rfl,t,rfl⟩:=zb3 rz;obtain⟨its,rv,pl,hz⟩:=I2.list hl;have len:=rv.length;rw[al0q] at len;have hv:∀i v,its.toArray[i]? = some v->∃t,v=Value.int (ns.getD i 0) t:=by
      intro i v e;have e':its[i]? = some v:=by simpa using e
      have hi:i<ns.length:=by have:=(al3q.mp e').1;lia
      obtain⟨w,e2,rw'⟩:=rv.get (i:=i) (x:=.int ns[i]) (by simp[hi]);rw[e'] at e2;cases e2;have:ns.getD i 0=ns[i]:=by rw[al11q,al1q hi];rfl
      rw[this];exact rw'
    refine znn (I2.ok.hd hc) pl.isList hv fun v h' tk hb kp=>?_
    have sz:its.toArray.size=ns.length:=by rw[al27q];exact len.symm
    rcases hb with ⟨h0,rfl⟩ | ⟨b,eb,hb⟩
    · refine⟨.int d,_,I2.kept kp,⟨t,rfl⟩,q d (.inl ⟨?_,rfl⟩)⟩;exact al135q.mp (by lia)
    · obtain⟨t',rfl⟩:=hv b _ eb;have hbn:b<ns.length:=by
        have:=(al38q.mp eb).1;lia
      have eg:∀i (hi:i<ns.length),ns.getD i 0=ns[i]:=fun i hi=>by rw[al11q,al1q hi];rfl
      refine⟨.int (ns.getD b 0),_,I2.kept kp,⟨t',rfl⟩,q _ (.inr ⟨?_,fun y hy=>?_⟩)⟩
      · rw[eg b hbn];exact al46q _
      · obtain⟨i,hi,rfl⟩:=al127q.mp hy;have:=hb i (by lia)
        rwa [eg i hi] at this
end
end L2
namespace Dm
open PySem PySem.NumText L2
def rowB (lv:Str->Nat) (j:Nat) (x:Str):Bool:=decide (lv x=j)
def lvN (lv:Str->Nat) (L:List (Str×ty1q)):List Int:=L.map fun p=>(lv p.1:Int)+1
def lvU (lv:Str->Nat) (u:Str) (m:Nat):Str->Nat:=fun x=>if x=u then m else lv x
structure Lv (ln:Ln) (M:List Str) (lv:Str->Nat) (n:Nat):Prop where
  cl:∀x∈M,∀l r,(l,r)∈ln x->l∈M
  mx:∀x∈M,zi4 (lvN lv (ln x)) 0 (lv x)
  lt:∀x∈M,lv x<n
  all:∀j,j<n->∃x∈M,lv x=j
theorem Lv.nil {ln:Ln}{lv:Str->Nat}:Lv ln [] lv 0:=⟨by simp,by simp,by simp,by simp⟩
theorem Lv.mem {ln:Ln}{M M':List Str}{lv:Str->Nat}{n:Nat}(h:Lv ln M lv n) (e:∀x,x∈M↔x∈M'):Lv ln M' lv n:=
  ⟨fun x hx l r hl=>(e l).mp (h.cl x ((e x).mpr hx) l r hl),fun x hx=>h.mx x ((e x).mpr hx),fun x hx=>h.lt x ((e x).mpr hx),fun j hj=>by
    obtain⟨x,hx,z⟩:=h.all j hj;exact⟨x,(e x).mp hx,z⟩⟩
theorem Lv.next {ln:Ln}{M:List Str}{lv:Str->Nat}{n:Nat}{u:Str}(h:Lv ln M lv n) (hc:∀l r,(l,r)∈ln u->l∈M) {m:Int}(hm:zi4 (lvN lv (ln u)) 0 m):∃k:Nat,m=k/\k<=n:=by
  rcases hm with ⟨_,rfl⟩ | ⟨hm,_⟩
  · exact⟨0,rfl,by lia⟩
  · unfold lvN at hm;rw[al32q] at hm;obtain⟨⟨l,r⟩,hl,rfl⟩:=hm;have:=h.lt l (hc l r hl);exact⟨lv l+1,by simp,by lia⟩
theorem zh6 {lv lv':Str->Nat}{L:List (Str×ty1q)}(h:∀l r,(l,r)∈L->lv l=lv' l):lvN lv L=lvN lv' L:=by
  unfold lvN;refine al68q fun p hp=>?_
  rw[h p.1 p.2 hp]
theorem ze0 {lv:Str->Nat}{u x:Str}{k:Nat}(h:x≠u):lvU lv u k x=lv x:=by unfold lvU;rw[al8q h]
theorem zgs {lv:Str->Nat}{u:Str}{k:Nat}:lvU lv u k u=k:=by unfold lvU;rw[al12q rfl]
theorem Lv.step {ln:Ln}{M:List Str}{lv:Str->Nat}{n:Nat}{u:Str}(h:Lv ln M lv n) (hu:u ∉ M) (hc:∀l r,(l,r)∈ln u->l∈M) {k:Nat}(hm:zi4 (lvN lv (ln u)) 0 k) (hk:k<=n) :
    Lv ln (M++[u]) (lvU lv u k) (if k=n then n+1 else n):=by
  have ne:∀x∈M,x≠u:=fun x hx z=>hu (z▸hx)
  have cg:∀x,(∀l r,(l,r)∈ln x->l∈M)->lvN (lvU lv u k) (ln x)=lvN lv (ln x):=fun x hx=>zh6 fun l r hl=>ze0 (ne l (hx l r hl))
  have sp:∀x,x∈M++[u]->x∈M\/x=u:=fun x hx=>by
    rcases al25q.mp hx with h | h
    · exact .inl h
    · exact .inr (by simpa using h)
  refine⟨fun x hx l r hl=>?_,fun x hx=>?_,fun x hx=>?_,fun j hj=>?_⟩
  · rcases sp x hx with hx | rfl
    · exact al35q _ (h.cl x hx l r hl)
    · exact al35q _ (hc l r hl)
  · rcases sp x hx with hx | rfl
    · rw[cg x (h.cl x hx),ze0 (ne x hx)];exact h.mx x hx
    · rw[cg x hc,zgs];exact hm
  · rcases sp x hx with hx | rfl
    · rw[ze0 (ne x hx)];have:=h.lt x hx;split<;>lia
    · rw[zgs];split<;>lia
  · by_cases c:j<n
    · obtain⟨x,hx,e⟩:=h.all j c;exact⟨x,al35q _ hx,by rw[ze0 (ne x hx)];exact e⟩
    · refine⟨u,by simp,?_⟩;rw[zgs];split at hj<;>lia
theorem zp3 {M:List Str}{lv:Str->Nat}{u:Str}{k j:Nat}(hu:u ∉ M):(M++[u]).filter (rowB (lvU lv u k) j)=M.filter (rowB lv j)++(if k=j then [u] else []):=by
  rw[al87q]
  congr 1
  · refine List.filter_congr fun x hx=>?_
    unfold rowB;have ne:x≠u:=fun z=>hu (by rw[←z];exact hx)
    rw[ze0 ne]
  · have e:rowB (lvU lv u k) j u=decide (k=j):=by unfold rowB;rw[zgs]
    by_cases c:k=j
    · rw[al12q c,al141q (by rw[e];exact al10q c)];rfl
    · rw[al8q c,al142q (by rw[e,al17q c];exact al23q)];rfl
theorem zlc {os keys:List Str}{p:Str->Bool}(pm:os.Perm keys) (kl:keys.Pairwise (fun a b=>co a<co b)):srt (os.filter p)=keys.filter p:=by
  refine (zka (pm.filter p).symm ?_).symm;unfold ziy;exact (kl.imp (fun h=>zdg h)).sublist (al114q ..)
theorem zu5 {l:List ty1q}(h:l.Nodup) {i j:Nat}{a:ty1q}(hi:l[i]? = some a) (hj:l[j]? = some a):i=j:=by
  obtain⟨h1,e1⟩:=al3q.mp hi;obtain⟨h2,e2⟩:=al3q.mp hj;have pw:=al48q.mp h;rcases al101q i j with c | c | c
  · exact absurd (e1.trans e2.symm) (pw i j h1 h2 c)
  · exact c
  · exact absurd (e2.trans e1.symm) (pw j i h2 h1 c)
end Dm
namespace L2
open PySem PySem.Spec PyProof.Rows
theorem zp4 {c:TT}{t u:TS}{D:Ends}{σ:St}{H:Hp}(P:St->Hp->Prop) (b:Bool) (ht:∀Q':Bool->Hp->Prop,Q' b H->c σ H Q') (h1:b=true->(∀σ' H',P σ' H'->D.nx σ' H')->t D σ H) (h2:b=false->(∀σ' H',P σ' H'->D.nx σ' H')->u D σ H)
    (hn:∀σ' H',P σ' H'->D.nx σ' H'):tIfS c t u D σ H:=by
  refine zcq b ht ?_;cases b with
  | true=>exact iteT (h1 rfl hn)
  | false=>exact iteF (h2 rfl hn)
end L2
namespace Dm
open PySem PySem.NumText L2
theorem Lv.row_nil {ln:Ln}{M:List Str}{lv:Str->Nat}{n:Nat}(h:Lv ln M lv n) {j:Nat}(hj:n<=j):M.filter (rowB lv j) = []:=by
  rw[al150q];intro x hx;have:=h.lt x hx;unfold rowB;rw[al40q];lia
theorem zld {ns ns':List Int}{d m m':Int}(h:zi4 ns d m) (h':zi4 ns' d m') (e:∀y,y∈ns↔y∈ns'):m=m':=by
  rcases h with ⟨h1,h2⟩ | ⟨h1,h2⟩
  · rcases h' with ⟨_,h4⟩ | ⟨h3,_⟩
    · rw[h2,h4]
    · have:=(e m').mpr h3;rw[h1] at this;cases this
  · rcases h' with ⟨h3,_⟩ | ⟨h3,h4⟩
    · have:=(e m).mp h1;rw[h3] at this;cases this
    · have a:=h2 m' ((e m').mpr h3);have b:=h4 m ((e m).mp h1);lia
end Dm
namespace L2
open PySem PySem.Spec PyProof.Rows
abbrev IS:=Int×Str
def gtP (p q:IS):Bool:=if p.1=q.1 then decide (q.2.cps.toList<p.2.cps.toList) else decide (q.1<p.1)
theorem zdr (p:IS):gtP p p=false:=by
  unfold gtP;rw[al12q rfl];exact al17q (al69q _)
theorem zu6 {i b j:IS}(h1:gtP i b=false) (h2:gtP j b=true):gtP i j=false:=by
  unfold gtP at *
  by_cases c1:i.1=b.1
  · rw[al12q c1] at h1;have h1:=al89q h1
    by_cases c2:j.1=b.1
    · rw[al12q c2] at h2;have h2:=al16q h2;rw[al12q (c1.trans c2.symm)];exact al17q fun z=>h1 (al169q h2 z)
    · rw[al8q c2] at h2;have h2:=al16q h2;rw[al8q (fun z=>c2 (z.symm.trans c1))];exact al17q (by lia)
  · rw[al8q c1] at h1;have h1:=al89q h1
    by_cases c2:j.1=b.1
    · rw[al8q (fun z=>c1 (z.trans c2))];exact al17q (by lia)
    · rw[al8q c2] at h2;have h2:=al16q h2;rw[al8q (by lia)];exact al17q (by lia)
theorem zgt {p b:IS}(h:gtP p b=false):p.1<=b.1:=by
  unfold gtP at h
  by_cases c:p.1=b.1
  · lia
  · rw[al8q c] at h;have:=al89q h;lia
def TupIS (h:Heap) (v:ty3q) (p:IS):Prop:=∃a t u,v = .ref a/\IsTup h a #[.int p.1 t,.str p.2 u]
theorem TupIS.kept {h h':Heap}{v:ty3q}{p:IS}(t:TupIS h v p) (k:∀d o,(h.get? d=some o/\o.cls = .type "tuple")->h'.get? d=some o):TupIS h' v p:=by
  obtain⟨a,x,y,rfl,o,ho,hc,n,hd⟩:=t;exact⟨a,x,y,rfl,o,k a o ⟨ho,hc⟩,hc,n,hd⟩
section
variable {prog:ty4q}{w:World}{A:Around}{E:ty90q}{s:ty2q}
theorem zst {a b:Int}{t u:Tok}{Q:ty90q}(q:Q (.bool (decide (a<b))) s):wpAny (model prog w) A (richCompare .Lt (.int a t) (.int b u)) Q E s:=
  CmpOf.ints_lt (P:=fun i v=>(i=0/\v = .int a t)\/(i=1/\v = .int b u)) (fun i=>if i=0 then a else b) (fun i v h=>by
    rcases h with ⟨rfl,rfl⟩ | ⟨rfl,rfl⟩
    · exact⟨t,rfl⟩
    · exact⟨u,rfl⟩) 0 1 _ _ s Q E (.inl ⟨rfl,rfl⟩) (.inr ⟨rfl,rfl⟩) q
theorem zwt {v1 v2:ty3q}{p q:IS}{Q:ty90q}(hu:A.units<cLine) (h1:TupIS s.heap v1 p) (h2:TupIS s.heap v2 q) (h:Q (.bool (gtP p q)) s) :
    wpAny (model prog w) A (richCompare .Gt v1 v2) Q E s:=by
  obtain⟨a,t1,u1,rfl,oa,hoa,hca,na,hda⟩:=h1;obtain⟨b,t2,u2,rfl,ob,hob,hcb,nb,hdb⟩:=h2;have ta:s.TypeIs (.ref a) "tuple":=⟨oa,hoa,hca⟩;have tb:s.TypeIs (.ref b) "tuple":=⟨ob,hob,hcb⟩;refine wpAny_richCompare_same_room (op:=.Gt) ta tb F.slot_tuple_gt (al100q F.slot_tuple_gt ta F.entry_tuple_gt ?_ (F.args_tuple_gt_2 _ _)) hu;show wpAny _ _ (isInstance (.ref b) (.type "tuple") >>= _) _ _ s;refine al2q (al137q tb isSubtype_tuple_tuple ?_);rw[al8q (by decide)];refine al2q (al174q hoa hda (al2q (al174q hob hdb (al2q ?_))));show wpAny _ _ (forIn [((Value.int p.1 t1,Value.int q.1 t2):ty3q×ty3q),(Value.str p.2 u1,Value.str q.2 u2)] _ _) _ _ s;rw[al153q];refine al2q (al2q (wpAny_eqBool_int ?_))
  by_cases c:p.1=q.1
  · rw[show (p.1 == q.1)=true from beq_iff_eq.mpr c,al8q (by decide)];refine al7q ?_;show wpAny _ _ (forIn [((Value.str p.2 u1,Value.str q.2 u2):ty3q×ty3q)] _ _) _ _ s;rw[al153q];refine al2q (al2q (al133q ?_))
    by_cases c2:p.2=q.2
    · rw[al10q c2,al8q (by decide)];refine al7q ?_;show wpAny _ _ (forIn ([]:List (ty3q×ty3q)) _ _) _ _ s;rw[List.forIn_nil];refine al7q (al7q ⟨_,rfl,(fun e=>nomatch e),?_⟩);have e:gtP p q=false:=by
        unfold gtP;rw[al12q c,c2];exact al17q (al69q _)
      rw[e] at h;exact h
    · rw[al17q c2,al12q (by decide)];refine al2q (al160q (al2q (PySem.P.gt_str ?_)));refine al7q (al7q (al7q ⟨_,rfl,(fun e=>nomatch e),?_⟩));unfold gtP at h;rw[al12q c] at h;exact h
  · rw[show (p.1 == q.1)=false from al67q.mpr c,al12q (by decide)];refine al2q (al160q (al2q (znl ?_)));refine al7q (al7q (al7q ⟨_,rfl,(fun e=>nomatch e),?_⟩));unfold gtP at h;rw[al8q c] at h;exact h
theorem zwu {v1 v2:ty3q}{p q:IS}{Q:ty90q}(hu:A.units<cLine) (h1:TupIS s.heap v1 p) (h2:TupIS s.heap v2 q) (h:Q (.bool (gtP q p)) s) :
    wpAny (model prog w) A (richCompare .Lt v1 v2) Q E s:=by
  obtain⟨a,t1,u1,rfl,oa,hoa,hca,na,hda⟩:=h1;obtain⟨b,t2,u2,rfl,ob,hob,hcb,nb,hdb⟩:=h2;have ta:s.TypeIs (.ref a) "tuple":=⟨oa,hoa,hca⟩;have tb:s.TypeIs (.ref b) "tuple":=⟨ob,hob,hcb⟩;refine wpAny_richCompare_same_room (op:=.Lt) ta tb F.slot_tuple_lt (al100q F.slot_tuple_lt ta F.entry_tuple_lt ?_ (F.args_tuple_lt_2 _ _)) hu;show wpAny _ _ (isInstance (.ref b) (.type "tuple") >>= _) _ _ s;refine al2q (al137q tb isSubtype_tuple_tuple ?_);rw[al8q (by decide)];refine al2q (al174q hoa hda (al2q (al174q hob hdb (al2q ?_))));show wpAny _ _ (forIn [((Value.int p.1 t1,Value.int q.1 t2):ty3q×ty3q),(Value.str p.2 u1,Value.str q.2 u2)] _ _) _ _ s;rw[al153q];refine al2q (al2q (wpAny_eqBool_int ?_))
  by_cases c:p.1=q.1
  · rw[show (p.1 == q.1)=true from beq_iff_eq.mpr c,al8q (by decide)];refine al7q ?_;show wpAny _ _ (forIn [((Value.str p.2 u1,Value.str q.2 u2):ty3q×ty3q)] _ _) _ _ s;rw[al153q];refine al2q (al2q (al133q ?_))
    by_cases c2:p.2=q.2
    · rw[al10q c2,al8q (by decide)];refine al7q ?_;show wpAny _ _ (forIn ([]:List (ty3q×ty3q)) _ _) _ _ s;rw[List.forIn_nil];refine al7q (al7q ⟨_,rfl,(fun e=>nomatch e),?_⟩);have e:gtP q p=false:=by
        unfold gtP;rw[al12q c.symm,c2];exact al17q (al69q _)
      rw[e] at h;exact h
    · rw[al17q c2,al12q (by decide)];refine al2q (al160q (al2q (lt_str ?_)));refine al7q (al7q (al7q ⟨_,rfl,(fun e=>nomatch e),?_⟩));unfold gtP at h;rw[al12q c.symm] at h;exact h
  · rw[show (p.1 == q.1)=false from al67q.mpr c,al12q (by decide)];refine al2q (al160q (al2q (zst ?_)));refine al7q (al7q (al7q ⟨_,rfl,(fun e=>nomatch e),?_⟩));unfold gtP at h;rw[al8q (al26q c)] at h;exact h
end
theorem zsu {i b j:IS}(h1:gtP b i=false) (h2:gtP b j=true):gtP j i=false:=by
  unfold gtP at *
  by_cases c1:b.1=i.1
  · rw[al12q c1] at h1;have h1:=al89q h1
    by_cases c2:b.1=j.1
    · rw[al12q c2] at h2;have h2:=al16q h2;rw[al12q (c2.symm.trans c1)];exact al17q fun z=>h1 (al169q z h2)
    · rw[al8q c2] at h2;have h2:=al16q h2;rw[al8q (fun z=>c2 (c1.trans z.symm))];exact al17q (by lia)
  · rw[al8q c1] at h1;have h1:=al89q h1
    by_cases c2:b.1=j.1
    · rw[al8q (fun z=>c1 (c2.trans z))];exact al17q (by lia)
    · rw[al8q c2] at h2;have h2:=al16q h2;rw[al8q (by lia)];exact al17q (by lia)
theorem zaf {α β:Type}{F:α->β->Prop}{as:List α}{bs:List β}(h:Paired F as bs):∀{i:Nat}{a:α}{b:β},as[i]? = some a->bs[i]? = some b->F a b:=by
  induction h with
  | nil=>intro i a b e _;simp at e
  | cons h _ ih=>
    intro i a b e1 e2;cases i with
    | zero=>simp at e1 e2;rw[←e1,←e2];exact h
    | succ i=>exact ih (by simpa using e1) (by simpa using e2)
section
variable {prog:ty4q}{w:World}{A:Around}{R:Result->ty2q->Prop}
theorem zno {l it S:ty1q}{its:Array ty3q}{val:Nat->IS}(hh:A.handled=none) (hu:A.units+1<cLine) (n1:S≠it) (n2:S≠l) (n3:l≠it) :
    ∀(k j b:Nat) (s:ty2q) (vb:ty3q) (c:Nat),its.size-j=k->MaxAt s.heap l it S its vb j c->(∀i v,its[i]? = some v->TupIS s.heap v (val i))->its[b]? = some vb->(∀i,i<j->gtP (val i) (val b)=false)->j<=its.size->
      (∀(v:ty3q) (b':Nat) (h':Heap) (tk:Nat),its[b']? = some v->(∀i,i<its.size->gtP (val i) (val b')=false)->(∀d o,d≠it->d≠S->s.heap.get? d=some o->h'.get? d=some o)->R (.ok (.ret v)) { s with heap:=h',toks:=tk })->
      codeAny (model prog w) A (.builtin "max.loop" ⟨[.ref it,.none,.ref S],[]⟩) R s:=by
  have nm:(toString "max" ++ toString ".loop" : String) = "max.loop":=by decide
  intro k
  induction k with
  | zero=>
    intro j b s vb c hk M ht eb best hj q;refine al76q al140q ?_;rw[al54q al55q _];show wpAny _ A.in1 (seqItems? (.ref S) >>= _) _ _ s;refine al2q (al86q M.s rfl (al2q (al77q (al123q (A:=A.in1) hh M.i M.l (al117q (show its.size<=j by lia)) fun h' eb'=>?_))));have s':=eb' S _ n1 M.s;refine al2q (m:=updateSeq S (fun _=>#[])) ?_;refine al63q s' rfl (al2q (al106q (al7q ?_)));exact q vb b _ s.toks eb (fun i hi=>best i (by lia)) fun d o d1 d2 e=>by
      rw[al24q _ _ (al26q d2)];exact eb' d o d1 e
  | succ k ih=>
    intro j b s vb c hk M ht eb best hj q;have hlt:j<its.size:=by lia
    have ej:its[j]? = some its[j]:=al42q hlt;refine al76q al140q ?_;rw[al54q al55q _];show wpAny _ A.in1 (seqItems? (.ref S) >>= _) _ _ s;have ci:∀d o,s.heap.get? d=some o->o.cls = .type "tuple"->d≠it:=fun d o e z y=>by
      obtain⟨o',e',c',_⟩:=M.i;rw[y,e'] at e;cases e;rw[c'] at z;exact absurd z (by decide)
    have cS:∀d o,s.heap.get? d=some o->o.cls = .type "tuple"->d≠S:=fun d o e z y=>by
      have e':=M.s;rw[y,e'] at e;cases e;have z:Value.type "list" = Value.type "tuple":=z;exact absurd z (by decide)
    refine al2q (al86q M.s rfl (al2q (al77q (al93q M.i M.l ej fun h' it' sb=>?_))));have s':h'.get? S=_:=(sb.2 S n1).trans M.s;have l':h'.IsList l its:=by
      obtain⟨o,ho,r⟩:=M.l;exact⟨o,(sb.2 l n3).trans ho,r⟩
    have ht1:∀i v,its[i]? = some v->TupIS h' v (val i):=fun i v e=>(ht i v e).kept fun d o z=>(sb.2 d (ci d o z.1 z.2)).trans z.1
    have tj:=ht1 j _ ej;have tb:=ht1 b _ eb;generalize its[j]=vj at ej tj;refine al2q (al7q ?_);refine al2q (al77q (al60q (al2q (zwt (s:={ s with heap:=h' }) hu tj tb ?_))));refine al2q (al60q (al82q (al2q (al106q (al7q ?_)))))
    by_cases c1:gtP (val j) (val b)=true
    · rw[c1,al12q rfl];refine al2q (m:=updateSeq S (fun _=>#[vj,vj])) ?_;refine al63q s' rfl (al2q (al106q ?_));rw[nm];have keep:∀d o,d≠S->h'.get? d=some o->(h'.update S (Obj.mapSeq fun _=>#[vj,vj])).get? d=some o:=fun d o d1 e=>(al24q _ _ (al26q d1)).trans e
      obtain⟨c',M'⟩:∃c',MaxAt (h'.update S (Obj.mapSeq fun _=>#[vj,vj])) l it S its vj (j+1) c':=by
        refine⟨_,it'.at fun o e=>keep it o (al26q n1) e,?_,al33q _ s' rfl⟩;obtain⟨o,ho,r⟩:=l';exact⟨o,keep l o (al26q n2) ho,r⟩
      refine al7q ⟨al71q al55q _,ih (j+1) j _ _ _ (by lia) M' (fun i v e=>?_) ej (fun i hi=>?_) hlt fun v b' h2 tk ev hb kp=>?_⟩
      · refine (ht i v e).kept fun d o z=>keep d o (cS d o z.1 z.2) ((sb.2 d (ci d o z.1 z.2)).trans z.1)
      · by_cases c2:i=j
        · subst c2;exact zdr _
        · exact zu6 (best i (by lia)) c1
      · exact q v b' h2 tk ev hb fun d o d1 d2 e=>kp d o d1 d2 (keep d o d2 ((sb.2 d d1).trans e))
    · have c1:gtP (val j) (val b)=false:=by simpa using c1
      rw[c1,al8q al23q];refine al2q (al106q ?_);rw[nm];refine al7q ⟨al71q al55q _,ih (j+1) b { s with heap:=h' } _ c (by lia) ⟨it',l',s'⟩ ht1 eb (fun i hi=>?_) hlt fun v b' h2 tk ev hb kp=>?_⟩
      · by_cases c2:i=j
        · subst c2;exact c1
        · exact best i (by lia)
      · exact q v b' h2 tk ev hb fun d o d1 d2 e=>kp d o d1 d2 ((sb.2 d d1).trans e)
theorem zle {l it S:ty1q}{its:Array ty3q}{val:Nat->IS}{s:ty2q}{c:Nat}(hh:A.handled=none) (hu:A.units+1<cLine) (n1:S≠it) (n2:S≠l) (n3:l≠it) (hpos:0<its.size)
    (hi:s.heap.IsListIter it l 0) (hl:s.heap.IsList l its) (hS:s.heap.get? S=some { cls:=.type "list",dict:=none,data:=.seq #[] c,slots:=#[] }) (ht:∀i v,its[i]? = some v->TupIS s.heap v (val i))
    (q:∀(v:ty3q) (b':Nat) (h':Heap) (tk:Nat),its[b']? = some v->(∀i,i<its.size->gtP (val i) (val b')=false)->(∀d o,d≠it->d≠S->s.heap.get? d=some o->h'.get? d=some o)->R (.ok (.ret v)) { s with heap:=h',toks:=tk }) :
    codeAny (model prog w) A (.builtin "max.loop" ⟨[.ref it,.none,.ref S],[]⟩) R s:=by
  have nm:(toString "max" ++ toString ".loop" : String) = "max.loop":=by decide
  refine al76q al140q ?_;rw[al54q al55q _];show wpAny _ A.in1 (seqItems? (.ref S) >>= _) _ _ s;have ci:∀d o,s.heap.get? d=some o->o.cls = .type "tuple"->d≠it:=fun d o e z y=>by
    obtain⟨o',e',c',_⟩:=hi;rw[y,e'] at e;cases e;rw[c'] at z;exact absurd z (by decide)
  have cS:∀d o,s.heap.get? d=some o->o.cls = .type "tuple"->d≠S:=fun d o e z y=>by
    rw[y,hS] at e;cases e;have z:Value.type "list" = Value.type "tuple":=z;exact absurd z (by decide)
  have ej:its[0]? = some its[0]:=al42q hpos;refine al2q (al86q hS rfl (al2q (al77q (al93q hi hl ej fun h' it' sb=>?_))));have s':h'.get? S=_:=(sb.2 S n1).trans hS;have l':h'.IsList l its:=by
    obtain⟨o,ho,r⟩:=hl;exact⟨o,(sb.2 l n3).trans ho,r⟩
  refine al2q (al7q ?_);refine al2q (m:=updateSeq S (fun _=>#[its[0],its[0]])) ?_;refine al63q s' rfl ?_;rw[nm];have keep:∀d o,d≠S->h'.get? d=some o->(h'.update S (Obj.mapSeq fun _=>#[its[0],its[0]])).get? d=some o:=fun d o d1 e=>(al24q _ _ (al26q d1)).trans e
  obtain⟨c',M'⟩:∃c',MaxAt (h'.update S (Obj.mapSeq fun _=>#[its[0],its[0]])) l it S its its[0] 1 c':=by
    refine⟨_,it'.at fun o e=>keep it o (al26q n1) e,?_,al33q _ s' rfl⟩;obtain⟨o,ho,r⟩:=l';exact⟨o,keep l o (al26q n2) ho,r⟩
  refine al7q ⟨al71q al55q _,zno (val:=val) hh hu n1 n2 n3 _ 1 0 _ _ _ rfl M' (fun i v e=>?_) ej (fun i hi=>?_) (by lia) fun v b' h2 tk ev hb kp=>?_⟩
  · exact (ht i v e).kept fun d o z=>keep d o (cS d o z.1 z.2) ((sb.2 d (ci d o z.1 z.2)).trans z.1)
  · have:i=0:=by lia
    subst this;exact zdr _
  · exact q v b' h2 tk ev hb fun d o d1 d2 e=>kp d o d1 d2 (keep d o d2 ((sb.2 d d1).trans e))
end
section
variable {prog:ty4q}{w:World}{A:Around}{E:ty90q}{s:ty2q}
theorem zlf {l:ty1q}{its:Array ty3q}{val:Nat->IS}{Q:ty90q}(hh:A.handled=none) (hu:A.units+1<cLine) (hl:s.heap.IsList l its) (hpos:0<its.size) (ht:∀i v,its[i]? = some v->TupIS s.heap v (val i))
    (q:∀(v:ty3q) (b':Nat) (h':Heap) (tk:Nat),its[b']? = some v->(∀i,i<its.size->gtP (val i) (val b')=false)->(∀d o,s.heap.get? d=some o->h'.get? d=some o)->Q v { s with heap:=h',toks:=tk }) :
    wpAny (model prog w) A (call (.builtin "max") [.ref l]) Q E s:=by
  have nm:(toString "max" ++ toString ".loop" : String) = "max.loop":=by decide
  have hlt:l<s.heap.objs.size:=by obtain⟨_,e,_⟩:=hl;exact al14q e
  have body:wpAny (model prog w) A.in1 (Builtin.«max» ⟨[.ref l],[]⟩) (fun fin s'=>match fin with
      | .done f=>(match (Except.ok f:Result) with | .ok (.ret v)=>Q v s' | .ok _=>False | .error e=>E e s')
      | .again c'=>c'.quiet=true/\codeAny (model prog w) A c' (fun r s'=>match r with | .ok (.ret v)=>Q v s' | .ok _=>False | .error e=>E e s') s') E s:=by
    show wpAny _ A.in1 (Builtin.Builtins.bindParams "max" ["key","default"] 0 ⟨[],[]⟩ >>= _) _ _ s;refine al2q (al189q (show Builtin.Builtins.bindParams "max" ["key","default"] 0 ⟨[],[]⟩=pure [none,none] from rfl) ?_);refine al2q (al7q (al2q (al126q hl ?_)));refine al2q (al70q ?_);rw[nm];have zu:(s.heap.push { cls:=.type "list_iterator",data:=.fields #[.ref l,.int 0 0] }).objs.size=s.heap.objs.size+1:=al109q ..;have old1:∀d o,s.heap.get? d=some o->(s.heap.push { cls:=.type "list_iterator",data:=.fields #[.ref l,.int 0 0] }).get? d=some o:=fun d o e=>al5q _ e
    have hit:(s.heap.push { cls:=.type "list_iterator",data:=.fields #[.ref l,.int 0 0] }).IsListIter s.heap.objs.size l 0:=⟨_,al20q _ rfl,rfl,rfl⟩;have hl1:(s.heap.push { cls:=.type "list_iterator",data:=.fields #[.ref l,.int 0 0] }).IsList l its:=by
      obtain⟨o,ho,r⟩:=hl;exact⟨o,old1 l o ho,r⟩
    generalize s.heap.push { cls:=.type "list_iterator",data:=.fields #[.ref l,.int 0 0] } = g at zu old1 hit hl1;have hl2:(g.push { cls:=.type "list",data:=.seq ([]:List ty3q).toArray }).IsList l its:=by
      obtain⟨o,ho,r⟩:=hl1;exact⟨o,al5q _ ho,r⟩
    refine al7q ⟨al71q al55q _,zle (val:=val) (it:=s.heap.objs.size) (S:=g.objs.size) hh hu ?_ ?_ ?_ hpos (hit.at fun o e=>al5q _ e) hl2 (al20q _ rfl) (fun i v e=>(ht i v e).kept fun d o z=>al5q _ (old1 d o z.1)) fun v b' h' tk eb hb kp=>?_⟩
    · rw[zu];exact Nat.succ_ne_self _
    · rw[zu];exact al26q (al31q (al113q hlt))
    · exact al31q hlt
    · refine q v b' h' tk eb hb fun d o e=>kp d o (fun z=>?_) (fun z=>?_) (al5q _ (old1 d o e))
      · exact absurd (al14q e) (by rw[z];exact al53q _)
      · exact absurd (al14q e) (by rw[z,zu];exact al164q (al128q _))
  refine al146q (al88q F.plain_max F.entry_max ?_);have ha:=F.args_max1 (.ref l);simp only [checkBuiltinCall,F.kind_max];cases sg:Manifest.signature? "max" with
  | none=>exact al7q body
  | some g=>
    simp only [argsOk,sg] at ha;have ha:Bind.checkArgs "max" g ⟨[.ref l],[]⟩=pure ():=ha;show wpAny _ A.in1 (Bind.checkArgs "max" g ⟨[.ref l],[]⟩) _ _ s;rw[ha];exact al7q body
end
section
variable {X:Cx}
theorem znp {K:ty0q}(h:X.K=K) (hc:X.calm=true) (hu:X.A.units+1<cLine):zbr X (.builtin "max") (fun xs H Q=>∃(l:ty1q) (as:List ty1q) (ps:List IS),xs = [V.ref l]/\SqL K H l (as.map V.ref)/\Paired (fun a (p:IS)=>SqT K H a [.int p.1,.str p.2]) as ps/\ps≠[]/\
    ∀(j:Nat) a p,as[j]? = some a->ps[j]? = some p->(∀q∈ps,gtP q p=false)->Q (.ref a) H):=by
  subst h;intro pins s σ H xs us Q I r h;obtain⟨l,as,ps,rfl,hl,pr,hne,q⟩:=h;obtain⟨u,rfl,ru⟩:=zb3 r;cases ru;obtain⟨its,rv,pl,hz⟩:=I.list hl;have len:=rv.length;rw[al0q] at len;have lp:as.length=ps.length:=Paired.length pr;have hpos:0<ps.length:=al115q.mpr hne;have hat:∀(i:Nat) (v:ty3q),its.toArray[i]? = some v->∃(a:ty1q) (p:IS),as[i]? = some a/\ps[i]? = some p/\v=Value.ref a/\SqT X.K H a [.int p.1,.str p.2]:=by
    intro i v e;have e':its[i]? = some v:=by simpa using e
    have hi:i<as.length:=by have:=(al3q.mp e').1;lia
    have hi2:i<ps.length:=by lia
    obtain⟨u,e2,ru⟩:=rv.get (i:=i) (x:=V.ref as[i]) (by simp[hi]);rw[e'] at e2;cases e2;cases ru;exact⟨as[i],ps[i],al1q hi,al1q hi2,rfl,zaf pr (al1q hi) (al1q hi2)⟩
  have ht:∀i v,its.toArray[i]? = some v->TupIS s.heap v (ps.getD i (0,"")):=by
    intro i v e;obtain⟨a,p,ea,ep,rfl,t⟩:=hat i v e;obtain⟨ts,rt,it,_⟩:=I.tuple t;have e0:ps.getD i (0,"")=p:=by rw[al11q,ep];rfl
    obtain⟨u1,u2,rfl,⟨t1,rfl⟩,⟨t2,rfl⟩⟩:=zml rt;rw[e0];exact⟨a,t1,t2,rfl,it⟩
  refine zlf (I.ok.hd hc) hu pl.isList (by rw[al27q];lia) ht fun v b h' tk eb hb kp=>?_
  obtain⟨a,p,ea,ep,rfl,t⟩:=hat b v eb;refine⟨.ref a,H,I.kept kp,rfl,q b a p ea ep fun z hz=>?_⟩;obtain⟨i,hi⟩:=al29q.mp hz;have hlt:=(al3q.mp hi).1;have:=hb i (by rw[al27q];lia);rw[al11q,al11q,hi,ep] at this;exact this
end
section
variable {prog:ty4q}{w:World}{A:Around}{R:Result->ty2q->Prop}
theorem znq {l it S:ty1q}{its:Array ty3q}{val:Nat->IS}(hh:A.handled=none) (hu:A.units+1<cLine) (n1:S≠it) (n2:S≠l) (n3:l≠it) :
    ∀(k j b:Nat) (s:ty2q) (vb:ty3q) (c:Nat),its.size-j=k->MaxAt s.heap l it S its vb j c->(∀i v,its[i]? = some v->TupIS s.heap v (val i))->its[b]? = some vb->(∀i,i<j->gtP (val b) (val i)=false)->j<=its.size->
      (∀(v:ty3q) (b':Nat) (h':Heap) (tk:Nat),its[b']? = some v->(∀i,i<its.size->gtP (val b') (val i)=false)->(∀d o,d≠it->d≠S->s.heap.get? d=some o->h'.get? d=some o)->R (.ok (.ret v)) { s with heap:=h',toks:=tk })->
      codeAny (model prog w) A (.builtin "min.loop" ⟨[.ref it,.none,.ref S],[]⟩) R s:=by
  have nm:(toString "min" ++ toString ".loop" : String) = "min.loop":=by decide
  intro k
  induction k with
  | zero=>
    intro j b s vb c hk M ht eb best hj q;refine al76q F.entry_min_loop ?_;rw[al54q al121q _];show wpAny _ A.in1 (seqItems? (.ref S) >>= _) _ _ s;refine al2q (al86q M.s rfl (al2q (al77q (al123q (A:=A.in1) hh M.i M.l (al117q (show its.size<=j by lia)) fun h' eb'=>?_))));have s':=eb' S _ n1 M.s;refine al2q (m:=updateSeq S (fun _=>#[])) ?_;refine al63q s' rfl (al2q (al106q (al7q ?_)));exact q vb b _ s.toks eb (fun i hi=>best i (by lia)) fun d o d1 d2 e=>by
      rw[al24q _ _ (al26q d2)];exact eb' d o d1 e
  | succ k ih=>
    intro j b s vb c hk M ht eb best hj q;have hlt:j<its.size:=by lia
    have ej:its[j]? = some its[j]:=al42q hlt;refine al76q F.entry_min_loop ?_;rw[al54q al121q _];show wpAny _ A.in1 (seqItems? (.ref S) >>= _) _ _ s;have ci:∀d o,s.heap.get? d=some o->o.cls = .type "tuple"->d≠it:=fun d o e z y=>by
      obtain⟨o',e',c',_⟩:=M.i;rw[y,e'] at e;cases e;rw[c'] at z;exact absurd z (by decide)
    have cS:∀d o,s.heap.get? d=some o->o.cls = .type "tuple"->d≠S:=fun d o e z y=>by
      have e':=M.s;rw[y,e'] at e;cases e;have z:Value.type "list" = Value.type "tuple":=z;exact absurd z (by decide)
    refine al2q (al86q M.s rfl (al2q (al77q (al93q M.i M.l ej fun h' it' sb=>?_))));have s':h'.get? S=_:=(sb.2 S n1).trans M.s;have l':h'.IsList l its:=by
      obtain⟨o,ho,r⟩:=M.l;exact⟨o,(sb.2 l n3).trans ho,r⟩
    have ht1:∀i v,its[i]? = some v->TupIS h' v (val i):=fun i v e=>(ht i v e).kept fun d o z=>(sb.2 d (ci d o z.1 z.2)).trans z.1
    have tj:=ht1 j _ ej;have tb:=ht1 b _ eb;generalize its[j]=vj at ej tj;refine al2q (al7q ?_);refine al2q (al77q (al60q (al2q (zwu (s:={ s with heap:=h' }) hu tj tb ?_))));refine al2q (al60q (al82q (al2q (al106q (al7q ?_)))))
    by_cases c1:gtP (val b) (val j)=true
    · rw[c1,al12q rfl];refine al2q (m:=updateSeq S (fun _=>#[vj,vj])) ?_;refine al63q s' rfl (al2q (al106q ?_));rw[nm];have keep:∀d o,d≠S->h'.get? d=some o->(h'.update S (Obj.mapSeq fun _=>#[vj,vj])).get? d=some o:=fun d o d1 e=>(al24q _ _ (al26q d1)).trans e
      obtain⟨c',M'⟩:∃c',MaxAt (h'.update S (Obj.mapSeq fun _=>#[vj,vj])) l it S its vj (j+1) c':=by
        refine⟨_,it'.at fun o e=>keep it o (al26q n1) e,?_,al33q _ s' rfl⟩;obtain⟨o,ho,r⟩:=l';exact⟨o,keep l o (al26q n2) ho,r⟩
      refine al7q ⟨al71q al121q _,ih (j+1) j _ _ _ (by lia) M' (fun i v e=>?_) ej (fun i hi=>?_) hlt fun v b' h2 tk ev hb kp=>?_⟩
      · refine (ht i v e).kept fun d o z=>keep d o (cS d o z.1 z.2) ((sb.2 d (ci d o z.1 z.2)).trans z.1)
      · by_cases c2:i=j
        · subst c2;exact zdr _
        · exact zsu (best i (by lia)) c1
      · exact q v b' h2 tk ev hb fun d o d1 d2 e=>kp d o d1 d2 (keep d o d2 ((sb.2 d d1).trans e))
    · have c1:gtP (val b) (val j)=false:=by simpa using c1
      rw[c1,al8q al23q];refine al2q (al106q ?_);rw[nm];refine al7q ⟨al71q al121q _,ih (j+1) b { s with heap:=h' } _ c (by lia) ⟨it',l',s'⟩ ht1 eb (fun i hi=>?_) hlt fun v b' h2 tk ev hb kp=>?_⟩
      · by_cases c2:i=j
        · subst c2;exact c1
        · exact best i (by lia)
      · exact q v b' h2 tk ev hb fun d o d1 d2 e=>kp d o d1 d2 ((sb.2 d d1).trans e)
theorem zlg {l it S:ty1q}{its:Array ty3q}{val:Nat->IS}{s:ty2q}{c:Nat}(hh:A.handled=none) (hu:A.units+1<cLine) (n1:S≠it) (n2:S≠l) (n3:l≠it) (hpos:0<its.size)
    (hi:s.heap.IsListIter it l 0) (hl:s.heap.IsList l its) (hS:s.heap.get? S=some { cls:=.type "list",dict:=none,data:=.seq #[] c,slots:=#[] }) (ht:∀i v,its[i]? = some v->TupIS s.heap v (val i))
    (q:∀(v:ty3q) (b':Nat) (h':Heap) (tk:Nat),its[b']? = some v->(∀i,i<its.size->gtP (val b') (val i)=false)->(∀d o,d≠it->d≠S->s.heap.get? d=some o->h'.get? d=some o)->R (.ok (.ret v)) { s with heap:=h',toks:=tk }) :
    codeAny (model prog w) A (.builtin "min.loop" ⟨[.ref it,.none,.ref S],[]⟩) R s:=by
  have nm:(toString "min" ++ toString ".loop" : String) = "min.loop":=by decide
  refine al76q F.entry_min_loop ?_;rw[al54q al121q _];show wpAny _ A.in1 (seqItems? (.ref S) >>= _) _ _ s;have ci:∀d o,s.heap.get? d=some o->o.cls = .type "tuple"->d≠it:=fun d o e z y=>by
    obtain⟨o',e',c',_⟩:=hi;rw[y,e'] at e;cases e;rw[c'] at z;exact absurd z (by decide)
  have cS:∀d o,s.heap.get? d=some o->o.cls = .type "tuple"->d≠S:=fun d o e z y=>by
    rw[y,hS] at e;cases e;have z:Value.type "list" = Value.type "tuple":=z;exact absurd z (by decide)
  have ej:its[0]? = some its[0]:=al42q hpos;refine al2q (al86q hS rfl (al2q (al77q (al93q hi hl ej fun h' it' sb=>?_))));have s':h'.get? S=_:=(sb.2 S n1).trans hS;have l':h'.IsList l its:=by
    obtain⟨o,ho,r⟩:=hl;exact⟨o,(sb.2 l n3).trans ho,r⟩
  refine al2q (al7q ?_);refine al2q (m:=updateSeq S (fun _=>#[its[0],its[0]])) ?_;refine al63q s' rfl ?_;rw[nm];have keep:∀d o,d≠S->h'.get? d=some o->(h'.update S (Obj.mapSeq fun _=>#[its[0],its[0]])).get? d=some o:=fun d o d1 e=>(al24q _ _ (al26q d1)).trans e
  obtain⟨c',M'⟩:∃c',MaxAt (h'.update S (Obj.mapSeq fun _=>#[its[0],its[0]])) l it S its its[0] 1 c':=by
    refine⟨_,it'.at fun o e=>keep it o (al26q n1) e,?_,al33q _ s' rfl⟩;obtain⟨o,ho,r⟩:=l';exact⟨o,keep l o (al26q n2) ho,r⟩
  refine al7q ⟨al71q al121q _,znq (val:=val) hh hu n1 n2 n3 _ 1 0 _ _ _ rfl M' (fun i v e=>?_) ej (fun i hi=>?_) (by lia) fun v b' h2 tk ev hb kp=>?_⟩
  · exact (ht i v e).kept fun d o z=>keep d o (cS d o z.1 z.2) ((sb.2 d (ci d o z.1 z.2)).trans z.1)
  · have:i=0:=by lia
    subst this;exact zdr _
  · exact q v b' h2 tk ev hb fun d o d1 d2 e=>kp d o d1 d2 (keep d o d2 ((sb.2 d d1).trans e))
end
section
variable {prog:ty4q}{w:World}{A:Around}{E:ty90q}{s:ty2q}
theorem zlh {l:ty1q}{its:Array ty3q}{val:Nat->IS}{Q:ty90q}(hh:A.handled=none) (hu:A.units+1<cLine) (hl:s.heap.IsList l its) (hpos:0<its.size) (ht:∀i v,its[i]? = some v->TupIS s.heap v (val i))
    (q:∀(v:ty3q) (b':Nat) (h':Heap) (tk:Nat),its[b']? = some v->(∀i,i<its.size->gtP (val b') (val i)=false)->(∀d o,s.heap.get? d=some o->h'.get? d=some o)->Q v { s with heap:=h',toks:=tk }) :
    wpAny (model prog w) A (call (.builtin "min") [.ref l]) Q E s:=by
  have nm:(toString "min" ++ toString ".loop" : String) = "min.loop":=by decide
  have hlt:l<s.heap.objs.size:=by obtain⟨_,e,_⟩:=hl;exact al14q e
  have body:wpAny (model prog w) A.in1 (Builtin.«min» ⟨[.ref l],[]⟩) (fun fin s'=>match fin with
      | .done f=>(match (Except.ok f:Result) with | .ok (.ret v)=>Q v s' | .ok _=>False | .error e=>E e s')
      | .again c'=>c'.quiet=true/\codeAny (model prog w) A c' (fun r s'=>match r with | .ok (.ret v)=>Q v s' | .ok _=>False | .error e=>E e s') s') E s:=by
    show wpAny _ A.in1 (Builtin.Builtins.bindParams "min" ["key","default"] 0 ⟨[],[]⟩ >>= _) _ _ s;refine al2q (al189q (show Builtin.Builtins.bindParams "min" ["key","default"] 0 ⟨[],[]⟩=pure [none,none] from rfl) ?_);refine al2q (al7q (al2q (al126q hl ?_)));refine al2q (al70q ?_);rw[nm];have zu:(s.heap.push { cls:=.type "list_iterator",data:=.fields #[.ref l,.int 0 0] }).objs.size=s.heap.objs.size+1:=al109q ..;have old1:∀d o,s.heap.get? d=some o->(s.heap.push { cls:=.type "list_iterator",data:=.fields #[.ref l,.int 0 0] }).get? d=some o:=fun d o e=>al5q _ e
    have hit:(s.heap.push { cls:=.type "list_iterator",data:=.fields #[.ref l,.int 0 0] }).IsListIter s.heap.objs.size l 0:=⟨_,al20q _ rfl,rfl,rfl⟩;have hl1:(s.heap.push { cls:=.type "list_iterator",data:=.fields #[.ref l,.int 0 0] }).IsList l its:=by
      obtain⟨o,ho,r⟩:=hl;exact⟨o,old1 l o ho,r⟩
    generalize s.heap.push { cls:=.type "list_iterator",data:=.fields #[.ref l,.int 0 0] } = g at zu old1 hit hl1;have hl2:(g.push { cls:=.type "list",data:=.seq ([]:List ty3q).toArray }).IsList l its:=by
      obtain⟨o,ho,r⟩:=hl1;exact⟨o,al5q _ ho,r⟩
    refine al7q ⟨al71q al121q _,zlg (val:=val) (it:=s.heap.objs.size) (S:=g.objs.size) hh hu ?_ ?_ ?_ hpos (hit.at fun o e=>al5q _ e) hl2 (al20q _ rfl) (fun i v e=>(ht i v e).kept fun d o z=>al5q _ (old1 d o z.1)) fun v b' h' tk eb hb kp=>?_⟩
    · rw[zu];exact Nat.succ_ne_self _
    · rw[zu];exact al26q (al31q (al113q hlt))
    · exact al31q hlt
    · refine q v b' h' tk eb hb fun d o e=>kp d o (fun z=>?_) (fun z=>?_) (al5q _ (old1 d o e))
      · exact absurd (al14q e) (by rw[z];exact al53q _)
      · exact absurd (al14q e) (by rw[z,zu];exact al164q (al128q _))
  refine al146q (al88q F.plain_min F.entry_min ?_);have ha:=F.args_min1 (.ref l);simp only [checkBuiltinCall,F.kind_min];cases sg:Manifest.signature? "min" with
  | none=>exact al7q body
  | some g=>
    simp only [argsOk,sg] at ha;have ha:Bind.checkArgs "min" g ⟨[.ref l],[]⟩=pure ():=ha;show wpAny _ A.in1 (Bind.checkArgs "min" g ⟨[.ref l],[]⟩) _ _ s;rw[ha];exact al7q body
end
section
variable {X:Cx}
theorem znr {K:ty0q}(h:X.K=K) (hc:X.calm=true) (hu:X.A.units+1<cLine):zbr X (.builtin "min") (fun xs H Q=>∃(l:ty1q) (as:List ty1q) (ps:List IS),xs = [V.ref l]/\SqL K H l (as.map V.ref)/\Paired (fun a (p:IS)=>SqT K H a [.int p.1,.str p.2]) as ps/\ps≠[]/\
    ∀(j:Nat) a p,as[j]? = some a->ps[j]? = some p->(∀q∈ps,gtP p q=false)->Q (.ref a) H):=by
  subst h;intro pins s σ H xs us Q I r h;obtain⟨l,as,ps,rfl,hl,pr,hne,q⟩:=h;obtain⟨u,rfl,ru⟩:=zb3 r;cases ru;obtain⟨its,rv,pl,hz⟩:=I.list hl;have len:=rv.length;rw[al0q] at len;have lp:as.length=ps.length:=Paired.length pr;have hpos:0<ps.length:=al115q.mpr hne;have hat:∀(i:Nat) (v:ty3q),its.toArray[i]? = some v->∃(a:ty1q) (p:IS),as[i]? = some a/\ps[i]? = some p/\v=Value.ref a/\SqT X.K H a [.int p.1,.str p.2]:=by
    intro i v e;have e':its[i]? = some v:=by simpa using e
    have hi:i<as.length:=by have:=(al3q.mp e').1;lia
    have hi2:i<ps.length:=by lia
    obtain⟨u,e2,ru⟩:=rv.get (i:=i) (x:=V.ref as[i]) (by simp[hi]);rw[e'] at e2;cases e2;cases ru;exact⟨as[i],ps[i],al1q hi,al1q hi2,rfl,zaf pr (al1q hi) (al1q hi2)⟩
  have ht:∀i v,its.toArray[i]? = some v->TupIS s.heap v (ps.getD i (0,"")):=by
    intro i v e;obtain⟨a,p,ea,ep,rfl,t⟩:=hat i v e;obtain⟨ts,rt,it,_⟩:=I.tuple t;have e0:ps.getD i (0,"")=p:=by rw[al11q,ep];rfl
    obtain⟨u1,u2,rfl,⟨t1,rfl⟩,⟨t2,rfl⟩⟩:=zml rt;rw[e0];exact⟨a,t1,t2,rfl,it⟩
  refine zlh (I.ok.hd hc) hu pl.isList (by rw[al27q];lia) ht fun v b h' tk eb hb kp=>?_
  obtain⟨a,p,ea,ep,rfl,t⟩:=hat b v eb;refine⟨.ref a,H,I.kept kp,rfl,q b a p ea ep fun z hz=>?_⟩;obtain⟨i,hi⟩:=al29q.mp hz;have hlt:=(al3q.mp hi).1;have:=hb i (by rw[al27q];lia);rw[al11q,al11q,hi,ep] at this;exact this
end
end L2
namespace Dm
open PySem PySem.NumText L2
structure TelF (K:ty0q) (H:Hp) (p pm pu pt pf:ty1q) (lo hi:Int) (us:List Str) (ads:List ty1q) (ts:List Tie) (af:List ty1q) (fs:List Fnd):Prop where
  tel:Tel K H p pu pt (.ref pm) (.ref pf) us ads ts
  m:SqT K H pm [.int lo,.int hi]
  f:SqL K H pf (af.map V.ref)
  ft:Tups H af (fs.map fndV)
  fu:∀f∈fs,f.u∈us
  fl:fs.length<=60
section
variable {K:ty0q}{H H':Hp}{p pm pu pt pf:ty1q}{lo hi:Int}{us:List Str}{ads:List ty1q}{ts:List Tie}{af:List ty1q}{fs:List Fnd}
theorem TelF.same (h:TelF K H p pm pu pt pf lo hi us ads ts af fs) (s:Same H H'):TelF K H' p pm pu pt pf lo hi us ads ts af fs:=⟨h.tel.same s,s.tup h.m,s.seq h.f,h.ft.same s,h.fu,h.fl⟩
theorem TelF.flen (h:TelF K H p pm pu pt pf lo hi us ads ts af fs):af.length=fs.length:=by have:=h.ft.len;rw[al0q] at this;exact this
end
theorem zrl (f:Fnd):atI (fndV f) 0=some (.str f.n):=rfl
theorem zu7 (f:Fnd):atI (fndV f) 1=some (.str f.u):=rfl
theorem zu8 (f:Fnd):atI (fndV f) 2=some (.int f.lo):=rfl
theorem zu9 (f:Fnd):atI (fndV f) 3=some (.int f.hi):=rfl
abbrev Fz:=List (Fnd×ty1q)
def fwOf (ts:List Tie) (z:Fz):Str->Fz:=fun k=>z.filter fun p=>decide (labs ts p.1.u=k)
theorem zsv {ts:List Tie}{z:Fz}{i:Nat}{f:Fnd}{r:ty1q}{k:Str}(h:z[i]? = some (f,r)):fwOf ts (z.take (i+1)) k=fwOf ts (z.take i) k++(if labs ts f.u=k then [(f,r)] else []):=by
  unfold fwOf;rw[al9q,h,al87q]
  congr 1
  by_cases c:labs ts f.u=k
  · rw[al12q c];simp[c]
  · rw[al8q c];simp[c]
theorem zns {ts:List Tie}{z:Fz}{k:Str}:(fwOf ts z k).length<=z.length:=al59q _ _
structure Fw (H:Hp) (pd:ty1q) (ob:Obj) (keys:List Str) (fw:Str->Fz) (ad:Str->ty1q):Prop where
  d:H pd=some (.frz ob (.dK (dV keys fun k=>.ref (ad k))))
  l:∀k∈keys,H (ad k)=some (.lst ((fw k).map fun p=>V.ref p.2))
theorem Fw.same {H H':Hp}{pd:ty1q}{ob:Obj}{keys:List Str}{fw:Str->Fz}{ad:Str->ty1q}(b:Fw H pd ob keys fw ad) (s:Same H H'):Fw H' pd ob keys fw ad:=
  ⟨s _ _ b.d,fun k hk=>s _ _ (b.l k hk)⟩
theorem zbh {H:Hp}{pd:ty1q}{ob:Obj}{keys:List Str}{f:Str->V}(h:H pd=some (.frz ob (.dK (dV keys f)))) {k:Str}(hk:k∈keys):DGet H pd (.str k) (some (f k)):=by
  have:=zbk (f:=f) hk;exact .inl ⟨_,Sum.inr k,.inr ⟨ob,h⟩,rfl,this.symm⟩
def loL (lo:Int) (L:Fz):List IS:=(lo,"")::L.map fun p=>(p.1.lo,p.1.n)
def hiL (hi:Int) (L:Fz):List IS:=(hi,"")::L.map fun p=>(p.1.hi,p.1.n)
def MaxP (l:List IS) (m:IS):Prop:=m∈l/\∀q∈l,gtP q m=false
def MinP (l:List IS) (m:IS):Prop:=m∈l/\∀q∈l,gtP m q=false
structure Bd (H:Hp) (pd:ty1q) (ob:Obj) (keys:List Str) (v:Str->IS) (ad:Str->ty1q):Prop where
  d:H pd=some (.frz ob (.dK (dV keys fun k=>.ref (ad k))))
  e:∀k∈keys,H (ad k)=some (.tup [.int (v k).1,.str (v k).2])
theorem Bd.same {H H':Hp}{pd:ty1q}{ob:Obj}{keys:List Str}{v:Str->IS}{ad:Str->ty1q}(b:Bd H pd ob keys v ad) (s:Same H H'):Bd H' pd ob keys v ad:=
  ⟨s _ _ b.d,fun k hk=>s _ _ (b.e k hk)⟩
theorem zsw {lo:Int}{L:Fz}{m:IS}(h:MaxP (loL lo L) m) (y:Int):m.1<=y↔lo<=y/\∀p∈L,p.1.lo<=y:=by
  obtain⟨h1,h2⟩:=h;unfold loL at h1 h2;constructor
  · intro h;refine⟨?_,fun p hp=>?_⟩
    · have:=zgt (h2 (lo,"") (by simp));have:lo<=m.1:=this;lia
    · have:=zgt (h2 (p.1.lo,p.1.n) (al19q _ (al32q.mpr ⟨p,hp,rfl⟩)));have:p.1.lo<=m.1:=this;lia
  · rintro ⟨a,b⟩;rcases al21q.mp h1 with rfl | h1
    · exact a
    · obtain⟨p,hp,rfl⟩:=al32q.mp h1;exact b p hp
theorem zsx {hi:Int}{L:Fz}{m:IS}(h:MinP (hiL hi L) m) (y:Int):y<=m.1↔y<=hi/\∀p∈L,y<=p.1.hi:=by
  obtain⟨h1,h2⟩:=h;unfold hiL at h1 h2;constructor
  · intro h;refine⟨?_,fun p hp=>?_⟩
    · have:=zgt (h2 (hi,"") (by simp));have:m.1<=hi:=this;lia
    · have:=zgt (h2 (p.1.hi,p.1.n) (al19q _ (al32q.mpr ⟨p,hp,rfl⟩)));have:m.1<=p.1.hi:=this;lia
  · rintro ⟨a,b⟩;rcases al21q.mp h1 with rfl | h1
    · exact a
    · obtain⟨p,hp,rfl⟩:=al32q.mp h1;exact b p hp
def mxI (i j:Int):Int:=if j > i then j else i
def mnI (i j:Int):Int:=if j<i then j else i
def lowF (ts:List Tie) (fs:List Fnd) (lo:Int) (k:Str):Int:=fs.foldl (fun m f=>if labs ts f.u=k then mxI m f.lo else m) lo
def zp5 (ts:List Tie) (fs:List Fnd) (hi:Int) (k:Str):Int:=fs.foldl (fun m f=>if labs ts f.u=k then mnI m f.hi else m) hi
theorem zf4 {α β:Type}:∀{as:List α}{bs:List β},bs.length=as.length->∀a∈as,∃b,(a,b)∈as.zip bs
  | [],_,_,a,h=>by cases h
  | x::as,[],h,_,_=>by simp at h
  | x::as,y::bs,h,a,ha=>by
    rcases al21q.mp ha with rfl | ha
    · exact⟨y,by simp⟩
    · obtain⟨b,hb⟩:=zf4 (as:=as) (bs:=bs) (by simpa using h) a ha;exact⟨b,by simp[hb]⟩
theorem Paired.mono {α β:Type}{F G:α->β->Prop}{as:List α}{bs:List β}(h:Paired F as bs) (k:∀a,∀b∈bs,F a b->G a b):Paired G as bs:=by
  induction h with
  | nil=>exact .nil
  | cons h _ ih=>exact .cons (k _ _ (by simp) h) (ih fun a b hb f=>k a b (al19q _ hb) f)
end Dm
namespace L2
open PySem
theorem DEq.allL {K:ty0q}{H:Hp}{n:Nat}{a b:ty1q}{xs ys:List V}(hx:SqL K H a xs) (hy:SqL K H b ys) (hl:xs.length=ys.length) (h:∀(i:Nat) x y,xs[i]? = some x->ys[i]? = some y->DEq K H n x y true):DEq K H (n+1) (.ref a) (.ref b) true:=by
  have:=DEq.lst (n:=n) (fun _=>true) hx hy hl h;rw[al94q.mpr fun _ _=>rfl] at this;exact this
end L2
namespace L2
open PySem PySem.W PyProof.Rows
def askB (N:Nat) (lt:Nat->Nat->Bool):Nat->Nat->(Bool->ty2q->Prop)->ty2q->Prop:=fun i j C s=>i<N/\j<N/\i≠j/\C (lt i j) s
structure Tot (N:Nat) (lt:Nat->Nat->Bool):Prop where
  irr:∀a,a<N->lt a a=false
  tr:∀a b c,a<N->b<N->c<N->lt a b=true->lt b c=true->lt a c=true
  tot:∀a b,a<N->b<N->a≠b->lt a b=false->lt b a=true
structure Good (N:Nat) (p:Array Nat):Prop where
  sz:p.size=N
  lt:∀i,i<N->p.getD i 0<N
  inj:∀i j,i<N->j<N->p.getD i 0=p.getD j 0->i=j
def Asc (lt:Nat->Nat->Bool) (p:Array Nat) (k:Nat):Prop:=∀i j,i<j->j<k->lt (p.getD i 0) (p.getD j 0)=true
def Dsc (lt:Nat->Nat->Bool) (p:Array Nat) (k:Nat):Prop:=∀i j,i<j->j<k->lt (p.getD j 0) (p.getD i 0)=true
section
variable {N:Nat}{lt:Nat->Nat->Bool}{s:ty2q}
theorem Asc.snoc (T:Tot N lt) {p:Array Nat}(G:Good N p) {n:Nat}(h:Asc lt p n) (hn:n<N) (h1:1<=n) (q:lt (p.getD (n-1) 0) (p.getD n 0)=true):Asc lt p (n+1):=by
  intro i j hij hj
  by_cases c:j<n
  · exact h i j hij c
  · have:j=n:=by lia
    subst this
    by_cases c2:i=j-1
    · rw[c2];exact q
    · exact T.tr _ _ _ (G.lt i (by lia)) (G.lt (j-1) (by lia)) (G.lt j hn) (h i (j-1) (by lia) (by lia)) q
theorem Dsc.snoc (T:Tot N lt) {p:Array Nat}(G:Good N p) {n:Nat}(h:Dsc lt p n) (hn:n<N) (h1:1<=n) (q:lt (p.getD n 0) (p.getD (n-1) 0)=true):Dsc lt p (n+1):=by
  intro i j hij hj
  by_cases c:j<n
  · exact h i j hij c
  · have:j=n:=by lia
    subst this
    by_cases c2:i=j-1
    · rw[c2];exact q
    · exact T.tr _ _ _ (G.lt j hn) (G.lt (j-1) (by lia)) (G.lt i (by lia)) q (h i (j-1) (by lia) (by lia))
theorem znt (T:Tot N lt) {p:Array Nat}(G:Good N p) {Q:Nat->ty2q->Prop}:∀(f n:Nat),1<=n->n+f<=N->Asc lt p n->(∀m,n<=m->m<=n+f->Asc lt p m->(m<n+f->lt (p.getD m 0) (p.getD (m-1) 0)=true)->Q m s)->(kas_asc p f n).kasWp (askB N lt) Q s
  | 0,n,_,_,a,k=>k n (al13q _) (al13q _) a (fun z=>absurd z (al53q _))
  | f+1,n,h1,hn,a,k=>by
    refine⟨G.lt n (by lia),G.lt (n-1) (by lia),fun z=>by have:=G.inj n (n-1) (by lia) (by lia) z;lia,?_⟩;cases c:lt (p.getD n 0) (p.getD (n-1) 0) with
    | true=>
      dsimp only;rw[al12q rfl];exact k n (al13q _) (by lia) a fun _=>c
    | false=>
      dsimp only;rw[al8q (by simp)];have ne:p.getD n 0≠p.getD (n-1) 0:=fun z=>by have:=G.inj n (n-1) (by lia) (by lia) z;lia
      have q:=T.tot _ _ (G.lt n (by lia)) (G.lt (n-1) (by lia)) ne c;refine znt T G f (n+1) (by lia) (by lia) (a.snoc T G (by lia) h1 q) fun m m1 m2 am hm=>k m (by lia) (by lia) am fun z=>hm (by lia)
theorem znu (T:Tot N lt) {p:Array Nat}(G:Good N p) {Q:Array Nat×Nat×Nat->ty2q->Prop}:∀(f n:Nat),1<=n->n+f<=N->Dsc lt p n->(∀m,n<=m->m<=n+f->Dsc lt p m->Q (p,m,0) s)->(kas_desc f p n 0).kasWp (askB N lt) Q s
  | 0,n,_,_,a,k=>k n (al13q _) (al13q _) a
  | f+1,n,h1,hn,a,k=>by
    refine⟨G.lt n (by lia),G.lt (n-1) (by lia),fun z=>by have:=G.inj n (n-1) (by lia) (by lia) z;lia,?_⟩;cases c:lt (p.getD n 0) (p.getD (n-1) 0) with
    | true=>
      dsimp only;rw[al12q rfl,al8q (by lia)];exact znu T G f (n+1) (by lia) (by lia) (a.snoc T G (by lia) h1 c) fun m m1 m2 am=>k m (by lia) (by lia) am
    | false=>
      dsimp only;rw[al8q (by simp)];have ne:p.getD n 0≠p.getD (n-1) 0:=fun z=>by have:=G.inj n (n-1) (by lia) (by lia) z;lia
      have q:=T.tot _ _ (G.lt n (by lia)) (G.lt (n-1) (by lia)) ne c;refine⟨G.lt (n-1) (by lia),G.lt n (by lia),al26q ne,?_⟩;rw[q];dsimp only;rw[al12q rfl];exact k n (al13q _) (by lia) a
theorem ze1 {p:Array Nat}{i:Nat}{q:Array Nat}{j:Nat}(h:p[i]? = q[j]?):p.getD i 0=q.getD j 0:=by
  rw[al118q,al118q,h]
theorem ze2 {p:Array Nat}{j:Nat}(hj:j<=p.size) (k:Nat):(kas_rev p 0 j).getD k 0=if k<j then p.getD (j-1-k) 0 else p.getD k 0:=by
  have e:=getElem?_mirror_all (xs:=p) (i:=0) hj k;unfold kas_rev
  by_cases c:k<j
  · rw[al12q c];rw[al12q ⟨al65q _,c⟩] at e;rw[Nat.zero_add] at e;exact ze1 e
  · rw[al8q c];rw[al8q (fun z=>c z.2)] at e;exact ze1 e
theorem Good.rev {p:Array Nat}(G:Good N p) {j:Nat}(hj:j<=N):Good N (kas_rev p 0 j):=by
  have hz:j<=p.size:=by rw[G.sz];exact hj
  refine⟨by rw[kas_rev_size];exact G.sz,fun i hi=>?_,fun a b ha hb e=>?_⟩
  · rw[ze2 hz];split
    · exact G.lt _ (by lia)
    · exact G.lt _ hi
  · rw[ze2 hz,ze2 hz] at e
    by_cases c1:a<j<;>by_cases c2:b<j
    · rw[al12q c1,al12q c2] at e;have:=G.inj _ _ (by lia) (by lia) e;lia
    · rw[al12q c1,al8q c2] at e;have:=G.inj _ _ (by lia) (by lia) e;lia
    · rw[al8q c1,al12q c2] at e;have:=G.inj _ _ (by lia) (by lia) e;lia
    · rw[al8q c1,al8q c2] at e;exact G.inj _ _ (by lia) (by lia) e
theorem Dsc.rev {p:Array Nat}(G:Good N p) {j:Nat}(hj:j<=N) (h:Dsc lt p j):Asc lt (kas_rev p 0 j) j:=by
  have hz:j<=p.size:=by rw[G.sz];exact hj
  intro a b hab hb;rw[ze2 hz,ze2 hz,al12q (by lia),al12q hb];exact h _ _ (by lia) (by lia)
theorem zp6 (T:Tot N lt) {p:Array Nat}(G:Good N p) (h2:2<=N) {Q:Nat×Array Nat->ty2q->Prop}(k:∀m p',1<=m->m<=N->Good N p'->Asc lt p' m->Q (m,p') s):(kas_count N p).kasWp (askB N lt) Q s:=by
  unfold kas_count;rw[al171q];refine znt T G (N-1) 1 (al13q _) (by lia) (fun i j a b=>by lia) fun n n1 n2 an hn=>?_
  by_cases c:n=N
  · rw[al12q (by rw[c];simp)];exact k n p n1 (by lia) G an
  · rw[al8q (by simpa using c)]
    by_cases c2:n > 1
    · rw[al12q c2];refine⟨G.lt 0 (by lia),G.lt (n-1) (by lia),fun z=>by have:=G.inj 0 (n-1) (by lia) (by lia) z;lia,?_⟩;rw[an 0 (n-1) (by lia) (by lia)];dsimp only;rw[al12q rfl];exact k n p n1 (by lia) G an
    · rw[al8q c2];have e1:n=1:=by lia
      subst e1;have h10:=hn (by lia);unfold kas_descPart;rw[al171q];have d2:Dsc lt p (1+1):=fun i j hij hj=>by
        have:i=0:=by lia
        have:j=1:=by lia
        subst i j;exact h10
      refine znu T G (N-(1+1)) (1+1) (by lia) (by lia) d2 fun m m1 m2 dm=>?_
      show KasT.kasWp _ (if (0:Nat) > 0 then _ else kas_tail3 m N p) _ _;rw[al8q (by lia)];unfold kas_tail3;rw[al171q];refine znt T (G.rev (j:=m) (by lia)) (N-m) m (by lia) (by lia) (dm.rev G (by lia)) fun r r1 r2 ar _=>?_
      exact k r _ (by lia) (by lia) (G.rev (by lia)) ar
theorem zgu (T:Tot N lt) {p:Array Nat}(G:Good N p) {k:Nat}(hk:k<N) {Q:Nat->ty2q->Prop}:∀(f l r:Nat),l<=r->r<=k->r-l<=f->(∀i,i<l->lt (p.getD i 0) (p.getD k 0)=true)->(∀i,r<=i->i<k->lt (p.getD k 0) (p.getD i 0)=true)->Asc lt p k->
      (∀m,m<=k->(∀i,i<m->lt (p.getD i 0) (p.getD k 0)=true)->(∀i,m<=i->i<k->lt (p.getD k 0) (p.getD i 0)=true)->Q m s)->(kas_place p k f l r).kasWp (askB N lt) Q s
  | 0,l,r,h1,h2,h3,a,b,_,q=>q l (by lia) a fun i hi hk'=>b i (by lia) hk'
  | f+1,l,r,h1,h2,h3,a,b,as,q=>by
    unfold kas_place
    by_cases c:l≥r
    · rw[al12q c];exact q l (by lia) a fun i hi hk'=>b i (by lia) hk'
    · rw[al8q c];have hm:(l+r) / 2<r:=by lia
      have hl:l<=(l+r) / 2:=by lia
      generalize (l+r) / 2=m at hm hl;refine⟨G.lt k hk,G.lt m (by lia),fun z=>by have:=G.inj k m hk (by lia) z;lia,?_⟩;cases e:lt (p.getD k 0) (p.getD m 0) with
      | true=>
        dsimp only;rw[al12q rfl];refine zgu T G hk f l m hl (by lia) (by lia) a (fun i hi hik=>?_) as q
        by_cases c3:i=m
        · rw[c3];exact e
        · exact T.tr _ _ _ (G.lt k hk) (G.lt m (by lia)) (G.lt i (by lia)) e (as m i (by lia) hik)
      | false=>
        dsimp only;rw[al8q (by simp)];have ne:p.getD k 0≠p.getD m 0:=fun z=>by have:=G.inj k m hk (by lia) z;lia
        have e2:=T.tot _ _ (G.lt k hk) (G.lt m (by lia)) ne e;refine zgu T G hk f (m+1) r (by lia) h2 (by lia) (fun i hi=>?_) b as q
        by_cases c3:i=m
        · rw[c3];exact e2
        · exact T.tr _ _ _ (G.lt i (by lia)) (G.lt m (by lia)) (G.lt k hk) (as i m (by lia) (by lia)) e2
theorem zi5 {p:Array Nat}{k d:Nat}(hk:k<p.size) (hd:d<=k) (j:Nat):(bubble p k d).getD j 0=if j=k-d then p.getD k 0 else if k-d<j/\j<=k then p.getD (j-1) 0 else p.getD j 0:=by
  have e:=getElem?_bubble hk d hd j
  by_cases c1:j=k-d
  · rw[al12q c1] at e ⊢;exact ze1 e
  · rw[al8q c1] at e ⊢
    by_cases c2:k-d<j/\j<=k
    · rw[al12q c2] at e ⊢;exact ze1 e
    · rw[al8q c2] at e ⊢;exact ze1 e
def bubI (k d j:Nat):Nat:=if j=k-d then k else if k-d<j/\j<=k then j-1 else j
theorem zgv {p:Array Nat}{k d:Nat}(hk:k<p.size) (hd:d<=k) (j:Nat):(bubble p k d).getD j 0=p.getD (bubI k d j) 0:=by
  rw[zi5 hk hd];unfold bubI
  by_cases c1:j=k-d
  · rw[al12q c1,al12q c1]
  · rw[al8q c1,al8q c1]
    by_cases c2:k-d<j/\j<=k
    · rw[al12q c2,al12q c2]
    · rw[al8q c2,al8q c2]
theorem zi6 {N k d j:Nat}(hk:k<N) (hj:j<N):bubI k d j<N:=by
  unfold bubI;split
  · exact hk
  · split<;>lia
theorem zp7 {k d a b:Nat}(hd:d<=k) (e:bubI k d a=bubI k d b):a=b:=by
  unfold bubI at e;split at e<;>split at e<;>(try split at e)<;>(try split at e)<;>lia
theorem Good.bub {p:Array Nat}(G:Good N p) {k d:Nat}(hk:k<N) (hd:d<=k):Good N (bubble p k d):=by
  have hz:k<p.size:=by rw[G.sz];exact hk
  refine⟨by rw[bubble_size];exact G.sz,fun i hi=>?_,fun a b ha hb e=>?_⟩
  · rw[zgv hz hd];exact G.lt _ (zi6 hk hi)
  · rw[zgv hz hd,zgv hz hd] at e;exact zp7 hd (G.inj _ _ (zi6 hk ha) (zi6 hk hb) e)
theorem zrm (T:Tot N lt) {Q:Array Nat->ty2q->Prop}:∀(f:Nat) (p:Array Nat) (k:Nat),Good N p->1<=k->k+f=N->Asc lt p k->(∀p',Good N p'->Asc lt p' N->Q p' s)->(kas_bin f p k).kasWp (askB N lt) Q s
  | 0,p,k,G,h1,hk,a,q=>q p G (by rw[←hk];exact a)
  | f+1,p,k,G,h1,hk,a,q=>by
    unfold kas_bin;rw[al171q];have hkN:k<N:=by lia
    refine zgu T G hkN k 0 k (al65q _) (al13q _) (by lia) (fun i hi=>by lia) (fun i hi hik=>by lia) a fun m hm lo hi=>?_
    have hz:k<p.size:=by rw[G.sz];exact hkN
    have hd:k-m<=k:=by lia
    refine zrm T f _ (k+1) (G.bub hkN hd) (by lia) (by lia) (fun i j hij hj=>?_) q;rw[zi5 hz hd,zi5 hz hd];have em:k-(k-m)=m:=by lia
    rw[em]
    by_cases c1:i=m
    · rw[al12q c1,al8q (by lia),al12q ⟨by lia,by lia⟩];exact hi (j-1) (by lia) (by lia)
    · rw[al8q c1]
      by_cases c2:j=m
      · rw[al12q c2,al8q (by lia)];exact lo i (by lia)
      · rw[al8q c2]
        by_cases c3:m<i/\i<=k
        · rw[al12q c3,al12q ⟨by lia,by lia⟩];exact a _ _ (by lia) (by lia)
        · rw[al8q c3]
          by_cases c4:m<j/\j<=k
          · rw[al12q c4];exact a _ _ (by lia) (by lia)
          · rw[al8q c4];exact a _ _ (by lia) (by lia)
theorem zf5:Good N (List.toArray (List.range N)):=by
  have e:∀i,i<N->(List.toArray (List.range N)).getD i 0=i:=fun i hi=>by
    rw[al118q];simp[hi]
  refine⟨by simp,fun i hi=>by rw[e i hi];exact hi,fun i j hi hj z=>by rw[e i hi,e j hj] at z;exact z⟩
theorem zsy (T:Tot N lt) (h2:2<=N) {Q:Array Nat->ty2q->Prop}(q:∀p,Good N p->Asc lt p N->Q p s):(kas_sort N).kasWp (askB N lt) Q s:=by
  unfold kas_sort;rw[al171q];refine zp6 T zf5 h2 fun m p m1 m2 G a=>?_
  dsimp only
  by_cases c:m<N
  · rw[al12q c];have e:max m 1=m:=by lia
    rw[e];exact zrm T (N-m) p m G m1 (by lia) a q
  · rw[al8q c];have e:m=N:=by lia
    subst e;exact q p G a
end
theorem zkg {α:Type}{cmp cmp':Nat->Nat->(Bool->ty2q->Prop)->ty2q->Prop}{s:ty2q}{Q:α->ty2q->Prop}(h:∀i j (C:Bool->ty2q->Prop),cmp i j (fun b s'=>s'=s/\C b s) s->cmp' i j C s) (m:∀i j (C C':Bool->ty2q->Prop),(∀b,C b s->C' b s)->cmp i j C s->cmp i j (fun b s'=>s'=s/\C' b s) s):∀(t:KasT α),t.kasWp cmp Q s->t.kasWp cmp' Q s
  | .ret a,q=>q
  | .ask i j k,q=>h i j _ (m i j (fun b s'=>(k b).kasWp cmp Q s') _ (fun b z=>zkg h m (k b) z) q)
section
variable {prog:ty4q}{w:World}{A:Around}{E:ty90q}{s:ty2q}
def zbo (h:Heap) (d:ty1q) (us:List ty3q):Heap:=((h.update d (Obj.mapSeq fun _=>#[])).push (seqObj "tuple" us.toArray 0)).push (seqObj "list" #[] 0)
theorem zli {h:Heap}{d b:ty1q}{us:List ty3q}{o:Obj}(n:b≠d) (e:h.get? b=some o):(zbo h d us).get? b=some o:=by
  unfold zbo;refine al5q _ (al5q _ ?_);rw[al24q _ _ (al26q n)];exact e
def Put (us:List ty3q) (lt:Nat->Nat->Bool) (out:List ty3q):Prop:=∃p:Array Nat,Good us.length p/\Asc lt p us.length/\out=p.toList.map fun i=>us.getD i Value.none
theorem znv {d:ty1q}{us:List ty3q}{n:Nat}{κ:SortKind}{lt:Nat->Nat->Bool}{P:PySem.Fin->ty2q->Prop}(T:Tot us.length lt) (hd:s.heap.get? d=some (seqObj "list" us.toArray n)) (small:us.length<64)
    (kind:2<=us.length->∀(Q:SortKind->ty2q->Prop) (E':ty90q),Q κ { s with heap:=zbo s.heap d us }->wpAny (model prog w) A (keyKind' us.toArray) Q E' { s with heap:=zbo s.heap d us })
    (less:∀i j,i<us.length->j<us.length->i≠j->∀(Q:Bool->ty2q->Prop),Q (lt i j) { s with heap:=zbo s.heap d us }->wpAny (model prog w) A (keyLt' κ (us.getD i Value.none) (us.getD j Value.none)) Q (fun _ _=>False) { s with heap:=zbo s.heap d us })
    (fin:∀out:List ty3q,out.length=us.length->Put us lt out->P (.done (.ret .none)) { s with heap:=sortedHeap s.heap d us out.toArray }) :
    wpAny (model prog w) A (Builtin.«list.sort» ⟨[.ref d],[]⟩) P E s:=by
  rw[list_sort_plain];have dl:d<s.heap.objs.size:=al14q hd;refine al2q (listItems_at hd rfl (al2q (listUpdate_at hd rfl ?_)));obtain⟨n1,hd1⟩:∃n1,(s.heap.update d (Obj.mapSeq fun _=>#[])).get? d=some (seqObj "list" #[] n1):=⟨_,get?_update_seq hd (fun _=>#[])⟩;refine al2q (seqEpoch_at hd1 rfl (al2q (wpAny_newTuple (al2q (wpAny_newList (al60q ?_))))));have hd6:(zbo s.heap d us).get? d=some (seqObj "list" #[] n1):=al5q _ (al5q _ hd1);show wpAny (model prog w) A _ P E { s with heap:=zbo s.heap d us };dsimp only;have zl:us.toArray.size=us.length:=by simp
  by_cases c:us.toArray.size<2
  · rw[al12q c,al12q c];refine al2q (al7q ?_);rw[StateT.run_pure];refine al2q (al7q ?_);dsimp only;have ez:(us.toArray.zip us.toArray).map (·.2)=us.toArray:=by
      apply Array.ext';simp[List.map_snd_zip]
    refine al2q (seqEpoch_at hd6 rfl (al2q (listUpdate_at hd6 rfl ?_ (hsz2:=by rw[Array.size_map];show (us.toArray.zip us.toArray).size<=_;rw[al95q];simp;lia))));simp only [bne_self_eq_false,al84q,al151q];have go:=fin us rfl ⟨_,zf5,fun i j a b=>by lia,by
      apply al157q;intro i
      by_cases hi:i<us.length
      · simp[hi]
      · simp[al183q hi]⟩
    refine al7q ?_;have e2:(arrOf (SortSt.mk' general' (us.toArray.zip us.toArray) #[] 7 none)).map (·.2)=us.toArray:=ez;rw[e2];exact go
  · rw[al8q c,al8q c];have two:2<=us.length:=by lia
    refine al2q (kind two _ _ ?_);refine al2q (al51q (kat_run (E:=E) (ks:=us) (vs:=us) (G:=fun p s'=>s' = { s with heap:=zbo s.heap d us }/\Good us.length p/\Asc lt p us.length) (Q:=fun st' s'=>s' = { s with heap:=zbo s.heap d us }/\failedOf st'=none/\∃p,Good us.length p/\Asc lt p us.length/\arrOf st'=p.map (kas_item (us.toArray.zip us.toArray))) rfl two small (fun p st' s' _ e1 e2 g=>⟨g.1,e2,p,g.2.1,g.2.2,e1⟩) ?_) (fun r s' q=>?_) fun _ _ z=>z)
    · refine zkg (cmp:=askB us.length lt) (fun i j C h=>?_) (fun i j C C' h q=>⟨q.1,q.2.1,q.2.2.1,rfl,h _ q.2.2.2⟩) _ (zsy T two fun p g a=>⟨rfl,g,a⟩);obtain⟨h1,h2,n12,_,h3⟩:=h;exact less i j h1 h2 n12 _ h3
    · obtain⟨⟨⟩,st'⟩:=r;obtain⟨rfl,nf,p,g,a,ea⟩:=q;dsimp only at ea nf ⊢;have eo:(arrOf st').map (·.2)=(p.toList.map fun i=>us.getD i Value.none).toArray:=by
        rw[ea];apply Array.ext';simp only [Array.toList_map,al73q];refine al68q fun i _=>?_
        show (kas_item (us.toArray.zip us.toArray) i).2=_;rw[kat_item rfl]
      have el:(p.toList.map fun i=>us.getD i Value.none).length=us.length:=by rw[al0q,al81q,g.sz]
      refine al2q (seqEpoch_at hd6 rfl (al2q (listUpdate_at hd6 rfl ?_ (hsz2:=by rw[eo];show (p.toList.map fun i=>us.getD i Value.none).toArray.size<=_;rw[al27q,el,al95q];lia))));rw[nf];simp only [bne_self_eq_false,al84q,al151q];have go:=fin _ el ⟨p,g,a,rfl⟩;unfold sortedHeap at go;rw[←eo] at go;exact al7q go
theorem ze3 {l:ty1q}{us:List ty3q}{κ:SortKind}{lt:Nat->Nat->Bool}{Q:ty90q}(T:Tot us.length lt) (small:us.length<64)
    (col:∀(E':ty90q) (Q':List ty3q->ty2q->Prop),(∀h1 tk,(∀b o,s.heap.get? b=some o->h1.get? b=some o)->s.heap.objs.size<h1.objs.size->Q' us { s with heap:=h1,toks:=tk })->wpAny (model prog w) A.in1 (collect (.ref l)) Q' E' s)
    (kind:2<=us.length->∀(s':ty2q),(∀b o,s.heap.get? b=some o->s'.heap.get? b=some o)->∀{A':Around}{E':ty90q}{Q':SortKind->ty2q->Prop},Q' κ s'->wpAny (model prog w) A' (keyKind' us.toArray) Q' E' s')
    (less:∀i j,i<us.length->j<us.length->i≠j->∀(s':ty2q),(∀b o,s.heap.get? b=some o->s'.heap.get? b=some o)->∀{Q':Bool->ty2q->Prop},Q' (lt i j) s'->wpAny (model prog w) A.in1.in1 (keyLt' κ (us.getD i Value.none) (us.getD j Value.none)) Q' (fun _ _=>False) s')
    (fin:∀(D:ty1q) (out:List ty3q) (h':Heap) (tk c:Nat),out.length=us.length->Put us lt out->(∀b o,s.heap.get? b=some o->h'.get? b=some o)->s.heap.objs.size<=D->h'.get? D=some (seqObj "list" out.toArray c)->Q (.ref D) { s with heap:=h',toks:=tk }) :
    wpAny (model prog w) A (call (.builtin "sorted") [.ref l]) Q E s:=by
  refine Calls.call_function_entry kind_sorted plain_sorted entry_sorted (args_sorted1 _) ?_;show wpAny _ _ (Builtin.«sorted» ⟨[.ref l],[]⟩) _ _ _;unfold Builtin.«sorted»;refine al2q (m:=checkCount "sorted" 1 1 _) (al7q (al2q (col _ _ fun h1 tk k1 z1=>al2q (wpAny_newList ?_ (by rw[al95q];lia)))));have hd:(h1.push (seqObj "list" us.toArray 0)).get? h1.objs.size=some (seqObj "list" us.toArray 0):=al20q _ rfl;show wpAny _ _ _ _ _ { s with heap:=h1.push (seqObj "list" us.toArray 0),toks:=tk };have k2:∀b o,s.heap.get? b=some o->(h1.push (seqObj "list" us.toArray 0)).get? b=some o:=fun b o e=>al5q _ (k1 b o e)
  have nb:∀b o,s.heap.get? b=some o->b≠h1.objs.size:=fun b o e=>al31q (al14q (k1 b o e))
  generalize h1.push (seqObj "list" us.toArray 0)=g at hd k2;have kp:∀b o,s.heap.get? b=some o->(zbo g h1.objs.size us).get? b=some o:=fun b o e=>zli (nb b o e) (k2 b o e)
  have kd:2<=us.length->∀(Q':SortKind->ty2q->Prop) (E':ty90q),Q' κ { s with heap:=zbo g h1.objs.size us,toks:=tk }->wpAny (model prog w) A.in1.in1 (keyKind' us.toArray) Q' E' { s with heap:=zbo g h1.objs.size us,toks:=tk }:=fun two Q' E' q=>kind two { s with heap:=zbo g h1.objs.size us,toks:=tk } kp q
  have ls:∀i j,i<us.length->j<us.length->i≠j->∀(Q':Bool->ty2q->Prop),Q' (lt i j) { s with heap:=zbo g h1.objs.size us,toks:=tk }->wpAny (model prog w) A.in1.in1 (keyLt' κ (us.getD i Value.none) (us.getD j Value.none)) Q' (fun _ _=>False) { s with heap:=zbo g h1.objs.size us,toks:=tk }:=fun i j a b n Q' q=>less i j a b n { s with heap:=zbo g h1.objs.size us,toks:=tk } kp q
  refine al2q (al60q (al100q slot_list_sort ⟨_,hd,rfl⟩ entry_list_sort (znv (s:={ s with heap:=g,toks:=tk }) T hd small kd ls fun out lo po=>⟨_,rfl,?_⟩) (args_list_sort _)));obtain⟨c,hc⟩:=sortedHeap_at (out:=out.toArray) hd;refine al7q ⟨_,rfl,fin h1.objs.size out _ tk c lo po (fun b o e=>?_) (al162q z1) hc⟩;have e2:=k2 b o e;rw[sortedHeap_old (nb b o e) (al14q e2)];exact e2
theorem zkh {l:ty1q}{us:List ty3q}(hl:s.heap.IsList l us.toArray) (hz:us.length<=sizeLine):∀(E':ty90q) (Q':List ty3q->ty2q->Prop),(∀h1 tk,(∀b o,s.heap.get? b=some o->h1.get? b=some o)->s.heap.objs.size<h1.objs.size->Q' us { s with heap:=h1,toks:=tk })->wpAny (model prog w) A (collect (.ref l)) Q' E' s:=fun E' Q' q=>by
  refine collect_list hl (q _ s.toks (fun b o e=>?_) ?_) hz
  · rw[al24q _ _ (al145q (al14q e))];exact al5q _ e
  · rw[Heap.size_update,size_push'];exact al139q _
end
theorem zrn:∀{rs us:List Nat},rs.Nodup->(∀x∈rs,x∈us)->rs.length<=us.length
  | [],us,_,_=>al65q _
  | a::r,us,hn,hs=>by
    rw[al75q] at hn;have ha:=hs a (by simp);have:=zrn (rs:=r) (us:=us.erase a) hn.2 fun x hx=>by
      have:x≠a:=fun z=>hn.1 (z▸hx)
      exact (List.mem_erase_of_ne this).mpr (hs x (al19q _ hx))
    rw[al131q ha] at this;have:=al149q ha;rw[al99q];lia
abbrev SS:=Str×Str
def ltPP (p q:SS):Bool:=if p.1=q.1 then decide (p.2.cps.toList<q.2.cps.toList) else decide (p.1.cps.toList<q.1.cps.toList)
theorem zsz {a b:Str}(h:a.cps.toList=b.cps.toList):a=b:=by
  obtain⟨x⟩:=a;obtain⟨y⟩:=b;have:x=y:=Array.toList_inj.mp h;rw[this]
theorem zs0 {a b:Str}(h:a≠b) (n:¬a.cps.toList<b.cps.toList):b.cps.toList<a.cps.toList:=by
  rcases List.le_iff_lt_or_eq.mp (List.not_lt.mp n) with z | z
  · exact z
  · exact absurd (zsz z.symm) h
theorem zen (p:SS):ltPP p p=false:=by
  unfold ltPP;rw[al12q rfl];exact al17q (al69q _)
theorem znw {a b c:SS}(h1:ltPP a b=true) (h2:ltPP b c=true):ltPP a c=true:=by
  unfold ltPP at *
  by_cases c1:a.1=b.1
  · rw[al12q c1] at h1
    by_cases c2:b.1=c.1
    · rw[al12q c2] at h2;rw[al12q (c1.trans c2)];exact al10q (al169q (al16q h1) (al16q h2))
    · rw[al8q c2] at h2;rw[al8q (fun z=>c2 (c1.symm.trans z)),c1];exact h2
  · rw[al8q c1] at h1
    by_cases c2:b.1=c.1
    · rw[al8q (fun z=>c1 (z.trans c2.symm)),←c2];exact h1
    · rw[al8q c2] at h2;have h3:=al169q (al16q h1) (al16q h2);rw[al8q (fun z=>by rw[z] at h3;exact al69q _ h3)];exact al10q h3
theorem zp8 {a b:SS}(ne:a≠b) (h:ltPP a b=false):ltPP b a=true:=by
  unfold ltPP at *
  by_cases c1:a.1=b.1
  · rw[al12q c1] at h;rw[al12q c1.symm];exact al10q (zs0 (fun z=>ne (Prod.ext c1 z)) (al89q h))
  · rw[al8q c1] at h;rw[al8q (al26q c1)];exact al10q (zs0 c1 (al89q h))
theorem zro {ps:List SS}(nd:ps.Nodup):Tot ps.length fun i j=>ltPP (ps.getD i ("","")) (ps.getD j ("","")):=by
  have e:∀i (h:i<ps.length),ps.getD i ("","")=ps[i]:=fun i h=>by rw[al11q,al1q h];rfl
  refine⟨fun a _=>zen _,fun a b c _ _ _ h1 h2=>znw h1 h2,fun a b ha hb n h=>zp8 (fun z=>n ?_) h⟩;rw[e a ha,e b hb] at z;have pw:=al48q.mp nd;rcases al101q a b with c | c | c
  · exact absurd z (pw a b ha hb c)
  · exact c
  · exact absurd z.symm (pw b a hb ha c)
theorem zp9 {us out:List ty3q}{lt:Nat->Nat->Bool}{α:Type}(xs:List α) (d:α) (h:Put us lt out) (hl:us.length=xs.length):∃ys:List α,ys.Perm xs/\ys.length=out.length/\(∀i:Nat,i<ys.length->∃j,j<xs.length/\out[i]? = us[j]?/\ys[i]? = xs[j]?)/\
    ∀i j (hi:i<ys.length) (hj:j<ys.length),i<j->∃a b,a<xs.length/\b<xs.length/\ys[i]? = xs[a]?/\ys[j]? = xs[b]?/\lt a b=true:=by
  obtain⟨p,G,A,rfl⟩:=h;rw[hl] at G A;have pl:p.toList.length=xs.length:=by rw[al81q,G.sz]
  have pg:∀i (h:i<xs.length),p.toList[i]? = some (p.getD i 0):=fun i h=>by
    have hi:i<p.size:=by rw[G.sz];exact h
    rw[al154q,al42q hi,al118q,al42q hi];rfl
  have pr:p.toList.Perm (List.range xs.length):=by
    rw[List.perm_ext_iff_of_nodup ?_ List.nodup_range]
    · intro a;rw[al36q];constructor
      · intro h;obtain⟨i,hi⟩:=al29q.mp h;have hl':=(al3q.mp hi).1;rw[pg i (by lia)] at hi;cases hi;exact G.lt i (by lia)
      · intro h;have inj:p.toList.Nodup:=by
          rw[al90q,al48q];intro i j hi hj hij z;have e1:=pg i (by lia);have e2:=pg j (by lia);rw[al1q hi] at e1;rw[al1q hj] at e2;have:=G.inj i j (by lia) (by lia) ((al41q e1).symm.trans (z.trans (al41q e2)));lia
        have sub:∀x∈p.toList,x∈List.range xs.length:=fun x hx=>by
          obtain⟨i,hi⟩:=al29q.mp hx;have hl':=(al3q.mp hi).1;rw[pg i (by lia)] at hi;cases hi;exact al36q.mpr (G.lt i (by lia))
        refine al34q fun n=>?_
        have:(p.toList).length<=((List.range xs.length).erase a).length:=by
          refine zrn inj fun x hx=>?_
          rw[List.Nodup.mem_erase_iff List.nodup_range];exact⟨fun z=>n (z▸hx),sub x hx⟩
        rw[al131q (al36q.mpr h),al44q,pl] at this;lia
    · rw[al90q,al48q];intro i j hi hj hij z;have e1:=pg i (by lia);have e2:=pg j (by lia);rw[al1q hi] at e1;rw[al1q hj] at e2;have:=G.inj i j (by lia) (by lia) ((al41q e1).symm.trans (z.trans (al41q e2)));lia
  have ex:xs=(List.range xs.length).map fun i=>xs.getD i d:=by
    apply al157q;intro i
    by_cases hi:i<xs.length
    · simp[hi]
    · simp[al183q hi]
  refine⟨p.toList.map fun i=>xs.getD i d,?_,by rw[al0q,al0q],fun i hi=>?_,fun i j hi hj hij=>?_⟩
  · have:=pr.map fun i=>xs.getD i d
    rw[←ex] at this;exact this
  · rw[al0q] at hi;have hlt:=G.lt i (by lia);refine⟨p.getD i 0,hlt,?_,?_⟩
    · rw[al4q,pg i (by lia)];show some (us.getD _ _)=_;rw[al11q,al1q (show p.getD i 0<us.length by lia)];rfl
    · rw[al4q,pg i (by lia)];show some (xs.getD _ _)=_;rw[al11q,al1q hlt];rfl
  · rw[al0q] at hi hj;have h1:=G.lt i (by lia);have h2:=G.lt j (by lia);refine⟨p.getD i 0,p.getD j 0,h1,h2,?_,?_,A i j hij (by lia)⟩
    · rw[al4q,pg i (by lia)];show some (xs.getD _ _)=_;rw[al11q,al1q h1];rfl
    · rw[al4q,pg j (by lia)];show some (xs.getD _ _)=_;rw[al11q,al1q h2];rfl
section
variable {prog:ty4q}{w:World}{A:Around}{E:ty90q}{s:ty2q}
def TupSS (h:Heap) (v:ty3q) (p:SS):Prop:=∃a t u,v = .ref a/\IsTup h a #[.str p.1 t,.str p.2 u]
theorem TupSS.kept {h h':Heap}{v:ty3q}{p:SS}(t:TupSS h v p) (k:∀b o,h.get? b=some o->h'.get? b=some o):TupSS h' v p:=by
  obtain⟨a,x,y,rfl,o,ho,hc,n,hd⟩:=t;exact⟨a,x,y,rfl,o,k a o ho,hc,n,hd⟩
theorem znx {v1 v2:ty3q}{p q:SS}{Q:Bool->ty2q->Prop}(h1:TupSS s.heap v1 p) (h2:TupSS s.heap v2 q) (h:Q (ltPP p q) s):wpAny (model prog w) A (keyLt' (tuples' true) v1 v2) Q (fun _ _=>False) s:=by
  obtain⟨a,t1,u1,rfl,oa,hoa,_,na,hda⟩:=h1;obtain⟨b,t2,u2,rfl,ob,hob,_,nb,hdb⟩:=h2;refine kat_lt hoa hda hob hdb ?_;show KatLex prog w A true false Q [(Value.str p.1 t1,Value.str q.1 t2),(Value.str p.2 u1,Value.str q.2 u2)] 0 s;refine kat_cons (al133q ?_);unfold ltPP at h
  by_cases c:p.1=q.1
  · rw[al10q c];rw[al12q c] at h;refine kat_yes (kat_cons (al133q ?_))
    by_cases c2:p.2=q.2
    · rw[al10q c2];refine kat_yes (kat_nil ?_);rw[c2,al17q (al69q _)] at h;exact h
    · rw[al17q c2];refine kat_no ?_;show wpAny _ _ (oneLt' false (Value.str p.2 u1) (Value.str q.2 u2)) _ _ _;exact kat_one _ _ (lt_str h)
  · rw[al17q c];rw[al8q c] at h;refine kat_no ?_;show wpAny _ _ (oneLt' true (Value.str p.1 t1) (Value.str q.1 t2)) _ _ _;exact oneLt_str h
theorem zny {vs:List ty3q}{ps:List SS}{Q:SortKind->ty2q->Prop}(h:Paired (TupSS s.heap) vs ps) (hne:0<ps.length) (q:Q (tuples' true) s):wpAny (model prog w) A (keyKind' vs.toArray) Q E s:=by
  obtain⟨fs,kt,hl,hf⟩:∃fs,KatTups s.heap vs fs/\fs.length=ps.length/\∀v∈fs,∃x t,v=Value.str x t:=by
    clear hne
    induction h with
    | nil=>exact⟨[],.nil,rfl,by simp⟩
    | cons h _ ih=>
      obtain⟨fs,k,l,f⟩:=ih;obtain⟨a,t,u,rfl,o,ho,hc,n,hd⟩:=h;refine⟨_::fs,.cons ho hc hd rfl k,by simp[l],fun v hv=>?_⟩;rcases al21q.mp hv with rfl | hv
      · exact⟨_,_,rfl⟩
      · exact f v hv
  refine kat_kind (T:=.type "str") kt (by lia) (fun v hv=>?_) rfl q;obtain⟨x,t,rfl⟩:=hf v hv;exact Looks.now
end
theorem zbl {α β:Type}{F:α->β->Prop}:∀{as:List α}{bs:List β},as.length=bs.length->(∀(i:Nat) a b,as[i]? = some a->bs[i]? = some b->F a b)->Paired F as bs
  | [],[],_,_=>.nil
  | [],_::_,h,_=>by simp at h
  | _::_,[],h,_=>by simp at h
  | a::as,b::bs,h,k=>.cons (k 0 a b rfl rfl) (zbl (by simpa using h) fun i a b e1 e2=>k (i+1) a b (by simpa using e1) (by simpa using e2))
theorem zi7 {us out:List ty3q}{lt:Nat->Nat->Bool}{α:Type}(as:List ty1q) (xs:List α) (d:α) (hv:Vals (as.map V.ref) us) (h:Put us lt out) (la:as.length=xs.length) :
    ∃(bs:List ty1q) (ys:List α),Vals (bs.map V.ref) out/\bs.length=ys.length/\ys.Perm xs/\(∀(i:Nat) b y,bs[i]? = some b->ys[i]? = some y->∃j:Nat,as[j]? = some b/\xs[j]? = some y)/\ys.Pairwise (fun y z=>∃(a b:Nat),xs[a]? = some y/\xs[b]? = some z/\lt a b=true):=by
  have lu:us.length=(as.zip xs).length:=by
    have:=hv.length;rw[al0q] at this;rw[al78q];lia
  obtain⟨zs,pm,lz,at',up⟩:=zp9 (as.zip xs) (0,d) h lu;have sn:(as.zip xs).map Prod.snd=xs:=List.map_snd_zip (by lia);refine⟨zs.map Prod.fst,zs.map Prod.snd,?_,by rw[al0q,al0q],by have:=pm.map Prod.snd;rwa [sn] at this,fun i b y e1 e2=>?_,?_⟩
  · refine zbl (by rw[al0q,al0q,lz]) fun i x v e1 e2=>?_
    rw[al4q,al4q] at e1;cases ez:zs[i]? with
    | none=>rw[ez] at e1;cases e1
    | some z=>
      rw[ez] at e1;cases e1;obtain⟨j,hj,o1,o2⟩:=at' i (al3q.mp ez).1;rw[ez] at o2;rw[e2] at o1;obtain⟨h1,h2⟩:=al45q.mp o2.symm;obtain⟨v',e3,r⟩:=hv.get (i:=j) (x:=V.ref z.1) (by rw[al4q,h1];rfl);rw[←o1] at e3;cases e3;exact r
  · rw[al4q] at e1 e2;cases ez:zs[i]? with
    | none=>rw[ez] at e1;cases e1
    | some z=>
      rw[ez] at e1 e2;cases e1;cases e2;obtain⟨j,hj,_,o2⟩:=at' i (al3q.mp ez).1;rw[ez] at o2;exact⟨j,al45q.mp o2.symm⟩
  · rw[al48q];intro i j hi hj hij;rw[al0q] at hi hj;obtain⟨a,b,ha,hb,e1,e2,l⟩:=up i j hi hj hij;refine⟨a,b,?_,?_,l⟩
    · rw[al1q hi] at e1;have:=(al45q.mp e1.symm).2;rw[List.getElem_map];exact this
    · rw[al1q hj] at e2;have:=(al45q.mp e2.symm).2;rw[List.getElem_map];exact this
section
variable {X:Cx}
theorem Inv.tupSS {pins:ty91q}{σ:St}{H:Hp}{s:ty2q}{K:ty0q}(hK:X.K=K) (I:Inv X pins σ H s) {a:ty1q}{p:SS}(t:SqT K H a [.str p.1,.str p.2]):TupSS s.heap (.ref a) p:=by
  subst hK;obtain⟨ts,rt,it,_⟩:=I.tuple t;obtain⟨u1,u2,rfl,⟨t1,rfl⟩,⟨t2,rfl⟩⟩:=zml rt;exact⟨a,t1,t2,rfl,it⟩
theorem zh7 {K:ty0q}(h:X.K=K):zbr X (.builtin "sorted") (fun xs H Q=>∃(l:ty1q) (as:List ty1q) (ps:List SS),xs = [V.ref l]/\SqL K H l (as.map V.ref)/\Paired (fun a (p:SS)=>SqT K H a [.str p.1,.str p.2]) as ps/\ps.Nodup/\ps.length<64/\
    ∀(D:ty1q) (bs:List ty1q) (qs:List SS),H D=none->Paired (fun a (p:SS)=>SqT K H a [.str p.1,.str p.2]) bs qs->qs.Perm ps->qs.Pairwise (fun a b=>ltPP a b=true)->Q (.ref D) (upd H D (.lst (bs.map V.ref)))):=by
  subst h;intro pins s σ H xs us Q I r h;obtain⟨l,as,ps,rfl,hl,pr,nd,h64,q⟩:=h;obtain⟨u,rfl,ru⟩:=zb3 r;cases ru;obtain⟨its,rv,pl,hz⟩:=I.list hl;have len:=rv.length;rw[al0q] at len;have lp:as.length=ps.length:=Paired.length pr;have lip:its.length=ps.length:=by lia
  have hT:Paired (TupSS s.heap) its ps:=zbl lip fun i v p e1 e2=>by
    have hi:i<as.length:=by have:=(al3q.mp e1).1;lia
    obtain⟨w',e3,r'⟩:=rv.get (i:=i) (x:=V.ref as[i]) (by simp[hi]);rw[e1] at e3;cases e3;cases r';exact I.tupSS rfl (zaf pr (al1q hi) e2)
  have T:=zro nd;rw[←lip] at T;have gd:∀i (h:i<ps.length),ps[i]? = some (ps.getD i ("","")):=fun i h=>by rw[al11q,al1q h];rfl
  have gi:∀i (h:i<its.length),its[i]? = some (its.getD i Value.none):=fun i h=>by rw[al11q,al1q h];rfl
  refine ze3 (κ:=tuples' true) T (by lia) (zkh pl.isList (by rw[al95q];lia)) (fun two s' kp _ _ Q' q'=>zny (Paired.mapP hT fun v p t=>t.kept kp) (by lia) q') (fun i j hi hj n s' kp Q' q'=>znx ((zaf hT (gi i hi) (gd i (by lia))).kept kp) ((zaf hT (gi j hj) (gd j (by lia))).kept kp) q') fun D out h' tk c lo po kp hD hg=>?_
  obtain⟨bs,ys,vb,lb,pm,ab,up⟩:=zi7 as ps ("","") rv po lp;have hn:H D=none:=I.hok.fresh hD;refine⟨.ref D,_,I.laid (t':=tk) (h':=h') (a:=D) (o:=.lst (bs.map V.ref)) kp hD ⟨?_,out,c,vb,by rw[hg]⟩,rfl,q D bs ys hn ?_ pm (up.imp fun ⟨a,b,e1,e2,l⟩=>?_)⟩
  · rw[al0q,lb,pm.length_eq,al95q];lia
  · refine zbl lb fun i b y e1 e2=>?_
    obtain⟨j,h1,h2⟩:=ab i b y e1 e2;exact zaf pr h1 h2
  · rw[al11q,al11q,e1,e2] at l;exact l
end
end L2
namespace L2
open PySem PySem.Spec PyProof.Rows
section
variable {X:Cx}
theorem znz:MtM X "dict.update" (fun x vs H Q=>∃(d o:ty1q) (kvs more:List (Key×V)),x = .ref d/\vs = [.ref o]/\d≠o/\H d=some (.dK kvs)/\Rd H o (.dK more)/\kvs.length+more.length<=1000/\Q .non (upd H d (.dK (zfz kvs more)))):=by
  intro pins s σ H x vs v us Q I rx rv h;obtain⟨d,o,kvs,more,rfl,rfl,ne,hd,ho,hz,q⟩:=h;cases rx;obtain⟨u,rfl,ru⟩:=zb3 rv;cases ru;obtain⟨z1,y1,vs1,r1,d1⟩:=zse I.hok hd;obtain⟨z2,y2,vs2,r2,d2⟩:=zfj I.hok ho;have hs:sizeLine=16777216:=al95q;refine call_meetsIn PySem.F.slot_dict_update d1.typeIs PySem.F.entry_dict_update (PySem.F.args_dict_update_2 _ _) (meets_dict_update (zbf X.prog X.w) d o ne y2) ⟨vs1,vs2,d1,d2,by rw[←r1.length,←r2.length];lia,fun h' dd' _ sb=>?_⟩;have he:∃q,h'.get? d=some q:=let ⟨q,_,_,hq,_⟩:=dd';⟨q,hq⟩
  have ml:=zde more kvs;exact⟨.non,_,zgh (t':=s.toks) I (by rw[hd];exact True.intro) sb he (zmu (by lia) y1 (KV.merge r2 r1) dd'),rfl,q⟩
theorem zn0 (K:ty0q) (hK:X.K=K) (hc:X.calm=true):zbr X (.builtin "any") (fun xs H Q=>∃(a:ty1q) (bs:List Bool),xs = [V.ref a]/\SqL K H a (bs.map V.bl)/\Q (.bl (bs.any id)) H):=by
  subst hK;intro pins s σ H xs us Q I r h;obtain⟨a,bs,rfl,ha,q⟩:=h;obtain⟨u,rfl,ru⟩:=zb3 r;cases ru;obtain⟨its,rv,pl,hz⟩:=I.list ha;have e:its=bs.map Value.bool:=zc6 rv;subst e;have hl:=pl.isList;have hlt:a<s.heap.objs.size:=by obtain⟨_,e,_⟩:=hl;exact al14q e
  refine call_any_walk (al126q hl ?_);refine⟨s.heap.objs.size,[s.heap.objs.size,a],[s.heap.objs.size],(bs.map Value.bool).toArray.size,_,_,fun i=>(bs[i]?).getD false,rfl,Walks.list (A:=X.A.in1) (I.ok.hd hc) _ a (al31q hlt) (bs.map Value.bool).toArray,
    ⟨⟨_,al20q _ rfl,rfl,rfl⟩,hl.push _⟩,fun i v s' Q' E' hP hQ=>?_,fun h' tk hk=>?_⟩
  · have hP':(bs.map Value.bool)[i]? = some v:=by simpa using hP
    rw[al4q] at hP';cases e:bs[i]? with
    | none=>rw[e] at hP';cases hP'
    | some b=>
      rw[e] at hP';cases hP';simp only [e,al184q] at hQ;exact al82q hQ
  · have e:((List.range (bs.map Value.bool).toArray.size).any fun i=>(bs[i]?).getD false)=bs.any id:=by
      rw[al125q,al108q,al108q];have z:(bs.map Value.bool).toArray.size=bs.length:=by simp
      rw[z];constructor
      · rintro ⟨i,hi,h⟩;have hi:=al36q.mp hi;rw[al1q hi] at h;exact⟨bs[i],al46q hi,h⟩
      · rintro ⟨b,hb,h⟩;obtain⟨i,hi,rfl⟩:=al127q.mp hb;refine⟨i,al36q.mpr hi,?_⟩;rw[al1q hi];exact h
    rw[e];refine⟨.bl (bs.any id),H,I.kept fun b o q'=>?_,rfl,q⟩;have hb:=al14q q';exact hk b o (fun z=>absurd (al85q.mp z) (al31q hb)) (al5q _ q')
inductive Frzs (ts:TS) (D:Ends) (σ:St):Hp->Prop
  | go {H:Hp}(h:ts D σ H):Frzs ts D σ H
  | frz {H:Hp}(a:ty1q) (kvs:List (Key×V)) (ha:H a=some (.dK kvs)) (k:∀ob,Frzs ts D σ (upd H a (.frz ob (.dK kvs)))):Frzs ts D σ H
def zwv (ts:TS):TS:=fun D σ H=>Frzs ts D σ H
theorem zs1 {st:Stmt}{ts:TS}(h:PS X st ts):PS X st (zwv ts):=by
  intro pins s σ H D I q;have go:∀{H:Hp},Frzs ts D σ H->Inv X pins σ H s->wpAny (model X.prog X.w) X.A (exec st X.env) (SP X pins D) X.xe s:=fun q=>by
    induction q with
    | go q=>intro I;exact h pins s σ _ D I q
    | frz a kvs ha k ih=>
      intro I;obtain⟨ob,I'⟩:=I.frozen ha;exact ih ob I'
  exact go q I
theorem zgw {K:ty0q}(hK:X.K=K) (hc:X.calm=true):zbr X (.builtin "sorted") (fun xs H Q=>∃(p:ty1q) (kvs:List (List Key×V)) (ps:List SS),xs = [V.ref p]/\Rd H p (.dT kvs)/\(kvs.map fun kv=>kv.1)=ps.map (fun q=>[Sum.inr q.1,Sum.inr q.2])/\ps.Nodup/\ps.length<64/\
    ∀(D:ty1q) (bs:List ty1q) (qs:List SS),H D=none->Paired (fun a (p:SS)=>H a=some (.tup [.str p.1,.str p.2])) bs qs->qs.Perm ps->qs.Pairwise (fun a b=>ltPP a b=true)->Q (.ref D) (upd H D (.lst (bs.map V.ref)))):=by
  subst hK;intro pins s σ H xs us Q I r h;obtain⟨p,kvs,ps,rfl,hp,hk,nd,h64,q⟩:=h;obtain⟨u,rfl,ru⟩:=zb3 r;cases ru;obtain⟨z,hd,xs,rel,o,es,ep,h1,h2,h3,h4,h5⟩:=(show ObjOk X.prog X.w H s.heap p (.dT kvs) from zsd I.hok hp);have lkx:kvs.length=xs.length:=Paired.length rel;have lkp:kvs.length=ps.length:=by have:=al61q List.length hk;simpa using this
  have les:es.size=xs.length:=by
    have:=al61q List.length h4;rw[al81q,al0q] at this;exact this
  have ekeys:es.toList.map (·.key)=xs.map fun x=>Value.ref x.2.1:=by
    rw[h4,al73q];rfl
  have atx:∀i,i<ps.length->∃x,xs[i]? = some x/\∃q,ps[i]? = some q/\H x.2.1=some (.tup [.str q.1,.str q.2]):=fun i hi=>by
    have hx:i<xs.length:=by lia
    have hkv:i<kvs.length:=by lia
    refine⟨xs[i],al1q hx,ps[i],al1q hi,?_⟩;have f:=zaf rel (al1q hkv) (al1q hx);have e:(kvs.map fun kv=>kv.1)[i]? = some [Sum.inr ps[i].1,Sum.inr ps[i].2]:=by rw[hk,al4q,al1q hi];rfl
    rw[al4q,al1q hkv] at e;have e:kvs[i].1 = [Sum.inr ps[i].1,Sum.inr ps[i].2]:=al41q e;have:=f.2.1;rw[e] at this;exact this
  have rv:Vals ((xs.map fun x=>x.2.1).map V.ref) (xs.map fun x=>Value.ref x.2.1):=zbl (by simp) fun i a b e1 e2=>by
    rw[al4q,al4q] at e1;rw[al4q] at e2;cases ex:xs[i]? with
    | none=>rw[ex] at e1;cases e1
    | some x=>
      rw[ex] at e1 e2;cases e1;cases e2;rfl
  have hT:Paired (TupSS s.heap) (xs.map fun x=>Value.ref x.2.1) ps:=zbl (by rw[al0q];lia) fun i v p e1 e2=>by
    obtain⟨x,ex,q',eq,hx⟩:=atx i (by have:=(al3q.mp e2).1;exact this);rw[al4q,ex] at e1;cases e1;rw[e2] at eq;cases eq;exact I.tupSS rfl (SqT.of hx)
  have li:(xs.map fun x=>Value.ref x.2.1).length=ps.length:=by rw[al0q];lia
  have T:=zro nd;rw[←li] at T;have gd:∀i (h:i<ps.length),ps[i]? = some (ps.getD i ("","")):=fun i h=>by rw[al11q,al1q h];rfl
  have gi:∀i (h:i<(xs.map fun x=>Value.ref x.2.1).length),(xs.map fun x=>Value.ref x.2.1)[i]? = some ((xs.map fun x=>Value.ref x.2.1).getD i Value.none):=fun i h=>by rw[al11q,al1q h];rfl
  have col:∀(E':ty90q) (Q':List ty3q->ty2q->Prop),(∀h1 tk,(∀b o,s.heap.get? b=some o->h1.get? b=some o)->s.heap.objs.size<h1.objs.size->Q' (xs.map fun x=>Value.ref x.2.1) { s with heap:=h1,toks:=tk })->wpAny (model X.prog X.w) X.A.in1 (collect (.ref p)) Q' E' s:=fun E' Q' q'=>by
    refine zh5 (A:=X.A.in1) (I.ok.hd hc) hd ⟨o,h1,h2,h3⟩ (by rw[al95q];lia) fun h1 tk k sz=>?_
    rw[ekeys];exact q' h1 tk k sz
  refine ze3 (κ:=tuples' true) T (by lia) col (fun two s' kp _ _ Q' q'=>zny (Paired.mapP hT fun v p t=>t.kept kp) (by lia) q') (fun i j hi hj n s' kp Q' q'=>znx ((zaf hT (gi i hi) (gd i (by lia))).kept kp) ((zaf hT (gi j hj) (gd j (by lia))).kept kp) q') fun D out h' tk c lo po kp hD hg=>?_
  obtain⟨bs,ys,vb,lb,pm,ab,up⟩:=zi7 (xs.map fun x=>x.2.1) ps ("","") rv po (by rw[al0q];lia);have hn:H D=none:=I.hok.fresh hD;refine⟨.ref D,_,I.laid (t':=tk) (h':=h') (a:=D) (o:=.lst (bs.map V.ref)) kp hD ⟨?_,out,c,vb,by rw[hg]⟩,rfl,q D bs ys hn ?_ pm (up.imp fun ⟨a,b,e1,e2,l⟩=>?_)⟩
  · rw[al0q,lb,pm.length_eq,al95q];lia
  · refine zbl lb fun i b y e1 e2=>?_
    obtain⟨j,g1,g2⟩:=ab i b y e1 e2;obtain⟨x,ex,q',eq,hx⟩:=atx j (by exact (al3q.mp g2).1);rw[al4q,ex] at g1;cases g1;rw[g2] at eq;cases eq;exact hx
  · rw[al11q,al11q,e1,e2] at l;exact l
end
end L2
namespace Dm
open PySem PySem.NumText L2
theorem Rc.refl {ln:Ln}{s:Str}:Rc ln s 0 s:=⟨[],.nil,rfl⟩
theorem zn1 {ln:Ln}{s:Str}:∀{n:Nat}{v:Str},Rc ln s (n+1) v->∃l r,(l,r)∈ln s/\Rc ln l n v
  | 0,v,h=>by
    obtain⟨u,r,h1,h2⟩:=h.succ;have:=h1.zero;subst this;exact⟨v,r,h2,Rc.refl⟩
  | n+1,v,h=>by
    obtain⟨u,r,h1,h2⟩:=h.succ;obtain⟨l,r',h3,h4⟩:=zn1 h1;exact⟨l,r',h3,h4.step h2⟩
theorem zn2 {ln:Ln}{s l:Str}{r:ty1q}(h:(l,r)∈ln s):∀{n:Nat}{v:Str},Rc ln l n v->Rc ln s (n+1) v
  | 0,v,q=>by
    have:=q.zero;subst this;exact Rc.refl.step h
  | n+1,v,q=>by
    obtain⟨u,r',h1,h2⟩:=q.succ;exact (zn2 h h1).step h2
theorem zrp {ln:Ln}{a b c:Str}{i:Nat}(h:Rc ln a i b):∀{j:Nat},Rc ln b j c->Rc ln a (i+j) c
  | 0,q=>by have:=q.zero;subst this;exact h
  | j+1,q=>by
    obtain⟨u,r,h1,h2⟩:=q.succ;exact (zrp h h1).step h2
def Bel (ln:Ln) (x y:Str):Prop:=∃j,1<=j/\Rc ln x j y
theorem bel_iff {ln:Ln}{x y:Str}:Bel ln x y↔∃l r,(l,r)∈ln x/\(l=y\/Bel ln l y):=by
  constructor
  · rintro ⟨j,h1,h⟩;obtain⟨n,rfl⟩:∃n,j=n+1:=⟨j-1,by lia⟩;obtain⟨l,r,h2,h3⟩:=zn1 h;refine⟨l,r,h2,?_⟩;cases n with
    | zero=>exact .inl h3.zero.symm
    | succ n=>exact .inr ⟨n+1,by lia,h3⟩
  · rintro ⟨l,r,h,rfl | ⟨j,h1,h2⟩⟩
    · exact⟨1,by lia,Rc.refl.step h⟩
    · exact⟨j+1,by lia,zn2 h h2⟩
theorem Rc.inKeys {ln:Ln}{keys:List Str}(cl:∀k∈keys,∀l r,(l,r)∈ln k->l∈keys) {x:Str}(hx:x∈keys):∀{j:Nat}{y:Str},Rc ln x j y->y∈keys
  | 0,y,h=>by have:=h.zero;subst this;exact hx
  | j+1,y,h=>by
    obtain⟨u,r,h1,h2⟩:=h.succ;exact cl u (Rc.inKeys cl hx h1) y r h2
theorem zeo {ln:Ln}{keys:List Str}(cl:∀k∈keys,∀l r,(l,r)∈ln k->l∈keys) (nr:NoR ln keys) {x y:Str}(hx:x∈keys) {j:Nat}(h:Rc ln x j y):j<keys.length:=by
  obtain⟨rs,w,rfl⟩:=h;obtain⟨vs,v0,vl,st⟩:=w.seq;have rch:∀a d,a+d<=rs.length->Rc ln (vs a) d (vs (a+d)):=by
    intro a d
    induction d with
    | zero=>intro _;exact Rc.refl
    | succ d ih=>
      intro hd;obtain⟨r,_,h2⟩:=st (a+d) (by lia);exact (ih (by lia)).step h2
  have mem:∀a,a<=rs.length->vs a∈keys:=fun a ha=>by
    have:=rch 0 a (by lia);rw[Nat.zero_add,v0] at this;exact this.inKeys cl hx
  have nd:((List.range (rs.length+1)).map vs).Nodup:=by
    rw[al90q,al177q];refine List.Pairwise.imp_of_mem ?_ (List.pairwise_lt_range (n:=rs.length+1));intro a b ha hb hab e;have hb:=al36q.mp hb;have:=rch a (b-a) (by lia);rw[show a+(b-a)=b by lia,←e] at this;exact nr _ (mem a (by lia)) (b-a) (by lia) this
  have:=za9 (us:=keys) nd fun z hz=>by
    obtain⟨a,ha,rfl⟩:=al32q.mp hz;exact mem a (by have:=al36q.mp ha;lia)
  rw[al0q,al44q] at this;lia
def putS {α:Type} [DecidableEq α] (M:List α) (x:α):List α:=if x∈M then M else M++[x]
theorem zgx {α:Type} [DecidableEq α] {M:List α}{x y:α}:y∈putS M x↔y∈M\/y=x:=by
  unfold putS;split
  · next h=>
    constructor
    · exact .inl
    · rintro (z | rfl)
      · exact z
      · exact h
  · rw[al25q,al85q]
theorem zds {α:Type} [DecidableEq α] {M:List α}{x:α}(h:M.Nodup):(putS M x).Nodup:=by
  unfold putS;split
  · exact h
  · next n=>
    rw[al102q];refine⟨h,by simp,fun a ha b hb e=>?_⟩;have:b=x:=by simpa using hb
    subst this;subst e;exact n ha
def mrg (M M2:List Str):List Str:=M2.foldl putS M
theorem zn3 {y:Str}:∀{M2 M:List Str},y∈mrg M M2↔y∈M\/y∈M2
  | [],M=>by simp[mrg]
  | x::r,M=>by
    show y∈mrg (putS M x) r↔_;rw[zn3,zgx,al21q,or_assoc]
theorem zh8:∀{M2 M:List Str},M.Nodup->(mrg M M2).Nodup
  | [],_,h=>h
  | x::r,M,h=>zh8 (M2:=r) (M:=putS M x) (zds h)
theorem zn4 {M:List Str}{x:Str}:putK (dV M tru) (Sum.inr x) (.bl true)=dV (putS M x) tru:=by
  unfold putS;split
  · next h=>
    rw[zkc h];refine zbe fun z _=>?_
    split<;>rfl
  · next h=>exact zni h
theorem zrq:∀{M2 M:List Str},zfz (dV M tru) (dV M2 tru)=dV (mrg M M2) tru
  | [],M=>rfl
  | x::r,M=>by
    show zfz (putK (dV M tru) (Sum.inr x) (.bl true)) (dV r tru)=_;rw[zn4,zrq];rfl
theorem zh9 {α:Type} [DecidableEq α]:∀{rs us:List α},rs.Nodup->(∀x∈rs,x∈us)->rs.length<=us.length
  | [],us,_,_=>al65q _
  | a::r,us,hn,hs=>by
    rw[al75q] at hn;have ha:=hs a (by simp);have:=zh9 (rs:=r) (us:=us.erase a) hn.2 fun x hx=>by
      have:x≠a:=fun z=>hn.1 (z▸hx)
      exact (List.mem_erase_of_ne this).mpr (hs x (al19q _ hx))
    rw[al131q ha] at this;have:=al149q ha;rw[al99q];lia
structure Dp (H:Hp) (pd:ty1q) (ob:Obj) (os:List Str) (bel:Str->List Str) (ad:Str->ty1q) (obs:Str->Obj):Prop where
  d:H pd=some (.frz ob (.dK (dV os fun k=>.ref (ad k))))
  e:∀k∈os,H (ad k)=some (.frz (obs k) (.dK (dV (bel k) tru)))
theorem Dp.same {H H':Hp}{pd:ty1q}{ob:Obj}{os:List Str}{bel:Str->List Str}{ad:Str->ty1q}{obs:Str->Obj}(h:Dp H pd ob os bel ad obs) (s:Same H H'):Dp H' pd ob os bel ad obs:=⟨s _ _ h.d,fun k hk=>s _ _ (h.e k hk)⟩
theorem zn5 {H:Hp}{a:ty1q}{ob:Obj}{M:List Str}(h:H a=some (.frz ob (.dK (dV M tru)))) (y:Str):DGet H a (.str y) (if y∈M then some (.bl true) else none):=by
  refine .inl ⟨_,Sum.inr y,.inr ⟨ob,h⟩,rfl,?_⟩
  by_cases c:y∈M
  · rw[al12q c,zbk c];rfl
  · rw[al8q c,zc8 c]
theorem zn6 {ts:TS}{D:Ends}{σ:St}{ad:Str->ty1q}{f:Str->List (Key×V)}:∀(L:List Str) (H:Hp),(∀k∈L,H (ad k)=some (.dK (f k)))->(∀k∈L,∀k'∈L,ad k=ad k'->k=k')->L.Nodup->
    (∀(H':Hp) (obs:Str->Obj),(∀k∈L,H' (ad k)=some (.frz (obs k) (.dK (f k))))->(∀b,(∀k∈L,b≠ad k)->H' b=H b)->Frzs ts D σ H')->Frzs ts D σ H
  | [],H,_,_,_,k=>k H (fun _=>default) (by simp) fun b _=>rfl
  | x::r,H,h,inj,nd,k=>by
    rw[al75q] at nd;have ne:∀z∈r,ad z≠ad x:=fun z hz e=>nd.1 ((inj z (al19q _ hz) x (by simp) e)▸hz)
    refine .frz (ad x) (f x) (h x (by simp)) fun ob=>?_
    refine zn6 r _ (fun z hz=>by rw[zo (ne z hz)];exact h z (al19q _ hz)) (fun a ha b hb=>inj a (al19q _ ha) b (al19q _ hb)) nd.2 fun H' obs h1 h2=>?_
    refine k H' (fun z=>if z=x then ob else obs z) (fun z hz=>?_) fun b hb=>?_
    · by_cases c:z=x
      · subst c;rw[al12q rfl,h2 (ad z) fun w hw=>al26q (ne w hw),zf]
      · rw[al8q c];exact h1 z ((al21q.mp hz).resolve_left c)
    · rw[h2 b fun w hw=>hb w (al19q _ hw),zo (hb x (by simp))]
def Drn (ln:Ln) (keys:List Str) (p:SS):Prop:=p.1∈keys/\(∃r,(p.2,r)∈ln p.1)/\¬∃t,Bel ln p.1 t/\Bel ln t p.2
def dP (ps:List SS):List (List Key×V):=ps.map fun p=>([Sum.inr p.1,Sum.inr p.2],V.bl true)
theorem zva (ps:List SS):((dP ps).map fun kv=>kv.1)=ps.map fun q=>[Sum.inr q.1,Sum.inr q.2]:=by unfold dP;rw[al73q];rfl
theorem zvb {ps:List SS}{p:SS}:putK (dP ps) [Sum.inr p.1,Sum.inr p.2] (.bl true)=dP (putS ps p):=by
  have inj:∀a b:SS,([Sum.inr a.1,Sum.inr a.2]:List Key) = [Sum.inr b.1,Sum.inr b.2]↔a=b:=fun a b=>by
    constructor
    · intro h;simp only [List.cons.injEq,Sum.inr.injEq,and_true] at h;exact Prod.ext h.1 h.2
    · rintro rfl;rfl
  have any:((dP ps).any fun kv=>decide (kv.1 = [Sum.inr p.1,Sum.inr p.2]))=decide (p∈ps):=by
    rw[al125q,al108q,al40q];unfold dP;constructor
    · rintro ⟨x,hx,e⟩;obtain⟨q,hq,rfl⟩:=al32q.mp hx;exact ((inj q p).mp (al16q e))▸hq
    · intro h;exact⟨_,al32q.mpr ⟨p,h,rfl⟩,al10q rfl⟩
  unfold putK putS;rw[any]
  by_cases c:p∈ps
  · rw[al12q (al10q c),al12q c];unfold dP;rw[al73q];refine al68q fun q _=>?_
    show (if ([Sum.inr q.1,Sum.inr q.2]:List Key) = [Sum.inr p.1,Sum.inr p.2] then _ else _)=_;split<;>rfl
  · rw[al8q (by rw[al17q c];exact al23q),al8q c];unfold dP;rw[al15q];rfl
theorem zia:∀{a b:List SS},a.Pairwise (fun x y=>ltPP x y=true)->b.Pairwise (fun x y=>ltPP x y=true)->(∀x,x∈a↔x∈b)->a=b
  | [],[],_,_,_=>rfl
  | [],y::b,_,_,h=>by have:=(h y).mpr (by simp);cases this
  | x::a,[],_,_,h=>by have:=(h x).mp (by simp);cases this
  | x::a,y::b,ha,hb,h=>by
    rw[al57q] at ha hb;have asym:∀{p q:SS},ltPP p q=true->ltPP q p=true->False:=fun h1 h2=>by
      have:=znw h1 h2;rw[zen] at this;cases this
    have e:x=y:=by
      rcases al21q.mp ((h x).mp (by simp)) with z | z
      · exact z
      · rcases al21q.mp ((h y).mpr (by simp)) with w | w
        · exact w.symm
        · exact (asym (ha.1 y w) (hb.1 x z)).elim
    subst e;have:a=b:=zia ha.2 hb.2 fun z=>by
      have:=h z;rw[al21q,al21q] at this;constructor
      · intro hz;rcases this.mp (.inr hz) with rfl | w
        · have:=ha.1 z hz;rw[zen] at this;cases this
        · exact w
      · intro hz;rcases this.mpr (.inr hz) with rfl | w
        · have:=hb.1 z hz;rw[zen] at this;cases this
        · exact w
    rw[this]
abbrev Tr:=Tie×ty1q
abbrev Rw:=Str->List (Str×Tr)
def rwOf (ts:List Tie) (z:List Tr):Rw:=fun k=>(z.filter fun p=>decide (p.1.k≠SAME/\labs ts p.1.a=k)).map fun p=>(labs ts p.1.b,p)
theorem zww {ts:List Tie}{z:List Tr}{k:Str}:zak ts z k=(rwOf ts z k).map fun q=>(q.1,q.2.2):=by unfold zak rwOf;rw[al73q];rfl
theorem rw_mem {ts:List Tie}{z:List Tr}{k l:Str}{b:Tr}:(l,b)∈rwOf ts z k↔b∈z/\b.1.k≠SAME/\labs ts b.1.a=k/\labs ts b.1.b=l:=by
  unfold rwOf;rw[al32q];constructor
  · rintro ⟨p,hp,e⟩;rw[al43q,al40q] at hp;cases e;exact⟨hp.1,hp.2.1,hp.2.2,rfl⟩
  · rintro ⟨h1,h2,h3,h4⟩;exact⟨b,by rw[al43q,al40q];exact⟨h1,h2,h3⟩,by rw[h4]⟩
abbrev Chn:=Int×Str×List Tr
inductive Up (R:Rw) (F:Str->IS->Prop):Str->Chn->Prop
  | bare {k:Str}{m:IS}(h:F k m):Up R F k (m.1,m.2,[])
  | up {k l:Str}{c:Chn}{b:Tr}(u:Up R F l c) (h:(l,b)∈R k):Up R F k (c.1+zaa b.1,c.2.1,c.2.2++[b])
inductive Dn (R:Rw) (F:Str->IS->Prop):Str->Chn->Prop
  | bare {k:Str}{m:IS}(h:F k m):Dn R F k (m.1,m.2,[])
  | dn {k l:Str}{c:Chn}{b:Tr}(u:Dn R F k c) (h:(l,b)∈R k):Dn R F l (c.1-zaa b.1,c.2.1,b::c.2.2)
def LoIs (R:Rw) (F:Str->IS->Prop) (k:Str) (m:Int):Prop:=(∃c,Up R F k c/\c.1=m)/\∀c,Up R F k c->c.1<=m
def HiIs (R:Rw) (F:Str->IS->Prop) (k:Str) (m:Int):Prop:=(∃c,Dn R F k c/\c.1=m)/\∀c,Dn R F k c->m<=c.1
variable {R:Rw}{F G:Str->IS->Prop}{k:Str}{keys:List Str}
theorem LoIs.uniq {m n:Int}(h:LoIs R F k m) (h':LoIs R F k n):m=n:=by
  obtain⟨⟨c,u,e⟩,a⟩:=h;obtain⟨⟨c',u',e'⟩,a'⟩:=h';have h1:=a _ u';have h2:=a' _ u;lia
theorem HiIs.uniq {m n:Int}(h:HiIs R F k m) (h':HiIs R F k n):m=n:=by
  obtain⟨⟨c,u,e⟩,a⟩:=h;obtain⟨⟨c',u',e'⟩,a'⟩:=h';have h1:=a _ u';have h2:=a' _ u;lia
theorem zwx {f:Str->Int}(h0:∀k m,F k m->k∈keys->m.1<=f k) (cl:∀k l b,(l,b)∈R k->k∈keys/\l∈keys) (h1:∀k l b,(l,b)∈R k->f l+zaa b.1<=f k) {c:Chn}(hk:k∈keys) (u:Up R F k c):c.1<=f k:=by
  induction u with
  | bare h=>exact h0 _ _ h hk
  | up u h ih=>
    have:=ih (cl _ _ _ h).2;have:=h1 _ _ _ h;show _+_<=_;lia
theorem zwy {f:Str->Int}(h0:∀k m,F k m->k∈keys->f k<=m.1) (cl:∀k l b,(l,b)∈R k->k∈keys/\l∈keys) (h1:∀k l b,(l,b)∈R k->f l<=f k-zaa b.1) {c:Chn}(hk:k∈keys) (u:Dn R F k c):f k<=c.1:=by
  induction u with
  | bare h=>exact h0 _ _ h hk
  | dn u h ih=>
    have:=ih (cl _ _ _ h).1;have:=h1 _ _ _ h;show _<=_-_;lia
theorem zs2 {d:Chn}(hd:Dn R G k d):∀{c:Chn},Up R F k c->d.1<c.1->∃k' c' m,(k'=k\/∃l b,(l,b)∈R k')/\Up R F k' c'/\G k' m/\m.1<c'.1:=by
  induction hd with
  | bare h=>exact fun u hl=>⟨_,_,_,.inl rfl,u,h,hl⟩
  | @dn k l c b u h ih=>
    intro c' u' hl;have hl:c.1-zaa b.1<c'.1:=hl;obtain⟨k',c'',m,h1,h2⟩:=ih (u'.up h) (show c.1<c'.1+zaa b.1 by lia);refine⟨k',c'',m,?_,h2⟩;rcases h1 with rfl | h1
    · exact .inr ⟨_,_,h⟩
    · exact .inr h1
theorem zwz {f g:Str->Int}(cl:∀k l b,(l,b)∈R k->k∈keys/\l∈keys) (hf:∀k∈keys,LoIs R F k (f k)) (hg:∀k∈keys,HiIs R G k (g k)):(∃k∈keys,g k<f k)↔∃k∈keys,∃c m,Up R F k c/\G k m/\m.1<c.1:=by
  constructor
  · rintro ⟨k,hk,hl⟩;obtain⟨⟨c,u,e⟩,_⟩:=hf k hk;obtain⟨⟨d,v,e'⟩,_⟩:=hg k hk;obtain⟨k',c',m,h1,h2,h3,h4⟩:=zs2 v u (by lia);refine⟨k',?_,c',m,h2,h3,h4⟩;rcases h1 with rfl | ⟨l,b,h⟩
    · exact hk
    · exact (cl _ _ _ h).1
  · rintro ⟨k,hk,c,m,u,h,hl⟩;have h1:=(hf k hk).2 _ u;have h2:=(hg k hk).2 _ (Dn.bare h);exact⟨k,hk,by have h2:g k<=m.1:=h2;lia⟩
theorem Rc.cons {ln:Ln}{k l:Str}{r:ty1q}(e:(l,r)∈ln k):∀{n:Nat}{s:Str},Rc ln l n s->Rc ln k (n+1) s
  | 0,s,h=>by rw[h.zero];exact Rc.step Rc.refl e
  | n+1,s,h=>by
    obtain⟨u,r',h1,h2⟩:=h.succ;exact (Rc.cons e h1).step h2
theorem Rc.short {ln:Ln}{keys:List Str}(cl:∀k∈keys,∀l r,(l,r)∈ln k->l∈keys) (nr:NoR ln keys) {k s:Str}{n:Nat}(hk:k∈keys) (h:Rc ln k n s):n<keys.length:=by
  obtain⟨rs,w,e⟩:=h;obtain⟨vs,v0,v1,st⟩:=w.seq;rw[e] at v1 st;have hk:∀i,i<=n->vs i∈keys:=by
    intro i
    induction i with
    | zero=>intro _;rw[v0];exact hk
    | succ i ih=>
      intro hi;obtain⟨r,_,q⟩:=st i (by lia);exact cl _ (ih (by lia)) _ _ q
  have go:∀i d,i+d<=n->Rc ln (vs i) d (vs (i+d)):=by
    intro i d
    induction d with
    | zero=>intro _;exact Rc.refl
    | succ d ih=>
      intro hi;obtain⟨r,_,q⟩:=st (i+d) (by lia);exact (ih (by lia)).step q
  have main:∀i j,i<j->j<=n->vs i≠vs j:=fun i j hij hj e=>by
    have:=go i (j-i) (by lia);rw[show i+(j-i)=j by lia,←e] at this;exact nr _ (hk i (by lia)) _ (by lia) this
  have nd:((List.range (n+1)).map vs).Nodup:=zbz fun i j hi hj e=>by
    rcases al101q i j with c | c | c
    · exact absurd e (main i j c (by lia))
    · exact c
    · exact absurd e.symm (main j i c (by lia))
  have:=za9 (us:=keys) nd fun x hx=>by
    obtain⟨i,hi,rfl⟩:=al32q.mp hx;exact hk i (by have:=al36q.mp hi;lia)
  rw[al0q,al44q] at this;lia
def lnR (R:Rw):Ln:=fun k=>(R k).map fun q=>(q.1,q.2.2)
theorem zdt {l:Str}{b:Tr}(h:(l,b)∈R k):(l,b.2)∈lnR R k:=al32q.mpr ⟨(l,b),h,rfl⟩
theorem zvc {l:Str}{r:ty1q}(h:(l,r)∈lnR R k):∃t,(l,(t,r))∈R k:=by
  obtain⟨⟨l',t,r'⟩,h',e⟩:=al32q.mp h;cases e;exact⟨t,h'⟩
theorem Up.rc {c:Chn}(u:Up R F k c):∃s,Rc (lnR R) k c.2.2.length s:=by
  induction u with
  | bare h=>exact⟨_,Rc.refl⟩
  | up u h ih=>
    obtain⟨s,q⟩:=ih;refine⟨s,?_⟩;show Rc _ _ (_++[_]).length _;rw[al18q];exact Rc.cons (zdt h) q
theorem Dn.rc {c:Chn}(cl:∀k l b,(l,b)∈R k->k∈keys/\l∈keys) (u:Dn R F k c) (hk:k∈keys):∃s∈keys,Rc (lnR R) s c.2.2.length k:=by
  induction u with
  | bare h=>exact⟨_,hk,Rc.refl⟩
  | dn u h ih=>
    obtain⟨s,hs,q⟩:=ih (cl _ _ _ h).1;exact⟨s,hs,q.step (zdt h)⟩
theorem zrr (cl:∀k l b,(l,b)∈R k->k∈keys/\l∈keys):∀k∈keys,∀l r,(l,r)∈lnR R k->l∈keys:=fun k _ l r h=>by
  obtain⟨t,h⟩:=zvc h;exact (cl _ _ _ h).2
theorem Up.short {c:Chn}(cl:∀k l b,(l,b)∈R k->k∈keys/\l∈keys) (nr:NoR (lnR R) keys) (hk:k∈keys) (u:Up R F k c):c.2.2.length<keys.length:=by
  obtain⟨s,q⟩:=u.rc;exact q.short (zrr cl) nr hk
theorem Dn.short {c:Chn}(cl:∀k l b,(l,b)∈R k->k∈keys/\l∈keys) (nr:NoR (lnR R) keys) (hk:k∈keys) (u:Dn R F k c):c.2.2.length<keys.length:=by
  obtain⟨s,hs,q⟩:=u.rc cl hk;exact q.short (zrr cl) nr hs
structure Rung (R:Rw) (F:Str->IS->Prop) (keys:List Str) (n:Nat) (M:List Str) (v:Str->Chn):Prop where
  nd:M.Nodup
  sub:∀k∈M,k∈keys
  is:∀k∈M,Up R F k (v k)/\(v k).2.2.length=n
  all:∀k∈keys,∀c,Up R F k c->c.2.2.length=n->k∈M/\c.1<=(v k).1
theorem Rung.zero {v:Str->Chn}(nd:keys.Nodup) (h:∀k∈keys,(v k).2.2 = []/\F k ((v k).1,(v k).2.1)) (hu:∀k m m',F k m->F k m'->m.1=m'.1):Rung R F keys 0 keys v:=by
  refine⟨nd,fun _ h=>h,fun k hk=>⟨?_,by rw[(h k hk).1];rfl⟩,fun k hk c u e=>⟨hk,?_⟩⟩
  · have:=Up.bare (R:=R) (h k hk).2;rw[←(h k hk).1] at this;exact this
  · cases u with
    | bare h'=>exact Int.le_of_eq (hu _ _ _ h' (h k hk).2)
    | up u h'=>
      have e:(_++[_]).length=0:=e;simp at e
structure Grw (R:Rw) (M:List Str) (v:Str->Chn) (k:Str) (z:List (Str×Tr)) (has:Prop) (c:Chn):Prop where
  no:¬has->∀l b,(l,b)∈z->l ∉ M
  yes:has->∃l b,(l,b)∈z/\l∈M/\c=((v l).1+zaa b.1,(v l).2.1,(v l).2.2++[b])
  max:has->∀l b,(l,b)∈z->l∈M->(v l).1+zaa b.1<=c.1
theorem Rung.next {n:Nat}{M M':List Str}{v v':Str->Chn}(cl:∀k l b,(l,b)∈R k->k∈keys/\l∈keys) (r:Rung R F keys n M v) (nd:M'.Nodup) (sub:∀k∈M',k∈keys) (h:∀k∈keys,Grw R M v k (R k) (k∈M') (v' k)):Rung R F keys (n+1) M' v':=by
  refine⟨nd,sub,fun k hk=>?_,fun k hk c u e=>?_⟩
  · obtain⟨l,b,h1,h2,h3⟩:=(h k (sub k hk)).yes hk;obtain⟨u,e⟩:=r.is l h2;rw[h3];refine⟨u.up h1,?_⟩;show (_++[_]).length=_;rw[al18q,e];rfl
  · cases u with
    | bare h'=>exact absurd e (by show ¬([]:List Tr).length=n+1;simp)
    | @up _ l c b u h'=>
      have e:(c.2.2++[b]).length=n+1:=e;rw[al18q] at e;have e:c.2.2.length+1=n+1:=e;obtain⟨h1,h2⟩:=r.all l (cl _ _ _ h').2 c u (by lia);have hM:k∈M':=al34q fun z=>(h k hk).no z l b h' h1
      refine⟨hM,?_⟩;have:=(h k hk).max hM l b h' h1;show c.1+_<=_;lia
theorem Rung.stop {n:Nat}{v:Str->Chn}(cl:∀k l b,(l,b)∈R k->k∈keys/\l∈keys) (r:Rung R F keys n [] v):∀k∈keys,∀c,Up R F k c->c.2.2.length<n:=by
  have no:∀k∈keys,∀c,Up R F k c->c.2.2.length≠n:=fun k hk c u e=>al64q (r.all k hk c u e).1
  intro k hk c u
  induction u with
  | bare h=>
    have:=no _ hk _ (Up.bare h);show 0<n;have:(0:Nat)≠n:=this;lia
  | @up k l c b u h ih=>
    have h1:=ih (cl _ _ _ h).2;have h2:=no _ hk _ (u.up h);have h2:(c.2.2++[b]).length≠n:=h2;show (c.2.2++[b]).length<n;rw[al18q] at h2 ⊢;have h2:c.2.2.length+1≠n:=h2;show c.2.2.length+1<n;lia
def ChAt (H0 H:Hp) (a:ty1q) (c:Chn):Prop:=∃l,H a=some (.tup [.int c.1,.str c.2.1,.ref l])/\H l=some (.lst (c.2.2.map fun p=>V.ref p.2))/\H0 l=none
def cdO (fz:Bool) (o:Obj) (keys:List Str) (ad:Str->ty1q):HO:=if fz then .frz o (.dK (dV keys fun k=>.ref (ad k))) else .dK (dV keys fun k=>.ref (ad k))
section
variable {H0 H H':Hp}{a pd:ty1q}{c:Chn}
theorem ChAt.same (h:ChAt H0 H a c) (s:Same H H'):ChAt H0 H' a c:=by
  obtain⟨l,h1,h2,h3⟩:=h;exact⟨l,s _ _ h1,s _ _ h2,h3⟩
theorem ChAt.put {kv:List (Key×V)}{o:HO}(h:ChAt H0 H a c) (hd:H pd=some (.dK kv)):ChAt H0 (upd H pd o) a c:=by
  obtain⟨l,h1,h2,h3⟩:=h;exact⟨l,by rw[zo (zcx h1 hd (by intro z;cases z))];exact h1,by rw[zo (zcx h2 hd (by intro z;cases z))];exact h2,h3⟩
theorem ChAt.any (h:ChAt H0 H a c):ChAt (fun _=>none) H a c:=by
  obtain⟨l,h1,h2,_⟩:=h;exact⟨l,h1,h2,rfl⟩
theorem ChAt.old {H1:Hp}(h:ChAt H1 H a c) (s:Same H0 H1):ChAt H0 H a c:=by
  obtain⟨l,h1,h2,h3⟩:=h;exact⟨l,h1,h2,s.free h3⟩
end
theorem zqa {H:Hp}{pd:ty1q}{ob:Obj}{keys:List Str}{f:Str->V}(h:H pd=some (.frz ob (.dK (dV keys f)))) {k:Str}(hk:k ∉ keys):DGet H pd (.str k) none:=.inl ⟨_,Sum.inr k,.inr ⟨ob,h⟩,rfl,(zc8 hk).symm⟩
theorem zcd {ts:List Tie}{z:List Tr}:zak ts z=lnR (rwOf ts z):=funext fun k=>zww
theorem zvd {ts:List Tie}{z:List Tr}{k:Str}:(rwOf ts z k).length<=z.length:=by
  unfold rwOf;rw[al0q];exact al59q _ _
theorem zn7 {K:ty0q}{H:Hp}{p pu pt:ty1q}{x y:V}{us:List Str}{ads:List ty1q}{ts:List Tie}(h:Tel K H p pu pt x y us ads ts) {k l:Str}{b:Tr}(hb:(l,b)∈rwOf ts (ts.zip ads) k):H b.2=some (.tup (tieV b.1))/\TOk us b.1:=by
  have hz:=(rw_mem.mp hb).1;obtain⟨i,hi⟩:=al29q.mp hz;obtain⟨h1,h2⟩:=al45q.mp hi;exact⟨zaf h.tt h2 (by rw[al4q,h1];rfl),h.ok _ (al6q h1)⟩
theorem zn8 {us:List Str}{ts:List Tie}{ads:List ty1q}(ht:∀t∈ts,t.a∈us/\t.b∈us):∀k l b,(l,b)∈rwOf ts (ts.zip ads) k->k∈zn ts (srt us)/\l∈zn ts (srt us):=fun k l b h=>by
  obtain⟨h1,h2,h3,h4⟩:=rw_mem.mp h;have hm:=(al91q (a:=b.1) (b:=b.2) h1).1;rw[←h3,←h4];exact⟨zcb ht (ht _ hm).1,zcb ht (ht _ hm).2⟩
theorem zn9 {R:Rw}{k l:Str}{r:ty1q}{j:Nat}(h:(lnR R k)[j]? = some (l,r)):∃t,(R k)[j]? = some (l,(t,r)):=by
  unfold lnR at h;rw[al4q] at h;cases e:(R k)[j]? with
  | none=>rw[e] at h;cases h
  | some q=>
    rw[e] at h;obtain⟨l',t,r'⟩:=q;cases h;exact⟨t,rfl⟩
theorem zi8 {R:Rw}{k:Str}:(lnR R k).length=(R k).length:=by unfold lnR;rw[al0q]
section
variable {R:Rw}{M:List Str}{v:Str->Chn}{k:Str}{z:List (Str×Tr)}{has has':Prop}{c c':Chn}{l:Str}{b:Tr}
theorem Grw.nil (h:¬has):Grw R M v k [] has c:=⟨fun _ l b h=>(al64q h).elim,fun h'=>absurd h' h,fun h'=>absurd h' h⟩
theorem za5 {α:Type}{xs:List α}{x y:α}(h:y∈xs++[x]):y∈xs\/y=x:=by
  rcases al25q.mp h with h | h
  · exact .inl h
  · exact .inr (by simpa using h)
theorem Grw.skip (h:Grw R M v k z has c) (hl:l ∉ M):Grw R M v k (z++[(l,b)]) has c:=by
  refine⟨fun hn l' b' h'=>?_,fun hy=>?_,fun hy l' b' h' hm=>?_⟩
  · rcases za5 h' with h' | h'
    · exact h.no hn l' b' h'
    · cases h';exact hl
  · obtain⟨l',b',h1,h2⟩:=h.yes hy;exact⟨l',b',al35q _ h1,h2⟩
  · rcases za5 h' with h' | h'
    · exact h.max hy l' b' h' hm
    · cases h';exact absurd hm hl
theorem Grw.stay (h:Grw R M v k z has c) (hh:has) (le:(v l).1+zaa b.1<=c.1):Grw R M v k (z++[(l,b)]) has c:=by
  refine⟨fun hn=>absurd hh hn,fun hy=>?_,fun hy l' b' h' hm=>?_⟩
  · obtain⟨l',b',h1,h2⟩:=h.yes hy;exact⟨l',b',al35q _ h1,h2⟩
  · rcases za5 h' with h' | h'
    · exact h.max hy l' b' h' hm
    · cases h';exact le
theorem Grw.take (h:Grw R M v k z has c) (hl:l∈M) (hh:has') (ge:has->c.1<(v l).1+zaa b.1) (e:c'=((v l).1+zaa b.1,(v l).2.1,(v l).2.2++[b])):Grw R M v k (z++[(l,b)]) has' c':=by
  subst e;refine⟨fun hn=>absurd hh hn,fun hy=>⟨l,b,by simp,hl,rfl⟩,fun hy l' b' h' hm=>?_⟩;show _<=(v l).1+zaa b.1;rcases za5 h' with h' | h'
  · by_cases hc:has
    · have:=h.max hc l' b' h' hm;have:=ge hc;lia
    · exact absurd hm (h.no hc l' b' h')
  · cases h';exact al111q _
theorem Grw.congr (h:Grw R M v k z has c) (e:has↔has') (e':c=c'):Grw R M v k z has' c':=by
  subst e';exact⟨fun hn=>h.no fun z=>hn (e.mp z),fun hy=>h.yes (e.mpr hy),fun hy=>h.max (e.mpr hy)⟩
end
structure UpSt (R:Rw) (F:Str->IS->Prop) (keys done:List Str) (v:Str->Chn):Prop where
  is:∀k∈keys,Up R F k (v k)
  ge:∀k∈keys,∀m,F k m->m.1<=(v k).1
  le:∀k∈done,∀l b,(l,b)∈R k->(v l).1+zaa b.1<=(v k).1
structure DnSt (R:Rw) (F:Str->IS->Prop) (keys done:List Str) (v:Str->Chn):Prop where
  is:∀k∈keys,Dn R F k (v k)
  ge:∀k∈keys,∀m,F k m->(v k).1<=m.1
  le:∀k∈done,∀l b,(l,b)∈R k->(v l).1<=(v k).1-zaa b.1
section
variable {R:Rw}{F:Str->IS->Prop}{keys done:List Str}{v:Str->Chn}
theorem UpSt.lo (h:UpSt R F keys done v) (cl:∀k l b,(l,b)∈R k->k∈keys/\l∈keys) (all:∀k∈keys,k∈done) {k:Str}(hk:k∈keys):LoIs R F k (v k).1:=
  ⟨⟨_,h.is k hk,rfl⟩,fun c u=>zwx (f:=fun z=>(v z).1) (keys:=keys) (fun k m hf hk=>h.ge k hk m hf) cl (fun k l b hb=>h.le k (all k (cl _ _ _ hb).1) l b hb) hk u⟩
theorem DnSt.hi (h:DnSt R F keys done v) (cl:∀k l b,(l,b)∈R k->k∈keys/\l∈keys) (all:∀k∈keys,k∈done) {k:Str}(hk:k∈keys):HiIs R F k (v k).1:=
  ⟨⟨_,h.is k hk,rfl⟩,fun c u=>zwy (f:=fun z=>(v z).1) (keys:=keys) (fun k m hf hk=>h.ge k hk m hf) cl (fun k l b hb=>h.le k (all k (cl _ _ _ hb).1) l b hb) hk u⟩
end
theorem lowF_le {ts:List Tie}{fs:List Fnd}{lo y:Int}{k:Str}:lowF ts fs lo k<=y↔lo<=y/\∀f∈fs,labs ts f.u=k->f.lo<=y:=by
  unfold lowF
  induction fs generalizing lo with
  | nil=>simp
  | cons f fs ih=>
    rw[List.foldl_cons,ih]
    by_cases e:labs ts f.u=k
    · rw[al12q e];unfold mxI;constructor
      · rintro ⟨h1,h2⟩;refine⟨by split at h1<;>lia,fun g hg e'=>?_⟩;rcases al21q.mp hg with rfl | hg
        · split at h1<;>lia
        · exact h2 g hg e'
      · rintro ⟨h1,h2⟩;have:=h2 f (by simp) e;exact⟨by split<;>lia,fun g hg e'=>h2 g (al19q _ hg) e'⟩
    · rw[al8q e];constructor
      · rintro ⟨h1,h2⟩;refine⟨h1,fun g hg e'=>?_⟩;rcases al21q.mp hg with rfl | hg
        · exact absurd e' e
        · exact h2 g hg e'
      · rintro ⟨h1,h2⟩;exact⟨h1,fun g hg e'=>h2 g (al19q _ hg) e'⟩
theorem highF_ge {ts:List Tie}{fs:List Fnd}{hi y:Int}{k:Str}:y<=zp5 ts fs hi k↔y<=hi/\∀f∈fs,labs ts f.u=k->y<=f.hi:=by
  unfold zp5
  induction fs generalizing hi with
  | nil=>simp
  | cons f fs ih=>
    rw[List.foldl_cons,ih]
    by_cases e:labs ts f.u=k
    · rw[al12q e];unfold mnI;constructor
      · rintro ⟨h1,h2⟩;refine⟨by split at h1<;>lia,fun g hg e'=>?_⟩;rcases al21q.mp hg with rfl | hg
        · split at h1<;>lia
        · exact h2 g hg e'
      · rintro ⟨h1,h2⟩;have:=h2 f (by simp) e;exact⟨by split<;>lia,fun g hg e'=>h2 g (al19q _ hg) e'⟩
    · rw[al8q e];constructor
      · rintro ⟨h1,h2⟩;refine⟨h1,fun g hg e'=>?_⟩;rcases al21q.mp hg with rfl | hg
        · exact absurd e' e
        · exact h2 g hg e'
      · rintro ⟨h1,h2⟩;exact⟨h1,fun g hg e'=>h2 g (al19q _ hg) e'⟩
def FlF (ts:List Tie) (lo:Int) (z:Fz) (k:Str) (m:IS):Prop:=MaxP (loL lo (fwOf ts z k)) m
def CeF (ts:List Tie) (hi:Int) (z:Fz) (k:Str) (m:IS):Prop:=MinP (hiL hi (fwOf ts z k)) m
theorem zrs {ts:List Tie}{fs:List Fnd}{af:List ty1q}{k:Str}(hl:af.length=fs.length) (P:Fnd->Prop):(∀p∈fwOf ts (fs.zip af) k,P p.1)↔∀f∈fs,labs ts f.u=k->P f:=by
  unfold fwOf;constructor
  · intro h f hf e;obtain⟨b,hb⟩:=zf4 (bs:=af) hl f hf;exact h (f,b) (al43q.mpr ⟨hb,al10q e⟩)
  · intro h p hp;rw[al43q,al40q] at hp;exact h p.1 (al91q (a:=p.1) (b:=p.2) hp.1).1 hp.2
theorem FlF.low {ts:List Tie}{fs:List Fnd}{af:List ty1q}{lo:Int}{k:Str}{m:IS}(hl:af.length=fs.length) (h:FlF ts lo (fs.zip af) k m):m.1=lowF ts fs lo k:=by
  have h1:=fun y=>zsw h y
  have h2:=fun y=>(h1 y).trans ((and_congr_right fun _=>zrs hl (fun f=>f.lo<=y)).trans lowF_le.symm)
  have a:=(h2 m.1).mp (al111q _);have b:=(h2 (lowF ts fs lo k)).mpr (al111q _);lia
theorem CeF.high {ts:List Tie}{fs:List Fnd}{af:List ty1q}{hi:Int}{k:Str}{m:IS}(hl:af.length=fs.length) (h:CeF ts hi (fs.zip af) k m):m.1=zp5 ts fs hi k:=by
  have h1:=fun y=>zsx h y
  have h2:=fun y=>(h1 y).trans ((and_congr_right fun _=>zrs hl (fun f=>y<=f.hi)).trans highF_ge.symm)
  have a:=(h2 m.1).mp (al111q _);have b:=(h2 (zp5 ts fs hi k)).mpr (al111q _);lia
section
variable {R:Rw}{F:Str->IS->Prop}{keys done:List Str}{v:Str->Chn}{u:Str}{c:Chn}
theorem UpSt.set (h:UpSt R F keys done v) (hu:u ∉ done) (low:∀k∈done,∀l b,(l,b)∈R k->l≠u) (up:Up R F u c) (gt:(v u).1<=c.1):UpSt R F keys done (fun z=>if z=u then c else v z):=by
  refine⟨fun k hk=>?_,fun k hk m hm=>?_,fun k hk l b hb=>?_⟩
  · by_cases e:k=u
    · rw[al12q e,e];exact up
    · rw[al8q e];exact h.is k hk
  · by_cases e:k=u
    · rw[al12q e];have:=h.ge k hk m hm;rw[e] at this;lia
    · rw[al8q e];exact h.ge k hk m hm
  · rw[al8q (low k hk l b hb),al8q (fun z=>hu (z▸hk):¬k=u)];exact h.le k hk l b hb
theorem UpSt.snoc (h:UpSt R F keys done v) (hz:∀l b,(l,b)∈R u->(v l).1+zaa b.1<=(v u).1):UpSt R F keys (done++[u]) v:=
  ⟨h.is,h.ge,fun k hk l b hb=>by
    rcases za5 hk with z | z
    · exact h.le k z l b hb
    · rw[z] at hb ⊢;exact hz l b hb⟩
theorem DnSt.set (h:DnSt R F keys done v) (hu:u ∉ done) (dn:Dn R F u c) (lt:c.1<=(v u).1):DnSt R F keys done (fun z=>if z=u then c else v z):=by
  refine⟨fun k hk=>?_,fun k hk m hm=>?_,fun k hk l b hb=>?_⟩
  · by_cases e:k=u
    · rw[al12q e,e];exact dn
    · rw[al8q e];exact h.is k hk
  · by_cases e:k=u
    · rw[al12q e];have:=h.ge k hk m hm;rw[e] at this;lia
    · rw[al8q e];exact h.ge k hk m hm
  · have h1:=h.le k hk l b hb;rw[al8q (fun z=>hu (z▸hk):¬k=u)]
    by_cases e:l=u
    · rw[al12q e];rw[e] at h1;lia
    · rw[al8q e];exact h1
theorem DnSt.snoc (h:DnSt R F keys done v) (hz:∀l b,(l,b)∈R u->(v l).1<=(v u).1-zaa b.1):DnSt R F keys (done++[u]) v:=
  ⟨h.is,h.ge,fun k hk l b hb=>by
    rcases za5 hk with z | z
    · exact h.le k z l b hb
    · rw[z] at hb ⊢;exact hz l b hb⟩
end
theorem Bn.keep {H H':Hp}{pc pd:ty1q}{ob:Obj}{kv:List (Key×V)}{keys:List Str}{ln:Ln}{ad:Str->ty1q}{bs:Str->List ty1q}(b:Bn H pd ob keys ln ad bs) (hpc:H pc=some (.dK kv)) (kp:∀b o,b≠pc->H b=some o->H' b=some o):Bn H' pd ob keys ln ad bs:=
  ⟨kp _ _ (zcx b.d hpc (by intro z;cases z)) b.d,fun k hk=>kp _ _ (zcx (b.l k hk) hpc (by intro z;cases z)) (b.l k hk),fun k hk=>Paired.mapP (b.e k hk) fun _ _ h=>kp _ _ (zcx h hpc (by intro z;cases z)) h⟩
theorem zoa {ln:Ln}{keys os:List Str}(O:Ord ln keys os) {i:Nat}{u:Str}(hu:os[i]? = some u):u ∉ os.take i/\(∀l r,(l,r)∈ln u->l≠u)/\∀k∈os.take i,∀l r,(l,r)∈ln k->l≠u:=by
  have hi:=zaj hu;have fr:u ∉ os.take i:=by
    have:=za3 O.nd i hi;rw[show os[i]=u from (al3q.mp hu).2] at this;exact this
  refine⟨fr,fun l r h z=>fr (z▸O.low i u hu l r h),fun k hk l r h z=>?_⟩;obtain⟨j,hj⟩:=al29q.mp hk;rw[List.getElem?_take] at hj;split at hj
  · have:=O.low j k hj l r h;rw[z] at this;exact fr ((List.take_prefix_take_left (al162q (by assumption))).subset this)
  · cases hj
theorem zs3 {ln:Ln}{keys os:List Str}(O:Ord ln keys os) {i:Nat}{u:Str}(hu:os.reverse[i]? = some u):u ∉ os.reverse.take i/\∀l r,(l,r)∈ln u->l ∉ os.reverse.take i/\l≠u:=by
  have hi:=zaj hu;rw[al165q] at hi;rw[al180q hi] at hu;have lo:=zoa O hu;have dis:∀x∈os.take (os.length-1-i+1),x ∉ os.reverse.take i:=fun x hx hr=>by
    rw[List.take_reverse,al186q] at hr;have e:os.length-1-i+1=os.length-i:=by lia
    rw[e] at hx;have nd:=O.nd;rw[←al181q (os.length-i) os,al102q] at nd;exact nd.2.2 x hx x hr rfl
  have tk:os.take (os.length-1-i+1)=os.take (os.length-1-i)++[u]:=by rw[al9q,hu];rfl
  rw[tk] at dis;exact⟨dis u (by simp),fun l r h=>⟨dis l (al35q _ (O.low _ u hu l r h)),lo.2.1 l r h⟩⟩
def zw0 (R:Rw) (F G:Str->IS->Prop) (keys:List Str):Prop:=∀k∈keys,∀c m,Up R F k c->G k m->c.1<=m.1
def zve (R:Rw) (F G:Str->IS->Prop) (keys:List Str) (c:Chn) (w:Str):Prop:=∃k m,k∈keys/\Up R F k c/\G k m/\m.2=w/\m.1<c.1/\∀k'∈keys,∀c' m',Up R F k' c'->G k' m'->c'.2.2.length<c.2.2.length->c'.1<=m'.1
def zqb (H:Hp) (q:ty1q) (c:Chn) (w:Str):Prop:=∃l,H q=some (.tup [.str c.2.1,.ref l,.str w])/\H l=some (.lst (c.2.2.map fun p=>V.ref p.2))
def zf6 (lo hi:Int) (us:List Str) (ads:List ty1q) (ts:List Tie) (af:List ty1q) (fs:List Fnd):Prop:=zw0 (rwOf ts (ts.zip ads)) (FlF ts lo (fs.zip af)) (CeF ts hi (fs.zip af)) (zn ts (srt us))
def zib (lo hi:Int) (us:List Str) (ads:List ty1q) (ts:List Tie) (af:List ty1q) (fs:List Fnd) (c:Chn) (w:Str):Prop:=zve (rwOf ts (ts.zip ads)) (FlF ts lo (fs.zip af)) (CeF ts hi (fs.zip af)) (zn ts (srt us)) c w
section
variable {lo hi:Int}{us:List Str}{ads:List ty1q}{ts:List Tie}{af:List ty1q}{fs:List Fnd}{f g:Str->Int}
theorem zqc (hts:∀t∈ts,t.a∈us/\t.b∈us) (hf:∀k∈zn ts (srt us),LoIs (rwOf ts (ts.zip ads)) (FlF ts lo (fs.zip af)) k (f k)) (hg:∀k∈zn ts (srt us),HiIs (rwOf ts (ts.zip ads)) (CeF ts hi (fs.zip af)) k (g k)) (no:zf6 lo hi us ads ts af fs):∀k∈zn ts (srt us),f k<=g k:=fun k hk=>by
  refine Int.not_lt.mp fun z=>?_
  obtain⟨k',hk',c,m,u,h,hl⟩:=(zwz (zn8 hts) hf hg).mp ⟨k,hk,z⟩;have:=no k' hk' c m u h;lia
end
theorem zob {ln:Ln}{keys:List Str}(cl:∀k∈keys,∀l r,(l,r)∈ln k->l∈keys) (nr:NoR ln keys) {x e:Str}(hx:x∈keys):∀(n m:Nat) (z:Str),keys.length-m<=n->Bel ln x z->Rc ln z m e->∃w,Drn ln keys (x,w)/\(w=e\/Bel ln w e)
  | n,m,z,hn,hb,hr=>by
    have zk:z∈keys:=by obtain⟨j,_,h⟩:=hb;exact h.inKeys cl hx
    have sm:=zeo cl nr zk hr
    by_cases c:∃t,Bel ln x t/\Bel ln t z
    · obtain⟨t,h1,j,j1,h2⟩:=c;have tk:t∈keys:=by obtain⟨i,_,h⟩:=h1;exact h.inKeys cl hx
      have hr2:=zrp h2 hr;have sm2:=zeo cl nr tk hr2
      match n,hn with
      | 0,hn=>lia
      | n+1,hn=>exact zob cl nr hx n (j+m) t (by lia) h1 hr2
    · refine⟨z,⟨hx,?_,c⟩,?_⟩
      · obtain⟨l,r,hl,q⟩:=bel_iff.mp hb;rcases q with rfl | q
        · exact⟨r,hl⟩
        · exact (c ⟨l,bel_iff.mpr ⟨l,r,hl,.inl rfl⟩,q⟩).elim
      · cases m with
        | zero=>exact .inl hr.zero.symm
        | succ m=>exact .inr ⟨m+1,by lia,hr⟩
theorem zs4 {ln:Ln}{keys:List Str}(cl:∀k∈keys,∀l r,(l,r)∈ln k->l∈keys) (nr:NoR ln keys) {x e:Str}(hx:x∈keys) (h:Bel ln x e):∃w,Drn ln keys (x,w)/\(w=e\/Bel ln w e):=
  zob cl nr hx keys.length 0 e (by lia) h Rc.refl
theorem zoc {ws:List Str}{c:Str}(h:ws[ws.length-1]? = some c):atI (ws.map V.str) (-1)=some (.str c):=by
  have hp:0<ws.length:=by have:=(al3q.mp h).1;lia
  have e:(ws.map V.str)[if (0:Nat)=0 then (ws.map V.str).length-1 else 0-1]? = some (V.str c):=by rw[al12q rfl,al0q,al4q,h];rfl
  exact zpz (i:=0) (by rw[al0q];exact hp) e
end Dm
namespace L2
open PySem PySem.Spec PyProof.Rows
end L2
namespace Dm
open PySem PySem.NumText L2
def zod (x:Str):List Str:=(Txt.split x " ").filter fun y=>!decide (y = "")
def zoe:List Str->Bool
  | []=>true
  | y::_=>Txt.startswith y ";"
theorem zqd (x:Str) (ks:List Str):inV (.str x) (ks.map V.str)=decide (x∈ks):=by
  unfold inV
  induction ks with
  | nil=>rfl
  | cons k r ih=>
    rw[al79q,al119q,ih];show ((k == x)||decide (x∈r))=_
    by_cases h:k=x
    · subst h;simp
    · rw[al67q.mpr h,Bool.false_or];exact al120q.mpr ⟨fun z=>al19q _ z,fun z=>(al21q.mp z).resolve_left fun e=>h e.symm⟩
structure PassLn (y:Str):Prop where
  pass:zoe (zod y)=true
  feed:10 ∉ co y
  len:y.length<=900
instance (y:Str):Decidable (PassLn y):=decidable_of_iff (zoe (zod y)=true/\10 ∉ co y/\y.length<=900) ⟨fun h=>⟨h.1,h.2.1,h.2.2⟩,fun h=>⟨h.pass,h.feed,h.len⟩⟩
theorem Lv.uniq {ln:Ln}{M:List Str}{lv lv':Str->Nat}{n n':Nat}(h:Lv ln M lv n) (h':Lv ln M lv' n'):∀(k:Nat) (x:Str),x∈M->lv x=k->lv' x=k:=by
  intro k
  induction k using Nat.strongRecOn with
  | _ k ih=>
    intro x hx e;have key:∀l r,(l,r)∈ln x->lv l=lv' l:=fun l r hl=>by
      have hm:=h.mx x hx;have mem:((lv l:Int)+1)∈lvN lv (ln x):=al32q.mpr ⟨(l,r),hl,rfl⟩;have hlt:lv l<k:=by
        rcases hm with ⟨h1,_⟩ | ⟨_,h2⟩
        · rw[h1] at mem;cases mem
        · have:=h2 _ mem;lia
      exact (ih (lv l) hlt l (h.cl x hx l r hl) rfl).symm
    have e2:=zh6 key;have a:=h.mx x hx;have b:=h'.mx x hx;rw[e2] at a;have:=zld a b fun y=>Iff.rfl
    lia
theorem Lv.uniqN {ln:Ln}{M:List Str}{lv lv':Str->Nat}{n n':Nat}(h:Lv ln M lv n) (h':Lv ln M lv' n'):n=n':=by
  have go:∀{lv lv':Str->Nat}{n n':Nat},Lv ln M lv n->Lv ln M lv' n'->n<=n':=fun {lv lv' n n'} h h'=>by
    cases n with
    | zero=>exact al65q _
    | succ n=>
      obtain⟨x,hx,e⟩:=h.all n (by lia);have:=h.uniq h' n x hx e;have:=h'.lt x hx;lia
  exact Nat.le_antisymm (go h h') (go h' h)
end Dm
namespace L2
open PySem PySem.Spec PyProof.Rows
structure UnderV (bm:List ty3q):Prop where
  v:bm.contains (.type "ValueError")=true
  b:bm.contains (.type "BaseException")=true
  a:bm.contains (.type "AttributeError")=false
  n:bm.contains (.type "NameError")=false
def XObj (h:Heap) (C:ty1q) (bm:List ty3q):Prop:=∃nm q N bs hdct sn sub ab col dd k0 k1 k2 k3 k5,h.get? C=some (excClassObj nm q C N bs bm hdct sn sub ab col dd k0 k1 k2 k3 k5 "ValueError.__new__")
theorem ze4 {C:ty1q}{bm:List ty3q}{T:String}{b:Bool}(h:bm.contains (.type T)=b):(Value.ref C::bm).contains (.type T)=b:=by
  rw[List.contains_cons,h];rfl
section
variable {prog:ty4q}{w:World}{A:Around}{h:Heap}{g:Array GenState}{d:Drawn}{t:Nat}{os:OsState}{C:ty1q}{bm:List ty3q}
theorem zs5 {R:Result->ty2q->Prop}(U:UnderV bm) (x:XObj h C bm) {us:List ty3q}(hz:us.length<=sizeLine)
    (k:R (.ok (.ret (.ref (h.objs.size+1)))) { heap:=(h.push { cls:=.type "tuple",data:=.seq us.toArray }).push { cls:=.ref C,data:=.fields #[.ref h.objs.size,.none,.none,.none,.bool false,.none] },gens:=g,drawn:=d,toks:=t,os:=os }) :
    codeAny (model prog w) A (.builtin "ValueError.__new__" ⟨.ref C::us,[]⟩) R { heap:=h,gens:=g,drawn:=d,toks:=t,os:=os }:=by
  obtain⟨a1,a2,a3,a4,a5,a6,a7,a8,a9,b1,b2,b3,b4,b5,b6,e⟩:=x;have F:=PySem.F.excBase_ValueError;have f1:=F.ends;have c1:=ze4 (C:=C) U.v;have c2:=ze4 (C:=C) U.a;have c3:=ze4 (C:=C) U.n;refine codeAny_builtinAt F.entry ?_;unfold Builtin.«BaseException.__new__»;refine PySem.wpAt_bind (show PySem.wpAt (model prog w) _ _ (stack >>= _) _ _ _ from PySem.wpAt_bind (PySem.wpAt_stack fun p below=>PySem.wpAt_of_wpAny ?_))
  wp_walk
  refine PySem.wpAt_of_wpAny ?_;rw[F.owner]
  repeat (first
    | with_reducible refine wpAny_madeHere_exc F.canon e ?_
    | with_reducible refine al103q e ?_
    | (with_reducible refine al166q e ?_
       first | rw[c1] | rw[c2] | rw[c3])
    | wp_step)
  show R _ _;rw[al109q];exact k
theorem zof {M:Model}{E:ty90q}(U:UnderV bm) (x:XObj h C bm) {us:List ty3q}{Q:Unit->ty2q->Prop}(k:Q () { heap:=h,gens:=g,drawn:=d,toks:=t,os:=os }) :
    wpAny M A (checkBuiltinCall "ValueError.__new__" ⟨.ref C::us,[]⟩) Q E { heap:=h,gens:=g,drawn:=d,toks:=t,os:=os }:=by
  obtain⟨a1,a2,a3,a4,a5,a6,a7,a8,a9,b1,b2,b3,b4,b5,b6,e⟩:=x;exact wpAny_check_new_subU PySem.F.excBase_ValueError U.v .base e k
theorem zog {E:ty90q}{vI:ty3q}{us:List ty3q}{Q:Fin->ty2q->Prop}(U:UnderV bm) (x:XObj h C bm) (hz:us.length<=sizeLine)
    (lk:PySem.W.Looks (model prog w) h (typeLookup (.ref C) "__init__") (some (vI))) (bd:∀self,PySem.W.Looks (model prog w) h (bindSpecial (vI) self) (vI,[self]))
    (k:∀h' e,h.objs.size<=e->Heap.MadeExcOf h h' e (.ref C) us->wpAny (model prog w) A (call (vI) (.ref e::us)) (fun r s'=>r = .none/\Q (.done (.ret (.ref e))) s') E { heap:=h',gens:=g,drawn:=d,toks:=t,os:=os }) :
    wpAny (model prog w) A (Builtin.«type.__call__» ⟨.ref C::us,[]⟩) Q E { heap:=h,gens:=g,drawn:=d,toks:=t,os:=os }:=by
  have x':=x;obtain⟨a1,a2,a3,a4,a5,a6,a7,a8,a9,b1,b2,b3,b4,b5,b6,e⟩:=x';have F:=PySem.F.excBase_ValueError
  repeat (first | with_reducible refine al103q e ?_ | with_reducible refine wpAny_madeBy_exc e ?_ | wp_step)
  refine codeAny_call_builtin_code (Code.quiet_builtin _ F.quiet) (zof U x ?_);refine zs5 U x hz ?_;show wpAny (model prog w) _ _ _ _ _;have kp:∀b o,h.get? b=some o->((h.push { cls:=.type "tuple",data:=.seq us.toArray }).push { cls:=.ref C,data:=.fields #[.ref h.objs.size,.none,.none,.none,.bool false,.none] }).get? b=some o:=
    fun b o q=>al5q _ (al5q _ q)
  have hget:((h.push { cls:=.type "tuple",data:=.seq us.toArray }).push { cls:=.ref C,data:=.fields #[.ref h.objs.size,.none,.none,.none,.bool false,.none] }).get? (h.objs.size+1) =
      some { cls:=.ref C,data:=.fields #[.ref h.objs.size,.none,.none,.none,.bool false,.none] }:=by heap_get
  have ht:((h.push { cls:=.type "tuple",data:=.seq us.toArray }).push { cls:=.ref C,data:=.fields #[.ref h.objs.size,.none,.none,.none,.bool false,.none] }).get? h.objs.size =
      some { cls:=.type "tuple",data:=.seq us.toArray }:=al5q _ (Heap.get?_push_at rfl rfl)
  have made:Heap.MadeExcOf h ((h.push { cls:=.type "tuple",data:=.seq us.toArray }).push { cls:=.ref C,data:=.fields #[.ref h.objs.size,.none,.none,.none,.bool false,.none] }) (h.objs.size+1) (.ref C) us:=
    ⟨kp,al83q (al128q _),h.objs.size,hget,al83q (al13q _),ht⟩
  have go:=k _ _ (al128q _) made;have e1:=kp _ _ e;have lk1:=lk.keeps kp;have bd1:=fun self=>(bd self).keeps kp
  generalize (h.push { cls:=.type "tuple",data:=.seq us.toArray }).push { cls:=.ref C,data:=.fields #[.ref h.objs.size,.none,.none,.none,.bool false,.none] } = h1 at hget go e1 lk1 bd1;have cC:(Value.ref C::bm).contains (.ref C)=true:=by simp
  unfold isInstance
  repeat (first | with_reducible refine al103q hget ?_ | (with_reducible refine al166q e1 ?_;rw[cC]) | wp_step)
  show wpAny (model prog w) _ (typeLookup (.ref C) _) _ _ _;refine lk1.at (al60q (al2q ((bd1 _).at ?_)));refine al2q (al51q go (fun r s' hr=>?_) fun _ _ z=>z);obtain⟨rfl,q⟩:=hr
  wp_walk
  exact q
theorem zqe {E:ty90q}{vI:ty3q}{us:List ty3q}{Q:ty90q}(U:UnderV bm) (x:XObj h C bm) (hz:us.length<=sizeLine)
    (lk:PySem.W.Looks (model prog w) h (typeLookup (.ref C) "__init__") (some (vI))) (bd:∀self,PySem.W.Looks (model prog w) h (bindSpecial (vI) self) (vI,[self]))
    (k:∀h' e,h.objs.size<=e->Heap.MadeExcOf h h' e (.ref C) us->wpAny (model prog w) (A.under (.builtin "type.__call__" ⟨.ref C::us,[]⟩)) (call (vI) (.ref e::us)) (fun r s'=>r = .none/\Q (.ref e) s') E { heap:=h',gens:=g,drawn:=d,toks:=t,os:=os }) :
    wpAny (model prog w) A (call (.ref C) us) Q E { heap:=h,gens:=g,drawn:=d,toks:=t,os:=os }:=by
  have x':=x;obtain⟨a1,a2,a3,a4,a5,a6,a7,a8,a9,b1,b2,b3,b4,b5,b6,e⟩:=x';have f1:=tc_lookup;have f2:=tc_bind (.ref C);have hT:({ heap:=h,gens:=g,drawn:=d,toks:=t,os:=os }:ty2q).TypeIs (.ref C) "type":=⟨_,e,rfl⟩;refine al146q (codeAny_of_tree (show wpAny (model prog w) _ (callAny (.ref C) _) _ _ _ from ?_))
  repeat (any_goals (first | assumption | with_reducible refine al103q e ?_ | wp_step))
  refine⟨rfl,codeAny_call_builtin_at (Code.quiet_builtin _ (by decide +kernel)) entry_typeCall (wpAny_check_type_call_sub e (zog U x hz lk bd fun h' e' hs hm=>?_))⟩;exact k h' e' hs hm
end
section
variable {prog:ty4q}{w:World}{A:Around}{E:ty90q}{s:ty2q}{env:Env}{bm:List ty3q}
theorem zlj {y:Sem ty3q}{Q:Flow->ty2q->Prop}(U:UnderV bm) (hh:A.handled=none)
    (k:wpAny (model prog w) A y (fun v s1=>∃e C oe vs,v = .ref e/\XObj s1.heap C bm/\s1.heap.get? e=some oe/\oe.cls = .ref C/\oe.data = .fields vs/\vs[1]? = some .none/\E (.ref e) s1) E s) :
    wpAny (model prog w) A (raiseStmt env (some y) none) Q E s:=by
  unfold raiseStmt;refine al2q (al51q k (fun v s1 k1=>?_) fun _ _ z=>z);obtain⟨e,C,oe,vs,rfl,⟨a1,a2,a3,a4,a5,a6,a7,a8,a9,b1,b2,b3,b4,b5,b6,o⟩,he,hc,hd,h1,hE⟩:=k1;have cB:=ze4 (C:=C) U.b;obtain⟨hp,g,d,tk,os⟩:=s1
  repeat (first
    | (with_reducible refine al103q he ?_;rw[hc])
    | with_reducible refine al103q o ?_
    | (with_reducible refine al166q o ?_;rw[cB])
    | wp_step)
  rw[hd];refine al7q ?_;rw[h1];refine al7q ?_;rw[al8q (by decide)];exact al7q (wpAny_raiseNew_none hh hE)
theorem zlk {x:Str}{C:ty1q}{vI:ty3q}{np cpos pos:Pos}{a:PySem.Expr}{as:List PySem.Expr}{Q:Flow->ty2q->Prop}(U:UnderV bm) (hh:A.handled=none)
    (hst:starEach (a::as) env=(false,eval a env)::starEach as env) (hpl:(backTo cpos (starEach as env)).any (·.1)=false)
    (k:wpAny (model prog w) A (eval (.Name x np) env) (fun f s1=>f = .ref C/\wpAny (model prog w) A (spliced (backTo cpos (starEach (a::as) env)))
      (fun us s2=>us.length<=sizeLine/\XObj s2.heap C bm/\PySem.W.Looks (model prog w) s2.heap (typeLookup (.ref C) "__init__") (some (vI))/\(∀self,PySem.W.Looks (model prog w) s2.heap (bindSpecial (vI) self) (vI,[self]))/\
        ∀h' e,s2.heap.objs.size<=e->Heap.MadeExcOf s2.heap h' e (.ref C) us->wpAny (model prog w) (A.under (.builtin "type.__call__" ⟨.ref C::us,[]⟩)) (call (vI) (.ref e::us))
          (fun r s3=>r = .none/\∃oe vs,XObj s3.heap C bm/\s3.heap.get? e=some oe/\oe.cls = .ref C/\oe.data = .fields vs/\vs[1]? = some .none/\E (.ref e) s3) E { s2 with heap:=h' }) E s1) E s) :
    wpAny (model prog w) A (exec (.Raise (some (.Call (.Name x np) (a::as) [] cpos)) none pos) env) Q E s:=by
  rw[arm_exec_Raise];simp only [evalOpt,Option.map];refine al2q (al167q (zlj U hh (al2q (al51q (wpAny_Call_ofName (al51q k (fun f s1 k1=>?_) fun _ _ z=>z)) (fun v s3 k3=>al2q (al167q (al7q k3))) fun _ _ z=>z))));obtain⟨rfl,k1⟩:=k1;unfold callWith;have any:(backTo cpos (starEach (a::as) env)).any (·.1)=false:=by
    rw[hst];show (false||(backTo cpos (starEach as env)).any (·.1))=false;rw[hpl];rfl
  rw[hst] at k1 ⊢;refine al2q (al60q (al159q (al51q k1 (fun us s2 k2=>al2q (al167q ?_)) fun _ _ z=>z)));obtain⟨hz,xo,lk,bd,go⟩:=k2;obtain⟨hp,g,d,tk,os⟩:=s2;rw[hst] at any;simp only [any];have xo':=xo;obtain⟨a1,a2,a3,a4,a5,a6,a7,a8,a9,b1,b2,b3,b4,b5,b6,o⟩:=xo';refine al2q (wpAny_keeperOf_exc o ?_);refine al2q (zqe U xo hz lk bd fun h' e hs hm=>al51q (go h' e hs hm) (fun r s3 q=>?_) fun _ _ z=>z);obtain⟨r0,oe,vs,q⟩:=q;exact⟨r0,al2q (al60q (wpAny_point (al7q ⟨e,C,oe,vs,rfl,q⟩)))⟩
end
theorem zf7 {o:Obj}{vs:Array ty3q}(h:o.data = .fields vs) (f:Array ty3q->Array ty3q):Obj.mapFields f o = { o with data:=.fields (f vs) }:=by
  obtain⟨c,d,dt,sl⟩:=o;cases h;rfl
structure Gone (fs:List ty1q) (e T:ty1q) (xs:List ty1q) (oe:Obj) (vs:Array ty3q) (h h':Heap):Prop where
  keep:∀b o,b≠e->b ∉ fs->b ∉ xs->h.get? b=some o->h'.get? b=some o
  slot:∀b o,b∈fs->h.get? b=some o->∃sl,h'.get? b=some { o with slots:=sl }
  new:h.get? T=none
  exc:h'.get? e=some { oe with data:=.fields (vs.setIfInBounds 1 (.ref T)) }
  ent:∃oT ts,h'.get? T=some oT/\oT.data = .fields ts/\ts[3]? = some .none
section
variable {M:Model}{A:Around}{E:ty90q}{s:ty2q}
theorem entry_new {base:Heap}{env:Env}{outer:List Env}{L e:ty1q}{oe:Obj}{vs:Array ty3q}{head:ty3q}{nx:Bool}{Q:Unit->ty2q->Prop}
    (hfr:A.frames=some (env::outer)) (hl:s.heap.FunFrames base (env::outer)) (hf:env.frame=some L) (he:s.heap.get? e=some oe) (hd:oe.data = .fields vs) (hz:1<vs.size)
    (k:∀h',Gone (frs (env::outer)) e s.heap.objs.size [] oe vs s.heap h'->Q () { s with heap:=h' }) :
    wpAny M A (do let a ←frameOf env;let pl ←entryPlaceOf L nx;let b ←EntryCells.newEntry head a .none (rawInt L) .none pl;setField (.ref e) 1 b) (fun _ s'=>wpAny M A (setFlight (.ref e) none) Q E s') E s:=by
  have nf:∀b∈frs (env::outer),∃o,s.heap.get? b=some o/\∀us,o.data≠.fields us:=fun b hb=>(hl.mem hb).2
  have ne:e ∉ frs (env::outer):=fun hm=>by
    obtain⟨o,ho,hn⟩:=nf e hm;rw[he] at ho;cases ho;exact hn vs hd
  refine al2q (wpAny_frameOf_fun hfr hl hf fun h1 s1=>?_);obtain⟨z1,k1,u1⟩:=s1;refine al2q (wpAny_entryPlaceOf fun pl hpl=>?_);unfold EntryCells.newEntry newFields;refine al2q (al70q ?_ (hpl.sizeOk5 _ _ _ _ _));have e1:h1.get? e=some oe:=(k1 e ne).trans he;generalize hN:({ cls:=.type "traceback",dict:=none,data:=.fields ([head,.ref L,.none,rawInt L,.none]++(if pl.isEmpty then List.replicate 6 Value.none else pl)).toArray }:Obj)=N;have dN:N.data = .fields ([head,.ref L,.none,rawInt L,.none]++(if pl.isEmpty then List.replicate 6 Value.none else pl)).toArray:=by rw[←hN]
  generalize hts:([head,.ref L,.none,rawInt L,.none]++(if pl.isEmpty then List.replicate 6 Value.none else pl)).toArray=ts at dN;have zt:3<ts.size:=by rw[←hts];simp
  have fN:N.isFreed=false:=al66q dN;have e2:=al5q (h:=h1) N e1;refine al122q e2 hd hz ?_;have Te:h1.objs.size≠e:=al145q (al14q e1);have e3:=al33q (Obj.mapFields (·.setIfInBounds 1 (Value.ref h1.objs.size))) e2 (al66q (al72q hd _));rw[zf7 hd] at e3;have t3:=(al24q (h1.push N) (Obj.mapFields (·.setIfInBounds 1 (Value.ref h1.objs.size))) (al26q Te)).trans (al20q h1 fN);unfold setFlight;refine al2q (al143q e3 rfl (x:=.ref h1.objs.size) (by simp[hz]) ?_);rw[al12q (show (Value.ref h1.objs.size != Value.none)=true from by simp)];refine al122q t3 dN zt (k _ ?_);have t4:=al33q (Obj.mapFields (·.setIfInBounds 3 ((none:Option ty1q).elim Value.none fun f=>rawInt f))) t3 (al66q (al72q dN _));have oth:∀b o,b≠e->h1.get? b=some o->(((h1.push N).update e (Obj.mapFields (·.setIfInBounds 1 (Value.ref h1.objs.size)))).update h1.objs.size (Obj.mapFields (·.setIfInBounds 3 ((none:Option ty1q).elim Value.none fun f=>rawInt f)))).get? b=some o:=fun b o hb q=>by
    rw[al24q _ _ (al145q (al14q q)),al24q _ _ (al26q hb)];exact al5q _ q
  refine⟨fun b o hb hn _ q=>oth b o hb ((k1 b hn).trans q),fun b o hb q=>?_,al83q (al13q _),?_,?_⟩
  · obtain⟨sl,q1⟩:=u1 b o q;exact⟨sl,oth b _ (fun z=>ne (z▸hb)) q1⟩
  · rw[al24q _ _ Te,e3,z1]
  · rw[←z1];exact⟨_,_,t4,al72q dN _,by simp[zt]⟩
theorem zi9 {base:Heap}{env:Env}{outer:List Env}{L e:ty1q}{oe:Obj}{vs:Array ty3q}{Q:Unit->ty2q->Prop}
    (hfr:A.frames=some (env::outer)) (hl:s.heap.FunFrames base (env::outer)) (hf:env.frame=some L) (he:s.heap.get? e=some oe) (hd:oe.data = .fields vs) (h1:vs[1]? = some .none)
    (k:∀h',Gone (frs (env::outer)) e s.heap.objs.size [] oe vs s.heap h'->Q () { s with heap:=h' }):wpAny M A (leaving env (.ref e)) Q E s:=by
  unfold leaving noteFrame;simp only [hf];refine al2q (al2q (al143q he hd h1 ?_));rw[al8q (by decide)];exact entry_new hfr hl hf he hd (al38q.mp h1).1 k
theorem zll {base:Heap}{env:Env}{outer:List Env}{L e T:ty1q}{oe oT:Obj}{vs ts:Array ty3q}{Q:Unit->ty2q->Prop}
    (hfr:A.frames=some (env::outer)) (hl:s.heap.FunFrames base (env::outer)) (hf:env.frame=some L) (he:s.heap.get? e=some oe) (hd:oe.data = .fields vs) (h1:vs[1]? = some (.ref T))
    (hT:s.heap.get? T=some oT) (dT:oT.data = .fields ts) (h3:ts[3]? = some .none) (ne:T≠e)
    (k:∀h',Gone (frs (env::outer)) e s.heap.objs.size [T] oe vs s.heap h'->Q () { s with heap:=h' }):wpAny M A (leaving env (.ref e)) Q E s:=by
  unfold leaving noteFrame;simp only [hf];refine al2q (al2q (al143q he hd h1 ?_));rw[al12q (show (Value.ref T != Value.none)=true from by simp)];refine al2q (al143q hT dT h3 ?_);rw[al8q (show ¬((Value.none == rawInt L)=true) from by simp[rawInt])];have z3:=(al38q.mp h3).1;refine al2q (al122q hT dT z3 ?_);have oth:∀b,b≠T->(s.heap.update T (Obj.mapFields (·.setIfInBounds 3 Value.none))).get? b=s.heap.get? b:=fun b hb=>al24q _ _ (al26q hb)
  have self:=al33q (Obj.mapFields (·.setIfInBounds 3 Value.none)) hT (al66q (al72q dT _));have nf:T ∉ frs (env::outer):=fun hm=>by
    obtain⟨_,o,ho,hn⟩:=hl.mem hm;rw[hT] at ho;cases ho;exact hn ts dT
  have sz:(s.heap.update T (Obj.mapFields (·.setIfInBounds 3 Value.none))).objs.size=s.heap.objs.size:=Heap.size_after_update ..;refine entry_new (s:={ s with heap:=s.heap.update T (Obj.mapFields (·.setIfInBounds 3 Value.none)) }) hfr (hl.of_keeps fun b o hb hn=>⟨o,(oth b fun z=>?_).trans hb,rfl⟩) hf ((oth e ne.symm).trans he) hd (al38q.mp h1).1 fun h' G=>?_
  · subst z;rw[hT] at hb;cases hb;exact hn ts dT
  · have e1:(s.heap.update T (Obj.mapFields (·.setIfInBounds 3 Value.none))).objs.size=s.heap.objs.size:=sz;have G:=G;dsimp only at G;rw[e1] at G;refine k h' ⟨fun b o hb hn hx q=>G.keep b o hb hn (by simp) ((oth b fun z=>hx (by simp[z])).trans q),fun b o hb q=>G.slot b o hb ((oth b fun z=>nf (z▸hb)).trans q),al83q (al13q _),G.exc,G.ent⟩
end
def Fly (H:Hp) (h0 h:Heap) (e:ty1q) (cls:ty3q) (dc:Option ty1q):Prop:=
  ∃(oe:Obj) (vs:Array ty3q) (T:ty1q) (oT:Obj) (ts:Array ty3q),h.get? e=some oe/\oe.cls=cls/\oe.dict=dc/\oe.data = .fields vs/\vs[1]? = some (.ref T)/\T≠e/\h.get? T=some oT/\oT.data = .fields ts/\ts[3]? = some .none/\
    H e=none/\H T=none/\h0.objs.size<=e/\h0.objs.size<=T
def zw1 (H:Hp) (h0 h:Heap) (e:ty1q) (cls:ty3q) (dc:Option ty1q):Prop:=
  ∃(oe:Obj) (vs:Array ty3q),h.get? e=some oe/\oe.cls=cls/\oe.dict=dc/\oe.data = .fields vs/\vs[1]? = some .none/\H e=none/\h0.objs.size<=e
def CX1 (P:ty4q) (w:World):CXT:=fun outer H s E u s'=>∃(e:ty1q) (cls:ty3q) (dc:Option ty1q) (H':Hp),u = .ref e/\s'.os=s.os/\AllBare s'.gens/\Un (frs outer) [] H H' s.heap s'.heap/\HOk P w H' s'.heap/\
  Fly H' s.heap s'.heap e cls dc/\E cls dc H'
def XeIs (X:Cx) (E:XK):Prop:=X.xe=(fun u s'=>wpAny (model X.prog X.w) X.A (leaving X.env u) (fun _ s''=>CX1 X.prog X.w X.outer X.H₀ X.s₀ E u s'') (fun u' s''=>CX1 X.prog X.w X.outer X.H₀ X.s₀ E u' s'') s')/\
  X.stack=X.env::X.outer/\X.env.frame=some X.env.locals/\X.ex = []
theorem zgy {P:ty4q}{w:World}{K:ty0q}{mg:Str->Option ty3q}{base:Heap}{N:List Str}{qual:Str}{scope:Scope}{f:ty1q}{cd:ty3q}{A:Around}{outer:List Env}{s:ty2q}{H:Hp}{E:XK} :
    XeIs (cxOf (CX1 P w) P w K mg base N qual scope f cd A outer s H E) E:=⟨rfl,rfl,rfl,rfl⟩
section
variable {X:Cx}{pins:ty91q}{σ:St}{H:Hp}{s:ty2q}{E:XK}{e:ty1q}{cls:ty3q}{dc:Option ty1q}
theorem zoh {h':Heap}{T:ty1q}{xs:List ty1q}{oe:Obj}{vs:Array ty3q}(I:Inv X pins σ H s) (x:XeIs X E) (G:Gone (frs (X.env::X.outer)) e T xs oe vs s.heap h') (hc:oe.cls=cls) (hdc:oe.dict=dc) (hz:1<vs.size)
    (He:H e=none) (nz:X.s₀.heap.objs.size<=e) (hxz:∀b∈xs,H b=none/\X.s₀.heap.objs.size<=b) (hTe:T≠e) (hsz:s.heap.objs.size<=T) (hE:E cls dc H) :
    CX1 X.prog X.w X.outer X.H₀ X.s₀ E (.ref e) { s with heap:=h' }:=by
  obtain⟨x1,x2,x3,x4⟩:=x;have ne:X.s₀.heap.get? e=none:=al83q nz;have hx:∀b∈xs,H b=none/\X.s₀.heap.get? b=none:=fun b hb=>⟨(hxz b hb).1,al83q (hxz b hb).2⟩
  have nL:∀b o,X.s₀.heap.get? b=some o->b≠X.env.locals:=fun b o q z=>absurd (al14q q) (Nat.not_lt.mpr (z▸I.ok.above))
  have fr:∀b,b∈frs (X.env::X.outer)->b=X.env.locals\/b∈frs X.outer:=fun b hb=>by
    unfold frs at hb;rw[al132q,x3] at hb;exact al21q.mp hb
  have fr2:∀b,b∈frs X.outer->b∈frs (X.env::X.outer):=fun b hb=>by
    unfold frs;rw[al132q,x3];exact al19q _ hb
  have notx:∀b o,X.s₀.heap.get? b=some o->b≠e/\b ∉ xs:=fun b o q=>⟨fun z=>(by rw[z,ne] at q;cases q),fun z=>(by rw[(hx b z).2] at q;cases q)⟩
  have HT:H T=none:=I.hok.fresh hsz;have sf:∀b∈frs (X.env::X.outer),H b=none:=by
    have:=I.stkFree;rw[x2] at this;exact this
  refine⟨e,cls,dc,H,rfl,I.os,I.bare,?_,?_,?_,hE⟩
  · refine⟨fun b o q n nf _=>?_,fun b o q n nf _=>?_,fun b o q n _=>I.base.free b o q n (by rw[x4];simp),fun b o q _=>?_,I.base.tups,I.base.frzs,I.base.tbls⟩
    · exact G.keep b o (notx b o q).1 (fun z=>(fr b z).elim (nL b o q) nf) (notx b o q).2 (I.base.keep b o q n nf (by rw[x4];simp))
    · obtain⟨sl,z⟩:=I.base.slot b o q n nf (by rw[x4];simp);obtain⟨sl',z'⟩:=G.slot b _ (fr2 b nf) z;exact⟨sl',z'⟩
    · obtain⟨o',z⟩:=I.base.there b o q (by rw[x4];simp)
      by_cases hb:b∈frs (X.env::X.outer)
      · obtain⟨sl,z'⟩:=G.slot b _ hb z;exact⟨_,z'⟩
      · exact⟨_,G.keep b _ (notx b o q).1 hb (notx b o q).2 z⟩
  · intro a o q;refine (I.hok a o q).stay (fun b u hb z=>?_) (fun _ z=>z) fun _ _ z=>z
    have Hb:H b≠none:=by
      rcases hb with z | z
      · rw[z,q];simp
      · rw[z];simp
    exact G.keep b u (fun z=>Hb (z▸He)) (fun z=>Hb (sf b z)) (fun z=>Hb (hx b z).1) z
  · obtain⟨oT,ts,t1,t2,t3⟩:=G.ent;refine⟨_,_,T,oT,ts,G.exc,hc,hdc,rfl,by simp[hz],hTe,t1,t2,t3,He,HT,nz,al58q I.sz hsz⟩
theorem zqf (I:Inv X pins σ H s) (x:XeIs X E) (r:zw1 H X.s₀.heap s.heap e cls dc) (hE:E cls dc H):X.xe (.ref e) s:=by
  obtain⟨oe,vs,he,hc,hdc,hd,h1,He,ne⟩:=r;have x':=x;obtain⟨x1,x2,x3,x4⟩:=x';rw[x1];have fr:=I.ok.frames;have st:=I.stack;rw[x2] at fr st;exact zi9 fr st x3 he hd h1 fun h' G=>zoh I x G hc hdc (al38q.mp h1).1 He ne (fun b hb=>absurd hb (by simp)) (al145q (al14q he)) (al13q _) hE
theorem zvf (I:Inv X pins σ H s) (x:XeIs X E) (r:Fly H X.s₀.heap s.heap e cls dc) (hE:E cls dc H):X.xe (.ref e) s:=by
  obtain⟨oe,vs,T,oT,ts,he,hc,hdc,hd,h1,hTe,hT,dT,h3,He,HT,ne,nT⟩:=r;have x':=x;obtain⟨x1,x2,x3,x4⟩:=x';rw[x1];have fr:=I.ok.frames;have st:=I.stack;rw[x2] at fr st;refine zll fr st x3 he hd h1 hT dT h3 hTe fun h' G=>zoh I x G hc hdc (al38q.mp h1).1 He ne (fun b hb=>?_) (al145q (al14q he)) (al13q _) hE
  rw[al85q] at hb;subst hb;exact⟨HT,nT⟩
theorem zw2 (x:XeIs X E):zhe (CX1 X.prog X.w) X E:=by
  intro pins σ H s u s' I h;obtain⟨e,cls,dc,H',rfl,os,bare,un,hok,fl,hE⟩:=h;have I':=I.call' os un hok bare (ch:=[]) (fun b z=>absurd z (by simp));obtain⟨oe,vs,T,oT,ts,he,hc,hdc,hd,h1,hTe,hT,dT,h3,He,HT,ne,nT⟩:=fl;exact zvf I' x ⟨oe,vs,T,oT,ts,he,hc,hdc,hd,h1,hTe,hT,dT,h3,He,HT,al58q I.sz ne,al58q I.sz nT⟩ hE
end
def HasX (P:ty4q) (w:World) (K:ty0q) (mg:Str->Option ty3q) (base:Heap) (x:Str) (ps:List Str) (k:Nat) (sp:Sp):Prop:=
  ∃(f:ty1q) (fd:FuncData),mg x=some (.ref f)/\PySem.W.keepIn K (.ref f)=true/\(∃oc od osl,K.lookup f=some ⟨oc,od,.func fd,osl⟩)/\(∀us:List ty3q,us.length=ps.length->bindArgs fd ⟨us,[]⟩=pure (ps.zip us))/\FnOk P w K mg base (CX1 P w) k f fd ps sp
section
variable {P:ty4q}{w:World}{K:ty0q}{mg:Str->Option ty3q}{base:Heap}
theorem Df.hasX {x:Str}{st:Stmt}{N ps:List Str}{k:Nat}{sp:Sp}(D:Df K mg x st ps) (S:FnScope N ps (zp st)) (len:∀vs H Q E,sp vs H Q E->vs.length=ps.length)
    (body:∀(f:ty1q) (cdv:ty3q) (A:Around) (outer:List Env) (s:ty2q) (H:Hp) (vs:List V) (Q:VK) (E:XK),Room k (A.deeper (envOfC x (zp st) s.heap.objs.size f cdv))->sp vs H Q E->
      ∃t,PSs (cxOf (CX1 P w) P w K mg base N x (zp st) f cdv A outer s H E) (zbv st) t/\t { nx:=fun _ H'=>Q .non H',rt:=Q } (start N vs) H):HasX P w K mg base x ps (k+1) sp:=by
  obtain⟨f,fd,F,a,b⟩:=D;obtain⟨oc,od,kV,doc,pm,an,cdv,ct,osl,e,lk,hcd⟩:=id F.ex;subst e;exact⟨f,_,a,F.kp,⟨oc,od,osl,lk⟩,b,zug lk hcd S len (body f cdv)⟩
end
section
variable {X:Cx}{k:Nat}{ps:List Str}{sp:Sp}{E:XK}{C:ty1q}{m x:Str}{p pos apos:Pos}{o e:Expr}{es:List Expr}{t:TA}{ta:TE}
theorem zrt (F:HasX X.prog X.w X.K X.mg X.base x ps k sp) (xe:XeIs X E) (hr:Room k X.A) (hg:Gl X x) (ha:PA X (e::es) t) (hdb:(x == ("__debug__" : Str))=false:=by decide)
    (he:starEach (e::es) X.env=(false,eval e X.env)::starEach es X.env:=by rfl) (hpl:(backTo pos (starEach es X.env)).any (·.1)=false:=by rfl):PE X (.Call (.Name x p) (e::es) [] pos) (zpl sp [] E t):=by
  obtain⟨f,fd,a,kp,_,b,G⟩:=F;exact zmp G hr hg a kp (.all b) .nil (zw2 xe) ha hdb he hpl
end
section
variable {prog:ty4q}{w:World}{A:Around}{E:ty90q}{h:Heap}{g:Array GenState}{d:Drawn}{t:Nat}{os:OsState}{C:ty1q}{bm:List ty3q}
theorem zlm {M:Model}{Q:Unit->ty2q->Prop}{e:ty1q}{oe:Obj}{us:List ty3q}(U:UnderV bm) (x:XObj h C bm) (he:h.get? e=some oe) (hc:oe.cls = .ref C) (k:Q () { heap:=h,gens:=g,drawn:=d,toks:=t,os:=os }) :
    wpAny M A (checkBuiltinCall "ValueError.__init__" ⟨.ref e::us,[]⟩) Q E { heap:=h,gens:=g,drawn:=d,toks:=t,os:=os }:=by
  obtain⟨a1,a2,a3,a4,a5,a6,a7,a8,a9,b1,b2,b3,b4,b5,b6,o⟩:=x;have F:=PySem.F.excBase_ValueError;have c1:=ze4 (C:=C) U.v;have hs:=F.noStar;simp only [checkBuiltinCall,F.initKind,F.initSplit,F.initRow]
  repeat (first
    | (with_reducible refine al103q he ?_;rw[hc])
    | with_reducible refine al103q o ?_
    | (with_reducible refine al166q o ?_;rw[c1])
    | wp_step)
  refine wpAny_onRaise ?_;have st:∀(a b:String) (n:Nat),Bind.check ⟨.positional,"*","ValueError",.self,[⟨"args",.varPos,false⟩]⟩ a b n (List.map (fun x=>x.fst) ({ pos:=Value.ref e::us }:Args).kw)=pure ():=fun a b n=>check_star_args _ _ _ _ _ _
  rw[st];exact al7q k
theorem zw3 {Q:ty90q}{e t0:ty1q}{oe:Obj}{vs:Array ty3q}{us:List ty3q}(U:UnderV bm) (x:XObj h C bm) (hz:us.length<=sizeLine) (he:h.get? e=some oe) (hc:oe.cls = .ref C) (hd:oe.data = .fields vs) (h0:vs[0]? = some (.ref t0))
    (k:∀h',(∀b o,b≠e->h.get? b=some o->h'.get? b=some o)->h'.get? e=some { oe with data:=.fields (vs.setIfInBounds 0 (.ref h.objs.size)) }->Q .none { heap:=h',gens:=g,drawn:=d,toks:=t,os:=os }) :
    wpAny (model prog w) A (call (.builtin "ValueError.__init__") (.ref e::us)) Q E { heap:=h,gens:=g,drawn:=d,toks:=t,os:=os }:=by
  have F:=PySem.F.excBase_ValueError;refine al146q (al88q F.init.plain F.initEntry (zlm U x he hc ?_));unfold Builtin.«BaseException.__init__»
  wp_walk
  rw[hd];refine al7q ?_;rw[h0];refine al7q (al2q ?_);have he2:=al5q (h:=h) { cls:=.type "tuple",data:=.seq us.toArray } he;have z0:=(al38q.mp h0).1;refine al122q he2 hd z0 ?_;have e3:=al33q (Obj.mapFields (·.setIfInBounds 0 (Value.ref h.objs.size))) he2 (al66q (al72q hd _));rw[zf7 hd] at e3;have go:=k _ (fun b o hb q=>(al24q _ _ (al26q hb)).trans (al5q _ q)) e3
  wp_walk
  exact go
end
def zfk:List ty3q->Bool
  | [.type a,.type b,.type c,.type d]=>a == "ValueError" && (b == "Exception" && (c == "BaseException" && d == "object"))
  | .ref _::r=>zfk r
  | _=>false
theorem ze5:∀{l:List ty3q},zfk l=true->l = [.type "ValueError",.type "Exception",.type "BaseException",.type "object"]\/∃c r,l = .ref c::r/\zfk r=true
  | [.type a,.type b,.type c,.type d],e=>by
    simp only [zfk,al49q,beq_iff_eq] at e;obtain⟨rfl,rfl,rfl,rfl⟩:=e;exact .inl rfl
  | .ref c::r,e=>.inr ⟨c,r,rfl,by unfold zfk at e;exact e⟩
theorem zki (self:ty3q):∀{l:List ty3q},zfk l=true->refuseLoop self "__setattr__" l=pure ()
  | [],e=>by cases e
  | v::r,e=>by
    rcases ze5 e with h | ⟨c,r',h,e'⟩
    · rw[h];exact PySem.F.store_ValueError.passes self
    · cases h;rw[refuseLoop_ref];exact zki self e'
theorem zic:∀{l:List ty3q},zfk l=true->l.contains (.type "object")=true
  | [],e=>by cases e
  | v::r,e=>by
    rcases ze5 e with h | ⟨c,r',h,e'⟩
    · rw[h];decide +kernel
    · cases h;rw[List.contains_cons,zic e',Bool.or_true]
def zja (K:ty0q) (C:ty1q):Bool:=(PySem.W.clsIn K C).any fun cd=>zfk cd.mro
structure XCls (K:ty0q) (C:ty1q):Prop where
  hd:PySem.W.hasDictIn K C=true
  po:zja K C=true
  sa:PySem.W.findIn K (.ref C) "__setattr__" = some (some (.builtin "object.__setattr__"))
section
variable {prog:ty4q}{w:World}{A:Around}{E:ty90q}{R:Result->ty2q->Prop}{s:ty2q}{K:ty0q}{x C:ty1q}{name:Str}{v:ty3q}
theorem zoi {ox:Obj}{od:Option Obj}{tk:Tok}{r:Option ty3q}(X:K.In s.heap) (I:PySem.W.InstAt s.heap x ox C od) (hp:(PySem.W.clsIn K C).any (fun cd=>zfk cd.mro)=true) (ht:PySem.W.takerIn K C name=some r)
    (h:∀b,wpAny (model prog w) A.in1 (match r with | some a=>Builtin.ObjectAttr.setByDescriptor a (.ref x) v | none=>Builtin.ObjectAttr.storeInOwnDict (.ref x) (.ref C) (.str name tk) name v b)
      (fun fin s'=>match fin with | .done f=>R (.ok f) s' | .again c'=>c'.quiet=true/\codeAny (model prog w) A c' R s') (fun e s'=>R (.error e) s') s) :
    codeAny (model prog w) A (.call (.builtin "object.__setattr__") ⟨[.ref x,.str name tk,v],[]⟩) R s:=by
  have SF:=PySem.F.store_object;obtain⟨cd,hc,ho⟩:=PySem.W.any_some hp;have ne:cd.mro.isEmpty=false:=by cases q:cd.mro with | nil=>rw[q] at ho;cases ho | cons _ _=>rfl
  have sub:PySem.W.Looks (model prog w) s.heap (isInstance (.ref x) (.type "object")) true:=I.type.andThen (PySem.W.looks_mroIn X (by unfold PySem.W.mroIn;rw[hc,Option.bind_some,al8q (by rw[ne];decide),zic ho]));refine al88q SF.slot.plain SF.entry (@PySem.W.check_slot (model prog w) _ _ s "object.__setattr__" "object" "__setattr__" (.ref x) [.str name tk,v] [] _ SF.kind SF.split sub (SF.args (.ref x) (.str name tk) v) ?_);obtain⟨attr,ha,hr⟩:=Option.bind_eq_some_iff.mp ht;have hm:PySem.W.Looks (model prog w) s.heap (mroOf (.ref C)) cd.mro:=(PySem.W.looks_clsIn X hc).andThen .now;have L3:PySem.W.Looks (model prog w) s.heap (Builtin.ObjectAttr.storeTaker? attr) r:=by
    cases attr with
    | none=>cases hr;exact .now
    | some a=>
      obtain⟨b,hb,rfl⟩:=Option.map_eq_some_iff.mp hr;refine (PySem.W.looks_takesIn X hb).andThen ?_;cases b<;>exact .now
  rw[PySem.W.osa_eq,refuse_eq];refine al2q (al2q (I.type.here (al2q (hm.here ?_))));rw[zki _ ho];refine al7q (al2q (I.type.here (al2q ((PySem.W.looks_findIn X ha).here (al2q (L3.here ?_))))));exact h _
theorem xset {oe:Obj}{vs:Array ty3q}{Q:Unit->ty2q->Prop}(X:K.In s.heap) (he:s.heap.get? x=some oe) (hcl:oe.cls = .ref C) (hdn:oe.dict=none) (hdt:oe.data = .fields vs) (c:XCls K C) (ht:PySem.W.takerIn K C name=some none)
    (h:∀h' tk,(∀b o,b≠x->s.heap.get? b=some o->h'.get? b=some o)->h'.get? x=some { oe with dict:=some s.heap.objs.size }->h'.Ns1 s.heap.objs.size (fun y=>if y=name then some v else none)->Q () { s with heap:=h',toks:=tk }) :
    wpAny (model prog w) A (setAttr (.ref x) name v) Q E s:=by
  have J:PySem.W.InstAt s.heap x oe C none:=⟨he,hcl,by unfold PySem.W.notCls;rw[hdt],by rw[hdn];trivial⟩;refine PySem.W.set_plain X J c.sa (zoi (s:={ s with toks:=s.toks+1 }) (r:=none) X J c.po ht fun b=>?_);obtain⟨cd,hc,hd'⟩:=PySem.W.any_some c.hd;obtain⟨oc,od,odt,osl⟩:=oe;dsimp only at hcl hdn hdt;subst hcl hdn hdt;refine al2q (al7q (al2q (al2q (wpAny_loadPart he (al2q (PySem.W.Looks.here (s:={ s with toks:=s.toks+1 }) (PySem.W.looks_clsIn X hc) ?_))))));rw[hd'];have hx₁:(s.heap.push { cls:=.type "dict",data:=.dict #[] }).get? x=some { cls:=Value.ref C,data:=Data.fields vs,slots:=osl }:=al5q _ he;have hxs:x≠s.heap.objs.size:=al31q (al14q he);rw[al8q (by decide)];show wpAny (model prog w) _ (if (!true || !typeHasDict (Value.ref C))=true then pure none else _) _ _ _;rw[al8q (by simp[typeHasDict])];refine al2q (wpAny_alloc' ?_);refine al2q (wpAny_update' hx₁ ?_);refine al7q ?_;have hgd:((s.heap.push { cls:=.type "dict",data:=.dict #[] }).update x fun o=>{ cls:=o.cls,dict:=some s.heap.objs.size,data:=o.data,slots:=o.slots }).get? s.heap.objs.size
      = some { cls:=.type "dict",data:=.dict #[] }:=
    (Heap.get?_update_ne _ _ _ _ hxs.symm).trans (Heap.get?_push_at rfl rfl)
  have hnd:((s.heap.push { cls:=.type "dict",data:=.dict #[] }).update x fun o=>{ cls:=o.cls,dict:=some s.heap.objs.size,data:=o.data,slots:=o.slots }).Ns s.heap.objs.size (fun _=>none):=
    ⟨_,#[],_,hgd,rfl,fun e he=>absurd he (by simp),fun _=>rfl⟩
  show wpAny _ _ (Builtin.ObjectAttr.storeInDict s.heap.objs.size (.str name s.toks) name v) _ _ _;unfold Builtin.ObjectAttr.storeInDict Builtin.ObjectAttr.newKeyGuard;refine al2q (al7q (al2q (wpAny_nsSet1 (Heap.Ns1.of_empty hnd) fun h' hn' hs=>?_)));obtain⟨oD,esD,epD,hoD,hdD,hcD⟩:=hn'.count (Within.cons name v Within.nil);refine al2q (wpAny_lookBehind hoD (by rw[hdD];exact pastItsLine_dict (al58q hcD (by rw[al99q,List.length_nil,al95q];lia))) ?_);refine al7q (h h' _ (fun b o hb q=>?_) ?_ hn')
  · exact (hs.2 b (al31q (al14q q))).trans ((Heap.get?_update_ne _ _ _ _ hb).trans (al5q _ q))
  · exact (hs.2 x hxs).trans (al33q _ hx₁ rfl)
end
def excO (e C:ty1q) (dc:Option ty1q):HO:=.ext fun h=>∃oe vs t0,h.get? e=some oe/\oe.cls = .ref C/\oe.dict=dc/\oe.data = .fields vs/\vs[0]? = some (.ref t0)/\vs[1]? = some .none
section
variable {X:Cx}{pins:ty91q}{σ:St}{H:Hp}{s:ty2q}{a C:ty1q}{dc:Option ty1q}{f:Str}{A:Around}{E:ty90q}
theorem zoj {P:ty4q}{w:World}{h:Heap}{oe:Obj}{vs:Array ty3q}{t0:ty1q}(h1:h.get? a=some oe) (h2:oe.cls = .ref C) (h3:oe.dict=dc) (h4:oe.data = .fields vs) (h5:vs[0]? = some (.ref t0)) (h6:vs[1]? = some .none):ObjOk P w H h a (excO a C dc):=
  ⟨⟨oe,vs,t0,h1,h2,h3,h4,h5,h6⟩,⟨oe,h1⟩,fun g1 g2 ⟨oe',vs',t0',q1,q2⟩ k=>⟨oe',vs',t0',k _ q1,q2⟩⟩
theorem zjb {y:V}{u:ty3q}{Q:Unit->ty2q->Prop}(I:Inv X pins σ H s) (e:H a=some (excO a C none)) (c:XCls X.K C) (n:NoAttr X.K C f) (ry:RelV y u)
    (h:∀d s',H d=none->Inv X pins σ (upd (upd H d (.xd [(f,y)])) a (excO a C (some d))) s'->Q () s'):wpAny (model X.prog X.w) A (setAttr (.ref a) f u) Q E s:=by
  obtain⟨⟨oe,vs,t0,h1,h2,h3,h4,h5,h6⟩,_,_⟩:=(show ObjOk X.prog X.w H s.heap a (excO a C none) from I.hok a _ e);refine xset I.kIn h1 h2 h3 h4 c n.taker fun h' tk k hx hns=>?_
  have hd:=I.hok.fresh (al13q s.heap.objs.size);have hne:s.heap.objs.size≠a:=al145q (al14q h1);have fr:oe.isFreed=false:=al66q h4;have u1:(h'.update a fun _=>oe).get? a=some oe:=al33q _ hx fr;have u2:∀b,b≠a->(h'.update a fun _=>oe).get? b=h'.get? b:=fun b hb=>al24q _ _ (al26q hb)
  have I1:=I.laid (a:=s.heap.objs.size) (o:=.xd [(f,y)]) (h':=h'.update a fun _=>oe) (t':=tk) (fun b o q=>by
    by_cases hb:b=a
    · subst hb;rw[h1] at q;cases q;exact u1
    · rw[u2 b hb];exact k b o hb q) (al13q _) ⟨_,hns.at fun o q=>by rw[u2 _ hne];exact q,fun g=>by
        by_cases hg:g=f
        · rw[al12q hg];subst hg;rw[List.lookup_cons,al185q];exact ry
        · rw[al8q hg,List.lookup_cons,al67q.mpr hg];exact True.intro⟩
  have I2:=I1.write (x:=a) (e:=a) (o:=excO a C (some s.heap.objs.size)) (h':=h') (t':=tk) (by rw[zo hne.symm,e];exact True.intro) (.inl rfl) (fun b o hb q=>by rw[u2 b hb] at q;exact q) ⟨_,hx⟩ (zoj hx h2 rfl h4 h5 h6);exact h _ _ hd I2
end
structure XBase (K:ty0q) (D:ty1q):Prop where
  rd:PySem.W.readsIn K D (.type "type")=true
  ga:PySem.W.specialIn K (.ref D) "__getattribute__" = some (some (.builtin "type.__getattribute__"))
  fc:PySem.W.findCls K (.ref D) (.type "type") "__init__" = some (.val (.builtin "ValueError.__init__"))
def XObjK (K:ty0q) (C:ty1q) (bm:List ty3q):Prop:=∃nm q N bs hdct sn sub ab col dd k0 k1 k2 k3 k5,K.lookup C=some (excClassObj nm q C N bs bm hdct sn sub ab col dd k0 k1 k2 k3 k5 "ValueError.__new__")
theorem XObjK.in {K:ty0q}{C:ty1q}{bm:List ty3q}{h:Heap}(x:XObjK K C bm) (X:K.In h):XObj h C bm:=by
  obtain⟨a1,a2,a3,a4,a5,a6,a7,a8,a9,b1,b2,b3,b4,b5,b6,e⟩:=x;exact⟨a1,a2,a3,a4,a5,a6,a7,a8,a9,b1,b2,b3,b4,b5,b6,X _ _ e⟩
def zvg (K:ty0q) (t:TA):TE:=fun σ H Q=>t σ H fun xs H1=>∃a C dc bm rest,xs = .ref a::rest/\H1 a=some (excO a C dc)/\XObjK K C bm/\UnderV bm/\rest.length<=sizeLine/\Q .non H1
def zw4 (K:ty0q) (ta tv:TE) (f:Str):TS:=fun D σ H=>tv σ H fun y H1=>ta σ H1 fun x H2=>∃a C,x = .ref a/\H2 a=some (excO a C none)/\XCls K C/\NoAttr K C f/\
  ∀d,H2 d=none->D.nx σ (upd (upd H2 d (.xd [(f,y)])) a (excO a C (some d)))
theorem zvh {H:Hp}{a:ty1q}{o:HO}(h:H a=some o):upd H a o=H:=by
  funext b;unfold upd
  by_cases e:b=a
  · rw[al12q e,e,h]
  · rw[al8q e]
section
variable {X:Cx}{o e value:Expr}{es:List Expr}{x f:Str}{p pos pos' apos:Pos}{ta tv:TE}{t:TA}{D:ty1q}
theorem zok (ha:PE X o ta) (hv:PE X value tv) (hs:swapsWith value (some (.Attribute o f pos')) pos.line X.env=pure false):PS X (.Assign [.Attribute o f pos'] value pos) (zw4 X.K ta tv f):=by
  intro pins s σ H D I h;refine plainObj_wpAny_Assign_Attribute (thn (hv pins s σ H _ I h) fun u s1 ⟨y,H1,I1,ry,q⟩=>thn (ha pins s1 σ H1 _ I1 q) fun ov s2 hq0=>?_) hs;obtain⟨x,H2,I2,rx,a,C,ex,ea,c,n,q2⟩:=hq0;subst ex;obtain rfl:ov=Value.ref a:=rx;exact zjb I2 ea c n ry fun d s3 hd I3=>⟨σ,_,I3,q2 d hd⟩
theorem zqg {pins:ty91q}{s:ty2q}{σ:St}{H:Hp}{a C:ty1q}{dc:Option ty1q}{bm:List ty3q}{us:List ty3q}{Q:VK}(I:Inv X pins σ H s) (e:H a=some (excO a C dc)) (xo:XObjK X.K C bm) (U:UnderV bm) (hz:us.length<=sizeLine) (q:Q .non H) :
    wpAny (model X.prog X.w) X.A (call (.builtin "ValueError.__init__") (.ref a::us)) (EP X pins σ Q) X.xe s:=by
  obtain⟨⟨oe,vs,t0,h1,h2,h3,h4,h5,h6⟩,_,_⟩:=(show ObjOk X.prog X.w H s.heap a (excO a C dc) from I.hok a _ e);obtain⟨hp,g,d,tk,os⟩:=s;refine zw3 U (xo.in I.kIn) hz h1 h2 h4 h5 fun h' k hx=>?_
  have z0:=(al38q.mp h5).1;have I2:=I.write (x:=a) (e:=a) (o:=excO a C dc) (h':=h') (t':=tk) (by rw[e];exact True.intro) (.inl rfl) (fun b o hb z=>k b o hb z) ⟨_,hx⟩ (zoj (t0:=hp.objs.size) hx h2 h3 rfl (by simp[z0]) (by rw[Array.getElem?_setIfInBounds_ne (by decide)];exact h6));rw[zvh e] at I2;exact⟨.non,H,I2,rfl,q⟩
theorem zkj {pl:Sem Bool}(hg:Gl X x) (hm:X.mg x=some (.ref D)) (b:XBase X.K D) (ha:PA X (e::es) t) (hdb:(x == ("__debug__" : Str))=false:=by decide)
    (hst:starEach (e::es) X.env=(false,eval e X.env)::starEach es X.env:=by rfl) (hpl:(backTo pos (starEach es X.env)).any (·.1)=false:=by rfl)
    (ht:eval (.Call (.Attribute (.Name x p) "__init__" apos) (e::es) [] pos) X.env=(do
      let ov ←eval (.Name x p) X.env
      standAt apos.atName
      let (f,first) ←holding [ov] (getMethod ov "__init__" pl)
      callWith pos f first (backTo pos (starEach (e::es) X.env)) (backToKw pos (keywordEach [] X.env))):=by rfl) :
    PE X (.Call (.Attribute (.Name x p) "__init__" apos) (e::es) [] pos) (zvg X.K t):=by
  intro pins s σ H Q I h;refine PySem.W.methodCall_KW (pl:=pl) (zep I hg hm ?_ hdb) ht;refine PySem.W.method_cls I.kIn b.ga (PySem.W.cls_value I.kIn b.rd b.fc (by decide +kernel) ?_);have hA:=ha pos pins _ σ H _ (I.tok (s.toks+1)) h;rw[hst] at hA ⊢;refine al148q (by show (false||(backTo pos (starEach es X.env)).any (·.1))=false;rw[hpl]<;>rfl) (al159q ?_);refine thn hA fun us s2 hq0=>?_
  obtain⟨vs,H2,I2,r2,a,C,dc,bm,rest,ev,ea,xo,U,hz,q⟩:=hq0;subst ev;cases r2 with
  | cons r1 r2=>
    cases r1;exact zqg I2 ea xo U (by rw[←r2.length];exact hz) q
end
def del (H:Hp) (e:ty1q):Hp:=fun b=>if b=e then none else H b
theorem zgz {H:Hp}{e:ty1q}:del H e e=none:=by unfold del;rw[al12q rfl]
theorem ze6 {H:Hp}{e b:ty1q}(h:b≠e):del H e b=H b:=by unfold del;rw[al8q h]
structure XMk (K:ty0q) (C f:ty1q) (bm:List ty3q):Prop where
  obj:XObjK K C bm
  un:UnderV bm
  init:PySem.W.findIn K (.ref C) "__init__" = some (some (.ref f))
  fn:PySem.W.isFn K (.ref f)=true
section
variable {X:Cx}{pins:ty91q}{σ:St}{H:Hp}{s:ty2q}
theorem Inv.drop {e:ty1q}{φ:Heap->Prop}(I:Inv X pins σ H s) (he:H e=some (.ext φ)):Inv X pins σ (del H e) s:=by
  refine I.un (h':=s.heap) (t':=s.toks) ⟨fun _ _ q _ _ _=>q,fun b o q _ _ _=>⟨o.slots,q⟩,fun b o _ n _=>?_,fun b o q _=>⟨o,q⟩,fun b xs q=>?_,fun b o u q=>?_,fun b ps q=>⟨#[],?_⟩⟩ fun a o q=>?_
  · by_cases z:b=e
    · rw[z];exact zgz
    · rw[ze6 z];exact n
  · rw[ze6 (fun z=>by rw[z,he] at q;cases q)];exact q
  · rw[ze6 (fun z=>by rw[z,he] at q;cases q)];exact q
  · rw[ze6 (fun z=>by rw[z,he] at q;cases q),Array.append_empty];exact q
  · have na:a≠e:=fun z=>by rw[z,zgz] at q;cases q
    rw[ze6 na] at q;refine (I.hok a o q).stay (fun _ _ _ z=>z) (fun b z=>?_) fun b xs z=>?_
    · rw[ze6 (fun w=>by rw[w,he] at z;cases z)];exact z
    · rw[ze6 (fun w=>by rw[w,he] at z;cases z)];exact z
end
def zru (C:ty1q) (sp:Sp) (dvs:List V) (E E1:XK) (t:TA):TS:=fun _ σ H=>t σ H fun vs H1=>∀e,H1 e=none->sp (.ref e::(vs++dvs)) (upd H1 e (excO e C none)) (fun v H2=>v = .non/\∃dc,H2 e=some (excO e C dc)/\E (.ref C) dc (del H2 e)) E1
section
variable {X:Cx}{CX:CXT}{k:Nat}{f C:ty1q}{fd:FuncData}{ps:List Str}{sp:Sp}{dvs:List V}{ds:List ty3q}{E E1:XK}{x:Str}{p pos cpos:Pos}{e:Expr}{es:List Expr}{t:TA}{bm:List ty3q}
theorem zqh (M:XMk X.K C f bm) (F:FnOk X.prog X.w X.K X.mg X.base CX k f fd ps sp) (hr:Room (k+1) X.A) (xe:XeIs X E) (hx:zhe CX X E1) (hg:Gl X x) (hm:X.mg x=some (.ref C)) (hb:Binds X.K fd ps ds) (hd:Vals dvs ds) (hps:ps.length<=1000) (ha:PA X (e::es) t)
    (hdb:(x == ("__debug__" : Str))=false:=by decide) (he:starEach (e::es) X.env=(false,eval e X.env)::starEach es X.env:=by rfl) (hpl:(backTo cpos (starEach es X.env)).any (·.1)=false:=by rfl) :
    PS X (.Raise (some (.Call (.Name x p) (e::es) [] cpos)) none pos) (zru C sp dvs E E1 t):=by
  intro pins s σ H D I h;refine zlk (vI:=.ref f) M.un hr.hd he hpl (zep I hg hm ⟨rfl,thn (ha cpos pins s σ H _ I h) fun us s2 hq0=>?_⟩ hdb);obtain⟨vs,H1,I1,r,q⟩:=hq0;have fr:∀a,s2.heap.objs.size<=a->H1 a=none:=fun a h=>I1.hok.fresh h
  have q0:=q _ (fr _ (al13q _));have l0:=F.len _ _ _ _ q0;rw[al99q,al18q] at l0;have rl:=r.length;refine⟨by rw[al95q];lia,M.obj.in I1.kIn,PySem.W.looks_findIn I1.kIn M.init,fun self=>PySem.W.bind_fn I1.kIn self (beq_iff_eq.mp M.fn),fun h' ex hs hmd=>?_⟩;have hq:=q ex (fr ex hs);obtain⟨t0,h1,_,_⟩:=hmd.there;have I2:=I1.laid (a:=ex) (o:=excO ex C none) (h':=h') (t':=s2.toks) hmd.keeps hs (zoj h1 rfl rfl rfl rfl rfl);have r2:Vals (V.ref ex::(vs++dvs)) (Value.ref ex::(us++ds)):=.cons rfl (r.append hd);have hl:(Value.ref ex::us++ds).length=ps.length:=by
    have e:=r2.length;rw[F.len _ _ _ _ hq] at e;exact e.symm
  refine al146q (al163q (F.run _ X.stack _ _ ⟨Value.ref ex::us,[]⟩ (Value.ref ex::(us++ds)) _ _ E1 (hr.make C us []) (I2.env0.make C us []) (hb _ (Value.ref ex::us) I2.kIn hl) r2 hq) fun r s' hq'=>?_);cases r with
  | error e=>exact hx pins σ _ _ e s' I2 hq'
  | ok fl=>
    cases fl with
    | ret u=>
      obtain⟨v,H',I3,rv,ev,dc,he',hE⟩:=I2.after hq';subst ev;obtain⟨⟨oe,ws,t1,g1,g2,g3,g4,g5,g6⟩,_,_⟩:=(show ObjOk X.prog X.w H' s'.heap ex (excO ex C dc) from I3.hok ex _ he');have I4:=I3.drop he';exact⟨rv,oe,ws,M.obj.in I3.kIn,g1,g2,g4,g6,zqf I4 xe ⟨oe,ws,g1,g2,g3,g4,g6,zgz,al58q I1.sz hs⟩ hE⟩
    | next=>exact False.elim hq'
    | brk=>exact False.elim hq'
    | cont=>exact False.elim hq'
end
section
variable {M:Model}{A:Around}{E:ty90q}{s:ty2q}
theorem zol {base:Heap}{env:Env}{outer:List Env}{L e T:ty1q}{oe oT:Obj}{vs ts:Array ty3q}{Q:Unit->ty2q->Prop}
    (hfr:A.frames=some (env::outer)) (hl:s.heap.FunFrames base (env::outer)) (hf:env.frame=some L) (he:s.heap.get? e=some oe) (hd:oe.data = .fields vs) (h1:vs[1]? = some (.ref T))
    (hT:s.heap.get? T=some oT) (dT:oT.data = .fields ts) (h3:ts[3]? = some .none) (ne:T≠e)
    (k:∀h',Gone (frs (env::outer)) e s.heap.objs.size [T] oe vs s.heap h'->Q () { s with heap:=h' }) :
    wpAny M A (noteFrame (.ref e) env) (fun _ s'=>wpAny M A (setFlight (.ref e) none) Q E s') E s:=by
  unfold noteFrame;simp only [hf];refine al2q (al143q he hd h1 ?_);rw[al12q (show (Value.ref T != Value.none)=true from by simp)];refine al2q (al143q hT dT h3 ?_);rw[al8q (show ¬((Value.none == rawInt L)=true) from by simp[rawInt])];have z3:=(al38q.mp h3).1;refine al2q (al122q hT dT z3 ?_);have oth:∀b,b≠T->(s.heap.update T (Obj.mapFields (·.setIfInBounds 3 Value.none))).get? b=s.heap.get? b:=fun b hb=>al24q _ _ (al26q hb)
  have self:=al33q (Obj.mapFields (·.setIfInBounds 3 Value.none)) hT (al66q (al72q dT _));have nf:T ∉ frs (env::outer):=fun hm=>by
    obtain⟨_,o,ho,hn⟩:=hl.mem hm;rw[hT] at ho;cases ho;exact hn ts dT
  have sz:(s.heap.update T (Obj.mapFields (·.setIfInBounds 3 Value.none))).objs.size=s.heap.objs.size:=Heap.size_after_update ..;refine entry_new (s:={ s with heap:=s.heap.update T (Obj.mapFields (·.setIfInBounds 3 Value.none)) }) hfr (hl.of_keeps fun b o hb hn=>⟨o,(oth b fun z=>?_).trans hb,rfl⟩) hf ((oth e ne.symm).trans he) hd (al38q.mp h1).1 fun h' G=>?_
  · subst z;rw[hT] at hb;cases hb;exact hn ts dT
  · have e1:(s.heap.update T (Obj.mapFields (·.setIfInBounds 3 Value.none))).objs.size=s.heap.objs.size:=sz;have G:=G;dsimp only at G;rw[e1] at G;refine k h' ⟨fun b o hb hn hx q=>G.keep b o hb hn (by simp) ((oth b fun z=>hx (by simp[z])).trans q),fun b o hb q=>G.slot b o hb ((oth b fun z=>nf (z▸hb)).trans q),al83q (al13q _),G.exc,G.ent⟩
end
def Met (X:Cx) (pins:ty91q) (H:Hp) (h:Heap) (e:ty1q) (cls:ty3q) (dc:Option ty1q):Prop:=
  ∃(oe:Obj) (vs:Array ty3q) (T:ty1q) (oT:Obj) (ts:Array ty3q),h.get? e=some oe/\oe.cls=cls/\oe.dict=dc/\oe.data = .fields vs/\vs[1]? = some (.ref T)/\T≠e/\h.get? T=some oT/\oT.data = .fields ts/\ts[3]? = some .none/\FpOk X pins H e/\FpOk X pins H T
section
variable {X:Cx}{pins:ty91q}{σ:St}{H:Hp}{s:ty2q}{E:XK}
theorem zs6 {Q:Unit->ty2q->Prop}{E':ty90q}{u:ty3q}{s':ty2q}(I:Inv X pins σ H s) (x2:X.stack=X.env::X.outer) (x3:X.env.frame=some X.env.locals) (h:CX1 X.prog X.w X.stack H s E u s')
    (k:∀e cls dc H' h',u = .ref e->Inv X pins σ H' { s' with heap:=h' }->Met X pins H' h' e cls dc->E cls dc H'->Q () { s' with heap:=h' }) :
    wpAny (model X.prog X.w) X.A (noteFrame u X.env) (fun _ s1=>wpAny (model X.prog X.w) X.A (setFlight u none) Q E' s1) E' s':=by
  obtain⟨e,cls,dc,H',rfl,os,bare,un,hok,fl,hE⟩:=h;have I':=I.call' os un hok bare (ch:=[]) (fun b z=>absurd z (by simp));obtain⟨oe,vs,T,oT,ts,he,hc,hdc,hd,h1,hTe,hT,dT,h3,He,HT,ne,nT⟩:=fl;have fr:=I'.ok.frames;have st:=I'.stack;rw[x2] at fr st;refine zol fr st x3 he hd h1 hT dT h3 hTe fun h' G=>?_
  have F1:FpOk X pins H' e:=I.fpOk ne He;have F2:FpOk X pins H' T:=I.fpOk nT HT;have sf:∀b∈frs (X.env::X.outer),H' b=none:=by
    have:=I'.stkFree;rw[x2] at this;exact this
  have U:Un (frs X.stack) [e,T] H' H' s'.heap h':=by
    rw[x2];refine⟨fun b o q n nf nx=>G.keep b o (fun z=>nx (by simp[z])) nf (fun z=>nx (by rw[al85q.mp z];simp)) q,fun b o q n hb nx=>G.slot b o hb q,fun b o q n _=>n,fun b o q nx=>?_,fun _ _ z=>z,fun _ _ _ z=>z,fun _ ps z=>⟨#[],by rw[Array.append_empty];exact z⟩⟩
    by_cases hb:b∈frs (X.env::X.outer)
    · obtain⟨sl,z⟩:=G.slot b o hb q;exact⟨_,z⟩
    · exact⟨o,G.keep b o (fun z=>nx (by simp[z])) hb (fun z=>nx (by rw[al85q.mp z];simp)) q⟩
  have hok':HOk X.prog X.w H' h':=fun a o q=>by
    refine (hok a o q).stay (fun b u hb z=>?_) (fun _ z=>z) fun _ _ z=>z
    have Hb:H' b≠none:=by
      rcases hb with z | z
      · rw[z,q];simp
      · rw[z];simp
    exact G.keep b u (fun z=>Hb (z▸He)) (fun z=>Hb (sf b z)) (fun z=>Hb (by rw[al85q.mp z];exact HT)) z
  have I2:Inv X pins σ H' { s' with heap:=h' }:=I'.call' (s':={ s' with heap:=h' }) (ch:=[e,T]) rfl U hok' I'.bare fun b hb=>by
    have F:FpOk X pins H' b:=by
      rcases al21q.mp hb with z | z
      · rw[z];exact F1
      · rw[al85q.mp z];exact F2
    exact⟨F.2.2.2.1,F.2.1,F.2.2.2.2.1,F.2.2.2.2.2⟩
  obtain⟨oT',ts',t1,t2,t3⟩:=G.ent;have hTn:s'.heap.objs.size≠e:=al145q (al14q he);exact k e cls dc H' h' rfl I2 ⟨_,_,s'.heap.objs.size,oT',ts',G.exc,hc,hdc,rfl,by simp[(al38q.mp h1).1],hTn,t1,t2,t3,F1,I'.fpOk (al13q _) (hok.fresh (al13q _))⟩ hE
end
structure XCatch (K:ty0q) (D:ty1q):Prop where
  nt:PySem.W.instIn K (.ref D) (.type "tuple")=some false
  ty:PySem.W.isClsIn K D=true
  ex:PySem.W.mroIn K D (.type "BaseException")=some true
section
variable {M:Model}{A:Around}{E:ty90q}{s:ty2q}{K:ty0q}{e C D:ty1q}{oe:Obj}{b:Bool}
theorem zqi {Q:Bool->ty2q->Prop}(X:K.In s.heap) (he:s.heap.get? e=some oe) (hc:oe.cls = .ref C) (cd:XCatch K D) (hs:PySem.W.mroIn K C (.ref D)=some b) (h:Q b s):wpAny M A (excMatches (.ref e) (.ref D)) Q E s:=by
  have L1:=PySem.W.looks_instIn (M:=M) X cd.nt;have L3:=PySem.W.looks_mroIn (M:=M) X cd.ex;have L4:=PySem.W.looks_mroIn (M:=M) X hs;have L5:PySem.W.Looks M s.heap (typeOf (.ref e)) (.ref C):=hc▸(PySem.W.Looks.ld he).andThen .now;unfold excMatches;refine al2q (L1.here ?_);dsimp only;rw[al8q (by decide)];refine al2q (al7q ?_);simp only [al153q,List.forIn_nil];have L6:PySem.W.Looks M s.heap (isExcClass (.ref D)) true:=by
    unfold isExcClass;refine PySem.W.Looks.andThen (a:=true) ?_ ?_
    · obtain⟨c,hc⟩:=Option.isSome_iff_exists.mp cd.ty;unfold PySem.W.clsIn at hc;split at hc
      · rename_i hk;exact (PySem.W.Looks.ld (part:=_) (X _ _ hk)).andThen .now
      · cases hc
    · exact L3
  refine al2q (al2q (al2q (L6.here ?_)));rw[al8q (by decide)];refine al7q (al7q (al2q (L5.here (al2q (al2q (al2q (L4.here ?_)))))));cases b with
  | true=>rw[al12q rfl];exact al7q (al7q (al7q h))
  | false=>rw[al8q (by decide)];exact al7q (al7q (al7q h))
end
section
variable {X:Cx}{pins:ty91q}{σ:St}{H:Hp}{s:ty2q}
theorem Inv.track {a:ty1q}{o:HO}(I:Inv X pins σ H s) (f:FpOk X pins H a) (xe:X.ex = []) (ok:ObjOk X.prog X.w (upd H a o) s.heap a o):Inv X pins σ (upd H a o) s:=by
  obtain⟨f1,f2,f3,f4,f5,f6⟩:=f;have f4:X.s₀.heap.objs.size<=a:=f4.resolve_left (by rw[xe];simp);refine⟨I.ok,I.os,I.bare,⟨I.base.keep,I.base.slot,fun b ob q n hx=>?_,I.base.there,fun b xs q=>?_,fun b ob u q=>?_,fun b ps q=>?_⟩,I.loc,I.cell,?_,fun x c z=>?_,fun p hp=>?_,fun b ob q=>?_,I.len⟩
  · rw[zo (fun z=>absurd (al14q q) (Nat.not_lt.mpr (by rw[z];exact f4)))];exact I.base.free b ob q n hx
  · have:=I.base.tups b xs q;rw[zo (fun z=>by rw[z,f1] at this;cases this)];exact this
  · have:=I.base.frzs b ob u q;rw[zo (fun z=>by rw[z,f1] at this;cases this)];exact this
  · obtain⟨m,this⟩:=I.base.tbls b ps q;refine⟨m,?_⟩;rw[zo (fun z=>by rw[z,f1] at this;cases this)];exact this
  · rw[zo f2.symm];exact I.free
  · rw[zo (f5 x c z)];exact I.freeC x c z
  · obtain⟨q1,q2,q3,q4,q5⟩:=I.pin p hp;exact⟨q1,by rw[zo (f6 p hp)];exact q2,q3,q4,q5⟩
  · by_cases z:b=a
    · subst z;rw[zf] at q;cases q;exact ok
    · rw[zo z] at q;refine (I.hok b ob q).stay (fun _ _ _ z=>z) (fun c w=>?_) fun c xs w=>?_
      · rw[zo (fun z=>by rw[z,f1] at w;cases w)];exact w
      · rw[zo (fun z=>by rw[z,f1] at w;cases w)];exact w
theorem zg0 {M:Model}{A:Around}{E:ty90q}{i:Nat}{n:Str}{pos:Pos}{Q:Unit->ty2q->Prop}(I:Inv X pins σ H s) (hN:X.N.Nodup) (hi:X.N[i]? = some n) (hl:X.env.scope.names.lookup n=some .local)
    (h:∀s',Inv X pins (σ.set i none) H s'->Q () s'):wpAny M A (do bindName X.env n .none;unbindBehindTheSuite X.env n pos) Q E s:=by
  have hcls:(X.env.scope.kind == .class||(X.env.scope.kind == .module&&X.env.locals != X.env.globals))=false:=by rw[I.ok.kind];rfl
  refine al2q (wpAny_bindName (zeh I hN hi (.inl hl) (v:=.non) rfl (fun s1 I1=>?_) (.inr hl)));unfold unbindBehindTheSuite;refine wpAny_onRaise ?_;unfold unbindName;refine al2q (wpAny_point (al2q ?_));unfold deleteName;obtain⟨m,hn,hl'⟩:=id I1.loc;have hlk:X.env.kindOf n=some .local:=hl;simp only [hlk,hcls];rw[al8q (by decide)];have iσ:i<(σ.set i (some V.non)).length:=by rw[I1.len];exact (al3q.mp hi).1
  obtain⟨u,ru,lu⟩:=hl' i n .non hi (by rw[al144q (by simpa using iσ)]) (.inl hl);have mn:(m n).isSome=true:=by
    rcases lu with ⟨_,z⟩ | ⟨z,_⟩
    · rw[z];rfl
    · rw[hlk] at z;rcases z with z | z<;>cases z
  refine al2q (wpAny_nsDel_keeps hn fun h2 v hn2 hs2=>?_);rw[mn];simp only [if_true,Bool.not_true,al84q,al151q];refine al7q (wpAny_point (h _ ?_));have cne:=I1.cne;obtain⟨oL,_,_,hoL,_⟩:=id hn;refine⟨I1.ok,I1.os,I1.bare,⟨fun b o e n hb hx=>?_,fun b o e n hb hx=>?_,I1.base.free,fun b o e hx=>?_,I1.base.tups,I1.base.frzs,I1.base.tbls⟩,⟨_,hn2,fun j y v' e1 e2 e3=>?_⟩,fun y c e=>?_,I1.free,I1.freeC,fun p hp=>?_,fun b ob e=>?_,by simpa using I.len⟩
  · exact (hs2.2 b (al31q (al37q (al14q e) I1.ok.above))).trans (I1.base.keep b o e n hb hx)
  · obtain⟨sl,e1⟩:=I1.base.slot b o e n hb hx;exact⟨sl,(hs2.2 b (al31q (al37q (al14q e) I1.ok.above))).trans e1⟩
  · obtain⟨o',e1⟩:=I1.base.there b o e hx;exact⟨o',(hs2.2 b (al31q (al37q (al14q e) I1.ok.above))).trans e1⟩
  · have hj:j≠i:=fun z=>by
      subst z;rw[al144q (by simpa using iσ)] at e2;cases e2
    rw[al158q (al26q hj)] at e2;obtain⟨u',r',q⟩:=hl' j y v' e1 (by rw[al158q (al26q hj)];exact e2) e3;refine⟨u',r',?_⟩;rcases q with ⟨k,z⟩ | ⟨k,c,z1,z2⟩
    · refine .inl ⟨k,?_⟩;have:y≠n:=fun z=>hj (zga hN e1 (z▸hi))
      simp[this,z]
    · exact .inr ⟨k,c,z1,z2.sameBut hs2 (cne y c z1)⟩
  · obtain⟨w',z⟩:=I1.cell y c e;exact⟨w',z.sameBut hs2 (cne y c e)⟩
  · obtain⟨e,n,ne,nf,d⟩:=I1.pin p hp;exact⟨(hs2.2 p.1 ne).trans e,n,ne,nf,d⟩
  · refine (I1.hok b ob e).stay (fun c w' hc q=>(hs2.2 c ?_).trans q) (fun _ q=>q) fun _ _ q=>q
    rintro rfl;rcases hc with rfl | hc
    · rw[I1.free] at e;cases e
    · rw[I1.free] at hc;cases hc
end
def Cx.inTry (X:Cx) (pn:ty91q) (xe:ty90q):Cx:={ X with pn:=pn,xe:=xe }
def Cx.inSuite (X:Cx) (v:ty3q) (xe:ty90q):Cx:={ X with A:=X.A.mark (some v),calm:=false,xe:=xe }
structure XFn (X:Cx):Prop where
  st:X.stack=X.env::X.outer
  fr:X.env.frame=some X.env.locals
  ex:X.ex = []
def zvi (X:Cx) (Es:St->XK):Prop:=∀(pins:ty91q) (σ:St) (H:Hp) (s:ty2q) (u:ty3q) (s':ty2q),Inv X pins σ H s->CX1 X.prog X.w X.stack H s (Es σ) u s'->X.xe u s'
def excH (e C:ty1q) (dc:Option ty1q):HO:=.ext fun h=>∃oe vs,h.get? e=some oe/\oe.cls = .ref C/\oe.dict=dc/\oe.data = .fields vs
abbrev TH:=Ends->St->ty1q->Option ty1q->Hp->Prop
def PH (X:Cx) (hs:List ExceptHandler) (th:TH):Prop:=
  ∀(pins:ty91q) (s:ty2q) (σ:St) (H:Hp) (D:Ends) (e C:ty1q) (dc:Option ty1q),Inv X pins σ H s->Met X pins H s.heap e (.ref C) dc->th D σ C dc H->wpAny (model X.prog X.w) X.A (handleBy (.ref e) X.env hs) (SP X pins D) X.xe s
def zw5:TH:=fun _ _ _ _ _=>False
def zvj (i:Nat) (D:Ends):Ends:={ nx:=fun σ H=>D.nx (σ.set i none) H,rt:=D.rt,bk:=fun σ H=>D.bk (σ.set i none) H,ct:=fun σ H=>D.ct (σ.set i none) H }
def thAs (K:ty0q) (i:Nat) (Dc:ty1q) (ts:TS) (thr:TH):TH:=fun D σ C dc H=>∃b,PySem.W.mroIn K C (.ref Dc)=some b/\
  if b=true then ∀e,H e=none->ts (zvj i D) (σ.set i (some (.ref e))) (upd H e (excH e C dc)) else thr D σ C dc H
def sTry (tb:(St->XK)->TS) (th:TH):TS:=fun D σ H=>tb (fun σ' cls dc H'=>∃C,cls = .ref C/\th D σ' C dc H') D σ H
def zvk (sp:Sp) (dvs:List V) (Es:St->XK) (t:TA):TE:=fun σ H Q=>t σ H fun vs H1=>sp (vs++dvs) H1 Q (Es σ)
section
variable {X:Cx}{pins:ty91q}{σ:St}{H:Hp}{s:ty2q}
theorem zid {v:ty3q}{xe:ty90q}(I:Inv X pins σ H s):Inv (X.inSuite v xe) pins σ H s:=
  ⟨⟨I.ok.mod,I.ok.kind,I.ok.glob,I.ok.blt,I.ok.above,I.ok.inj,I.ok.has,I.ok.cab,(fun z=>absurd z al23q),I.ok.frames,I.ok.stk,I.ok.exf,I.ok.bs,I.ok.bsz,I.ok.noex,I.ok.exfs,I.ok.funs,I.ok.frf⟩,
    I.os,I.bare,I.base,I.loc,I.cell,I.free,I.freeC,I.pin,I.hok,I.len⟩
theorem zce {v:ty3q}{xe:ty90q}(ok:X.Ok) (I:Inv (X.inSuite v xe) pins σ H s):Inv X pins σ H s:=⟨ok,I.os,I.bare,I.base,I.loc,I.cell,I.free,I.freeC,I.pin,I.hok,I.len⟩
theorem zs7 {xe:ty90q}(I:Inv X pins σ H s):Inv (X.inTry (X.pn++pins) xe) [] σ H s:=
  ⟨⟨I.ok.mod,I.ok.kind,I.ok.glob,I.ok.blt,I.ok.above,I.ok.inj,I.ok.has,I.ok.cab,I.ok.hd,I.ok.frames,I.ok.stk,I.ok.exf,I.ok.bs,I.ok.bsz,I.ok.noex,I.ok.exfs,I.ok.funs,I.ok.frf⟩,
    I.os,I.bare,I.base,I.loc,I.cell,I.free,I.freeC,fun p hp=>I.pin p ((al25q.mp hp).elim id fun z=>absurd z (by simp)),I.hok,I.len⟩
theorem zcr {pins':ty91q}{xe:ty90q}(ok:X.Ok) (I:Inv (X.inTry (X.pn++pins) xe) pins' σ H s):Inv X pins σ H s:=
  ⟨ok,I.os,I.bare,I.base,I.loc,I.cell,I.free,I.freeC,fun p hp=>I.pin p (al35q _ hp),I.hok,I.len⟩
end
section
variable {X:Cx}{CX:CXT}{k i:Nat}{f Dc:ty1q}{ps:List Str}{sp:Sp}{x n:Str}{p pos hpos:Pos}{e:Expr}{es:List Expr}{t:TA}{Es:St->XK}{b₀:Stmt}{suite body:List Stmt}{h₀:ExceptHandler}{rest hs:List ExceptHandler}{ts:TS}{thr th:TH}{tb:(St->XK)->TS}
theorem zvl (F:HasX X.prog X.w X.K X.mg X.base x ps k sp) (xe:zvi X Es) (hr:Room k X.A) (hg:Gl X x) (ha:PA X (e::es) t) (hdb:(x == ("__debug__" : Str))=false:=by decide)
    (he:starEach (e::es) X.env=(false,eval e X.env)::starEach es X.env:=by rfl) (hpl:(backTo pos (starEach es X.env)).any (·.1)=false:=by rfl):PE X (.Call (.Name x p) (e::es) [] pos) (zvk sp [] Es t):=by
  obtain⟨f,fd,a,kp,_,b,G⟩:=F;intro pins s σ H Q I h;refine al147q (zep I hg a ?_ hdb);refine PySem.W.callWith_K (h₀:=X.base) I.ok.mod.kin kp (thn (ha pos pins s σ H _ I h) fun us s1 ⟨vs,H1,I1,r,q⟩=>⟨I1.kIn,?_⟩) he hpl;have r2:Vals (vs++[]) (us++[]):=r.append .nil;have hl:(us++[]).length=ps.length:=by rw[←r2.length];exact G.len _ _ _ _ q
  refine al146q (al163q (G.run X.A X.stack s1 H1 ⟨us,[]⟩ (us++[]) (vs++[]) Q (Es σ) hr I1.env0 ((Binds.all b) s1 us I1.kIn hl) r2 q) fun r s' hq=>?_);cases r with
  | error e=>exact xe pins σ H1 s1 e s' I1 hq
  | ok fl=>
    cases fl with
    | ret u=>exact I1.after hq
    | next=>exact False.elim hq
    | brk=>exact False.elim hq
    | cont=>exact False.elim hq
theorem zvm (x:XFn X) (hb:∀pn xe (Es:St->XK),zvi (X.inTry pn xe) Es->PSs (X.inTry pn xe) body (tb Es)) (hh:PH X (h₀::hs) th):PS X (.Try body (h₀::hs) [] [] pos) (sTry tb th):=by
  intro pins s σ H D I h;refine wpAny_Try_except ?_;refine al51q (hb (X.pn++pins) (fun e s₁=>wpAny (model X.prog X.w) X.A (noteFrame e X.env) (fun _ s₂=>wpAny (model X.prog X.w) X.A (setFlight e none) (fun _ s₃=>wpAny (model X.prog X.w) X.A (handleBy e X.env (h₀::hs)) (SP X pins D) X.xe s₃) X.xe s₂) X.xe s₁)
    (fun σ' cls dc H'=>∃C,cls = .ref C/\th D σ' C dc H') (fun pins' σ' H' s' u s'' I' hcx=>?_) [] s σ H D (zs7 I) h) (fun fl s1 q=>?_) fun _ _ z=>z
  · refine zs6 (zcr I.ok I') x.st x.fr hcx fun e cls dc H2 h' hu I2 met hE=>?_
    subst hu;obtain⟨C,rfl,hth⟩:=hE;exact hh pins _ σ' H2 D e C dc I2 met hth
  · cases fl with
    | next=>
      obtain⟨σ',H',J,q⟩:=q;exact al170q ⟨σ',H',zcr I.ok J,q⟩
    | brk=>
      obtain⟨σ',H',J,q⟩:=q;exact⟨σ',H',zcr I.ok J,q⟩
    | cont=>
      obtain⟨σ',H',J,q⟩:=q;exact⟨σ',H',zcr I.ok J,q⟩
    | ret u=>
      obtain⟨v,σ',H',J,r,q⟩:=q;exact⟨v,σ',H',zcr I.ok J,r,q⟩
theorem zvn:PH X [] zw5:=fun _ _ _ _ _ _ _ _ _ _ h=>h.elim
theorem zvo (xf:XFn X) (hg:Gl X x) (hm:X.mg x=some (.ref Dc)) (cd:XCatch X.K Dc) (hN:X.N.Nodup) (hi:X.N[i]? = some n) (hl:X.env.scope.names.lookup n=some .local)
    (hsu:∀v xe,PSs (X.inSuite v xe) (b₀::suite) ts) (hr:PH X rest thr) (hdb:(x == ("__debug__" : Str))=false:=by decide) :
    PH X (.ExceptHandler (some (.Name x p)) (some n) (b₀::suite) hpos::rest) (thAs X.K i Dc ts thr):=by
  intro pins s σ H D e C dc I met h;obtain⟨oe,vs,T,oT,tvs,he,hc,hdc,hd,h1,hTe,hT,dT,h3,F1,F2⟩:=met;obtain⟨b,hb,h⟩:=h;refine wpAny_handleBy_cons (codeAny_handlers_test (zep (X:=X.inSuite (.ref e) X.xe) (zid I) hg hm ?_ hdb)) (by intro q;cases q);refine zqi (K:=X.K) I.kIn he hc cd hb ?_;cases b with
  | false=>
    rw[al8q (by decide)] at h;exact hr pins s σ H D e C dc I ⟨oe,vs,T,oT,tvs,he,hc,hdc,hd,h1,hTe,hT,dT,h3,F1,F2⟩ h
  | true=>
    rw[al12q rfl] at h;refine codeAny_handlers_suite_as ?_;refine wpAny_setFlight_none he hd h1 hT dT (al38q.mp h3).1 ?_;have oth:∀b,b≠T->(s.heap.update T (Obj.mapFields (·.setIfInBounds 3 .none))).get? b=s.heap.get? b:=fun b hb=>al24q _ _ (al26q hb)
    have I1:Inv X pins σ H { s with heap:=s.heap.update T (Obj.mapFields (·.setIfInBounds 3 .none)) }:=I.turnedL (t':=s.toks) (ch:=[T]) (fun b o hb q=>by rw[oth b (fun z=>hb (by simp[z]))];exact q) fun b hb=>by rw[al85q.mp hb];exact F2
    have he1:=(oth e hTe.symm).trans he;have I2:=I1.track (a:=e) (o:=excH e C dc) F1 xf.ex ⟨⟨oe,vs,he1,hc,hdc,hd⟩,⟨oe,he1⟩,fun g1 g2 ⟨oe',vs',q1,q2⟩ kk=>⟨oe',vs',kk _ q1,q2⟩⟩;refine zeh I2 hN hi (.inl hl) (v:=.ref e) rfl (fun s2 I3=>?_) (.inr hl);refine thn (hsu (.ref e) _ pins s2 _ _ (zvj i D) (zid I3) (h e F1.1)) fun fl s3 q=>?_
    cases fl with
    | next=>
      obtain⟨σ',H',J,q⟩:=q;exact zg0 (zce I.ok J) hN hi hl fun s5 J5=>⟨_,H',J5,q⟩
    | brk=>
      obtain⟨σ',H',J,q⟩:=q;exact zg0 (zce I.ok J) hN hi hl fun s5 J5=>⟨_,H',J5,q⟩
    | cont=>
      obtain⟨σ',H',J,q⟩:=q;exact zg0 (zce I.ok J) hN hi hl fun s5 J5=>⟨_,H',J5,q⟩
    | ret u=>
      obtain⟨v,σ',H',J,r,q⟩:=q;exact zg0 (zce I.ok J) hN hi hl fun s5 J5=>⟨v,_,H',J5,r,q⟩
end
end L2
namespace L2
def XOk (K:ty0q) (C:PySem.Addr):Prop:=∃bm,XObjK K C bm/\UnderV bm
end L2
namespace L2
open PySem
def zkk (K:ty0q) (C:ty1q):Bool:=match K.lookup C with
  | some ⟨.type t,_,.cls cd,sl⟩=>t == "type" && ((match cd.mro with | .ref c::bm=>c == C&&(bm.contains (.type "ValueError")&&(bm.contains (.type "BaseException")&&(!bm.contains (.type "AttributeError") && !bm.contains (.type "NameError")))) | _=>false)&&(!cd.hasDel &&
      (match sl.toList with | [_,_,_,_,some (.builtin i),_]=>i == "ValueError.__new__" | _=>false)))
  | _=>false
theorem zvp {K:ty0q}{C:ty1q}(h:zkk K C=true):XOk K C:=by
  unfold zkk at h;split at h
  · rename_i t dd cd sl hk;rw[al49q,al49q,al49q] at h;obtain⟨h1,h2,h3,h4⟩:=h;split at h2
    · rename_i c bm hm;split at h4
      · rename_i k0 k1 k2 k3 i k5 hs;simp only [al49q,beq_iff_eq,Bool.not_eq_true'] at h1 h2 h3 h4;obtain⟨rfl,a1,a2,a3,a4⟩:=h2;subst h1 h4;refine⟨bm,⟨cd.name,cd.qualname,cd.ns,cd.bases,cd.hasDict,cd.slotNames,cd.subclasses,cd.abstract,cd.collection,dd,k0,k1,k2,k3,k5,?_⟩,⟨a1,a2,a3,a4⟩⟩;rw[hk];obtain⟨x1,x2,x3,x4,x5,x6,x7,x8,x9,y1,y2⟩:=cd;dsimp only at hm h3;subst hm h3;obtain⟨l⟩:=sl;dsimp only at hs;subst hs;rfl
      · cases h4
    · cases h2
  · cases h
end L2
namespace L2
open PySem PySem.Spec PyProof.Rows
structure XGet (K:ty0q) (C:ty1q):Prop where
  ga:PySem.W.findIn K (.ref C) "__getattribute__" = some (some (.builtin "BaseException.__getattribute__"))
  gn:PySem.W.findIn K (.ref C) "__getattr__" = some none
  bx:PySem.W.mroIn K C (.type "BaseException")=some true
  hd:PySem.W.hasDictIn K C=true
section
variable {prog:ty4q}{w:World}{A:Around}{E:ty90q}{s:ty2q}{K:ty0q}{x C:ty1q}{ox:Obj}{od:Option Obj}{name:Str}{v:ty3q}{expr:Bool}{Q:ty90q}
theorem zom {Qf:Prop}(X:K.In s.heap) (I:PySem.W.InstAt s.heap x ox C od) (g:XGet K C)
    (h:wpAny (model prog w) A.in1 (Builtin.«object.__getattribute__» ⟨[.ref x,.str name s.toks],[]⟩)
      (fun fin s'=>match fin with | .done (.ret v)=>wpAny (model prog w) A (handedOut v) Q E s' | _=>False) (fun _ _=>False) { s with toks:=s.toks+1 }) :
    wpAny (model prog w) A (getAttr (.ref x) name expr) Q E s:=by
  have FB:=PySem.F.attrBase_ValueError;refine al2q (wpAny_mkText (al60q (al2q (I.type _ _ _ _ (fun _ _ e=>e) (al2q (PySem.W.looks_findIn X g.ga _ _ _ _ (fun _ _ e=>e) ?_))))));dsimp only;rw[show (onTheHeap (Value.ref C)&&Value.builtin "BaseException.__getattribute__" == Value.builtin "object.__getattribute__")=false from by rw[show (Value.builtin "BaseException.__getattribute__" == Value.builtin "object.__getattribute__")=false from by decide +kernel,Bool.and_false],al8q (by decide)];refine al2q (PySem.W.looks_hook (mc:=.ref C) X (r:=none) (by rw[al12q (show onTheHeap (Value.ref C)=true from rfl)];exact g.gn) _ _ _ _ (fun _ _ e=>e) (al2q (al187q (al60q ?_))));unfold callGetattribute;rw[show (expr&&onTheHeap (Value.builtin "BaseException.__getattribute__"))=false from by cases expr<;>rfl,al8q (by decide)];unfold boundAndCalled;rw[FB.ga.bind];refine al2q (al7q ?_);show wpAny _ _ (call (.builtin "BaseException.__getattribute__") [.ref x,.str name s.toks]) _ _ _;refine al146q ?_;refine al88q FB.ga.plain PySem.F.entry_bexc_ga ?_;refine @PySem.W.check_slot (model prog w) _ _ { s with toks:=s.toks+1 } "BaseException.__getattribute__" "BaseException" "__getattribute__" (.ref x) [.str name s.toks] [] _ (by decide +kernel) (by decide +kernel) (I.type.andThen (PySem.W.looks_mroIn X g.bx)) (PySem.F.args_bexc_ga (.ref x) (.str name s.toks)) ?_;refine al51q h (fun fin s' z=>?_) fun _ _ z=>z.elim
  rcases fin with (_ | _ | _ | _) | _<;>first | exact z | exact z.elim
theorem zln (X:K.In s.heap) (I:PySem.W.InstAt s.heap x ox C od) (g:XGet K C)
    (hf:PySem.W.findObj K C od name=some (.value v)) (hh:PySem.W.handedIn v=true) (h:Q v { s with toks:=s.toks+1 }):wpAny (model prog w) A (getAttr (.ref x) name expr) Q E s:=by
  refine zom (Qf:=True) X I g ?_;obtain⟨hh',g,d,t,os⟩:=s;have L0:=I.type (M:=model prog w);have L1:=PySem.W.looks_find (M:=model prog w) X I hf;unfold Builtin.«object.__getattribute__»;refine al2q (al7q (al2q (al7q (al2q (L0.at (al2q (L1.at ?_)))))));refine al7q ?_;show wpAny _ _ (handedOut v) _ _ _;rw[PySem.W.handedOut_of hh];exact al7q h
end
def zvq (K:ty0q) (ta:TE) (f:Str):TE:=fun σ H Q=>ta σ H fun x H1=>∃a C d fs v,x = .ref a/\H1 a=some (excH a C (some d))/\H1 d=some (.xd fs)/\XGet K C/\NoAttr K C f/\fs.lookup f=some v/\Q v H1
section
variable {X:Cx}{pins:ty91q}{σ:St}{H:Hp}{s:ty2q}{a C d:ty1q}{fs:List (Str×V)}{f:Str}{v:V}{A:Around}{E:ty90q}
theorem zjc {b:Bool}{Q:ty90q}(I:Inv X pins σ H s) (e:H a=some (excH a C (some d))) (ed:H d=some (.xd fs)) (c:XGet X.K C) (n:NoAttr X.K C f) (l:fs.lookup f=some v)
    (h:∀u s',Inv X pins σ H s'->RelV v u->Q u s'):wpAny (model X.prog X.w) A (getAttr (.ref a) f b) Q E s:=by
  obtain⟨⟨oe,vs,h1,h2,h3,h4⟩,_,_⟩:=(show ObjOk X.prog X.w H s.heap a (excH a C (some d)) from I.hok a _ e);obtain⟨mA,ns,r⟩:=(show ObjOk X.prog X.w H s.heap d (.xd fs) from I.hok d _ ed);obtain⟨u,hu,ru⟩:=RelO.some_of (v:=v) (o:=mA f) (by rw[←l];exact r f);obtain⟨od,ho,hl⟩:=zmn ns;have J:PySem.W.InstAt s.heap a oe C (some od):=⟨h1,h2,by unfold PySem.W.notCls;rw[h4],by rw[h3];exact ho⟩;exact zln I.kIn J c (PySem.W.findObj_own c.hd n rfl (by rw[hl,hu])) (zmo ru) (h u _ (I.tok _) ru)
end
section
variable {X:Cx}{e:Expr}{f:Str}{pos:Pos}{ta:TE}
theorem zs8 (he:PE X e ta) (hb:attributeBase e f X.env (eval e X.env)=eval e X.env):PE X (.Attribute e f pos) (zvq X.K ta f):=by
  intro pins s σ H Q I h;refine zr5 hb (thn (he pins s σ H _ I h) fun u s1 hq0=>?_);obtain⟨x,H1,I1,rx,a,C,d,fs,v,ex,ea,ed,c,n,l,q⟩:=hq0;subst ex;obtain rfl:u=Value.ref a:=rx;exact zjc I1 ea ed c n l fun u' s2 I2 ru=>⟨v,H1,I2,ru,q⟩
end
end L2
namespace L2
open PySem
def xchk (C:ty1q) (o:Obj):Bool:=(match o with
  | ⟨.type t,_,.cls cd,sl⟩=>t == "type" && ((match cd.mro with | .ref c::bm=>c == C&&(bm.contains (.type "ValueError")&&(bm.contains (.type "BaseException")&&(!bm.contains (.type "AttributeError") && !bm.contains (.type "NameError")))) | _=>false)&&(!cd.hasDel &&
      (match sl.toList with | [_,_,_,_,some (.builtin i),_]=>i == "ValueError.__new__" | _=>false)))
  | _=>false)&&(match o.data with | .cls cd=>zfk cd.mro | _=>false)
theorem zon {K:ty0q}{C:ty1q}{c0:ty3q}{dd:Option ty1q}{cd:ClassData}{sl:Array (Option ty3q)}(l:K.lookup C=some ⟨c0,dd,.cls cd,sl⟩) (h:xchk C ⟨c0,dd,.cls cd,sl⟩=true):zkk K C=true/\zja K C=true:=by
  unfold xchk at h;rw[al49q] at h;refine⟨?_,?_⟩
  · unfold zkk;rw[l];cases c0<;>first | exact h.1 | (have:=h.1;cases this)
  · unfold zja PySem.W.clsIn;rw[l];exact h.2
theorem xcls_of {K:ty0q}{C:ty1q}{c0:ty3q}{dd:Option ty1q}{cd:ClassData}{sl:Array (Option ty3q)}(l:K.lookup C=some ⟨c0,dd,.cls cd,sl⟩) (h:xchk C ⟨c0,dd,.cls cd,sl⟩=true) (h1:PySem.W.hasDictIn K C=true)
    (h2:PySem.W.findIn K (.ref C) "__setattr__" = some (some (.builtin "object.__setattr__"))):XCls K C:=⟨h1,(zon l h).2,h2⟩
theorem xok_at {K:ty0q}{C:ty1q}{c0:ty3q}{dd:Option ty1q}{cd:ClassData}{sl:Array (Option ty3q)}(l:K.lookup C=some ⟨c0,dd,.cls cd,sl⟩) (h:xchk C ⟨c0,dd,.cls cd,sl⟩=true):XOk K C:=zvp (zon l h).1
end L2
namespace L2
open PySem PySem.Spec PyProof.Rows
section
variable {X:Cx}{k:Nat}{C:ty1q}{ps:List Str}{sp:Sp}{E:XK}{x:Str}{p pos cpos:Pos}{e:Expr}{es:List Expr}{t:TA}
theorem zie (M:HasM X.prog X.w X.K X.mg X.base C "__init__" ps k sp) (xo:XOk X.K C) (hr:Room (k+1) X.A) (xe:XeIs X E) (hg:Gl X x) (hm:X.mg x=some (.ref C)) (hps:ps.length<=1000) (ha:PA X (e::es) t)
    (hdb:(x == ("__debug__" : Str))=false:=by decide) (he:starEach (e::es) X.env=(false,eval e X.env)::starEach es X.env:=by rfl) (hpl:(backTo cpos (starEach es X.env)).any (·.1)=false:=by rfl) :
    PS X (.Raise (some (.Call (.Name x p) (e::es) [] cpos)) none pos) (zru C sp [] E (fun _ _ _=>False) t):=by
  obtain⟨f,fd,m,b,F⟩:=M;obtain⟨bm,xo,U⟩:=xo;exact zqh ⟨xo,U,m.at_,m.fn⟩ F hr xe (fun _ _ _ _ _ _ _ z=>z.elim) hg hm (.all b) .nil hps ha hdb he hpl
end
theorem zkl {X:Cx}{e:Expr}{f:Str}{pos:Pos}{ta:TE}(K:ty0q) (h:X.K=K) (he:PE X e ta) (hb:attributeBase e f X.env (eval e X.env)=eval e X.env):PE X (.Attribute e f pos) (zvq K ta f):=h▸zs8 he hb
open Sem (wp)
namespace Rv
theorem slot_next:Slot "list_reverseiterator" "__next__" "list_reverseiterator.__next__":=
  .of (owner:="list_reverseiterator") (n:="__next__") (by rw[typeLookup_type,al182q];kernel_rfl) (by decide +kernel) (by decide +kernel) (by decide +kernel)
    (by first | exact .inl (by decide +kernel) | exact .inr (by decide +kernel)) (by rw[al138q];kernel_rfl)
theorem slot_iter:Slot "list_reverseiterator" "__iter__" "list_reverseiterator.__iter__":=
  .of (owner:="list_reverseiterator") (n:="__iter__") (by rw[typeLookup_type,al182q];kernel_rfl) (by decide +kernel) (by decide +kernel) (by decide +kernel)
    (by first | exact .inl (by decide +kernel) | exact .inr (by decide +kernel)) (by rw[al138q];kernel_rfl)
theorem entry_next:entryFor table "list_reverseiterator.__next__" = some Builtin.«list_reverseiterator.__next__»:=entryFor_of_tree (by kernel_rfl)
theorem entry_iter:entryFor table "list_reverseiterator.__iter__" = some Builtin.«dict_keyiterator.__iter__»:=
  entryFor_alias (id':="dict_keyiterator.__iter__") (by kernel_rfl) (by first | rfl | decide +kernel | (unfold String.splitOn;simp +decide [String.splitOnAux])) (by decide +kernel) (by kernel_rfl)
theorem owner:Manifest.owners.lookup (String.ofList ['r','o','t','a','r','e','t','i','e','s','r','e','v','e','r','_','t','s','i','l'].reverse)=some Manifest.sig_list_reverseiterator:=by kernel_rfl
theorem args_next (a:ty3q):argsOk "list_reverseiterator.__next__" ⟨[a],[]⟩:=by
  unfold argsOk;rw[signature?_of (id:="list_reverseiterator.__next__") (n:="__txen__".toList) (o:="rotaretiesrever_tsil".toList) (by kernel_rfl) owner]
  kernel_rfl
theorem args_iter (a:ty3q):argsOk "list_reverseiterator.__iter__" ⟨[a],[]⟩:=by
  unfold argsOk;rw[signature?_of (id:="list_reverseiterator.__iter__") (n:="__reti__".toList) (o:="rotaretiesrever_tsil".toList) (by kernel_rfl) owner]
  kernel_rfl
theorem mro_reversed:mroOf (.type "reversed")=pure [.type "reversed",.type "object"]:=by rw[mroOf_type];kernel_rfl
theorem zlo:typeLookup (.type "reversed") "__new__" = pure (some (.builtin "reversed.__new__")):=by rw[typeLookup_type,al182q];kernel_rfl
theorem made:Bind.madeBy (.type "reversed")=pure (some "reversed.__new__"):=madeBy_type mro_reversed zlo (by decide +kernel)
theorem typeCall (a:ty3q):checkTypeCall "reversed" ⟨[a],[]⟩=pure ():=by kernel_rfl
theorem newCall (a:ty3q):checkBuiltinCall "reversed.__new__" ⟨[.type "reversed",a],[]⟩=pure ():=by kernel_rfl
theorem entry_new:entryFor table "reversed.__new__" = some Builtin.«reversed.__new__»:=entryFor_of_tree (by kernel_rfl)
theorem sub_no:isSubtype (.type "list_reverseiterator") (.type "reversed")=pure false:=by rw[al138q];kernel_rfl
theorem sub_self:isSubtype (.type "reversed") (.type "reversed")=pure true:=by rw[al138q];kernel_rfl
theorem sub_dict:isSubtype (.type "dict") (.type "dict")=pure true:=by rw[al138q];kernel_rfl
end Rv
def IsRev (h:Heap) (it l:ty1q) (j:Int):Prop:=∃o,h.get? it=some o/\o.cls = .type "list_reverseiterator"/\o.data = .fields #[.ref l,.int j 0]
theorem IsRev.typeIs {s:ty2q}{it l:ty1q}{j:Int}(x:IsRev s.heap it l j):s.TypeIs (.ref it) "list_reverseiterator":=let ⟨o,ho,hc,_⟩:=x;⟨o,ho,hc⟩
theorem IsRev.at {h h':Heap}{it l:ty1q}{j:Int}(x:IsRev h it l j) (e:∀o,h.get? it=some o->h'.get? it=some o):IsRev h' it l j:=let ⟨o,ho,r⟩:=x;⟨o,e _ ho,r⟩
section
variable {prog:ty4q}{w:World}{A:Around}{E:ty90q}{s:ty2q}
theorem zkm {it l:ty1q}{j:Int}{Q:ty90q}(hit:IsRev s.heap it l j) (h:Q (.ref it) s):wpAny (model prog w) A (pyIter (.ref it)) Q E s:=by
  refine wpAny_pyIter_slot hit.typeIs Rv.slot_iter (al100q Rv.slot_iter hit.typeIs Rv.entry_iter ?_ (Rv.args_iter _));show wpAny _ _ (ret (.ref it)) _ _ s;exact al7q ⟨_,rfl,"list_reverseiterator",_,hit.typeIs,Rv.slot_next.lookup,h⟩
theorem zqj {it l:ty1q}{j:Nat}{items:Array ty3q}{x:ty3q}{Q:Option ty3q->ty2q->Prop}(hit:IsRev s.heap it l (j:Int)) (hl:s.heap.IsList l items) (hx:items[j]? = some x)
    (hQ:∀h',IsRev h' it l ((j:Int)-1)->Heap.SameBut it s.heap h'->Q (some x) { s with heap:=h' }):wpAny (model prog w) A (pyNext (.ref it)) Q E s:=by
  obtain⟨o,ho,hc,hd⟩:=id hit;obtain⟨ol,hol,_,nl,hdl⟩:=hl;unfold pyNext;refine al2q (al187q (al136q (name:=Str.ofString "__next__") hit.typeIs Rv.slot_next (al100q Rv.slot_next hit.typeIs Rv.entry_next ?_ (Rv.args_next _))));show wpAny _ _ (field (.ref it) 1 >>= _) _ _ s;refine al2q (al143q ho hd (x:=.int j 0) rfl ?_);show wpAny _ _ (if (j:Int)<0 then _ else _) _ _ s;rw[al8q (by lia)];show wpAny _ _ (field (.ref it) 0 >>= _) _ _ s;refine al2q (al143q ho hd (x:=.ref l) rfl ?_);refine al2q (al86q hol hdl ?_);simp only [al129q,hx];refine al2q (al122q ho hd (by simp) (al7q ⟨x,rfl,al7q (hQ _ ?_ (Heap.SameBut.update ..))⟩));exact⟨_,al33q _ ho (al66q (al72q hd _)),(Obj.cls_mapFields ..).trans hc,by rw[al72q hd];simp[rawInt]⟩
theorem zs9 {it l:ty1q}{j:Int}{Q:Option ty3q->ty2q->Prop}(hh:A.handled=none) (hit:IsRev s.heap it l j) (hj:j<0)
    (hQ:∀h',(∀b o,s.heap.get? b=some o->h'.get? b=some o)->Q none { s with heap:=h' }):wpAny (model prog w) A (pyNext (.ref it)) Q E s:=by
  obtain⟨o,ho,hc,hd⟩:=id hit;unfold pyNext;refine al2q (al187q (al136q (name:=Str.ofString "__next__") hit.typeIs Rv.slot_next (al100q Rv.slot_next hit.typeIs Rv.entry_next ?_ (Rv.args_next _))));show wpAny _ _ (field (.ref it) 1 >>= _) _ _ s;refine al2q (al143q ho hd (x:=.int j 0) rfl ?_);show wpAny _ _ (if j<0 then _ else _) _ _ s;rw[al12q hj];refine al2q (al160q (al2q ?_));show wpAny _ _ (newExc (.type "StopIteration") [] >>= _) _ _ _;refine al2q ?_;simp only [newExc,newTuple];refine al2q (al70q ?_ (by size_fits));refine al2q (m:=firstArgMember _ _) (al189q (a:=Value.none) (by first | rfl | (simp only [firstArgMember];rfl)) ?_);refine al70q ?_ (by size_fits);simp only [raiseNew];refine al2q (wpAny_handled ?_);rw[show A.in1.handled=none from hh];refine al2q (al7q (wpAny_throw ?_));refine al2q (al137q (T:="StopIteration") (b:=true) ⟨_,al20q _ rfl,rfl⟩ isSubtype_stop ?_);exact al7q (hQ _ fun b o e=>al5q _ (al5q _ e))
end
def Irv (K:ty0q) (a:ty1q) (xs:List V):It:=
  ⟨fun i H=>SqL K H a xs/\i<xs.length,fun i H x H'=>H'=H/\xs.reverse[i]? = some x,fun i _=>xs.length<=i⟩
theorem zqk {P:ty4q}{w:World}{K:ty0q}{tg:Expr}(a it:ty1q) (xs:List V):Turn P w K tg (Irv K a xs) [it] it (fun i h=>IsRev h it a ((xs.length:Int)-1-i)) where
  mem:=by simp
  obj:=fun i h st b hb=>by
    have e:b=it:=by simpa using hb
    subst e;obtain⟨o,e,c,d⟩:=st;exact⟨o,e,fun v z=>by rw[d] at z;cases z⟩
  keep:=fun i h h' st k=>st.at fun o e=>k it (by simp) o e
  item:=by
    intro X hP hw hK hc i pins s σ H E I hf st hg;subst hP hw hK;obtain⟨hq,hi⟩:=hg;obtain⟨its,rv,p,hz⟩:=I.list hq;have hx:xs[xs.length-1-i]? = some (xs[xs.length-1-i]'(by lia)):=al1q _;obtain⟨u,hu,ru⟩:=rv.get hx;obtain⟨f0,f1,f2,f3,f4,f5⟩:=hf it (by simp);have ej:(xs.length:Int)-1-i=((xs.length-1-i:Nat):Int):=by lia
    rw[ej] at st;refine zqj st p.isList (x:=u) (by simpa using hu) fun h' st' sb=>?_
    have I1:Inv X pins σ H { s with heap:=h' }:=I.turned (t':=s.toks) (fun b o hb e=>(sb.2 b hb).trans e) f0 f1 f3 f4 f5;obtain⟨o,e,c,d⟩:=id st';refine⟨u,rfl,zpj (s:={ s with heap:=h' }) e c d (by decide) ⟨_,H,I1,ru,⟨rfl,?_⟩,?_,fun b hb=>(hf b hb).1⟩⟩
    · rw[al180q hi];exact hx
    · show IsRev h' it a ((xs.length:Int)-1-(i+1:Nat));have:(xs.length:Int)-1-(i+1:Nat)=((xs.length-1-i:Nat):Int)-1:=by lia
      rw[this];exact st'
  done:=by
    intro X hP hw hK hc i pins s σ H E I hf st hg;subst hP hw hK;have hg:xs.length<=i:=hg;exact zs9 (I.ok.hd hc) st (by lia) fun h' eb=>⟨rfl,I.kept (t':=s.toks) eb⟩
  self:=fun _ _ _ _ _ st h=>zkm st h
def zlp (l:ty1q) (n:Nat):Obj:={ cls:=.type "list_reverseiterator",data:=.fields #[.ref l,rawInt ((n:Int)-1)] }
theorem zlq (l:ty1q) (items:Array ty3q) :
    Meets (Builtin.«list.__reversed__» ⟨[.ref l],[]⟩) (fun _ R s=>s.heap.IsList l items/\R (.ok (.ret (.ref s.heap.objs.size))) { s with heap:=s.heap.push (zlp l items.size) }):=
  .of_wp fun prog w A R s h=>by
    obtain⟨hl,h⟩:=h;obtain⟨o,ho,hc,n,hd⟩:=hl
    wp_walk
    rw[hd]
    wp_walk
    exact⟨_,rfl,h⟩
theorem zoo (l:ty1q) (items:Array ty3q) :
    Meets (Builtin.«reversed.__new__» ⟨[.type "reversed",.ref l],[]⟩) (fun _ R s=>s.heap.IsList l items/\R (.ok (.ret (.ref s.heap.objs.size))) { s with heap:=s.heap.push (zlp l items.size) }):=
  .of_wp fun prog w A R s h=>by
    obtain⟨hl,h⟩:=h;have hT:=hl.typeIs;have hk:=al161q.lookup;have hb:=al161q.bind (.ref l);have sub:=Rv.sub_self
    wp_walk
    refine al163q (al88q al161q.plain F.entry_list_reversed (al161q.check _ _ _ _ _ _ _ _ hT (F.args_list_reversed_1 _) (zlq l items prog w A.in1
      (wants (fun v s1=>v = .ref s.heap.objs.size/\s1 = { s with heap:=s.heap.push (zlp l items.size) }) (fun e s'=>R (.error e) s')) s ⟨hl,rfl,rfl⟩))) fun r s1 hr=>?_
    cases r with
    | error e=>exact hr
    | ok fl=>
      cases fl with
      | ret obj=>
        obtain⟨rfl,rfl⟩:=hr;exact al7q ⟨_,rfl,h⟩
      | _=>exact hr.elim
section
variable {prog:ty4q}{w:World}{A:Around}{E:ty90q}{s:ty2q}
theorem zql {l:ty1q}{items:Array ty3q}{Q:ty90q}(hl:s.heap.IsList l items)
    (h:Q (.ref s.heap.objs.size) { s with heap:=s.heap.push (zlp l items.size) }):wpAny (model prog w) A (call (.type "reversed") [.ref l]) Q E s:=by
  have hct:=Rv.typeCall (.ref l);have hmade:=Rv.made;have hmro:=Rv.mro_reversed;refine al146q (codeAny_of_tree ?_);show wpAny (model prog w) _ (callAny (.type "reversed") _) _ _ _;refine al7q ⟨Code.quiet_builtin _ (by decide +kernel),al76q F.entry_type_call ?_⟩;rw[Around.under_plain (weight_type_call_type "reversed" [.ref l] []) (units_type_call_type "reversed" [.ref l] [])];have h1:(Value.type "reversed" == Value.type "type")=false:=by decide +kernel
  have h2:((Manifest.find? "reversed").bind (·.mro.findSome? fun t=>(Manifest.find? t).bind fun b=>if b.noNew then some true else if b.attrs.any (·.1 == "__new__") then some false else none)).getD false=false:=by decide +kernel
  repeat (any_goals first | wp_step | assumption)
  refine al163q (al88q (by decide +kernel) Rv.entry_new (al189q (Rv.newCall _) (zoo l items prog w A.in1
    (wants (fun obj s1=>obj = .ref s.heap.objs.size/\s1 = { s with heap:=s.heap.push (zlp l items.size) }) E) s ⟨hl,rfl,rfl⟩))) fun r s1 hr=>?_
  cases r with
  | error e=>exact hr
  | ok fl=>
    cases fl with
    | ret obj=>
      obtain⟨rfl,rfl⟩:=hr;have hT:({ s with heap:=s.heap.push (zlp l items.size) }:ty2q).TypeIs (.ref s.heap.objs.size) "list_reverseiterator":=⟨_,al20q _ rfl,rfl⟩;have hsub:=Rv.sub_no
      repeat (any_goals first | wp_step | assumption)
    | _=>exact hr.elim
end
def iRev (K:ty0q) (te:TE):TI:=fun σ H R=>te σ H fun x H1=>∃l xs,x = .ref l/\SqL K H1 l xs/\R (Irv K l xs) H1
section
variable {X:Cx}{tg:Expr}
theorem zvr {e:Expr}{te:TE}{p pos:Pos}(hg:Gl X "reversed") (hm:X.mg "reversed" = none) (he:PE X e te) (hs:starEach [e] X.env = [(false,eval e X.env)]:=by rfl) :
    PI X tg (.Call (.Name "reversed" p) [e] [] pos) (iRev X.K te):=by
  intro pins s σ H R I h;refine Call_ (zfw I hg hm boot_reversed (al116q (thn (zc he zh hs pos pins s σ H (fun vs H1=>match vs with | [x]=>∃l xs,x = .ref l/\SqL X.K H1 l xs/\R (Irv X.K l xs) H1 | _=>False) I h) fun us s1 hq0=>?_) (by rw[hs];rfl) rfl));obtain⟨vs,H1,I1,r1,q1⟩:=hq0
  match vs,q1 with
  | [x],q1=>
    obtain⟨l,xs,rfl,hl,q⟩:=q1;obtain⟨u,rfl,ru⟩:=zb3 r1;cases ru;obtain⟨its,rv,pl,hz⟩:=I1.list hl;have hn:=rv.length;refine zql pl.isList (zkm (j:=(its.toArray.size:Int)-1) ⟨_,al20q _ rfl,rfl,rfl⟩ ?_);refine⟨s1.heap.objs.size,[s1.heap.objs.size],_,_,H1,rfl,I1.kept (t':=s1.toks) fun b o e=>al5q _ e,zqk l _ xs,⟨_,al20q _ rfl,rfl,?_⟩,fun b hb=>?_,q⟩
    · show Data.fields #[.ref l,rawInt ((its.toArray.size:Int)-1)] = .fields #[.ref l,.int ((xs.length:Int)-1-(0:Nat)) 0];rw[al27q,hn];simp[rawInt]
    · have e:b=s1.heap.objs.size:=by simpa using hb
      subst e;exact I1.fpOk (al13q _) (I1.hok.fresh (al13q _))
theorem zta {e:Expr}{te:TE}{p pos:Pos}(K:ty0q) (h:X.K=K) (hg:Gl X "reversed") (hm:X.mg "reversed" = none) (he:PE X e te) (hs:starEach [e] X.env = [(false,eval e X.env)]:=by rfl) :
    PI X tg (.Call (.Name "reversed" p) [e] [] pos) (iRev K te):=h▸zvr hg hm he hs
theorem ztb {K:ty0q}{a:ty1q}{xs:List V}{g:TG}{tb:TS}{D:Ends}{σ:St}{H:Hp}(Pv:Nat->St->Hp->Prop) (h0:Pv 0 σ H) (hl:∀i σ H,i<=xs.length->Pv i σ H->SqL K H a xs)
    (hs:∀i x σ H,xs.reverse[i]? = some x->Pv i σ H->g x σ H fun σ2 H2=>tb { D with nx:=Pv (i+1),ct:=Pv (i+1),bk:=D.nx } σ2 H2) (hd:∀σ H,Pv xs.length σ H->D.nx σ H) :
    ∃W:Nat->Nat->St->Hp->Prop,(∃m,W 0 m σ H)/\∀i m σ H,W i m σ H->
      ((Irv K a xs).stop i H/\D.nx σ H)\/((Irv K a xs).go i H/\∃N:St->Hp->Prop,(∀σ' H',N σ' H'->∃m',m'<m/\W (i+1) m' σ' H')/\∀x H',(Irv K a xs).yld i H x H'->g x σ H' fun σ2 H2=>tb { D with nx:=N,ct:=N,bk:=D.nx } σ2 H2):=by
  refine⟨fun i m σ H=>m=xs.length-i/\i<=xs.length/\Pv i σ H,⟨xs.length,by simp,al65q _,h0⟩,?_⟩;rintro i m σ H ⟨rfl,hi,p⟩;have q:=hl i σ H hi p
  by_cases hlt:i<xs.length
  · refine .inr ⟨⟨q,hlt⟩,Pv (i+1),fun σ' H' p'=>⟨xs.length-(i+1),by lia,rfl,hlt,p'⟩,fun x H' y=>?_⟩;obtain⟨e,y⟩:=y;subst e;exact hs i x σ _ y p
  · have e:i=xs.length:=by lia
    subst e;exact .inl ⟨al13q _,hd σ H p⟩
end
theorem zop (a b:ty1q) (ha:(a == sysModules)=false) (hb:(b == sysModules)=false) (es:Array DictEntry) (ep ep':Nat) :
    Meets (Builtin.«dict.__ne__» ⟨[.ref a,.ref b],[]⟩) (fun _ R s=>RawD s.heap a es ep/\RawD s.heap b #[] ep'/\R (.ok (.ret (.bool (!decide (es.size=0))))) s):=
  .of_wp fun prog w A R s h=>by
    obtain⟨h1,h2,h⟩:=h;have t1:=h1.typeIs;have t2:=h2.typeIs;obtain⟨o1,g1,c1,d1⟩:=h1;obtain⟨o2,g2,c2,d2⟩:=h2;have sub:=Rv.sub_dict
    wp_walk
    rw[d1];refine al7q ?_;show wpAny _ _ (dictEntries b >>= _) _ _ _;refine al2q (al176q g2 d2 ?_)
    by_cases e:es.size=0
    · rw[al8q (by rw[e];simp)];rw[al10q e] at h;have e':es = #[]:=Array.eq_empty_of_size_eq_zero e;subst e';refine al2q (al190q g1 d1 ?_);simp
      wp_walk
      exact⟨_,rfl,h⟩
    · rw[al12q (by simp[e])];rw[al17q e] at h;refine al2q (al160q (al7q ?_));exact al7q ⟨_,rfl,h⟩
section
variable {X:Cx}
theorem ztc (hu:X.A.units+9<cLine):OpR X (compareOp .NotEq) (fun x y H Q=>∃p q kvs,x = .ref p/\y = .ref q/\Rd H p (.dK kvs)/\H q=some (.dK [])/\Q (.bl (!decide (kvs = []))) H):=by
  intro pins s σ H x y v u Q I rx ry h;obtain⟨p,q,kvs,rfl,rfl,hp,hq,k⟩:=h;cases rx;cases ry;obtain⟨z,hs,vs,rel,o,es,ep,e,ex,dt,kk,pr,nd⟩:=zfj I.hok hp;obtain⟨z',hs',vs',rel',o',es',ep',e',ex',dt',kk',pr',nd'⟩:=zfj I.hok (.inl hq);have l1:kvs.length=vs.length:=Paired.length rel;have l2:es.size=vs.length:=by rw[←pr.length];simp
  have l3 : [].length=vs'.length:=Paired.length rel';have l4:es'.size=vs'.length:=by rw[←pr'.length];simp
  have e0:es' = #[]:=Array.eq_empty_of_size_eq_zero (by rw[l4,←l3];rfl);subst e0;refine richCompare_meets_room (op:=.NotEq) ⟨o,e,ex.1⟩ ⟨o',e',ex'.1⟩ PySem.F.slot_dict_ne PySem.F.entry_dict_ne (PySem.F.args_dict_ne_2 _ _) (zop p q hs hs' es ep ep') ⟨⟨o,e,ex,dt⟩,⟨o',e',ex',dt'⟩,?_⟩ (by lia);refine⟨(fun x=>nomatch x),.bl (!decide (kvs = [])),H,I,?_,k⟩;show Value.bool _=Value.bool _
  congr 2
  exact al120q.mpr ⟨fun z=>List.eq_nil_of_length_eq_zero (by lia),fun z=>by rw[z] at l1;simp at l1;lia⟩
end
section
variable {X:Cx}
theorem zdi (K:ty0q) (hK:X.K=K) (hc:X.calm=true):zbr X (.builtin "sum") (fun xs H Q=>∃(a:ty1q) (ns:List Int),xs = [V.ref a]/\SqL K H a (ns.map V.int)/\Q (.int ns.sum) H):=by
  subst hK;intro pins s σ H xs us Q I r h;obtain⟨a,ns,rfl,ha,q⟩:=h;obtain⟨u,rfl,ru⟩:=zb3 r;cases ru;obtain⟨its,rv,pl,hz⟩:=I.list ha;have ia:=zky rv;have hn:=ia.numsOf;obtain⟨ys,e⟩:=ia.allInts.items;have hn2:numsOf its.toArray.toList=ns:=hn;rw[e,nums_intItems] at hn2;refine sum_intListG (I.ok.hd hc) (by rw[←e];exact pl.isList) fun h' tk t' hk=>?_
  refine⟨.int ns.sum,H,I.kept (t':=tk) hk,⟨t',?_⟩,q⟩;rw[preSum_eq,al52q (by simp),hn2]
end
section
variable {X:Cx}
theorem zoq (K:ty0q) (hK:X.K=K):OpR X (binaryOp .Add) (fun x y H Q=>∃l b xs zs,x = .ref l/\y = .ref b/\SqL K H l xs/\SqL K H b zs/\xs.length+zs.length<=sizeLine/\∀p,H p=none->Q (.ref p) (upd H p (.lst (xs++zs)))):=by
  subst hK;intro pins s σ H x y v u Q I rx ry h;obtain⟨l,b,xs,zs,rfl,rfl,hH,hB,hz,q⟩:=h;cases rx;cases ry;obtain⟨its,r,hl,z⟩:=I.list hH;obtain⟨its2,r2,hl2,z2⟩:=I.list hB;have e1:=r.length;have e2:=r2.length;obtain⟨⟨cls,dd,data,sl⟩,ho,hc,n,hd⟩:=hl.isList;obtain⟨⟨cls2,dd2,data2,sl2⟩,ho2,hc2,n2,hd2⟩:=hl2.isList;simp only at hc hd hc2 hd2;subst hc hd hc2 hd2;have e:its.toArray++its2.toArray=(its++its2).toArray:=by simp
  refine concat_meets ⟨_,ho,rfl⟩ ⟨_,ho2,rfl⟩ noFill_list_add seq_list_add PySem.F.slot_list_add PySem.F.entry_list_add (PySem.F.args_list_add_2 _ _) (list_addW l b its.toArray its2.toArray n n2 dd dd2 sl sl2 (by rw[al27q,al27q];lia)) ⟨ho,ho2,?_⟩;rw[e];exact⟨.ref _,_,I.lnew (t':=s.toks) (r.append r2) (by rw[al18q];lia),rfl,q _ I.fresh⟩
end
end L2
namespace PySem
open Sem (wp)
end PySem
namespace L2
open PySem PySem.Spec PyProof.Rows
section
open SeqAt
end
section
variable {X:Cx}
theorem zor:zbr X (.type "int") (fun xs H Q=>∃b,xs = [V.bl b]/\Q (.int (if b=true then 1 else 0)) H):=by
  intro pins s σ H xs us Q I r h;obtain⟨b,rfl,q⟩:=h;obtain⟨u,rfl,ru⟩:=zb3 r;cases ru;exact PySem.call_int_bool ⟨.int _,H,I.tok _,⟨_,rfl⟩,q⟩
end
end L2
namespace Dm
open PySem PySem.NumText L2
theorem zlr {K:ty0q}{H:Hp}{n:Nat}{A B:ty1q}{as bs:List ty1q}{gs:List (List Str)}(hA:H A=some (.lst (as.map V.ref))) (hB:H B=some (.lst (bs.map V.ref))) (ta:Paired (fun c g=>H c=some (.lst (g.map V.str))) as gs) (tb:Paired (fun c g=>H c=some (.lst (g.map V.str))) bs gs):DEq K H (n+1+1) (.ref A) (.ref B) true:=by
  have la:=Paired.length ta;have lb:=Paired.length tb;refine DEq.allL (SqL.of hA) (SqL.of hB) (by rw[al0q,al0q];lia) fun i x y ex ey=>?_
  rw[al4q] at ex ey;cases e1:as[i]? with
  | none=>rw[e1] at ex;cases ex
  | some a=>
    rw[e1] at ex;cases ex;cases e2:bs[i]? with
    | none=>rw[e2] at ey;cases ey
    | some b=>
      rw[e2] at ey;cases ey;obtain⟨g,hg,h1⟩:=Paired.get' ta e1;obtain⟨g',hg',h2⟩:=Paired.get' tb e2;rw[hg] at hg';cases hg';exact DEq.sameL (SqL.of h1) (SqL.of h2) zh2
def zdj (keys:List Str) (lv:Str->Nat) (n:Nat):List (List Str):=(List.range n).map fun j=>keys.filter (rowB lv j)
theorem zls (keys:List Str) (lv:Str->Nat) (n:Nat):(zdj keys lv n).length=n:=by unfold zdj;rw[al0q,al44q]
theorem zos {ln:Ln}{M:List Str}{lv lv':Str->Nat}{n n':Nat}(h:Lv ln M lv n) (h':Lv ln M lv' n'):zdj M lv n=zdj M lv' n':=by
  have en:=h.uniqN h';subst en;unfold zdj;refine al68q fun j _=>?_
  refine List.filter_congr fun x hx=>?_
  unfold rowB;rw[h.uniq h' _ x hx rfl]
theorem zjd {H:Hp}{keys:List Str}{lv:Str->Nat}:∀{n:Nat}{cs:List ty1q},cs.length=n->(∀(j:Nat) c,cs[j]? = some c->H c=some (.lst ((keys.filter (rowB lv j)).map V.str)))->Paired (fun c row=>H c=some (.lst (row.map V.str))) cs (zdj keys lv n):=by
  have go:∀(cs:List ty1q) (rs:List (List Str)),cs.length=rs.length->(∀(j:Nat) c r,cs[j]? = some c->rs[j]? = some r->H c=some (.lst (r.map V.str)))->Paired (fun c row=>H c=some (.lst (row.map V.str))) cs rs:=by
    intro cs
    induction cs with
    | nil=>
      intro rs hl _;cases rs with
      | nil=>exact .nil
      | cons r rs=>cases hl
    | cons c cs ih=>
      intro rs hl h;cases rs with
      | nil=>cases hl
      | cons r rs=>exact .cons (h 0 c r rfl rfl) (ih rs (Nat.succ.inj hl) fun j c r h1 h2=>h (j+1) c r h1 h2)
  intro n cs hl h;refine go cs _ (by rw[zls];exact hl) fun j c r h1 h2=>?_
  unfold zdj at h2;rw[al4q] at h2;have hj:j<n:=by
    have:=zaj h1;lia
  rw[al105q hj] at h2;cases h2;exact h j c h1
structure SD where
  us:List Str
  ts:List Tie
  fs:List Fnd
section
variable {K:ty0q}
theorem zlt {H:Hp}{n:Nat}{A B:ty1q}{as bs:List ty1q}{wss:List (List V)}(hA:H A=some (.lst (as.map V.ref))) (hB:H B=some (.lst (bs.map V.ref))) (ta:Tups H as wss) (tb:Tups H bs wss) (fl:∀ws∈wss,∀v∈ws,zb6 v=true):DEq K H (n+2) (.ref A) (.ref B) true:=by
  have l1:=ta.len;have l2:=tb.len;refine DEq.allL (n:=n+1) (SqL.of hA) (SqL.of hB) (by rw[al0q,al0q];lia) fun i x y ex ey=>?_
  rw[al4q] at ex ey;cases e1:as[i]? with
  | none=>rw[e1] at ex;cases ex
  | some u=>
    cases e2:bs[i]? with
    | none=>rw[e2] at ey;cases ey
    | some v=>
      rw[e1] at ex;rw[e2] at ey;cases ex;cases ey;obtain⟨ws,h1,h2⟩:=Paired.get' ta e1;obtain⟨ws',h3,h4⟩:=Paired.get' tb e2;rw[h1] at h3;cases h3;have hf:=fl ws (al6q h1);have:=DEq.flatT (K:=K) (n:=n) (SqT.of h2) (SqT.of h4) hf hf
      rwa [zek hf] at this
end
section
variable {ln ln':Ln}{keys:List Str}
theorem zqm {α:Type}{zs:List α}{i:Nat}{z:α}(nd:zs.Nodup) (h:zs[i]? = some z):z ∉ zs.take i:=fun q=>by
  obtain⟨j,hj,e⟩:=List.getElem_of_mem q;rw[List.getElem_take] at e;rw[al28q] at hj;obtain⟨hi,e2⟩:=al3q.mp h;exact al48q.mp nd j i (by lia) hi (by lia) (by rw[e,e2])
end
theorem zdu {α:Type}:∀{ts:List α}{ads:List ty1q}{t:α},ads.length=ts.length->t∈ts->∃r,(t,r)∈ts.zip ads
  | [],_,_,_,h=>nomatch h
  | x::ts,[],_,e,_=>nomatch e
  | x::ts,r::ads,t,e,h=>by
    rcases al21q.mp h with rfl | h
    · exact⟨r,al56q ..⟩
    · obtain⟨r',q⟩:=zdu (Nat.succ.inj e) h;exact⟨r',al19q _ q⟩
abbrev SII:=Str×Int×Int
structure Ans where
  ones:List (List Str)
  n:Nat
  os:Option (List Str)
  qs:List SS
  rows:List (List Str)
  sp:Option (List SII)
section
variable {K:ty0q}{H:Hp}
theorem zg1 {n:Nat}{v:V}(h:zb6 v=true):DEq K H n v v true:=by
  have:=DEq.flat (K:=K) (H:=H) (n:=n) h h
  rwa [zgj h] at this
end
structure Rw1 (ln:Ln) (nm:List Str) (gr:Bool):Prop where
  nd:nm.Nodup
  down:∀x l r,(l,r)∈ln x->∃i j,nm[i]? = some x/\nm[j]? = some l/\j<i/\i<=j+2/\(gr=false->i=j+1)
  step:∀(i:Nat) x y,nm[i]? = some y->nm[i+1]? = some x->∃r,(y,r)∈ln x
theorem za4 {nm:List Str}(nd:nm.Nodup) {i j:Nat}{x:Str}(h:nm[i]? = some x) (h':nm[j]? = some x):i=j:=
  (List.getElem?_inj (al3q.mp h).1 nd).mp (h.trans h'.symm)
section
variable {ln:Ln}{nm keys:List Str}{gr:Bool}
theorem ztd (R:Rw1 ln nm gr) (pk:keys.Perm nm) {os:List Str}(O:Ord ln keys os) (pm:os.Perm keys):os=nm:=by
  have ll:os.length=nm.length:=(pm.trans pk).length_eq;have go:∀i,i<=nm.length->os.take i=nm.take i:=by
    intro i
    induction i with
    | zero=>intro _;rfl
    | succ i ih=>
      intro hi;have ih:=ih (by lia);have eo:=al1q (show i<os.length by lia);have hm:os[i]∈nm:=pk.mem_iff.mp (pm.mem_iff.mp (al46q _));obtain⟨j,hj⟩:=al29q.mp hm;have hout:os[i] ∉ nm.take i:=by rw[←ih];exact zqm O.nd eo
      have h1:i<=j:=by
        rcases al98q j i with c | c
        · exact absurd (al6q (by rw[al168q c];exact hj)) hout
        · exact c
      have h2:j<=i:=by
        rcases al98q i j with c | c
        · obtain⟨j',rfl⟩:∃j',j=j'+1:=⟨j-1,by lia⟩;have hjl:=(al3q.mp hj).1;have ey:=al1q (show j'<nm.length by lia);obtain⟨r,hr⟩:=R.step j' _ _ ey hj;have:=O.low i _ eo _ r hr;rw[ih] at this;obtain⟨t,ht⟩:=al29q.mp this;have htl:=(al3q.mp ht).1;rw[al28q] at htl;rw[al168q (by lia)] at ht;have:=za4 R.nd ht ey;lia
        · exact c
      have ej:j=i:=by lia
      subst ej;rw[al9q,al9q,ih,eo,hj]
  have:=go nm.length (al13q _)
  rwa [al22q,←ll,al22q] at this
def rk (nm:List Str) (x:Str):Nat:=nm.idxOf x
theorem zje (nd:nm.Nodup) {i:Nat}{x:Str}(h:nm[i]? = some x):rk nm x=i:=by
  obtain⟨hi,e⟩:=al3q.mp h;unfold rk;rw[←e,List.Nodup.idxOf_getElem nd]
theorem zrv {x:Str}(h:x∈nm):nm[rk nm x]? = some x:=by
  have:rk nm x<nm.length:=List.idxOf_lt_length_of_mem h;rw[al1q this];exact al61q some (List.getElem_idxOf this)
theorem zrw (R:Rw1 ln nm gr) {s:Str}:∀{j:Nat}{t:Str},Rc ln s (j+1) t->∃a b:Nat,nm[a]? = some s/\nm[b]? = some t/\b<a
  | 0,t,h=>by
    obtain⟨u,r,h0,e⟩:=h.succ;rw[h0.zero] at e;obtain⟨i,k,h1,h2,h3,_⟩:=R.down _ _ _ e;exact⟨i,k,h1,h2,h3⟩
  | j+1,t,h=>by
    obtain⟨u,r,h0,e⟩:=h.succ;obtain⟨a,b,h1,h2,h3⟩:=zrw R h0;obtain⟨i,k,h4,h5,h6,_⟩:=R.down _ _ _ e;have:=za4 R.nd h4 h2;exact⟨a,k,h1,h5,by lia⟩
theorem zjf (R:Rw1 ln nm gr) {x t:Str}(h:Bel ln x t):∃a b:Nat,nm[a]? = some x/\nm[b]? = some t/\b<a:=by
  obtain⟨j,h1,h⟩:=h;obtain⟨j',rfl⟩:∃j',j=j'+1:=⟨j-1,by lia⟩;exact zrw R h
theorem zot (R:Rw1 ln nm gr):NoR ln keys:=fun s _ j h1 h=>by
  obtain⟨a,b,h2,h3,h4⟩:=zjf R ⟨j,h1,h⟩;have:=za4 R.nd h2 h3;lia
theorem zjg (R:Rw1 ln nm gr) (pk:keys.Perm nm) {p:SS}:Drn ln keys p↔∃i:Nat,nm[i+1]? = some p.1/\nm[i]? = some p.2:=by
  constructor
  · rintro ⟨_,⟨r,hr⟩,nb⟩;obtain⟨i,j,h1,h2,h3,h4,_⟩:=R.down _ _ _ hr;rcases al98q (j+1) i with c | c
    · have e:i=j+2:=by lia
      subst e;have hl:=(al3q.mp h1).1;have et:=al1q (show j+1<nm.length by lia);obtain⟨r1,e1⟩:=R.step (j+1) _ _ et h1;obtain⟨r2,e2⟩:=R.step j _ _ h2 et;exact absurd ⟨_,⟨1,al13q _,Rc.refl.step e1⟩,⟨1,al13q _,Rc.refl.step e2⟩⟩ nb
    · have e:i=j+1:=by lia
      subst e;exact⟨j,h1,h2⟩
  · rintro ⟨i,h1,h2⟩;obtain⟨r,hr⟩:=R.step i _ _ h2 h1;refine⟨pk.mem_iff.mpr (al6q h1),⟨r,hr⟩,?_⟩;rintro ⟨t,b1,b2⟩;obtain⟨a,b,h3,h4,h5⟩:=zjf R b1;obtain⟨a',b',h6,h7,h8⟩:=zjf R b2;have:=za4 R.nd h1 h3;have:=za4 R.nd h4 h6;have:=za4 R.nd h2 h7;lia
theorem zf8 {α:Type}{p:α->Bool}:∀{ks:List α}{a:α},ks.Nodup->a∈ks->(∀x∈ks,p x=true↔x=a)->ks.filter p = [a]
  | k::ks,a,nd,ha,h=>by
    obtain⟨n1,n2⟩:=al75q.mp nd
    by_cases c:k=a
    · subst c;rw[al141q ((h k (al56q ..)).mpr rfl)]
      congr 1
      rw[al150q];intro x hx z;exact n1 ((h x (al19q _ hx)).mp z▸hx)
    · rw[al142q (fun z=>c ((h k (al56q ..)).mp z))];exact zf8 n2 ((al21q.mp ha).resolve_left fun z=>c z.symm) fun x hx=>h x (al19q _ hx)
theorem zqn (R:Rw1 ln nm gr) (pk:keys.Perm nm) {ws:List Str}{m:Nat}(hm:nm.length=m+1) (h0:ws[0]? = nm[m]?) (hl:ws[ws.length-1]? = nm[0]?) (hd:∀(i:Nat) c d,ws[i]? = some c->ws[i+1]? = some d->Drn ln keys (c,d)):ws=nm.reverse:=by
  have at':∀(i:Nat) c,ws[i]? = some c->i<=m/\nm[m-i]? = some c:=by
    intro i
    induction i with
    | zero=>intro c e;rw[h0] at e;exact⟨al65q _,e⟩
    | succ i ih=>
      intro d e;have hi:=(al3q.mp e).1;have ec:=al1q (show i<ws.length by lia);obtain⟨h1,h2⟩:=ih _ ec;obtain⟨k,h3,h4⟩:=(zjg R pk).mp (hd i _ _ ec e);have:=za4 R.nd h2 h3;exact⟨by lia,by rw[show m-(i+1)=k by lia];exact h4⟩
  have wl:ws.length=m+1:=by
    have hne:ws≠[]:=fun z=>by
      rw[z,al1q (show m<nm.length by lia)] at h0;cases h0
    have hp:=al115q.mpr hne;rw[al1q (show 0<nm.length by lia)] at hl;obtain⟨h1,h2⟩:=at' _ _ hl;have:=za4 R.nd h2 (al1q (show 0<nm.length by lia));lia
  apply al157q;intro i;rcases al98q i ws.length with c | c
  · have ei:=al1q c;rw[ei,al180q (by lia),show nm.length-1-i=m-i by lia];exact (at' i _ ei).2.symm
  · rw[al96q c,al96q (by rw[al165q];lia)]
end
section
variable {ln:Ln}{nm keys:List Str}{gr:Bool}
theorem zvs (R:Rw1 ln nm gr) (pk:keys.Perm nm):Lv ln keys (rk nm) nm.length:=by
  refine⟨fun x hx l r h=>?_,fun x hx=>?_,fun x hx=>List.idxOf_lt_length_of_mem (pk.mem_iff.mp hx),fun j hj=>⟨nm[j],pk.mem_iff.mpr (al46q _),zje R.nd (al1q hj)⟩⟩
  · obtain⟨i,j,_,h2,_⟩:=R.down _ _ _ h;exact pk.mem_iff.mpr (al6q h2)
  · have hx':=zrv (pk.mem_iff.mp hx);cases e:rk nm x with
    | zero=>
      rw[e] at hx'
      left
      refine⟨?_,rfl⟩;have:ln x = []:=by
        rw[List.eq_nil_iff_forall_not_mem];rintro ⟨l,r⟩ h;obtain⟨i,j,h1,_,h3,_⟩:=R.down _ _ _ h;have:=za4 R.nd h1 hx';lia
      rw[this];rfl
    | succ i=>
      rw[e] at hx'
      right
      have hl:=(al3q.mp hx').1;have ey:=al1q (show i<nm.length by lia);obtain⟨r,hr⟩:=R.step i _ _ ey hx';refine⟨al32q.mpr ⟨_,hr,?_⟩,fun y hy=>?_⟩
      · rw[zje R.nd ey]
        push_cast
        rfl
      · obtain⟨⟨l,r'⟩,hq,rfl⟩:=al32q.mp hy;obtain⟨i',j,h1,h2,h3,_⟩:=R.down _ _ _ hq;have:=za4 R.nd h1 hx';rw[zje R.nd h2]
        push_cast
        lia
theorem zqo (R:Rw1 ln nm gr) (pk:keys.Perm nm) (kn:keys.Nodup):zdj keys (rk nm) nm.length=nm.map fun x=>[x]:=by
  apply al157q;intro j;unfold zdj;rw[al4q,al4q];rcases al98q j nm.length with c | c
  · rw[al105q c,al1q c];refine al61q some (zf8 kn (pk.mem_iff.mpr (al46q c)) fun x hx=>?_);unfold rowB;rw[al40q];constructor
    · intro e;have:=zrv (pk.mem_iff.mp hx);rw[e,al1q c] at this;exact (al41q this).symm
    · rintro rfl;exact zje R.nd (al1q c)
  · rw[al96q (by rw[al44q];exact c),al96q c];rfl
structure Rw2 (ln:Ln) (nm:List Str) (gr:Bool) (m:Nat):Prop where
  nd:nm.Nodup
  len:nm.length=m+1
  down:∀x l r,(l,r)∈ln x->(∃i j,nm[i]? = some x/\nm[j]? = some l/\j<i/\i<=j+2/\(gr=false->i=j+1))\/(nm[0]? = some x/\nm[m]? = some l)
  step:∀(i:Nat) x y,nm[i]? = some y->nm[i+1]? = some x->∃r,(y,r)∈ln x
  step2:gr=true->∀(i:Nat) x y,nm[i]? = some y->nm[i+2]? = some x->∃r,(y,r)∈ln x
  back:∀x y,nm[0]? = some x->nm[m]? = some y->∃r,(y,r)∈ln x
variable {m:Nat}
theorem zou (R:Rw2 ln nm false m) {s:Str}{a:Nat}(ha:nm[a]? = some s):∀{j:Nat}{t:Str},Rc ln s j t->∃b:Nat,nm[b]? = some t/\(b+j)%(m+1)=a%(m+1)
  | 0,t,h=>by rw[h.zero];exact⟨a,ha,rfl⟩
  | j+1,t,h=>by
    obtain⟨u,r,h0,e⟩:=h.succ;obtain⟨b,hb,eb⟩:=zou R ha h0;rcases R.down _ _ _ e with ⟨i,k,h1,h2,_,_,h3⟩ | ⟨h1,h2⟩
    · have:=za4 R.nd h1 hb;have:=h3 rfl;exact⟨k,h2,by rw[←eb];congr 1;lia⟩
    · have:=za4 R.nd h1 hb;subst this;refine⟨m,h2,?_⟩;rw[←eb,show m+(j+1)=(m+1)+j by lia,Nat.add_mod_left,Nat.zero_add]
theorem zov (R:Rw2 ln nm gr m) {s:Str}{a:Nat}(ha:nm[a]? = some s):∀{j:Nat}{t:Str},Rc ln s j t->∃b q:Nat,nm[b]? = some t/\q<=j/\a+q * m<=b+2 * (j-q)/\b+(j-q)<=a+q * m
  | 0,t,h=>by rw[h.zero];exact⟨a,0,ha,al13q _,by lia,by lia⟩
  | j+1,t,h=>by
    obtain⟨u,r,h0,e⟩:=h.succ;obtain⟨b,q,hb,hq,e1,e2⟩:=zov R ha h0;rcases R.down _ _ _ e with ⟨i,k,h1,h2,h3,h4,_⟩ | ⟨h1,h2⟩
    · have:=za4 R.nd h1 hb;exact⟨k,q,h2,by lia,by lia,by lia⟩
    · have:=za4 R.nd h1 hb;subst this;refine⟨m,q+1,h2,by lia,?_,?_⟩
      · rw[Nat.succ_mul];lia
      · rw[Nat.succ_mul];lia
theorem zg2 (R:Rw2 ln nm gr m) {s:Str}(hs:nm[m]? = some s):∀{i:Nat}{t:Str},nm[m-i]? = some t->i<=m->Rc ln s i t
  | 0,t,h,_=>by rw[Nat.sub_zero,hs] at h;cases h;exact Rc.refl
  | i+1,t,h,hi=>by
    have el:=R.len;have eu:=al1q (show m-i<nm.length by lia);have:=zg2 R hs eu (by lia);obtain⟨r,hr⟩:=R.step (m-(i+1)) _ _ h (by rw[show m-(i+1)+1=m-i by lia];exact eu);exact this.step hr
theorem ze7 (R:Rw2 ln nm true m) {s:Str}(hs:nm[m]? = some s):∀{i:Nat}{t:Str},nm[m-2 * i]? = some t->2 * i<=m->Rc ln s i t
  | 0,t,h,_=>by rw[Nat.mul_zero,Nat.sub_zero,hs] at h;cases h;exact Rc.refl
  | i+1,t,h,hi=>by
    have el:=R.len;have eu:=al1q (show m-2 * i<nm.length by lia);have:=ze7 R hs eu (by lia);obtain⟨r,hr⟩:=R.step2 rfl (m-2 * (i+1)) _ _ h (by rw[show m-2 * (i+1)+2=m-2 * i by lia];exact eu);exact this.step hr
theorem zte (R:Rw2 ln nm false m) (pk:keys.Perm nm) (cl:∀k∈keys,∀l r,(l,r)∈ln k->l∈keys) {rs:List ty1q}(h:Rnd ln keys rs):rs.length=m+1:=by
  have el:=R.len;have e0:=al1q (show 0<nm.length by lia);have em:=al1q (show m<nm.length by lia);refine zkf cl h (.inr ⟨by lia,⟨nm[m],pk.mem_iff.mpr (al46q _),?_⟩,fun s hs j h1 h2 hr=>?_⟩)
  · obtain⟨r,hr⟩:=R.back _ _ e0 em;exact (zg2 R em (i:=m) (by rw[al178q];exact e0) (al13q _)).step hr
  · obtain⟨a,ha⟩:=al29q.mp (pk.mem_iff.mp hs);obtain⟨b,hb,e⟩:=zou R ha hr;have:=za4 R.nd ha hb;subst this;have hal:=(al3q.mp ha).1;have h3:(a+j)%(m+1)=a:=by rw[e,Nat.mod_eq_of_lt (by lia)]
    have h4:=Nat.div_add_mod (a+j) (m+1);rw[h3] at h4;have h5:(a+j) / (m+1)<2:=Nat.div_lt_of_lt_mul (by lia);generalize (a+j) / (m+1)=d at h4 h5
    match d,h5 with
    | 0,_=>rw[Nat.mul_zero] at h4;lia
    | 1,_=>rw[Nat.mul_one] at h4;lia
theorem ztf (R:Rw2 ln nm true m) (pk:keys.Perm nm) (cl:∀k∈keys,∀l r,(l,r)∈ln k->l∈keys) {rs:List ty1q}(h:Rnd ln keys rs):rs.length=1+(m+1) / 2:=by
  have el:=R.len;have e0:=al1q (show 0<nm.length by lia);have em:=al1q (show m<nm.length by lia);refine zkf cl h (.inr ⟨by lia,⟨nm[m],pk.mem_iff.mpr (al46q _),?_⟩,fun s hs j h1 h2 hr=>?_⟩)
  · obtain⟨r,hr⟩:=R.back _ _ e0 em;rcases Nat.mod_two_eq_zero_or_one m with c | c
    · rw[show 1+(m+1) / 2=m / 2+1 by lia];exact (ze7 R em (i:=m / 2) (by rw[show m-2 * (m / 2)=0 by lia];exact e0) (by lia)).step hr
    · have e1:=al1q (show 1<nm.length by lia);obtain⟨r1,hr1⟩:=R.step 0 _ _ e0 e1;rw[show 1+(m+1) / 2=m / 2+1+1 by lia];exact ((ze7 R em (i:=m / 2) (by rw[show m-2 * (m / 2)=1 by lia];exact e1) (by lia)).step hr1).step hr
  · obtain⟨a,ha⟩:=al29q.mp (pk.mem_iff.mp hs);obtain⟨b,q,hb,hq,e1,e2⟩:=zov R ha hr;have:=za4 R.nd ha hb;subst this;rcases Nat.eq_zero_or_pos q with z | z
    · subst z;lia
    · have h3:m<=q * m:=Nat.le_mul_of_pos_left m z;lia
end
structure RwG (R:Rw) (nm:List Str) (gp:List Int) (gr:Bool):Prop where
  nd:nm.Nodup
  gl:nm.length=gp.length+1
  g0:∀g∈gp,0<=g
  down:∀k l b,(l,b)∈R k->∃i j:Nat,nm[i]? = some k/\nm[j]? = some l/\((i=j+1/\gp[j]? = some (zaa b.1))\/(gr=true/\i=j+2/\zaa b.1=0))
  step:∀(i:Nat) x y g,nm[i]? = some y->nm[i+1]? = some x->gp[i]? = some g->∃b,(y,b)∈R x/\zaa b.1=g
def sm (gp:List Int) (i:Nat):Int:=(gp.take i).sum
theorem zb0 {gp:List Int}{i:Nat}{g:Int}(h:gp[i]? = some g):sm gp (i+1)=sm gp i+g:=by
  unfold sm;rw[al9q,h,List.sum_append];simp
theorem ztg {gp:List Int}(g0:∀g∈gp,0<=g) {i:Nat}:sm gp i<=sm gp (i+1):=by
  cases e:gp[i]? with
  | none=>
    unfold sm;rw[al9q,e];simp
  | some g=>
    rw[zb0 e];have:=g0 g (al6q e);lia
theorem zg3 {gp:List Int}(g0:∀g∈gp,0<=g):∀{i j:Nat},i<=j->sm gp i<=sm gp j:=by
  intro i j h
  induction j with
  | zero=>rw[show i=0 by lia];exact al111q _
  | succ j ih=>
    rcases al98q i (j+1) with c | c
    · exact Int.le_trans (ih (by lia)) (ztg g0)
    · rw[show i=j+1 by lia];exact al111q _
theorem zjh {gp:List Int}:sm gp 0=0:=rfl
theorem fl_bare {ts:List Tie}{lo:Int}{k:Str}{m:IS}:FlF ts lo [] k m↔m=Prod.mk lo ("" : Str):=by
  unfold FlF;constructor
  · intro h;have:=h.1;simpa[loL,fwOf] using this
  · rintro rfl;exact⟨by simp[loL],fun q hq=>by
      have:q=Prod.mk lo ("" : Str):=by simpa[loL,fwOf] using hq
      rw[this];exact zdr _⟩
theorem ce_bare {ts:List Tie}{hi:Int}{k:Str}{m:IS}:CeF ts hi [] k m↔m=Prod.mk hi ("" : Str):=by
  unfold CeF;constructor
  · intro h;have:=h.1;simpa[hiL,fwOf] using this
  · rintro rfl;exact⟨by simp[hiL],fun q hq=>by
      have:q=Prod.mk hi ("" : Str):=by simpa[hiL,fwOf] using hq
      rw[this];exact zdr _⟩
section
variable {R:Rw}{nm:List Str}{gp:List Int}{gr:Bool}{ts:List Tie}{lo hi:Int}
theorem zrx (G:RwG R nm gp gr) {k:Str}{c:Chn}(u:Up R (FlF ts lo []) k c):∀{i:Nat},nm[i]? = some k->c.1<=lo+sm gp i:=by
  induction u with
  | @bare k m h=>
    intro i hi;rw[fl_bare] at h;subst h;have:=zg3 G.g0 (al65q i);rw[zjh] at this;show lo<=_;lia
  | @up k l c b u h ih=>
    intro i hi;obtain⟨i',j,h1,h2,h3⟩:=G.down k l b h;have:=za4 G.nd h1 hi;subst this;have:=ih h2;show c.1+zaa b.1<=_;rcases h3 with ⟨e,eg⟩ | ⟨_,e,eg⟩
    · subst e;rw[zb0 eg];lia
    · subst e;have h4:=zg3 G.g0 (show j<=j+2 by lia);lia
theorem zvt (G:RwG R nm gp gr):∀{i:Nat}{k:Str},nm[i]? = some k->LoIs R (FlF ts lo []) k (lo+sm gp i):=by
  intro i k hk;refine⟨?_,fun c u=>zrx G u hk⟩
  induction i generalizing k with
  | zero=>exact⟨_,Up.bare (fl_bare.mpr rfl),by rw[zjh,Int.add_zero]⟩
  | succ i ih=>
    have hl:=(al3q.mp hk).1;have gl:=G.gl;have ey:=al1q (show i<nm.length by lia);have eg:=al1q (show i<gp.length by lia);obtain⟨b,hb,e⟩:=G.step i _ _ _ ey hk eg;obtain⟨c,u,ec⟩:=ih ey;exact⟨_,u.up hb,by show c.1+zaa b.1=_;rw[ec,e,zb0 eg];lia⟩
theorem zvu (G:RwG R nm gp gr) {k:Str}{c:Chn}(u:Dn R (CeF ts hi []) k c):∀{i:Nat},nm[i]? = some k->hi-(sm gp gp.length-sm gp i)<=c.1:=by
  induction u with
  | @bare k m h=>
    intro i hi';rw[ce_bare] at h;subst h;have hl:=(al3q.mp hi').1;have gl:=G.gl;have:=zg3 G.g0 (show i<=gp.length by lia);show _<=hi;lia
  | @dn k l c b u h ih=>
    intro i hi';obtain⟨i',j,h1,h2,h3⟩:=G.down k l b h;have:=za4 G.nd h2 hi';subst this;have:=ih h1;show _<=c.1-zaa b.1;rcases h3 with ⟨e,eg⟩ | ⟨_,e,eg⟩
    · subst e;rw[zb0 eg] at this;lia
    · subst e;have h4:=zg3 G.g0 (show j<=j+2 by lia);lia
theorem zvv (G:RwG R nm gp gr):∀(n:Nat) {i:Nat}{k:Str},i+n=gp.length->nm[i]? = some k->HiIs R (CeF ts hi []) k (hi-(sm gp gp.length-sm gp i)):=by
  intro n i k hn hk;refine⟨?_,fun c u=>zvu G u hk⟩
  induction n generalizing i k with
  | zero=>exact⟨_,Dn.bare (ce_bare.mpr rfl),by rw[show i=gp.length by lia];show hi=_;lia⟩
  | succ n ih=>
    have gl:=G.gl;have ex:=al1q (show i+1<nm.length by lia);have eg:=al1q (show i<gp.length by lia);obtain⟨b,hb,e⟩:=G.step i _ _ _ hk ex eg;obtain⟨c,u,ec⟩:=ih (i:=i+1) (by lia) ex;exact⟨_,u.dn hb,by show c.1-zaa b.1=_;rw[ec,e,zb0 eg];lia⟩
end
theorem zbq {ts:List Tie}(h:∀t∈ts,t.k≠SAME) (x:Str):labs ts x=x:=by
  have go:∀(ts:List Tie) (f:Str->Str),(∀t∈ts,t.k≠SAME)->ts.foldl stp f=f:=by
    intro ts
    induction ts with
    | nil=>intro f _;rfl
    | cons t ts ih=>
      intro f h;rw[List.foldl_cons,show stp f t=f from by unfold stp;rw[al8q (h t (al56q ..))]];exact ih f fun t ht=>h t (al19q _ ht)
  unfold labs;rw[go ts id h];rfl
theorem zg4 {ts:List Tie}(h:∀t∈ts,t.k≠SAME) (ss:List Str):zn ts ss=ss:=by
  unfold zn;exact List.filter_eq_self.mpr fun x _=>al10q (zbq h x)
structure TsOk (nm:List Str) (gp:List Int) (gr bk:Bool) (ts:List Tie):Prop where
  nd:nm.Nodup
  gl:nm.length=gp.length+1
  g0:∀g∈gp,0<=g
  mem:∀t∈ts,t.k≠SAME/\((∃i:Nat,nm[i+1]? = some t.a/\nm[i]? = some t.b/\gp[i]? = some (zaa t))\/(gr=true/\∃i:Nat,nm[i+2]? = some t.a/\nm[i]? = some t.b/\zaa t=0)\/(bk=true/\nm[0]? = some t.a/\nm[gp.length]? = some t.b))
  st:∀i:Nat,i<gp.length->∃t∈ts,nm[i+1]? = some t.a/\nm[i]? = some t.b/\gp[i]? = some (zaa t)
  st2:gr=true->∀i:Nat,i+2<=gp.length->∃t∈ts,nm[i+2]? = some t.a/\nm[i]? = some t.b
  bck:bk=true->∃t∈ts,nm[0]? = some t.a/\nm[gp.length]? = some t.b
section
variable {nm:List Str}{gp:List Int}{gr bk:Bool}{ts:List Tie}{ads:List ty1q}
theorem TsOk.ns (h:TsOk nm gp gr bk ts):∀t∈ts,t.k≠SAME:=fun t ht=>(h.mem t ht).1
theorem TsOk.lnk (h:TsOk nm gp gr bk ts) {x l:Str}{r:ty1q}:(l,r)∈zak ts (ts.zip ads) x↔∃t,(t,r)∈ts.zip ads/\t.a=x/\t.b=l:=by
  rw[lnk_mem];constructor
  · rintro ⟨t,h1,_,h3,h4⟩;rw[zbq h.ns] at h3 h4;exact⟨t,h1,h3,h4⟩
  · rintro ⟨t,h1,h3,h4⟩;exact⟨t,h1,h.ns t (al91q h1).1,by rw[zbq h.ns];exact h3,by rw[zbq h.ns];exact h4⟩
theorem TsOk.rw1 (h:TsOk nm gp gr false ts) (hl:ads.length=ts.length):Rw1 (zak ts (ts.zip ads)) nm gr:=by
  refine⟨h.nd,fun x l r e=>?_,fun i x y e1 e2=>?_⟩
  · obtain⟨t,h1,rfl,rfl⟩:=h.lnk.mp e;rcases (h.mem t (al91q h1).1).2 with ⟨i,h2,h3,_⟩ | ⟨hg,i,h2,h3,_⟩ | ⟨z,_⟩
    · exact⟨i+1,i,h2,h3,by lia,by lia,fun _=>rfl⟩
    · exact⟨i+2,i,h2,h3,by lia,by lia,fun z=>by rw[hg] at z;cases z⟩
    · cases z
  · have hi:=(al3q.mp e2).1;obtain⟨t,ht,h1,h2,_⟩:=h.st i (by have:=h.gl;lia);rw[e1] at h2;rw[e2] at h1;cases h1;cases h2;obtain⟨r,hr⟩:=zdu hl ht;exact⟨r,h.lnk.mpr ⟨t,hr,rfl,rfl⟩⟩
theorem TsOk.rw2 (h:TsOk nm gp gr true ts) (hl:ads.length=ts.length):Rw2 (zak ts (ts.zip ads)) nm gr gp.length:=by
  refine⟨h.nd,h.gl,fun x l r e=>?_,fun i x y e1 e2=>?_,fun hg i x y e1 e2=>?_,fun x y e1 e2=>?_⟩
  · obtain⟨t,h1,rfl,rfl⟩:=h.lnk.mp e;rcases (h.mem t (al91q h1).1).2 with ⟨i,h2,h3,_⟩ | ⟨hg,i,h2,h3,_⟩ | ⟨_,h2,h3⟩
    · exact .inl ⟨i+1,i,h2,h3,by lia,by lia,fun _=>rfl⟩
    · exact .inl ⟨i+2,i,h2,h3,by lia,by lia,fun z=>by rw[hg] at z;cases z⟩
    · exact .inr ⟨h2,h3⟩
  · have hi:=(al3q.mp e2).1;obtain⟨t,ht,h1,h2,_⟩:=h.st i (by have:=h.gl;lia);rw[e1] at h2;rw[e2] at h1;cases h1;cases h2;obtain⟨r,hr⟩:=zdu hl ht;exact⟨r,h.lnk.mpr ⟨t,hr,rfl,rfl⟩⟩
  · have hi:=(al3q.mp e2).1;obtain⟨t,ht,h1,h2⟩:=h.st2 hg i (by have:=h.gl;lia);rw[e1] at h2;rw[e2] at h1;cases h1;cases h2;obtain⟨r,hr⟩:=zdu hl ht;exact⟨r,h.lnk.mpr ⟨t,hr,rfl,rfl⟩⟩
  · obtain⟨t,ht,h1,h2⟩:=h.bck rfl;rw[e1] at h1;rw[e2] at h2;cases h1;cases h2;obtain⟨r,hr⟩:=zdu hl ht;exact⟨r,h.lnk.mpr ⟨t,hr,rfl,rfl⟩⟩
theorem TsOk.rwg (h:TsOk nm gp gr false ts) (hl:ads.length=ts.length):RwG (rwOf ts (ts.zip ads)) nm gp gr:=by
  refine⟨h.nd,h.gl,h.g0,fun k l b e=>?_,fun i x y g e1 e2 eg=>?_⟩
  · obtain⟨h1,_,h3,h4⟩:=rw_mem.mp e;rw[zbq h.ns] at h3 h4;subst h3;subst h4;rcases (h.mem b.1 (al91q (a:=b.1) (b:=b.2) h1).1).2 with ⟨i,h2,h3,h5⟩ | ⟨hg,i,h2,h3,h5⟩ | ⟨z,_⟩
    · exact⟨i+1,i,h2,h3,.inl ⟨rfl,h5⟩⟩
    · exact⟨i+2,i,h2,h3,.inr ⟨hg,rfl,h5⟩⟩
    · cases z
  · have hi:=(al3q.mp eg).1;obtain⟨t,ht,h1,h2,h3⟩:=h.st i hi;rw[e1] at h2;rw[e2] at h1;rw[eg] at h3;cases h1;cases h2;cases h3;obtain⟨r,hr⟩:=zdu hl ht;exact⟨(t,r),rw_mem.mpr ⟨hr,h.ns t ht,by rw[zbq h.ns],by rw[zbq h.ns]⟩,rfl⟩
end
structure TsAt (nm:List Str) (gp:List Int) (ts:List Tie):Prop where
  nd:nm.Nodup
  gl:nm.length=gp.length+1
  tl:ts.length=gp.length
  g0:∀g∈gp,0<=g
  at':∀(i:Nat) t,ts[i]? = some t->t.k≠SAME/\nm[i+1]? = some t.a/\nm[i]? = some t.b/\gp[i]? = some (zaa t)
section
variable {nm keys:List Str}{gp:List Int}{ts:List Tie}{ads:List ty1q}{lo hi:Int}
theorem TsAt.ok (h:TsAt nm gp ts):TsOk nm gp false false ts:=by
  refine⟨h.nd,h.gl,h.g0,fun t ht=>?_,fun i hi=>?_,(fun z=>by cases z),(fun z=>by cases z)⟩
  · obtain⟨i,hi⟩:=al29q.mp ht;obtain⟨h1,h2,h3,h4⟩:=h.at' i t hi;exact⟨h1,.inl ⟨i,h2,h3,h4⟩⟩
  · have:=h.tl;have e:=al1q (show i<ts.length by lia);obtain⟨_,h2,h3,h4⟩:=h.at' i _ e;exact⟨_,al46q _,h2,h3,h4⟩
theorem TsAt.rw (h:TsAt nm gp ts) {k l:Str}{b:Tr}(e:(l,b)∈rwOf ts (ts.zip ads) k):∃j:Nat,(ts.zip ads)[j]? = some b/\nm[j+1]? = some k/\nm[j]? = some l/\gp[j]? = some (zaa b.1):=by
  obtain⟨h1,_,h3,h4⟩:=rw_mem.mp e;rw[zbq h.ok.ns] at h3 h4;subst h3;subst h4;obtain⟨j,hj⟩:=al29q.mp h1;obtain⟨h5,h6⟩:=al45q.mp hj;obtain⟨_,a1,a2,a3⟩:=h.at' j _ h5;exact⟨j,hj,a1,a2,a3⟩
theorem TsAt.up (h:TsAt nm gp ts) {k:Str}{c:Chn}(u:Up (rwOf ts (ts.zip ads)) (FlF ts lo []) k c):∀{i:Nat},nm[i]? = some k->∃a,a<=i/\c.1=lo+(sm gp i-sm gp a)/\c.2.1 = ""/\c.2.2=((ts.zip ads).drop a).take (i-a):=by
  induction u with
  | @bare k m hm=>
    intro i hi;rw[fl_bare] at hm;subst hm;exact⟨i,al13q _,by show lo=_;lia,rfl,by rw[al178q];rfl⟩
  | @up k l c b u hb ih=>
    intro i hi;obtain⟨j,h1,h2,h3,h4⟩:=h.rw hb;have:=za4 h.nd h2 hi;subst this;obtain⟨a,ha,e1,e2,e3⟩:=ih h3;refine⟨a,by lia,?_,e2,?_⟩
    · show c.1+zaa b.1=_;rw[e1,zb0 h4];lia
    · show c.2.2++[b]=_;rw[e3,show j+1-a=(j-a)+1 by lia,al9q,List.getElem?_drop,show a+(j-a)=j by lia,h1];rfl
theorem TsAt.chain (h:TsAt nm gp ts) (hl:ads.length=ts.length) {a:Nat}:∀{i:Nat}{k:Str},a<=i->nm[i]? = some k->∃c,Up (rwOf ts (ts.zip ads)) (FlF ts lo []) k c/\c.1=lo+(sm gp i-sm gp a)/\c.2.2.length=i-a:=by
  intro i
  induction i with
  | zero=>
    intro k ha hk;exact⟨_,Up.bare (fl_bare.mpr rfl),by rw[show a=0 by lia];show lo=_;lia,by rw[Nat.zero_sub];rfl⟩
  | succ i ih=>
    intro k ha hk;rcases al98q a (i+1) with c | c
    · have hil:=(al3q.mp hk).1;have gl:=h.gl;have ey:=al1q (show i<nm.length by lia);have eg:=al1q (show i<gp.length by lia);obtain⟨b,hb,e⟩:=(h.ok.rwg hl).step i _ _ _ ey hk eg;obtain⟨c',u,e1,e2⟩:=ih (by lia) ey;refine⟨_,u.up hb,?_,?_⟩
      · show c'.1+zaa b.1=_;rw[e1,e,zb0 eg];lia
      · show (c'.2.2++[b]).length=_;rw[al18q,e2];show i-a+1=_;lia
    · exact⟨_,Up.bare (fl_bare.mpr rfl),by rw[show a=i+1 by lia];show lo=_;lia,by rw[show a=i+1 by lia,al178q];rfl⟩
theorem TsAt.row (h:TsAt nm gp ts) (hl:ads.length=ts.length) (pk:keys.Perm nm) (eh:hi=lo+sm gp gp.length-1) {a b:Nat}(ab:a<b) (bl:b<=gp.length) (za:sm gp a=0) (zb:sm gp b=sm gp gp.length) (pa:0<sm gp (a+1)) (pb:sm gp (b-1)<sm gp gp.length)
    {c:Chn}{w:Str}(r:zve (rwOf ts (ts.zip ads)) (FlF ts lo []) (CeF ts hi []) keys c w):w = ""/\c.2.1 = ""/\c.2.2=((ts.zip ads).drop a).take (b-a):=by
  obtain⟨k,m,hk,u,g,e,lt,mi⟩:=r;rw[ce_bare] at g;subst g;obtain⟨i,hi'⟩:=al29q.mp (pk.mem_iff.mp hk);obtain⟨a',ha',e1,e2,e3⟩:=h.up u hi';have lt:hi<c.1:=lt;have gl:=h.gl;have il:=(al3q.mp hi').1;have s1:=zg3 h.g0 (show i<=gp.length by lia);have s2:=zg3 h.g0 (al65q a');rw[zjh] at s2;have x1:sm gp i=sm gp gp.length:=by lia
  have x2:sm gp a'=0:=by lia
  have y1:a'<=a:=by
    rcases al98q a a' with z | z
    · have:=zg3 h.g0 (show a+1<=a' by lia);lia
    · exact z
  have y2:b<=i:=by
    rcases al98q i b with z | z
    · have:=zg3 h.g0 (show i<=b-1 by lia);lia
    · exact z
  have zl:(ts.zip ads).length=gp.length:=by rw[al78q,hl,Nat.min_self,h.tl]
  have cl:c.2.2.length=i-a':=by rw[e3,al28q,al134q,zl];lia
  have eb:=al1q (show b<nm.length by lia);obtain⟨c',u',e1',e2'⟩:=h.chain (lo:=lo) hl (a:=a) (al162q ab) eb;have:¬c'.2.2.length<c.2.2.length:=fun z=>by
    have:=mi _ (pk.mem_iff.mpr (al6q eb)) c' _ u' (ce_bare.mpr rfl) z;have:c'.1<=hi:=this;lia
  have ea:a'=a:=by lia
  have ei:i=b:=by lia
  subst ea;subst ei;exact⟨e.symm,e2,e3⟩
end
def nmK (c:Nat) (q:Int) (k:Nat):Str:=(⟨#[c]⟩:Str)++Str.ofString (toString ((0+(k:Int)) * 7%q))
def nmL (c:Nat) (q:Int) (m:Nat):List Str:=(List.range m).map (nmK c q)
def qOk (q:Int) (m:Nat):Prop:=(q=17/\m<=16)\/(q=61/\m<=47)
theorem zw6:((List.range 16).map fun k:Nat=>Str.ofString (toString ((0+(k:Int)) * 7%17))).Nodup:=by decide +kernel
theorem zw7:((List.range 47).map fun k:Nat=>Str.ofString (toString ((0+(k:Int)) * 7%61))).Nodup:=by decide +kernel
theorem nm17:∀c∈List.range' 97 26,∀k∈List.range 16,zgm (nmK c 17 k)=true:=by decide +kernel
theorem nm61:∀c∈List.range' 97 26,∀k∈List.range 47,zgm (nmK c 61 k)=true:=by decide +kernel
theorem zvw:∀z∈List.range 26,∃c∈List.range' 97 26,(Str.ofString "abcdefghijklmnopqrstuvwxyz").cps.toList[z]? = some c:=by decide +kernel
theorem zth {a b b':Str}(h:a++b=a++b'):b=b':=by
  obtain⟨x⟩:=a;obtain⟨y⟩:=b;obtain⟨z⟩:=b';have h:(⟨x++y⟩:Str)=⟨x++z⟩:=h;injection h with h
  have:y=z:=by
    have:=al61q Array.toList h;rw[Array.toList_append,Array.toList_append] at this;exact Array.toList_inj.mp (List.append_cancel_left this)
  rw[this]
theorem zqp {c:Nat}{q:Int}{m:Nat}(h:qOk q m):(nmL c q m).Nodup:=by
  have go:∀(q:Int) (M:Nat),((List.range M).map fun k:Nat=>Str.ofString (toString ((0+(k:Int)) * 7%q))).Nodup->m<=M->(nmL c q m).Nodup:=by
    intro q M nd hm;unfold nmL;rw[al90q,al177q];rw[al90q,al177q] at nd;have sub:(List.range m).Sublist (List.range M):=by
      rw[show List.range m=(List.range M).take m from by rw[List.take_range,Nat.min_eq_left hm]];exact List.take_sublist _ _
    exact (nd.sublist sub).imp fun h z=>h (zth z)
  rcases h with ⟨rfl,h⟩ | ⟨rfl,h⟩
  · exact go 17 16 zw6 h
  · exact go 61 47 zw7 h
theorem zti {c:Nat}{q:Int}{m:Nat}(hc:c∈List.range' 97 26) (h:qOk q m):∀x∈nmL c q m,zgm x=true:=fun x hx=>by
  unfold nmL at hx;obtain⟨k,hk,rfl⟩:=al32q.mp hx;have hk:=al36q.mp hk;rcases h with ⟨rfl,h⟩ | ⟨rfl,h⟩
  · exact nm17 c hc k (al36q.mpr (by lia))
  · exact nm61 c hc k (al36q.mpr (by lia))
theorem zvx {c:Nat}{q:Int}{m:Nat}:(nmL c q m).length=m:=by unfold nmL;rw[al0q,al44q]
def zay (nm:List Str) (n:Nat):List Tie:=(List.range n).map fun i=>⟨"over",nm.getD (i+2) "",nm.getD i "",none⟩
theorem zry {nm:List Str}{gp:List Int}{ts:List Tie}{n:Nat}(h:TsAt nm gp ts) (hn:n+1=gp.length\/n=0) {bk:Bool}{bt:List Tie}(hb:(bk=false/\bt = [])\/(bk=true/\bt = [⟨"over",nm.getD 0 "",nm.getD gp.length "",none⟩])) (gr:Bool) (hg:gr=true->n+1=gp.length) (hg':gr=false->n=0):TsOk nm gp gr bk (ts++zay nm n++bt):=by
  have gl:=h.gl;have gd:∀i,i<nm.length->nm[i]? = some (nm.getD i ""):=fun i hi=>by rw[al11q,al1q hi];rfl
  have ov:(Str.ofString "over")≠SAME:=by decide +kernel
  refine⟨h.nd,gl,h.g0,fun t ht=>?_,fun i hi=>?_,fun eg i hi=>?_,fun eb=>?_⟩
  · rcases al25q.mp ht with ht | ht
    · rcases al25q.mp ht with ht | ht
      · obtain⟨j,hj⟩:=al29q.mp ht;obtain⟨h1,h2,h3,h4⟩:=h.at' j t hj;exact⟨h1,.inl ⟨j,h2,h3,h4⟩⟩
      · unfold zay at ht;obtain⟨i,hi,rfl⟩:=al32q.mp ht;have hi:=al36q.mp hi;refine⟨ov,.inr (.inl ⟨?_,i,gd _ (by lia),gd _ (by lia),rfl⟩)⟩;cases gr with
        | true=>rfl
        | false=>have:=hg' rfl;lia
    · rcases hb with ⟨_,rfl⟩ | ⟨e,rfl⟩
      · cases ht
      · have:t=⟨"over",nm.getD 0 "",nm.getD gp.length "",none⟩:=by simpa using ht
        subst this;exact⟨ov,.inr (.inr ⟨e,gd 0 (by lia),gd gp.length (by lia)⟩)⟩
  · have tl:=h.tl;have e:=al1q (show i<ts.length by lia);obtain⟨_,h2,h3,h4⟩:=h.at' i _ e;exact⟨_,al35q _ (al35q _ (al46q _)),h2,h3,h4⟩
  · have:=hg eg;refine⟨⟨"over",nm.getD (i+2) "",nm.getD i "",none⟩,al35q _ (al39q _ ?_),gd _ (by lia),gd _ (by lia)⟩;unfold zay;exact al32q.mpr ⟨i,al36q.mpr (by lia),rfl⟩
  · rcases hb with ⟨z,_⟩ | ⟨_,rfl⟩
    · rw[z] at eb;cases eb
    · exact⟨_,al39q _ (al56q ..),gd 0 (by lia),gd gp.length (by lia)⟩
theorem ztj {nm:List Str}{n:Nat}(hn:n+1<nm.length\/n=0):∀t∈zay nm n,TOk nm t:=fun t ht=>by
  unfold zay at ht;obtain⟨i,hi,rfl⟩:=al32q.mp ht;have hi:=al36q.mp hi;have gd:∀i,i<nm.length->nm.getD i ""∈nm:=fun i hi=>by rw[al11q,al1q hi];exact al46q _
  exact⟨TieOk.plain (show Str.ofString "over"∈znc by decide +kernel) (gd _ (by lia)) (gd _ (by lia)),gd _ (by lia),gd _ (by lia)⟩
theorem ztk {gp:List Int}:sm gp gp.length=gp.sum:=by unfold sm;rw[al22q]
end Dm
namespace L2
open PySem PySem.Spec PyProof.Rows
section
variable {X:Cx}{pos:Pos}
theorem sset {i:Nat}{x:Str}{e:Expr}{te:TE}{pos':Pos}(hN:X.N.Nodup) (he:PE X e te) (hi:X.N[i]? = some x:=by rfl) (hx:Loc X.env.scope x:=by first | exact Or.inl rfl | exact Or.inr rfl) (hs:swapsWith e (some (.Name x pos')) pos.line X.env=pure false:=by rfl) (hf:X.fn x=true\/X.env.scope.names.lookup x=some .local:=by first | exact .inl rfl | exact .inr rfl | assumption):PS X (.Assign [.Name x pos'] e pos) (tAsg te (zw i)):=zua hN hi hx he hs hf
theorem gnm {i:Nat}{x:Str}(hN:X.N.Nodup) (hi:X.N[i]? = some x:=by rfl) (hx:Loc X.env.scope x:=by first | exact Or.inl rfl | exact Or.inr rfl) (hf:X.fn x=true\/X.env.scope.names.lookup x=some .local:=by first | exact .inl rfl | exact .inr rfl | assumption):PG X (.Name x pos) (zw i):=zbb hN hi hx hf
theorem pix {a b:Expr}{ta tb:TE}{r:R2}(hr:IxR X r) (ha:PE X a ta) (hb:PE X b tb) (hs:zmr b:=by exact fun _ _=>rfl):PE X (.Subscript a b pos) (tOp r ta tb):=zwh hr ha hb hs
end
section
variable {X:Cx}{x:Str}{ps:List Str}{k:Nat}{sp:Sp}{e:Expr}{es:List Expr}{t:TA}{p pos:Pos}
theorem pfn (F:Has X.prog X.w X.K X.mg X.base x ps k sp) (ha:PA X (e::es) t) (hr:Room k X.A:=by exact Room.mono (by assumption) (by decide)) (hg:Gl X x:=by rfl) (hdb:(x == ("__debug__" : Str))=false:=by decide)
    (he:starEach (e::es) X.env=(false,eval e X.env)::starEach es X.env:=by rfl) (hpl:(backTo pos (starEach es X.env)).any (·.1)=false:=by rfl):PE X (.Call (.Name x p) (e::es) [] pos) (zpl sp [] E0 t):=zwn F hr hg ha hdb he hpl
end
theorem fsc {N P:List Str}{sc:Scope}(h1:sc.kind = .function:=by rfl) (h2:sc.isCoroutine=false:=by rfl) (h3:sc.isGenerator=false:=by rfl) (h4:N.Nodup:=by decide +kernel) (h5:N.take P.length=P:=by rfl) (h6:∀x∈P,sc.names.lookup x=some .local\/sc.names.lookup x=some .cell:=by decide +kernel) (h7:∀y∈sc.names,y.2≠.free:=by decide +kernel):FnScope N P sc:=⟨h1,h2,h3,h4,h5,h6,h7⟩
end L2
namespace L2
open PySem PySem.W PyProof.Rows
section
variable {prog:ty4q}{w:World}{A:Around}{E:ty90q}{s:ty2q}
def TupF (h:Heap) (v:ty3q) (x:Str):Prop:=∃a t r,v = .ref a/\IsTup h a ((Value.str x t::r).toArray)
theorem TupF.kept {h h':Heap}{v:ty3q}{p:Str}(t:TupF h v p) (k:∀b o,h.get? b=some o->h'.get? b=some o):TupF h' v p:=by
  obtain⟨a,x,y,rfl,o,ho,hc,n,hd⟩:=t;exact⟨a,x,y,rfl,o,k a o ho,hc,n,hd⟩
theorem ztl {v1 v2:ty3q}{p q:Str}{Q:Bool->ty2q->Prop}(h1:TupF s.heap v1 p) (h2:TupF s.heap v2 q) (ne:p≠q) (h:Q (decide (p.cps.toList<q.cps.toList)) s):wpAny (model prog w) A (keyLt' (tuples' true) v1 v2) Q (fun _ _=>False) s:=by
  obtain⟨a,t1,r1,rfl,oa,hoa,_,na,hda⟩:=h1;obtain⟨b,t2,r2,rfl,ob,hob,_,nb,hdb⟩:=h2;refine kat_lt hoa hda hob hdb ?_;show KatLex prog w A true _ Q ((Value.str p t1,Value.str q t2)::_) 0 s;refine kat_cons (al133q ?_);rw[al17q ne];refine kat_no ?_;show wpAny _ _ (oneLt' true (Value.str p t1) (Value.str q t2)) _ _ _;exact oneLt_str h
theorem ztm {vs:List ty3q}{ps:List Str}{Q:SortKind->ty2q->Prop}(h:Paired (TupF s.heap) vs ps) (hne:0<ps.length) (q:Q (tuples' true) s):wpAny (model prog w) A (keyKind' vs.toArray) Q E s:=by
  obtain⟨fs,kt,hl,hf⟩:∃fs,KatTups s.heap vs fs/\fs.length=ps.length/\∀v∈fs,∃x t,v=Value.str x t:=by
    clear hne
    induction h with
    | nil=>exact⟨[],.nil,rfl,by simp⟩
    | cons h _ ih=>
      obtain⟨fs,k,l,f⟩:=ih;obtain⟨a,t,u,rfl,o,ho,hc,n,hd⟩:=h;refine⟨_::fs,.cons ho hc hd rfl k,by simp[l],fun v hv=>?_⟩;rcases al21q.mp hv with rfl | hv
      · exact⟨_,_,rfl⟩
      · exact f v hv
  refine kat_kind (T:=.type "str") kt (by lia) (fun v hv=>?_) rfl q;obtain⟨x,t,rfl⟩:=hf v hv;exact Looks.now
end
section
variable {X:Cx}
theorem zw8 {ps:List Str}(nd:ps.Nodup):Tot ps.length fun i j=>decide ((ps.getD i "").cps.toList<(ps.getD j "").cps.toList):=by
  have e:∀i (h:i<ps.length),ps.getD i "" = ps[i]:=fun i h=>by rw[al11q,al1q h];rfl
  refine⟨fun a _=>al17q (al69q _),fun a b c _ _ _ h1 h2=>al10q (al169q (al16q h1) (al16q h2)),fun a b ha hb n h=>al10q (zs0 (fun z=>n ?_) (al89q h))⟩;rw[e a ha,e b hb] at z;have pw:=al48q.mp nd;rcases al101q a b with c | c | c
  · exact absurd z (pw a b ha hb c)
  · exact c
  · exact absurd z.symm (pw b a hb ha c)
theorem zif {K:ty0q}(h:X.K=K):zbr X (.builtin "sorted") (fun xs H Q=>∃(l:ty1q) (as:List ty1q) (gs:List (Str×List V)),xs = [V.ref l]/\SqL K H l (as.map V.ref)/\Paired (fun a (g:Str×List V)=>SqT K H a (.str g.1::g.2)) as gs/\(gs.map Prod.fst).Nodup/\gs.length<64/\
    ∀(D:ty1q) (bs:List ty1q) (hs:List (Str×List V)),H D=none->bs.length=hs.length->(∀(i:Nat) b y,bs[i]? = some b->hs[i]? = some y->∃j:Nat,as[j]? = some b/\gs[j]? = some y)->hs.Perm gs->hs.Pairwise (fun a b=>a.1.cps.toList<b.1.cps.toList)->Q (.ref D) (upd H D (.lst (bs.map V.ref)))):=by
  subst h;intro pins s σ H xs us Q I r h;obtain⟨l,as,gs,rfl,hl,pr,nd,h64,q⟩:=h;obtain⟨u,rfl,ru⟩:=zb3 r;cases ru;obtain⟨its,rv,pl,hz⟩:=I.list hl;have len:=rv.length;rw[al0q] at len;have lp:as.length=gs.length:=Paired.length pr;have lip:its.length=(gs.map Prod.fst).length:=by rw[al0q];lia
  have hT:Paired (TupF s.heap) its (gs.map Prod.fst):=zbl lip fun i v p e1 e2=>by
    have hi:i<as.length:=by have:=(al3q.mp e1).1;lia
    obtain⟨w',e3,r'⟩:=rv.get (i:=i) (x:=V.ref as[i]) (by simp[hi]);rw[e1] at e3;cases e3;cases r';have eg:=al1q (show i<gs.length by lia);rw[al4q,eg] at e2;cases e2;obtain⟨ts,rt,it,_⟩:=I.tuple (zaf pr (al1q hi) eg);cases rt with
    | cons r1 r2=>
      obtain⟨t1,rfl⟩:=r1;exact⟨_,t1,_,rfl,it⟩
  have T:=zw8 nd;rw[←lip] at T;have gd:∀i (h:i<(gs.map Prod.fst).length),(gs.map Prod.fst)[i]? = some ((gs.map Prod.fst).getD i ""):=fun i h=>by rw[al11q,al1q h];rfl
  have gi:∀i (h:i<its.length),its[i]? = some (its.getD i Value.none):=fun i h=>by rw[al11q,al1q h];rfl
  have ne:∀i j,i<its.length->j<its.length->i≠j->(gs.map Prod.fst).getD i ""≠(gs.map Prod.fst).getD j "":=fun i j hi hj n z=>by
    have h1:=gd i (by lia);have h2:=gd j (by lia);rw[z] at h1;exact n ((List.getElem?_inj (by rw[←lip];exact hi) nd).mp (h1.trans h2.symm))
  refine ze3 (κ:=tuples' true) T (by rw[lip,al0q];exact h64) (zkh pl.isList (by rw[al95q];lia)) (fun two s' kp _ _ Q' q'=>ztm (Paired.mapP hT fun v p t=>t.kept kp) (by lia) q') (fun i j hi hj n s' kp Q' q'=>ztl ((zaf hT (gi i hi) (gd i (by lia))).kept kp) ((zaf hT (gi j hj) (gd j (by lia))).kept kp) (ne i j hi hj n) q') fun D out h' tk c lo po kp hD hg=>?_
  obtain⟨bs,ys,vb,lb,pm,ab,up⟩:=zi7 as gs ("",[]) rv po lp;have hn:H D=none:=I.hok.fresh hD;refine⟨.ref D,_,I.laid (t':=tk) (h':=h') (a:=D) (o:=.lst (bs.map V.ref)) kp hD ⟨?_,out,c,vb,by rw[hg]⟩,rfl,q D bs ys hn lb ab pm (up.imp fun ⟨a,b,e1,e2,l⟩=>?_)⟩
  · rw[al0q,lb,pm.length_eq,al95q];lia
  · rw[al11q,al11q,al4q,al4q,e1,e2] at l;exact al16q l
end
end L2
namespace LK49
open PySem L2 Dm PySem.NumText
def top (i:Nat):Stmt:=PySem.Challenge.pw_digmatrix_k49_whole_straight_rows.main.body.getD i (.Pass ⟨0,0,0,0⟩)
structure Tx (K:ty0q) (mg:Str->Option ty3q) (w:World) (zr:ty1q) (zv:ty1q) (zi:ty1q):Prop where
 zfc:mg "DigError" = some (.ref zr)
 zfd:XBase K zr
 zkr:mg "Round" = some (.ref zv)
 zq2:XCatch K zv
 zq3:XCls K zv
 zks:XOk K zv
 zq4:XGet K zv
 zec:DfM K zv "Round.__init__" "__init__" (zgi (top 2) 0) ["self","ties"]
 zdm:NoAttr K zv "ties"
 zfe:mg "NoDating" = some (.ref zi)
 zjp:XCatch K zi
 zjq:XCls K zi
 zff:XOk K zi
 zjr:XGet K zi
 zdb:DfM K zi "NoDating.__init__" "__init__" (zgi (top 3) 0) ["self","row"]
 zcs:NoAttr K zi "row"
 zfg:PySem.W.mroIn K zv (.ref zv)=some true
 zdn:PySem.W.mroIn K zi (.ref zv)=some false
 zct:PySem.W.mroIn K zi (.ref zi)=some true
 zjs:Df K mg "one_names" (top 5) ["units","ties"]
 zjt:Df K mg "join_ones" (top 6) ["names","first","second"]
 zv5:Df K mg "ones" (top 7) ["units","ties"]
 zfq:Df K mg "ties_beneath" (top 8) ["telling"]
 zed:Df K mg "shortest_round" (top 10) ["telling"]
 zfh:Df K mg "round_through" (top 11) ["start","beneath"]
 zc4:Df K mg "refuse_round" (top 12) ["telling"]
 ztz:Df K mg "order" (top 13) ["telling"]
 zii:Df K mg "least_free" (top 14) ["beneath","placed"]
 zl3:Df K mg "rests_on" (top 15) ["lowers","placed"]
 zq5:Df K mg "gap_of" (top 17) ["tie"]
 zfr:Df K mg "finds_within" (top 18) ["telling"]
 zq6:Df K mg "floors" (top 19) ["telling"]
 zl4:Df K mg "ceilings" (top 20) ["telling"]
 zg6:Df K mg "bare_chains" (top 21) ["bounds"]
 zq7:Df K mg "led_up" (top 22) ["chain","tie"]
 zee:Df K mg "one_tie_longer" (top 23) ["beneath","chains"]
 zef:Df K mg "impossible_row" (top 24) ["telling"]
 zeg:Df K mg "refuse_undated" (top 25) ["telling"]
 zju:Df K mg "chains_up" (top 27) ["telling"]
 zg7:Df K mg "chains_down" (top 28) ["telling"]
 zl5:Df K mg "led_down" (top 29) ["chain","tie"]
 zt0:Df K mg "spans" (top 31) ["telling"]
 zg8:Df K mg "all_beneath" (top 33) ["telling"]
 zt1:Df K mg "drawn" (top 34) ["telling"]
 zfs:Df K mg "lies_between" (top 35) ["depths","upper","lower"]
 zv6:Df K mg "walk" (top 36) ["telling","upper","lower"]
 zft:Df K mg "step_towards" (top 37) ["end","name","pairs","depths"]
 zq8:Df K mg "levels" (top 39) ["telling"]
 zfu:Df K mg "_law_cell_at" (top 41) ["_law_script","_law_k"]
 zjv:Df K mg "_law_ties" (top 42) ["_law_names","_law_script"]
 zl6:Df K mg "_law_gap" (top 43) ["_law_tie"]
 zij:Df K mg "_law_asked" (top 44) ["_law_telling"]
 zdy:Df K mg "_law_goes_round" (top 45) ["_law_ties_here","_law_ring","_law_many"]
 zfv:Df K mg "_law_trimmed" (top 46) ["_law_ties_here"]
 zl7:Df K mg "_law_due" (top 47) ["_law_names","_law_frame","_law_gaps"]
 zdo:Df K mg "_law_row_of_ones" (top 48) ["_law_telling","_law_names"]
 zw9:Df K mg "law" (top 49) ["_law_script"]
 min:mg "min" = none
 list:mg "list" = none
 sorted:mg "sorted" = none
 all:mg "all" = none
 reversed:mg "reversed" = none
 any:mg "any" = none
 range:mg "range" = none
 int:mg "int" = none
 len:mg "len" = none
 max:mg "max" = none
 str:mg "str" = none
 sum:mg "sum" = none
theorem Tx.ex {K:ty0q}{mg:Str->Option ty3q}{w:World}{zr:ty1q}{zv:ty1q}{zi:ty1q}(T:Tx K mg w zr zv zi):∃zr,∃zv,∃zi,Tx K mg w zr zv zi:=⟨_,_,_,T⟩
theorem sc_one_names:FnScope ["units","ties","names","unit","tie"] ["units","ties"] (zp (top 5)):=fsc
theorem sc_join_ones:FnScope ["names","first","second","least","unit"] ["names","first","second"] (zp (top 6)):=fsc
theorem sc_ones:FnScope ["units","ties","names","members","unit"] ["units","ties"] (zp (top 7)):=fsc
theorem sc_ties_beneath:FnScope ["telling","names","beneath","members","tie"] ["telling"] (zp (top 8)):=fsc
theorem sc_shortest_round:FnScope ["telling","beneath","shortest","name","ties"] ["telling"] (zp (top 10)):=fsc
theorem sc_round_through:FnScope ["start","beneath","met","ways","longer","name","ties","lower","tie"] ["start","beneath"] (zp (top 11)):=fsc
theorem sc_refuse_round:FnScope ["telling","ties"] ["telling"] (zp (top 12)):=fsc
theorem sc_order:FnScope ["telling","beneath","placed"] ["telling"] (zp (top 13)):=fsc
theorem sc_least_free:FnScope ["beneath","placed","free"] ["beneath","placed"] (zp (top 14)):=fsc
theorem zji:FnScope ["lowers","placed"] ["lowers","placed"] (zp (top 15)):=fsc
theorem zow:FnScope ["tie"] ["tie"] (zp (top 17)):=fsc
theorem sc_finds_within:FnScope ["telling","names","within","members","find"] ["telling"] (zp (top 18)):=fsc
theorem sc_floors:FnScope ["telling","within","starts","name"] ["telling"] (zp (top 19)):=fsc
theorem sc_ceilings:FnScope ["telling","within","ends","name"] ["telling"] (zp (top 20)):=fsc
theorem sc_bare_chains:FnScope ["bounds","chains","name"] ["bounds"] (zp (top 21)):=fsc
theorem zox:FnScope ["chain","tie"] ["chain","tie"] (zp (top 22)):=fsc
theorem sc_one_tie_longer:FnScope ["beneath","chains","longer","name","lower","tie","chain"] ["beneath","chains"] (zp (top 23)):=fsc
theorem sc_impossible_row:FnScope ["telling","beneath","ends","chains","name"] ["telling"] (zp (top 24)):=fsc
theorem sc_refuse_undated:FnScope ["telling","row"] ["telling"] (zp (top 25)):=fsc
theorem sc_chains_up:FnScope ["telling","beneath","chains","name","lower","tie","chain"] ["telling"] (zp (top 27)):=fsc
theorem sc_chains_down:FnScope ["telling","beneath","chains","name","lower","tie","chain"] ["telling"] (zp (top 28)):=fsc
theorem zjj:FnScope ["chain","tie"] ["chain","tie"] (zp (top 29)):=fsc
theorem sc_spans:FnScope ["telling","ups","downs"] ["telling"] (zp (top 31)):=fsc
theorem sc_all_beneath:FnScope ["telling","straight","depths","name","lower","tie"] ["telling"] (zp (top 33)):=fsc
theorem sc_drawn:FnScope ["telling","straight","depths","pairs","name","lower","tie"] ["telling"] (zp (top 34)):=fsc
theorem ze8:FnScope ["depths","upper","lower"] ["depths","upper","lower"] (zp (top 35)):=fsc
theorem sc_walk:FnScope ["telling","upper","lower","names","depths","end","pairs","path"] ["telling","upper","lower"] (zp (top 36)):=fsc
theorem sc_step_towards:FnScope ["end","name","pairs","depths","steps"] ["end","name","pairs","depths"] (zp (top 37)):=fsc
theorem sc_levels:FnScope ["telling","beneath","numbers","rows","name","number"] ["telling"] (zp (top 39)):=fsc
theorem ze9:FnScope ["_law_script","_law_k"] ["_law_script","_law_k"] (zp (top 41)):=fsc
theorem sc__law_ties:FnScope ["_law_names","_law_script","_law_ties_here","_law_k","_law_cell"] ["_law_names","_law_script"] (zp (top 42)):=fsc
theorem zjk:FnScope ["_law_tie"] ["_law_tie"] (zp (top 43)):=fsc
theorem sc__law_asked:FnScope ["_law_telling","_law_found","e"] ["_law_telling"] (zp (top 44)):=fsc
theorem sc__law_goes_round:FnScope ["_law_ties_here","_law_ring","_law_many","_law_k"] ["_law_ties_here","_law_ring","_law_many"] (zp (top 45)):=fsc
theorem sc__law_trimmed:FnScope ["_law_ties_here"] ["_law_ties_here"] (zp (top 46)):=fsc
theorem sc__law_due:FnScope ["_law_names","_law_frame","_law_gaps","_law_due_here","_law_k"] ["_law_names","_law_frame","_law_gaps"] (zp (top 47)):=fsc
theorem sc__law_row_of_ones:FnScope ["_law_telling","_law_names","_law_turned"] ["_law_telling","_law_names"] (zp (top 48)):=fsc
theorem sc_law:FnScope ["_law_script","_law_letter","_law_great","_law_many","_law_names","_law_ties_here","_law_gaps","_law_first","_law_more","_law_frame","_law_word","_law_found","_law_telling"] ["_law_script"] (zp (top 49)):=fsc
theorem zdv:FnScope ["self","ties"] ["self","ties"] (zp (zgi (top 2) 0)):=fsc
theorem zcz:FnScope ["self","row"] ["self","row"] (zp (zgi (top 3) 0)):=fsc
section
variable {P:ty4q}{w:World}{K:ty0q}{mg:Str->Option ty3q}{base:Heap}{zr:ty1q}{zv:ty1q}{zi:ty1q}
local macro_rules | `(tactic| walk_at "rd")=>`(tactic| repeat (first | refine⟨_,rfl,?_⟩ | refine⟨_,_,rfl,rfl,?_⟩ | refine⟨_,_,_,rfl,?_⟩))
local macro_rules | `(tactic| walk_at "rd")=>`(tactic| repeat (first | refine⟨_,rfl,?_⟩ | refine⟨_,_,rfl,rfl,?_⟩ | refine⟨_,_,_,rfl,?_⟩))
inductive sp_cell' (vs:List V) (H:Hp) (Q:VK):Prop
 | mk (a:ty1q) (ns:List Int) (i:Int) (_:vs = [.ref a,.int i]) (_:SqL K H a (ns.map V.int)) (_:0<=i) (_:Q (.int (za0 ns i)) H)
def ztn:Sp:=fun vs H Q _=>sp_cell' (K:=K) vs H Q
theorem zal (T:Tx K mg w zr zv zi):Has P w K mg base "_law_cell_at" ["_law_script","_law_k"] 1 (ztn (K:=K)):=by
 refine T.zfu.has ze9 (fun vs H Q E h=>?_) (fun f cdv A outer s H vs Q E hr h=>?_)
 ·obtain⟨a,ns,i,rfl,_⟩:=h;rfl
 ·obtain⟨a,ns,i,rfl,ha,h0,k⟩:=h;refine⟨_,(zg (zbm (zad zmj (pv 1) (zac (zag K rfl) (by rfl) T.len al130q (zc (pv 0) zh)) (zah _)) (zm (zae (pix (zab K rfl) (pv 0) (pv 1)))) zap)
   (zm (zae zj))),?_⟩
  refine⟨_,rfl,_,rfl,a,_,rfl,.inl ha,_,_,rfl,rfl,_,rfl,?_⟩;refine ite2 (fun c=>?_) (fun c=>?_)
  ·have c:=al16q c;rw[al0q] at c;have hi:i.toNat<ns.length:=by lia
   refine⟨_,rfl,_,rfl,a,_,i,.int (za0 ns i),rfl,rfl,ha,?_,k⟩;have e:za0 ns i=ns[i.toNat]:=by unfold za0;rw[al11q,al1q hi];rfl
   have:=za2 (xs:=ns.map V.int) (j:=i.toNat) (v:=.int (za0 ns i)) (by rw[e];simp[hi]);rw[Int.toNat_of_nonneg h0] at this;exact this
  ·have c:¬i<((ns.map V.int).length:Int):=fun z=>c (al10q z)
   rw[al0q] at c;have e:za0 ns i=0:=by unfold za0;rw[al11q,al96q (by lia)];rfl
   rw[e] at k;exact k
inductive sp_join' (vs:List V) (H:Hp) (Q:VK):Prop
 | mk (pd:ty1q) (us:List Str) (lab:Str->Str) (f s:Str) (_:vs = [.ref pd,.str f,.str s]) (_:H pd=some (.dK (dN us lab))) (_:us.Nodup) (_:us.length<=1000) (_:∀H':Hp,H' pd=some (.dK (dN us (jn lab f s)))->(∀b o,b≠pd->H b=some o->H' b=some o)->Q .non H')
def zto:Sp:=fun vs H Q _=>sp_join' vs H Q
theorem zjl (T:Tx K mg w zr zv zi):Has P w K mg base "join_ones" ["names","first","second"] 1 zto:=by
 refine T.zjt.has sc_join_ones (fun vs H Q E h=>?_) (fun f cdv A outer s H vs Q E hr h=>?_)
 ·obtain⟨pd,us,lab,f,s,rfl,_⟩:=h;rfl
 ·obtain⟨pd,us,lab,f,s',rfl,hd,nd,hl,k⟩:=h;have hu:=zbw hr;refine⟨_,(zg (sset (i:=3) sc_join_ones.nd (zac (zk6 rfl) (by rfl) T.min PyProof.Rows.boot_min (zc (pv 1) (zc (pv 2) zh))))
   (zm (zaw al30q rfl (zai K rfl (zbn (zd1 rfl) (by rfl) T.list al104q (zc (pv 0) zh))) (gnm (i:=4) sc_join_ones.nd) (zm (zbm (zad (zk2 K rfl) (zy hu (pv 0) (pv 4) (fun _ _=>rfl)) (zax (zc (pv 1) (zc (pv 2) zh))) (by with_unfolding_all rfl)) (zm (zbg hu (pv 0) (pv 4) (pv 3) rfl)) zap))))),?_⟩
  refine⟨_,rfl,_,rfl,_,_,rfl,?_⟩;refine⟨_,rfl,pd,_,rfl,hd,fun l hl'=>?_⟩;rw[zso];have npl:pd≠l:=zq hd hl';refine⟨l,rfl,⟨_,SqL.of zf⟩,zat (xs:=us.map V.str) (fun i σ H'=>∃v4,σ = [some (.ref pd),some (.str f),some (.str s'),some (.str (minS f s')),v4]/\(∀b o,b≠pd->H b=some o->H' b=some o)/\H' l=some (.lst (us.map V.str))/\
   H' pd=some (.dK (dN us fun x=>if x∈us.take i then jn lab f s' x else lab x)))
   ⟨none,rfl,fun b o _ e=>Same.new hl' _ _ e,zf,?_⟩ (fun i σ H' _ h=>by obtain⟨_,_,_,q,_⟩:=h;exact SqL.of q) ?_ ?_⟩
  ·rw[zo npl,hd,zem (f:=fun x=>if x∈us.take 0 then jn lab f s' x else lab x) (g:=lab) fun x _=>by simp]
  ·rintro i x σ H1 hx ⟨v4,rfl,kp,hl1,hd1⟩;rw[al4q] at hx;cases eu:us[i]? with
   | none=>rw[eu] at hx;cases hx
   | some u=>
    rw[eu] at hx;cases hx;have hu':u∈us:=al6q eu;have hi:=zaj eu;have hfr:u ∉ us.take i:=by
     have:=za3 nd i hi;rw[show us[i]=u from (al3q.mp eu).2] at this;exact this
    have hg:=DGet.k (k:=Sum.inr u) hd1;rw[zc1 hu',al8q hfr] at hg;dsimp only [zw];refine zcw (decide (lab u=f\/lab u=s')) (fun Q' hQ=>?_) (fun H2 t2=>?_)
    ·refine⟨_,rfl,_,rfl,pd,_,rfl,hg,_,rfl,_,rfl,(by show 2<=sizeLine;decide),fun p hp=>?_⟩;refine⟨p,_,rfl,.inr (SqT.of zf),rfl,rfl,_,rfl,?_⟩;have e:inV (.str (lab u)) [.str f,.str s']=decide (lab u=f\/lab u=s'):=by
      rw[show ([.str f,.str s']:List V) = [f,s'].map V.str from rfl,zqd];apply al120q.mpr;simp
     show Q' (inV (.str (lab u)) [.str f,.str s']) _;rw[e];exact hQ _ (Same.new hp)
    ·have hd2:=t2 _ _ hd1;have kp2:∀b o,b≠pd->H b=some o->H2 b=some o:=fun b o n e=>t2 _ _ (kp b o n e)
     refine ite2 (fun c=>?_) (fun c=>?_)
     ·have c:=al16q c;refine⟨_,rfl,_,rfl,_,rfl,pd,_,rfl,DPut.k (k:=Sum.inr u) hd2 (by rw[zrk];exact zz hl),?_⟩;refine⟨_,rfl,fun b o n e=>by rw[zo n];exact kp2 b o n e,?_,?_⟩
      ·rw[zo npl.symm];exact t2 _ _ hl1
      ·rw[zf,zu0 hu']
       congr 2
       refine zem fun z hz=>?_
       have ht:z∈us.take (i+1)↔z∈us.take i\/z=u:=by
        rw[al9q,eu];simp
       by_cases e:z=u
       ·subst e;rw[al12q rfl,al12q (ht.mpr (.inr rfl))];exact (al12q c).symm
       ·rw[al8q e]
        by_cases e2:z∈us.take i
        ·rw[al12q e2,al12q (ht.mpr (.inl e2))]
        ·rw[al8q e2,al8q (fun q=>(ht.mp q).elim e2 e)]
     ·have c:¬(lab u=f\/lab u=s'):=fun z=>c (al10q z)
      refine⟨_,rfl,kp2,t2 _ _ hl1,?_⟩;rw[hd2]
      congr 2
      refine zem fun z hz=>?_
      have ht:z∈us.take (i+1)↔z∈us.take i\/z=u:=by
       rw[al9q,eu];simp
      by_cases e:z=u
      ·subst e;rw[al8q hfr,al12q (ht.mpr (.inr rfl))];exact (al8q c).symm
      ·by_cases e2:z∈us.take i
       ·rw[al12q e2,al12q (ht.mpr (.inl e2))]
       ·rw[al8q e2,al8q (fun q=>(ht.mp q).elim e2 e)]
  ·rintro σ H1 ⟨v4,rfl,kp,hl1,hd1⟩;refine k _ ?_ kp;rw[hd1,al0q,al22q]
   congr 2
   exact zem fun z hz=>al12q hz
inductive sp_lab' (vs:List V) (H:Hp) (Q:VK):Prop
 | mk (pu pt:ty1q) (us:List Str) (ads:List ty1q) (ts:List Tie) (_:vs = [.ref pu,.ref pt]) (_:SqL K H pu (us.map V.str)) (_:SqL K H pt (ads.map V.ref)) (_:Tups H ads (ts.map tieV)) (_:us.Nodup) (_:us.length<=1000) (_:(∀t∈ts,t.a∈us/\t.b∈us)) (_:∀(pd:ty1q) (H':Hp),H pd=none->H' pd=some (.dK (dN us (labs ts)))->Same H H'->Q (.ref pd) H')
def zvy:Sp:=fun vs H Q _=>sp_lab' (K:=K) vs H Q
theorem zcf (T:Tx K mg w zr zv zi):Has P w K mg base "one_names" ["units","ties"] 2 (zvy (K:=K)):=by
 refine T.zjs.has sc_one_names (fun vs H Q E h=>?_) (fun f cdv A outer s H vs Q E hr h=>?_)
 ·obtain⟨pu,pt,us,ads,ts,rfl,_⟩:=h;rfl
 ·obtain⟨pu,pt,us,ads,ts,rfl,hu1,ht1,tp,nd,hl,hts,k⟩:=h;have hu:=zbw hr;refine⟨_,(zg (sset (i:=2) sc_one_names.nd za8)
   (zg (zaw al30q rfl (zai K rfl (pv 0)) (gnm (i:=3) sc_one_names.nd) (zm (zbg hu (pv 2) (pv 3) (pv 3) rfl)))
   (zg (zaw al30q rfl (zai K rfl (pv 1)) (gnm (i:=4) sc_one_names.nd) (zm (zbm (zad zck (pix (zx K rfl) (pv 4) zj) zba (zah _)) (zm (za7 (pfn (zjl T) (zc (pv 2) (zc (zy hu (pv 2) (pix (zx K rfl) (pv 4) zj) (fun _ _=>rfl)) (zc (zy hu (pv 2) (pix (zx K rfl) (pv 4) zj) (fun _ _=>rfl)) zh)))))) zap)))
   (zm (zae (pv 2)))))),?_⟩
  have hlen:ads.length=ts.length:=by have:=tp.len;rw[al0q] at this;exact this
  refine fun pd hpd=>?_
  have s0:=Same.new (o:=.dK []) hpd;refine⟨_,rfl,pu,rfl,⟨_,s0.seq hu1⟩,zat (xs:=us.map V.str) (fun i σ H'=>∃v3,σ = [some (.ref pu),some (.ref pt),some (.ref pd),v3,none]/\Same H H'/\H' pd=some (.dK (dN (us.take i) id)))
   ⟨none,rfl,s0,zf⟩ (fun i σ H' _ h=>by obtain⟨_,_,q,_⟩:=h;exact q.seq hu1) ?_ ?_⟩
  ·rintro i x σ H1 hx ⟨v3,rfl,q,hd⟩;rw[al4q] at hx;cases eu:us[i]? with
   | none=>rw[eu] at hx;cases hx
   | some u=>
    rw[eu] at hx;cases hx;have hi:=zaj eu;have hfr:u ∉ us.take i:=by
     have:=za3 nd i hi;rw[show us[i]=u from (al3q.mp eu).2] at this;exact this
    dsimp only [zw];refine⟨_,rfl,_,rfl,_,rfl,pd,_,rfl,DPut.k (k:=Sum.inr u) hd (by rw[zrk,al28q];exact zz (by lia)),?_⟩;refine⟨_,rfl,q.upd hpd,?_⟩;rw[zf,al9q,eu]
    congr 2
    exact zu1 hfr
  ·rintro σ H1 ⟨v3,rfl,q,hd⟩;rw[al0q,al22q] at hd;refine⟨_,rfl,pt,rfl,⟨_,q.seq ht1⟩,zat (xs:=ads.map V.ref) (fun i σ H'=>∃v4,σ = [some (.ref pu),some (.ref pt),some (.ref pd),v3,v4]/\Same H H'/\H' pd=some (.dK (dN us (labs (ts.take i)))))
    ⟨none,rfl,q,hd⟩ (fun i σ H' _ h=>by obtain⟨_,_,q,_⟩:=h;exact q.seq ht1) ?_ ?_⟩
   ·rintro i x σ H2 hx ⟨v4,rfl,q2,hd2⟩;obtain⟨r,t,rfl,ht,_,hr⟩:=ziw tp hx;have hr2:=q2 _ _ hr;have hab:=hts t (al6q ht);dsimp only [zw];refine⟨_,rfl,r,_,_,_,rfl,rfl,SqT.of hr2,zne t,rfl,_,rfl,?_⟩;refine ite2 (fun c=>?_) (fun c=>?_)
    ·have c:t.k=SAME:=V.str.inj (al16q c);have g1:=DGet.k (k:=Sum.inr t.a) hd2;have g2:=DGet.k (k:=Sum.inr t.b) hd2;rw[zc1 hab.1] at g1;rw[zc1 hab.2] at g2;refine⟨_,rfl,_,rfl,_,rfl,r,_,_,_,rfl,rfl,SqT.of hr2,zri t,pd,_,rfl,g1,_,rfl,_,rfl,r,_,_,_,rfl,rfl,SqT.of hr2,zrj t,pd,_,rfl,g2,?_⟩;refine⟨pd,us,_,_,_,rfl,hd2,nd,hl,fun H3 hd3 kp=>?_⟩;refine⟨_,rfl,fun b o e=>kp b o (zq e hpd) (q2 b o e),?_⟩;rw[hd3,zhy ht];unfold stp;rw[al12q c]
    ·have c:¬t.k=SAME:=fun z=>c (al10q (al61q V.str z))
     refine⟨_,rfl,q2,?_⟩;rw[hd2,zhy ht];unfold stp;rw[al8q c]
   ·rintro σ H2 ⟨v4,rfl,q2,hd2⟩;rw[al0q,hlen,al22q] at hd2;exact⟨_,rfl,k pd _ hpd hd2 q2⟩
abbrev Lsts (H:Hp):List ty1q->List (List Str)->Prop:=Paired fun a g=>H a=some (.lst (g.map V.str))
theorem zoy {H:Hp}{ad:Str->ty1q}{g:Str->List Str}:∀{ks:List Str},(∀k∈ks,H (ad k)=some (.lst ((g k).map V.str)))->Lsts H (ks.map ad) (ks.map g)
 | [],_=>.nil
 | k::r,h=>.cons (h k (by simp)) (zoy fun z hz=>h z (al19q _ hz))
inductive sp_ones' (vs:List V) (H:Hp) (Q:VK):Prop
 | mk (pu pt:ty1q) (us:List Str) (ads:List ty1q) (ts:List Tie) (_:vs = [.ref pu,.ref pt]) (_:SqL K H pu (us.map V.str)) (_:SqL K H pt (ads.map V.ref)) (_:Tups H ads (ts.map tieV)) (_:us.Nodup) (_:us.length<64) (_:(∀t∈ts,t.a∈us/\t.b∈us)) (_:∀(p:ty1q) (as:List ty1q) (H':Hp),H p=none->(∀a∈as,H a=none)->p ∉ as->as.Nodup->H' p=some (.lst (as.map V.ref))->Lsts H' as (zch us ts)->Same H H'->Q (.ref p) H')
def ztp:Sp:=fun vs H Q _=>sp_ones' (K:=K) vs H Q
theorem zrz (T:Tx K mg w zr zv zi):Has P w K mg base "ones" ["units","ties"] 3 (ztp (K:=K)):=by
 refine T.zv5.has sc_ones (fun vs H Q E h=>?_) (fun f cdv A outer s H vs Q E hr h=>?_)
 ·obtain⟨pu,pt,us,ads,ts,rfl,_⟩:=h;rfl
 ·obtain⟨pu,pt,us,ads,ts,rfl,hu1,ht1,tp,nd,hl,hts,k⟩:=h;have hu:=zbw hr;refine⟨_,(zg (sset (i:=2) sc_ones.nd (pfn (zcf T) (zc (pv 0) (zc (pv 1) zh))))
   (zg (sset (i:=3) sc_ones.nd za8)
   (zg (zaw al30q rfl (zai K rfl (zac (zb2 (K:=K) rfl) (by rfl) T.sorted al80q (zc (pv 0) zh))) (gnm (i:=4) sc_ones.nd) (zm (za7 (zcp K rfl PySem.F.plainAttrs_list PySem.F.slot_list_append PySem.F.type_list_append zbc (zk7 (pv 3) (zy hu (pv 2) (pv 4) (fun _ _=>rfl)) (zao zh) ⟨rfl,rfl,rfl,rfl⟩) (zc (pv 4) zh)))))
   (zm (zae (zbn (zhx rfl) (by rfl) T.list al104q (zc (zm7 K rfl PySem.F.plainAttrs_dict PySem.F.slot_dict_values PySem.F.type_dict_values znb (pv 3)) zh))))))),?_⟩
  refine⟨_,rfl,_,rfl,pu,pt,us,ads,ts,rfl,hu1,ht1,tp,nd,by lia,hts,fun pn H1 fpn hn s1=>?_⟩
  try dsimp only [zw]
  refine fun pd hpd=>?_
  have s2:=Same.new (o:=.dK []) hpd;refine⟨_,rfl,pu,us,rfl,(s1.trans s2).seq hu1,hl,fun l ms hl' pm rs=>?_⟩;have em:=zka pm rs;subst em;have s3:=Same.new (o:=.lst ((srt us).map V.str)) hl';have fpd:H pd=none:=s1.free hpd;have fl:H l=none:=(s1.trans s2).free hl';have n1:pd≠l:=zq zf hl';have n2:pn≠pd:=zq hn hpd;have n3:pn≠l:=zq (s2 _ _ hn) hl';refine⟨l,rfl,⟨_,SqL.of zf⟩,zat (xs:=(srt us).map V.str) (fun i σ H'=>∃v4 ad,σ = [some (.ref pu),some (.ref pt),some (.ref pn),some (.ref pd),v4]/\Same H H'/\H' l=some (.lst ((srt us).map V.str))/\H' pn=some (.dK (dN us (labs ts)))/\
   H' pd=some (.dK (dV (zn ts ((srt us).take i)) fun k=>.ref (ad k)))/\(∀k∈zn ts ((srt us).take i),H' (ad k)=some (.lst ((zcm ts ((srt us).take i) k).map V.str))/\H (ad k)=none/\ad k≠pd/\ad k≠l/\ad k≠pn)/\
   (∀k∈zn ts ((srt us).take i),∀k'∈zn ts ((srt us).take i),ad k=ad k'->k=k'))
   ⟨none,fun _=>0,rfl,s1.trans (s2.trans s3),zf,s3 _ _ (s2 _ _ hn),s3 _ _ zf,(fun k hk=>by simp[zn] at hk),fun k hk=>by simp[zn] at hk⟩ (fun i σ H' _ h=>by obtain⟨_,_,_,_,q,_⟩:=h;exact SqL.of q) ?_ ?_⟩
  ·rintro i v σ H2 hx ⟨v4,ad,rfl,q,hl2,hn2,hd2,hk2,hin⟩;rw[al4q] at hx;cases eu:(srt us)[i]? with
   | none=>rw[eu] at hx;cases hx
   | some u=>
    rw[eu] at hx;cases hx;have hu':u∈us:=srt_mem.mp (al6q eu);have hi:=zaj eu;have hkl:(zn ts ((srt us).take i)).length<=63:=by
     have h1:(zn ts ((srt us).take i)).length<=((srt us).take i).length:=al59q _ _;have h2:((srt us).take i).length<=(srt us).length:=by rw[al28q];lia
     rw[ziz] at h2;lia
    have hgl:∀k,(zcm ts ((srt us).take i) k).length<=63:=fun k=>by
     have h1:(zcm ts ((srt us).take i) k).length<=((srt us).take i).length:=al59q _ _;have h2:((srt us).take i).length<=(srt us).length:=by rw[al28q];lia
     rw[ziz] at h2;lia
    have g:=DGet.k (k:=Sum.inr u) hn2;rw[zc1 hu'] at g;obtain⟨knew,gnew⟩:=zsr (ts:=ts) nd eu
    try dsimp only [zw]
    refine⟨_,rfl,pd,rfl,.inl ⟨_,.inl hd2⟩,_,rfl,_,rfl,pn,_,rfl,g,by decide,fun q0 hq0=>?_⟩;have t0:=Same.new (o:=.lst []) hq0;have hd3:=t0 _ _ hd2;have nq:pd≠q0:=zq hd2 hq0;refine⟨_,Sum.inr (labs ts u),hd3,rfl,by rw[zas];exact zz (by lia),fun v hv=>?_,fun hv=>?_⟩
    ·have hmem:labs ts u∈zn ts ((srt us).take i):=al34q fun z=>by rw[zc8 z] at hv;cases hv
     rw[zbk hmem] at hv;cases hv;obtain⟨h1,h2,h3,h4,h5⟩:=hk2 _ hmem;have hne:¬labs ts u=u:=fun e=>by rw[e] at hmem;exact knew hmem
     have h1':=t0 _ _ h1;refine⟨.inl ⟨rfl,_,SqL.of h1'⟩,_,rfl,ad (labs ts u),_,_,rfl,rfl,h1',by rw[al0q];exact zz (by have:=hgl (labs ts u);lia),?_⟩;have ks:zn ts ((srt us).take (i+1))=zn ts ((srt us).take i):=by rw[zhz eu,al8q hne,al62q]
     refine⟨_,ad,rfl,(q.trans t0).upd h2,?_,?_,?_,?_,?_⟩
     ·rw[zo (al26q h4)];exact t0 _ _ hl2
     ·rw[zo (al26q h5)];exact t0 _ _ hn2
     ·rw[zo (al26q h3),ks];exact hd3
     ·rw[ks];intro k hk;obtain⟨b1,b2,b3,b4,b5⟩:=hk2 k hk;refine⟨?_,b2,b3,b4,b5⟩;rw[zgo eu]
      by_cases e:labs ts u=k
      ·subst e;rw[al12q rfl,zf,al15q];rfl
      ·rw[al8q e,al62q,zo (fun z=>e (hin _ hmem _ hk z.symm))];exact t0 _ _ b1
     ·rw[ks];exact hin
    ·have hmem:labs ts u ∉ zn ts ((srt us).take i):=fun z=>by rw[zbk z] at hv;cases hv
     have he:labs ts u=u:=al34q fun z=>hmem (zsq nd hts eu z)
     rw[he];rw[he] at hmem;have e3:upd (upd H2 q0 (.lst [])) pd (.dK (putK (dV (zn ts ((srt us).take i)) fun k=>.ref (ad k)) (Sum.inr u) (.ref q0))) q0=some (.lst []):=by rw[zo (al26q nq),zf]
     refine⟨.inl ⟨rfl,_,SqL.of e3⟩,_,rfl,q0,_,_,rfl,rfl,e3,by decide,?_⟩;have ks:zn ts ((srt us).take (i+1))=zn ts ((srt us).take i)++[u]:=by rw[zhz eu,al12q he]
     have nl:l≠q0:=zq hl2 hq0;have nn:pn≠q0:=zq hn2 hq0;have fq0:H q0=none:=q.free hq0;refine⟨_,fun z=>if z=u then q0 else ad z,rfl,((q.trans t0).upd fpd).upd fq0,?_,?_,?_,?_,?_⟩
     ·rw[zo nl,zo (al26q n1)];exact t0 _ _ hl2
     ·rw[zo nn,zo n2];exact t0 _ _ hn2
     ·rw[zo nq,zf,zc2 hmem,ks]
      congr 2
      refine zbe fun z hz=>?_
      dsimp only
      by_cases e:z=u
      ·rw[al12q e,al12q e]
      ·rw[al8q e,al8q e]
     ·rw[ks];intro k hk;dsimp only
      by_cases e:k=u
      ·subst e;rw[al12q rfl];refine⟨?_,fq0,al26q nq,al26q nl,al26q nn⟩;rw[zf,zgo eu,al12q he,gnew he];rfl
      ·rw[al8q e];have hk':k∈zn ts ((srt us).take i):=by
        rcases al25q.mp hk with h | h
        ·exact h
        ·exact absurd (by simpa using h) e
       obtain⟨b1,b2,b3,b4,b5⟩:=hk2 k hk';refine⟨?_,b2,b3,b4,b5⟩;have nk:ad k≠q0:=zq b1 hq0;rw[zo nk,zo b3,zgo eu,al8q (fun z=>e (z.symm.trans he)),al62q];exact t0 _ _ b1
     ·rw[ks];intro k hk k' hk' z;dsimp only at z;have inold:∀z,z∈zn ts ((srt us).take i)++[u]->z≠u->z∈zn ts ((srt us).take i):=fun z hz e=>by
       rcases al25q.mp hz with h | h
       ·exact h
       ·exact absurd (by simpa using h) e
      by_cases e:k=u
      ·by_cases e':k'=u
       ·rw[e,e']
       ·rw[al12q e,al8q e'] at z;have:=(hk2 k' (inold _ hk' e')).1;exact absurd z.symm (zq this hq0)
      ·by_cases e':k'=u
       ·rw[al8q e,al12q e'] at z;have:=(hk2 k (inold _ hk e)).1;exact absurd z (zq this hq0)
       ·rw[al8q e,al8q e'] at z;exact hin k (inold _ hk e) k' (inold _ hk' e') z
  ·rintro σ H2 ⟨v4,ad,rfl,q,hl2,hn2,hd2,hk2,hin⟩;rw[al0q,al22q] at hd2 hk2 hin;refine⟨_,rfl,.inr (.inr (.inl ⟨rfl,.inl ⟨_,hd2⟩⟩)),pd,_,rfl,rfl,hd2,fun pv hpv=>?_⟩;have s3:=Same.new (o:=vwO pv pd) hpv;refine⟨pv,pd,_,rfl,zf,s3 _ _ hd2,fun pf hpf=>?_⟩;rw[zsp];have em:(zn ts (srt us)).map (fun k=>V.ref (ad k))=((zn ts (srt us)).map ad).map V.ref:=by rw[al73q];rfl
   rw[em];have s4:=Same.new (o:=.lst (((zn ts (srt us)).map ad).map V.ref)) hpf;have q4:=s3.trans s4;have knd:(zn ts (srt us)).Nodup:=(zez nd).sublist (al114q ..);refine k pf ((zn ts (srt us)).map ad) _ (q.free (s3.free hpf)) (fun a ha=>?_) (fun z=>?_) ?_ zf (zoy fun x hx=>q4 _ _ (hk2 x hx).1) (q.trans q4)
   ·obtain⟨x,hx,rfl⟩:=al32q.mp ha;exact (hk2 x hx).2.1
   ·obtain⟨x,hx,e⟩:=al32q.mp z;have:=s3 _ _ (hk2 x hx).1;rw[e,hpf] at this;cases this
   ·clear hk2 hd2 s4 q4 em;generalize zn ts (srt us)=ks at hin knd
    induction ks with
    | nil=>exact List.nodup_nil
    | cons x r ih=>
     rw[al75q] at knd;rw[al79q,al75q];refine⟨fun z=>?_,ih (fun a ha b hb=>hin a (al19q _ ha) b (al19q _ hb)) knd.2⟩;obtain⟨y,hy,e⟩:=al32q.mp z;have:=hin y (al19q _ hy) x (by simp) e;subst this;exact knd.1 hy
inductive sp_below' (vs:List V) (H:Hp) (Q:VK):Prop
 | mk (p pu pt:ty1q) (x y:V) (us:List Str) (ads:List ty1q) (ts:List Tie) (_:vs = [.ref p]) (_:Tel K H p pu pt x y us ads ts) (_:∀(pd:ty1q) (ob:Obj) (ad:Str->ty1q) (bs:Str->List ty1q) (H':Hp),Same H H'->H pd=none->Bn H' pd ob (zn ts (srt us)) (zak ts (ts.zip ads)) ad bs->Q (.ref pd) H')
def zqq:Sp:=fun vs H Q _=>sp_below' (K:=K) vs H Q
theorem zaq (T:Tx K mg w zr zv zi):Has P w K mg base "ties_beneath" ["telling"] 4 (zqq (K:=K)):=by
 refine T.zfq.has sc_ties_beneath (fun vs H Q E h=>?_) (fun f cdv A outer s H vs Q E hr h=>?_)
 ·obtain⟨p,pu,pt,x,y,us,ads,ts,rfl,_⟩:=h;rfl
 ·obtain⟨p,pu,pt,x,y,us,ads,ts,rfl,hT,k⟩:=h;have hu:=zbw hr;refine⟨_,(zg (sset (i:=1) sc_ties_beneath.nd (pfn (zcf T) (zc (pix (zx K rfl) (pv 0) zj) (zc (pix (zx K rfl) (pv 0) zj) zh))))
   (zg (sset (i:=2) sc_ties_beneath.nd za8)
   (zg (zaw al30q rfl (zai K rfl (pfn (zrz T) (zc (pix (zx K rfl) (pv 0) zj) (zc (pix (zx K rfl) (pv 0) zj) zh)))) (gnm (i:=3) sc_ties_beneath.nd) (zm (zbg hu (pv 2) (pix (zab K rfl) (pv 3) zj) (zao zh) rfl)))
   (zg (zaw al30q rfl (zai K rfl (pix (zx K rfl) (pv 0) zj)) (gnm (i:=4) sc_ties_beneath.nd) (zm (zbm (zad zpk (pix (zx K rfl) (pv 4) zj) zba (zah _)) (zm (za7 (zcp K rfl PySem.F.plainAttrs_list PySem.F.slot_list_append PySem.F.type_list_append zbc (zy hu (pv 2) (zy hu (pv 1) (pix (zx K rfl) (pv 4) zj) (fun _ _=>rfl)) (fun _ _=>rfl)) (zc (zax (zc (zy hu (pv 1) (pix (zx K rfl) (pv 4) zj) (fun _ _=>rfl)) (zc (pv 4) zh))) zh)))) zap)))
   (zm (zd3 (zae (pv 2)))))))),?_⟩
  have hts:=hT.ends;obtain⟨hp,hu1,ht1,tp,nd,hl,tl,_⟩:=hT;have hlen:ads.length=ts.length:=by have:=tp.len;rw[al0q] at this;exact this
  refine⟨_,rfl,p,_,_,_,rfl,rfl,hp,rfl,_,rfl,p,_,_,_,rfl,rfl,hp,rfl,pu,pt,us,ads,ts,rfl,hu1,ht1,tp,nd,by lia,hts,fun pn H1 fpn hn s1=>?_⟩
  try dsimp only [zw]
  refine fun pd hpd=>?_
  have s2:=Same.new (o:=.dK []) hpd;have q2:=s1.trans s2;refine⟨_,rfl,p,_,_,_,rfl,rfl,q2.tup hp,rfl,_,rfl,p,_,_,_,rfl,rfl,q2.tup hp,rfl,pu,pt,us,ads,ts,rfl,q2.seq hu1,q2.seq ht1,tp.same q2,nd,hl,hts,fun po as H3 fpo fas npo asnd hpo hls s3=>?_⟩;have hn3:=s3 _ _ (s2 _ _ hn);have hd3:=s3 _ _ (zf (H:=H1) (a:=pd) (o:=.dK []));have q3:=q2.trans s3;have fpd:H pd=none:=s1.free hpd;have npd:pn≠pd:=zq hn hpd;have lk:as.length=(zn ts (srt us)).length:=by have:=Paired.length hls;unfold zch at this;rw[al0q] at this;exact this
  have lk63:(zn ts (srt us)).length<=63:=by
   have:=zgp (us:=us) (ts:=ts) nd;unfold zch at this;rw[al0q] at this;lia
  have hz:∀{i:Nat}{t:Tie}{r:ty1q},ts[i]? = some t->ads[i]? = some r->(ts.zip ads)[i]? = some (t,r):=fun h1 h2=>al45q.mpr ⟨h1,h2⟩
  generalize ek:zn ts (srt us)=keys at lk lk63 k;have knd:keys.Nodup:=ek▸zav nd;have hgs:zch us ts=keys.map (zcm ts (srt us)):=by unfold zch;rw[ek]
  refine⟨po,rfl,⟨_,SqL.of hpo⟩,zat (xs:=as.map V.ref) (fun i σ H'=>∃(v3:Option V) (ad:Str->ty1q),σ = [some (.ref p),some (.ref pn),some (.ref pd),v3,none]/\(∀b o,b≠pd->H3 b=some o->H' b=some o)/\
   H' pd=some (.dK (dV (keys.take i) fun k=>.ref (ad k)))/\(∀k∈keys.take i,H' (ad k)=some (.lst [])/\H3 (ad k)=none)/\(∀k∈keys.take i,∀k'∈keys.take i,ad k=ad k'->k=k'))
   ⟨none,fun _=>0,rfl,fun b o _ e=>e,hd3,(fun k hk=>by simp at hk),fun k hk=>by simp at hk⟩ (fun i σ H' _ h=>by obtain⟨_,_,_,q,_⟩:=h;exact SqL.of (q _ _ (zcx hpo hd3 (by simp)) hpo)) ?_ ?_⟩
  ·rintro i v σ H4 hx ⟨v3,ad,rfl,kp,hd4,hk4,inj⟩;obtain⟨r,g,rfl,hg,har,hr⟩:=zbj hls hx;rw[hgs,al4q] at hg;cases eu:keys[i]? with
   | none=>rw[eu] at hg;cases hg
   | some u=>
    rw[eu] at hg;cases hg;have hu':u∈keys:=al6q eu;have hi:=zaj eu;have hfr:u ∉ keys.take i:=by
     have:=za3 knd i hi;rw[show keys[i]=u from (al3q.mp eu).2] at this;exact this
    obtain⟨gr,egr⟩:=zkd (us:=us) (ts:=ts) nd (k:=u) (ek▸hu');rw[egr] at hr;have hr4:=kp _ _ (zcx hr hd3 (by simp)) hr
    try dsimp only [zw]
    refine⟨by decide,fun q0 hq0=>?_⟩;have t0:=Same.new (o:=.lst []) hq0;have hd5:=t0 _ _ hd4;have nq:pd≠q0:=zq hd4 hq0;refine⟨_,rfl,_,rfl,r,_,_,_,rfl,rfl,SqL.of (t0 _ _ hr4),ziv,pd,_,rfl,DPut.k (k:=Sum.inr u) hd5 (by rw[zas,al28q];exact zz (by lia)),?_⟩;have fq:H3 q0=none:=by
     cases e:H3 q0 with
     | none=>rfl
     | some o=>rw[kp _ _ (al26q nq) e] at hq0;cases hq0
    refine⟨_,fun z=>if z=u then q0 else ad z,rfl,fun b o n e=>by rw[zo n];exact t0 _ _ (kp b o n e),?_,?_,?_⟩
    ·rw[zf,zc2 hfr,al9q,eu]
     congr 2
     refine zbe fun z hz=>?_
     dsimp only
     by_cases e:z=u
     ·rw[al12q e,al12q e]
     ·rw[al8q e,al8q e]
    ·intro k hk;rw[al9q,eu,al25q] at hk;dsimp only
     by_cases e:k=u
     ·rw[al12q e];exact⟨by rw[zo (al26q nq),zf],fq⟩
     ·rw[al8q e];have hk':k∈keys.take i:=hk.elim id fun z=>absurd (by simpa using z) e
      obtain⟨h1,h2⟩:=hk4 k hk';refine⟨?_,h2⟩;rw[zo (fun z=>by rw[z,hd4] at h1;cases h1)];exact t0 _ _ h1
    ·intro k hk k' hk' e;rw[al9q,eu,al25q] at hk hk';dsimp only at e
     by_cases c1:k=u<;>by_cases c2:k'=u
     ·rw[c1,c2]
     ·rw[al12q c1,al8q c2] at e;have h2:=(hk4 k' (hk'.elim id fun z=>absurd (by simpa using z) c2)).1;rw[←e,hq0] at h2;cases h2
     ·rw[al8q c1,al12q c2] at e;have h2:=(hk4 k (hk.elim id fun z=>absurd (by simpa using z) c1)).1;rw[e,hq0] at h2;cases h2
     ·rw[al8q c1,al8q c2] at e;exact inj k (hk.elim id fun z=>absurd (by simpa using z) c1) k' (hk'.elim id fun z=>absurd (by simpa using z) c2) e
  ·rintro σ H4 ⟨v3,ad,rfl,kp,hd4,hk4,inj⟩;rw[al0q,lk,al22q] at hd4 hk4 inj;have sq4:∀{H':Hp},(∀b o,b≠pd->H3 b=some o->H' b=some o)->Same H H':=fun kp' b o e=>kp' b o (zq e fpd) (q3 _ _ e)
   have q4:=sq4 kp;refine⟨_,rfl,p,_,_,_,rfl,rfl,q4.tup hp,rfl,pt,rfl,⟨_,q4.seq ht1⟩,zat (xs:=ads.map V.ref) (fun i σ H'=>∃(v4:Option V) (bs:Str->List ty1q),σ = [some (.ref p),some (.ref pn),some (.ref pd),v3,v4]/\(∀b o,b≠pd->H3 b=some o->H' b=some o)/\
    H' pd=some (.dK (dV keys fun k=>.ref (ad k)))/\∀k∈keys,H' (ad k)=some (.lst ((bs k).map V.ref))/\Paired (fun b (p:Str×ty1q)=>H' b=some (.tup [.str p.1,.ref p.2])) (bs k) (zak ts ((ts.zip ads).take i) k))
    ⟨none,fun _=>[],rfl,kp,hd4,fun k hk=>⟨(hk4 k hk).1,.nil⟩⟩ (fun i σ H' _ h=>by obtain⟨_,_,_,q,_⟩:=h;exact (sq4 q).seq ht1) ?_ ?_⟩
   ·rintro i x σ H5 hx ⟨v4,bs,rfl,kp5,hd5,hb5⟩;obtain⟨r,t,rfl,ht,har,hr⟩:=ziw tp hx;have q5:=sq4 kp5;have hr5:=q5 _ _ hr;have hab:=hts t (al6q ht);have hit:=zaj ht;have hzi:=hz ht har
    try dsimp only [zw]
    refine⟨_,rfl,r,_,_,_,rfl,rfl,SqT.of hr5,zne t,rfl,_,rfl,?_⟩;refine ite2 (fun c=>?_) (fun c=>?_)
    ·have c:t.k≠SAME:=by
      intro z;simp[z,SAME] at c
     have g1:=DGet.k (k:=Sum.inr t.a) (kp5 _ _ npd hn3);have g2:=DGet.k (k:=Sum.inr t.b) (kp5 _ _ npd hn3);rw[zc1 hab.1] at g1;rw[zc1 hab.2] at g2;have hka:labs ts t.a∈keys:=ek▸zcb hts hab.1;have g3:=DGet.k (k:=Sum.inr (labs ts t.a)) hd5;rw[zbk hka] at g3;obtain⟨hb1,hb2⟩:=hb5 _ hka;refine⟨_,rfl,_,rfl,_,rfl,r,_,_,_,rfl,rfl,SqT.of hr5,zri t,pn,_,rfl,g1,pd,_,rfl,g3,?_⟩;refine⟨.inl ⟨rfl,_,SqL.of hb1⟩,_,rfl,_,rfl,r,_,_,_,rfl,rfl,SqT.of hr5,zrj t,pn,_,rfl,g2,_,rfl,(by show 2<=sizeLine;decide),fun b0 hb0=>?_⟩;have t0:=Same.new (o:=.tup [.str (labs ts t.b),.ref r]) hb0;have hb1':=t0 _ _ hb1;have lb:(bs (labs ts t.a)).length<=900:=by
      have h1:=Paired.length hb2;have h2:=zgq (ts:=ts) (z:=(ts.zip ads).take i) (k:=labs ts t.a);rw[al28q,al78q] at h2;lia
     refine⟨ad (labs ts t.a),_,_,rfl,rfl,hb1',by rw[al0q];exact zz (by lia),?_⟩;have st:∀b vs,H5 b=some (.tup vs)->upd (upd H5 b0 (.tup [.str (labs ts t.b),.ref r])) (ad (labs ts t.a)) (.lst ((bs (labs ts t.a)).map V.ref++[.ref b0])) b=some (.tup vs):=fun b vs e=>za1 hb1' _ _ (t0 _ _ e)
     refine⟨_,fun z=>if z=labs ts t.a then bs z++[b0] else bs z,rfl,fun b o n e=>?_,?_,fun k hk=>?_⟩
     ·rw[zo (fun z=>by rw[z,(hk4 _ hka).2] at e;cases e)];exact t0 _ _ (kp5 b o n e)
     ·rw[zo (fun z=>by rw[←z,hd5] at hb1;cases hb1)];exact t0 _ _ hd5
     ·obtain⟨b1,b2⟩:=hb5 k hk;have b2':=Paired.mapP b2 fun b p e=>st b _ e
      rw[zke hzi];dsimp only
      by_cases e:k=labs ts t.a
      ·subst e;rw[al12q rfl,al12q ⟨c,rfl⟩];refine⟨by rw[zf,al15q];rfl,Paired.snoc b2' ?_⟩;exact za1 hb1' _ _ zf
      ·rw[al8q e,al8q (fun z=>e z.2.symm),al62q];refine⟨?_,b2'⟩;rw[zo (fun z=>e (inj _ hk _ hka z))];exact t0 _ _ b1
    ·have c:t.k=SAME:=by
      simpa[SAME] using c
     refine⟨_,bs,rfl,kp5,hd5,fun k hk=>?_⟩;rw[zke hzi,al8q (fun z=>z.1 c),al62q];exact hb5 k hk
   ·rintro σ H5 ⟨v4,bs,rfl,kp5,hd5,hb5⟩;rw[al0q] at hb5;have ez:(ts.zip ads).take ads.length=ts.zip ads:=al52q (by rw[al78q];lia);rw[ez] at hb5;refine .inr ⟨pd,_,hd5,fun ob=>⟨_,rfl,k pd ob ad bs _ ?_ fpd ⟨zf,fun k hk=>?_,fun k hk=>?_⟩⟩⟩
    ·exact (sq4 kp5).upd fpd
    ·obtain⟨b1,b2⟩:=hb5 k hk;rw[zo (fun z=>by rw[z,hd5] at b1;cases b1)];exact b1
    ·obtain⟨b1,b2⟩:=hb5 k hk;refine Paired.mapP b2 fun b p e=>?_
     rw[zo (fun z=>by rw[z,hd5] at e;cases e)];exact e
inductive sp_through' (vs:List V) (H:Hp) (Q:VK):Prop
 | mk (s:Str) (pd:ty1q) (ob:Obj) (keys:List Str) (ln:Ln) (ad:Str->ty1q) (bs:Str->List ty1q) (_:vs = [.str s,.ref pd]) (_:Bn H pd ob keys ln ad bs) (_:s∈keys) (_:(∀k∈keys,∀l r,(l,r)∈ln k->l∈keys)) (_:keys.length<=63) (_:∀(p:ty1q) (rs:List ty1q) (H':Hp),Same H H'->H p=none->H' p=some (.lst (rs.map V.ref))->rs.length<=64->Shr ln s rs->Q (.ref p) H')
def zlu:Sp:=fun vs H Q _=>sp_through' vs H Q
theorem zfa (T:Tx K mg w zr zv zi):Has P w K mg base "round_through" ["start","beneath"] 1 zlu:=by
 refine T.zfh.has sc_round_through (fun vs H Q E h=>?_) (fun f cdv A outer s H vs Q E hr h=>?_)
 ·obtain⟨s',pd,ob,keys,ln,ad,bs,rfl,_⟩:=h;rfl
 ·obtain⟨s',pd,ob,keys,ln,ad,bs,rfl,hB,hs,hc,hk,k⟩:=h;have hu:=zbw hr;refine⟨_,(zg (sset (i:=2) sc_round_through.nd za8)
   (zg (sset (i:=3) sc_round_through.nd (zao (zc (zax (zc (pv 0) (zc (zao zh) zh))) zh)))
   (zg (zcu al30q (zad (zc7 K rfl (hu10 hr)) (pv 3) (zao zh) (zah _)) (zg (sset (i:=4) sc_round_through.nd (zao zh))
    (zg (zaw al30q rfl (zai K rfl (pv 3)) (zby K rfl rfl (zam (gnm (i:=5) sc_round_through.nd) (zam (gnm (i:=6) sc_round_through.nd) zbt))) (zm (zaw al30q rfl (zai K rfl (zy hu (pv 1) (pv 5) (fun _ _=>rfl))) (zby K rfl rfl (zam (gnm (i:=7) sc_round_through.nd) (zam (gnm (i:=8) sc_round_through.nd) zbt))) (zg (zbm (zad zck (pv 7) (pv 0) (zah _)) (zm (zae (zan zfy (pv 6) (zao (zc (pv 8) zh))))) zap)
      (zm (zbm (zeq (zdd hu (pv 7) (pv 2))) (zg (zbg hu (pv 2) (pv 7) zfi rfl)
       (zm (za7 (zcp K rfl PySem.F.plainAttrs_list PySem.F.slot_list_append PySem.F.type_list_append zbc (pv 4) (zc (zax (zc (pv 7) (zc (zan zfy (pv 6) (zao (zc (pv 8) zh))) zh))) zh))))) zap))))))
    (zm (sset (i:=3) sc_round_through.nd (pv 4))))))
   (zm (zae (zao zh)))))),?_⟩
  refine fun pm hpm=>?_
  have s0:=Same.new (o:=.dK []) hpm
  try dsimp only [zw]
  refine⟨_,rfl,by decide,fun l0 hl0=>?_⟩;have s1:=Same.new (o:=.lst []) hl0;refine⟨(by show 2<=sizeLine;decide),fun b0 hb0=>?_⟩;have s2:=Same.new (o:=.tup [.str s',.ref l0]) hb0;refine⟨(by show 1<=sizeLine;decide),fun pw hpw=>?_⟩;have s3:=Same.new (o:=.lst [.ref b0]) hpw;have q3:=s0.trans (s1.trans (s2.trans s3));have hm3:=s3 _ _ (s2 _ _ (s1 _ _ (zf (H:=H) (a:=pm) (o:=.dK []))));have hl3:=s3 _ _ (s2 _ _ (zf (H:=upd H pm (.dK [])) (a:=l0) (o:=.lst [])));have hb3:=s3 _ _ (zf (H:=upd (upd H pm (.dK [])) l0 (.lst [])) (a:=b0) (o:=.tup [.str s',.ref l0]));have hw3:=zf (H:=upd (upd (upd H pm (.dK [])) l0 (.lst [])) b0 (.tup [.str s',.ref l0])) (a:=pw) (o:=.lst [.ref b0]);generalize upd (upd (upd (upd H pm (.dK [])) l0 (.lst [])) b0 (.tup [.str s',.ref l0])) pw (.lst [.ref b0])=H3 at q3 hm3 hl3 hb3 hw3;refine⟨fun m σ H'=>∃(v4 v5 v6 v7 v8:Option V) (pw:ty1q) (wl:List ty1q) (es:List (Str×List ty1q)) (d:Nat) (M:List Str),σ = [some (.str s'),some (.ref pd),some (.ref pm),some (.ref pw),v4,v5,v6,v7,v8]/\Same H H'/\H' pm=some (.dK (dV M tru))/\
   H' pw=some (.lst (wl.map V.ref))/\Paired (zu3 H') wl es/\(∀e∈es,Wk ln s' e.2 e.1/\e.2.length=d/\e.1∈keys)/\M.Nodup/\(∀v∈M,v∈keys)/\Bf ln s' d M (es.map Prod.fst)/\(es≠[]->d<=M.length)/\
   m=2 * (keys.length-M.length)+(if es = [] then 0 else 1),⟨_,none,none,none,none,none,pw,[b0],[(s',[])],0,[],rfl,q3,hm3,hw3,.cons ⟨l0,hb3,hl3⟩ .nil,?_,by simp,by simp,Bf.zero,fun _=>al13q _,rfl⟩,?_⟩
  ·intro e he;have:e=(s',[]):=by simpa using he
   subst this;exact⟨.nil,rfl,hs⟩
  rintro m σ H4 ⟨v4,v5,v6,v7,v8,pw,wl,es,d,M,rfl,q4,hm4,hw4,pr4,ok4,nd4,sub4,bf,dle,rfl⟩;have lM:M.length<=63:=by have:=za9 nd4 sub4;lia
  refine⟨_,rfl,by decide,fun le hle=>?_⟩;have t5:=Same.new (o:=.lst []) hle;refine⟨pw,le,_,rfl,rfl,DEq.nilL (SqL.of (t5 _ _ hw4)) (SqL.of zf),_,rfl,?_⟩;have lw:wl.length=es.length:=Paired.length pr4;have q5:=q4.trans t5;have hm5:=t5 _ _ hm4;have hw5:=t5 _ _ hw4;have pr5:Paired (zu3 (upd H4 le (.lst []))) wl es:=Paired.mapP pr4 fun _ _ ⟨q,h1,h2⟩=>⟨q,t5 _ _ h1,t5 _ _ h2⟩
  have t5':=t5;generalize upd H4 le (.lst [])=H5 at q5 hm5 hw5 pr5 t5';refine ite2 (fun c=>?_) (fun c=>?_)
  ·have hes:es≠[]:=fun z=>by
    subst z;have:wl = []:=al135q.mp (by simpa using lw);subst this;simp at c
   have dM:=dle hes;refine⟨fun σ' H'=>∃m',m'<2 * (keys.length-M.length)+(if es = [] then 0 else 1)/\_,fun σ' H' h=>h,?_⟩
   try dsimp only [zw]
   refine⟨by decide,fun pl hpl=>?_⟩;have t6:=Same.new (o:=.lst []) hpl;have npl:pl≠pm:=al26q (zq hm5 hpl);have npw:pw≠pm:=zcx hw5 hm5 (by simp);have Bk:∀{H':Hp},(∀b o,b≠pm->H5 b=some o->H' b=some o)->Same H H':=fun kp b o e=>kp b o (zq e hpm) (q5 _ _ e)
   refine⟨_,rfl,pw,rfl,⟨_,SqL.of (t6 _ _ hw5)⟩,zat (xs:=wl.map V.ref) (fun i σ H'=>∃(v5 v6 v7 v8:Option V) (ml:List ty1q) (fs:List (Str×List ty1q)),σ = [some (.str s'),some (.ref pd),some (.ref pm),some (.ref pw),some (.ref pl),v5,v6,v7,v8]/\
    Grow H5 H' pm pl ln s' keys M d ml fs/\∀u∈(es.take i).map Prod.fst,∀v r,(v,r)∈ln u->v≠s'/\v∈M++fs.map Prod.fst)
    ⟨v5,v6,v7,v8,[],[],rfl,⟨fun b o _ e=>t6 _ _ e,?_,zf,.nil,(fun e he=>(al64q he).elim),by simpa using nd4⟩,fun u hu=>by simp at hu⟩ (fun i σ H' _ h=>by obtain⟨_,_,_,_,_,_,_,g,_⟩:=h;exact SqL.of (g.kp _ _ npw hw5)) ?_ ?_⟩
   ·rw[al175q,al62q];exact t6 _ _ hm5
   ·rintro i x σ H6 hx ⟨u5,u6,u7,u8,ml,fs,rfl,g,cond⟩;obtain⟨b,e,rfl,he,hbw,q,hb,hq⟩:=zbj pr5 hx;have hie:=zaj he;have hem:e∈es:=al6q he;obtain⟨wk,elen,ek⟩:=ok4 e hem;have nb:b≠pm:=zcx hb hm5 (by simp);have nq:q≠pm:=zcx hq hm5 (by simp);refine⟨b,_,rfl,SqT.of (g.kp _ _ nb hb),rfl,_,_,rfl,_,_,rfl,rfl,?_⟩;have B6:=hB.same (Bk g.kp);refine⟨_,rfl,_,rfl,pd,_,rfl,B6.get ek,ad e.1,rfl,⟨_,SqL.of (B6.l _ ek)⟩,zat (xs:=(bs e.1).map V.ref) (fun j σ H'=>∃(v7 v8:Option V) (ml:List ty1q) (fs:List (Str×List ty1q)),σ = [some (.str s'),some (.ref pd),some (.ref pm),some (.ref pw),some (.ref pl),some (.str e.1),some (.ref q),v7,v8]/\
     Grow H5 H' pm pl ln s' keys M d ml fs/\(∀u∈(es.take i).map Prod.fst,∀v r,(v,r)∈ln u->v≠s'/\v∈M++fs.map Prod.fst)/\∀p∈(ln e.1).take j,p.1≠s'/\p.1∈M++fs.map Prod.fst)
     ⟨u7,u8,ml,fs,rfl,g,cond,by simp⟩ (fun j σ H' _ h=>by obtain⟨_,_,_,_,_,g,_⟩:=h;exact SqL.of ((hB.same (Bk g.kp)).l _ ek)) ?_ ?_⟩
    ·rintro j x σ H7 hx ⟨u7,u8,ml,fs,rfl,g,cond,cond2⟩;have B7:=hB.same (Bk g.kp);obtain⟨b',⟨l,r⟩,rfl,hlr,hb',hbt⟩:=zbj (B7.e _ ek) hx;have hlm:(l,r)∈ln e.1:=al6q hlr;have hlk:l∈keys:=hc _ ek l r hlm;refine⟨b',_,rfl,SqT.of hbt,rfl,_,_,rfl,_,_,rfl,rfl,?_⟩;have hq7:=g.kp _ _ nq hq;have lfs:(M++fs.map Prod.fst).length<=63:=by
      have:=za9 g.nd (us:=keys) fun v hv=>(al25q.mp hv).elim (sub4 v) fun z=>by
       obtain⟨e',h1,rfl⟩:=al32q.mp z;exact (g.ok e' h1).2.2
      lia
     try dsimp only [zw]
     refine⟨_,rfl,_,rfl,rfl,_,rfl,?_⟩;refine ite2 (fun c1=>?_) (fun c1=>?_)
     ·have c1:l=s':=V.str.inj (al16q c1);refine⟨_,rfl,_,rfl,(by show 1<=sizeLine;decide),fun p1 hp1=>?_⟩;have w1:=Same.new (o:=.lst [.ref r]) hp1;refine⟨q,p1,_,_,rfl,rfl,w1 _ _ hq7,zf,by rw[al0q];exact zar (by show e.2.length+1<=1000;lia),fun p2 hp2=>?_⟩;have w2:=Same.new (o:=.lst (e.2.map V.ref++[.ref r])) hp2;have q7:Same H _:=(Bk g.kp).trans (w1.trans w2);refine k p2 (e.2++[r]) _ q7 (((Bk g.kp).trans w1).free hp2) (by rw[zf,al15q];rfl) (by rw[al18q];show e.2.length+1<=64;lia) (.inr ⟨by simp,c1▸wk.snoc hlm,fun j h1 h2=>bf.no j h1 ?_⟩);rw[al18q] at h2;have h2:j<e.2.length+1:=h2;lia
     ·have c1:¬l=s':=fun z=>c1 (al10q (al61q V.str z))
      have g1:=DGet.k (k:=Sum.inr l) g.m;refine⟨_,rfl,_,rfl,pm,_,rfl,g1,_,rfl,?_⟩;refine ite2 (fun c2=>?_) (fun c2=>?_)
      ·have hv:l ∉ M++fs.map Prod.fst:=fun z=>by
        rw[zbk z] at c2;cases c2
       refine⟨_,rfl,_,rfl,pm,_,rfl,DPut.k (k:=Sum.inr l) g.m (by rw[zas];exact zz (by lia)),?_⟩;rw[zni hv];have hl8:upd H7 pm (.dK (dV (M++fs.map Prod.fst++[l]) tru)) pl=some (.lst (ml.map V.ref)):=by rw[zo npl];exact g.l
       have hq8:upd H7 pm (.dK (dV (M++fs.map Prod.fst++[l]) tru)) q=some (.lst (e.2.map V.ref)):=by rw[zo nq];exact hq7
       try dsimp only [zw]
       refine⟨_,rfl,.inl ⟨rfl,_,SqL.of hl8⟩,_,rfl,_,rfl,_,rfl,(by show 1<=sizeLine;decide),fun p1 hp1=>?_⟩;have w1:=Same.new (o:=.lst [.ref r]) hp1;refine⟨q,p1,_,_,rfl,rfl,w1 _ _ hq8,zf,by rw[al0q];exact zar (by show e.2.length+1<=1000;lia),fun p2 hp2=>?_⟩;have w2:=Same.new (o:=.lst (e.2.map V.ref++[.ref r])) hp2;refine⟨(by show 2<=sizeLine;decide),fun b9 hb9=>?_⟩;have w3:=Same.new (o:=.tup [.str l,.ref p2]) hb9;have w:=w1.trans (w2.trans w3);have ml63:ml.length<=63:=by
        have h1:ml.length=fs.length:=Paired.length g.w;rw[al18q,al0q] at lfs;lia
       refine⟨pl,_,_,rfl,rfl,w _ _ hl8,by rw[al0q];exact zz (by lia),?_⟩;have g':=g.add hpl npl hv w (rs:=e.2++[r]) (q:=p2) (b:=b9) (by rw[al15q];exact w3 _ _ zf) (al26q (zq (w1 _ _ hl8) hp2)) zf ⟨wk.snoc hlm,by rw[al18q,elen];rfl,hlk⟩;have mm:∀v,v∈M++fs.map Prod.fst->v∈M++(fs++[(l,e.2++[r])]).map Prod.fst:=fun v h=>by
        rw[al15q,←al156q];exact al35q _ h
       refine⟨_,_,_,_,rfl,g',fun u hu v r' h=>⟨(cond u hu v r' h).1,mm _ (cond u hu v r' h).2⟩,zj7 hlr (fun p hp=>⟨(cond2 p hp).1,mm _ (cond2 p hp).2⟩) ⟨c1,?_⟩⟩;rw[al15q,←al156q];simp
      ·have hv:l∈M++fs.map Prod.fst:=al34q fun z=>by
        rw[zc8 z] at c2;exact c2 rfl
       exact⟨_,_,ml,fs,rfl,g,cond,zj7 hlr cond2 ⟨c1,hv⟩⟩
    ·rintro σ H7 ⟨u7,u8,ml,fs,rfl,g,cond,cond2⟩;have B7:=hB.same (Bk g.kp);have lb:(bs e.1).length=(ln e.1).length:=Paired.length (B7.e _ ek);rw[al0q,lb,al22q] at cond2;refine⟨_,_,_,_,ml,fs,rfl,g,fun u hu v r h=>?_⟩;rw[List.map_take,al9q,al4q,he,al25q] at hu;rcases hu with hu | hu
     ·exact cond u (by rw[List.map_take];exact hu) v r h
     ·have:u=e.1:=by simpa using hu
      subst this;exact cond2 (v,r) h
   ·rintro σ H6 ⟨u5,u6,u7,u8,ml,fs,rfl,g,cond⟩;rw[al0q,lw,al22q] at cond;refine⟨_,rfl,?_⟩
    try dsimp only [zw]
    have subN:∀v∈M++fs.map Prod.fst,v∈keys:=fun v hv=>(al25q.mp hv).elim (sub4 v) fun z=>by
     obtain⟨e',h1,rfl⟩:=al32q.mp z;exact (g.ok e' h1).2.2
    have lN:=za9 g.nd subN;refine⟨_,?_,_,_,_,_,_,pl,ml,fs,d+1,M++fs.map Prod.fst,rfl,Bk g.kp,g.m,g.l,Paired.mapP g.w fun _ _ ⟨q,_,h1,h2⟩=>⟨q,h1,h2⟩,g.ok,g.nd,subN,bf.succ (fun v hv=>?_) cond,fun hf=>?_,rfl⟩
    ·rw[al8q hes,al18q,al0q] at *;cases fs with
     | nil=>simp
     | cons a r=>
      rw[al8q (by simp)];simp only [al99q] at *;lia
    ·obtain⟨e',h1,rfl⟩:=al32q.mp hv;exact⟨e'.2,(g.ok e' h1).1,(g.ok e' h1).2.1⟩
    ·rw[al18q,al0q];have:=al115q.mpr hf;lia
  ·have hes:es = []:=by
    have:wl = []:=by simpa using c
    subst this;exact al135q.mp lw.symm
   subst hes;refine⟨by decide,fun p hp=>?_⟩;exact k p [] _ (q5.trans (Same.new hp)) (q5.free hp) zf (by simp) (.inl ⟨rfl,bf.done⟩)
inductive sp_short' (vs:List V) (H:Hp) (Q:VK):Prop
 | mk (p pu pt:ty1q) (x y:V) (us:List Str) (ads:List ty1q) (ts:List Tie) (_:vs = [.ref p]) (_:Tel K H p pu pt x y us ads ts) (_:∀(q:ty1q) (rs:List ty1q) (H':Hp),Same H H'->H q=none->H' q=some (.lst (rs.map V.ref))->rs.length<=64->Rnd (zak ts (ts.zip ads)) (zn ts (srt us)) rs->Q (.ref q) H')
def zqr:Sp:=fun vs H Q _=>sp_short' (K:=K) vs H Q
theorem zcj (T:Tx K mg w zr zv zi):Has P w K mg base "shortest_round" ["telling"] 5 (zqr (K:=K)):=by
 refine T.zed.has sc_shortest_round (fun vs H Q E h=>?_) (fun f cdv A outer s H vs Q E hr h=>?_)
 ·obtain⟨p,pu,pt,x,y,us,ads,ts,rfl,_⟩:=h;rfl
 ·obtain⟨p,pu,pt,x,y,us,ads,ts,rfl,hT,k⟩:=h;refine⟨_,(zg (sset (i:=1) sc_shortest_round.nd (pfn (zaq T) (zc (pv 0) zh)))
   (zg (sset (i:=2) sc_shortest_round.nd (zao zh))
   (zg (zaw al30q rfl (zb5 (pv 1)) (gnm (i:=3) sc_shortest_round.nd) (zg (sset (i:=4) sc_shortest_round.nd (pfn (zfa T) (zc (pv 3) (zc (pv 1) zh))))
    (zm (zbm (PW.pt (zha (zad (zc7 K rfl (hu10 hr)) (pv 4) (zao zh) (zah _)) (zer (PW.pt (zkt (zad (zgk K rfl (hu10 hr)) (pv 2) (zao zh) (zah _)) (zfx (zad zmj (zac (zag K rfl) (by rfl) T.len al130q (zc (pv 4) zh)) (zac (zag K rfl) (by rfl) T.len al130q (zc (pv 2) zh)) (zah _)))))))) (zm (sset (i:=2) sc_shortest_round.nd (pv 4))) zap))))
   (zm (zae (pv 2)))))),?_⟩
  have hts:=hT.ends;refine⟨_,rfl,p,pu,pt,x,y,us,ads,ts,rfl,hT,fun pd ob ad bs H1 s1 fpd hB=>?_⟩;have cl:=zbs (us:=us) (ts:=ts) (ads:=ads) hts;have lk:=hT.klen;generalize zn ts (srt us)=keys at hB cl lk k;generalize zak ts (ts.zip ads)=ln at hB cl k
  try dsimp only [zw]
  refine⟨by decide,fun ps hps=>?_⟩;have s2:=Same.new (o:=.lst []) hps;refine⟨_,rfl,pd,ob,_,rfl,s2 _ _ hB.d,zcc (fun i σ H'=>∃(v3 v4:Option V) (ps:ty1q) (rs:List ty1q),σ = [some (.ref p),some (.ref pd),some (.ref ps),v3,v4]/\Same H1 H'/\H ps=none/\H' ps=some (.lst (rs.map V.ref))/\rs.length<=64/\Rnd ln (keys.take i) rs)
   ⟨none,none,ps,[],rfl,s2,s1.free hps,zf,by simp,by simpa using Rnd.nil⟩ (fun i σ H' _ h=>by obtain⟨_,_,_,_,_,q,_⟩:=h;exact q _ _ hB.d) ?_ ?_⟩
  ·rintro i kk vv σ H3 hx ⟨v3,v4,ps,rs,rfl,q3,fps,hps3,lr,hR⟩;obtain⟨u,hu,rfl,_⟩:=zi1 hx;have huk:u∈keys:=al6q hu
   try dsimp only [zw]
   refine⟨_,rfl,_,rfl,u,pd,ob,keys,ln,ad,bs,rfl,hB.same q3,huk,cl,lk,fun pr xs H4 s4 fpr hpr lx hS=>?_⟩;have q4:=q3.trans s4;have hps4:=s4 _ _ hps3
   try dsimp only [zw]
   refine zcw (decide (xs≠[]/\(rs = []\/xs.length<rs.length))) (fun Q' hQ=>?_) (fun H5 t5=>?_)
   ·refine⟨_,rfl,by decide,fun e1 he1=>?_⟩;have w1:=Same.new (o:=.lst []) he1;refine⟨pr,e1,_,rfl,rfl,DEq.nilL (SqL.of (w1 _ _ hpr)) (SqL.of zf),_,rfl,?_⟩;refine ite2 (fun c=>?_) (fun c=>?_)
    ·have c:xs≠[]:=by simpa using c
     refine⟨_,rfl,by decide,fun e2 he2=>?_⟩;have w2:=Same.new (o:=.lst []) he2;have w12:=w1.trans w2;refine⟨ps,e2,_,rfl,rfl,DEq.nilL (SqL.of (w12 _ _ hps4)) (SqL.of zf),_,rfl,?_⟩;refine ite2 (fun c2=>?_) (fun c2=>?_)
     ·have c2:rs = []:=by simpa using c2
      rw[show true=decide (xs≠[]/\(rs = []\/xs.length<rs.length)) from (al10q ⟨c,.inl c2⟩).symm];exact hQ _ w12
     ·have c2:¬rs = []:=by simpa using c2
      refine⟨_,rfl,pr,_,rfl,.inl (SqL.of (w12 _ _ hpr)),_,rfl,ps,_,rfl,.inl (SqL.of (w12 _ _ hps4)),_,_,rfl,rfl,_,rfl,?_⟩;have:decide (((xs.map V.ref).length:Int)<((rs.map V.ref).length:Int))=decide (xs≠[]/\(rs = []\/xs.length<rs.length)):=by
       rw[al0q,al0q];apply al120q.mpr;constructor
       ·intro z;exact⟨c,.inr (by lia)⟩
       ·rintro ⟨_,z | z⟩
        ·exact absurd z c2
        ·lia
      rw[←this] at hQ;exact hQ _ w12
    ·have c:xs = []:=by simpa using c
     rw[show false=decide (xs≠[]/\(rs = []\/xs.length<rs.length)) from (al17q fun z=>z.1 c).symm];exact hQ _ w1
   ·have:=hR.step hS;rw[show keys.take i++[u]=keys.take (i+1) by rw[al9q,hu];rfl] at this;refine ite2 (fun c=>?_) (fun c=>?_)
    ·have c:=al16q c;rw[al12q c] at this;exact⟨_,rfl,_,_,pr,xs,rfl,q4.trans t5,(s1.trans q3).free fpr,t5 _ _ hpr,lx,this⟩
    ·have c:¬(xs≠[]/\(rs = []\/xs.length<rs.length)):=fun z=>c (al10q z)
     rw[al8q c] at this;exact⟨_,_,ps,rs,rfl,q4.trans t5,fps,t5 _ _ hps4,lr,this⟩
  ·rintro σ H3 ⟨v3,v4,ps,rs,rfl,q3,fps,hps3,lr,hR⟩;rw[zas,al22q] at hR;exact⟨_,rfl,k ps rs _ (s1.trans q3) fps hps3 lr hR⟩
theorem zlv {α:Type}(f:α->Bool) (l:List α):(l.map f).all id=l.all f:=by rw[List.all_map];rfl
inductive sp_rests' (vs:List V) (H:Hp) (Q:VK):Prop
 | mk (pl pp:ty1q) (bs:List ty1q) (L:List (Str×ty1q)) (M:List Str) (_:vs = [.ref pl,.ref pp]) (_:SqL K H pl (bs.map V.ref)) (_:Paired (fun b (p:Str×ty1q)=>H b=some (.tup [.str p.1,.ref p.2])) bs L) (_:H pp=some (.dK (dV M tru))) (_:L.length<=900) (_:∀H',Same H H'->Q (.bl (zd6 M L)) H')
def zqs:Sp:=fun vs H Q _=>sp_rests' (K:=K) vs H Q
theorem zlw (T:Tx K mg w zr zv zi):Has P w K mg base "rests_on" ["lowers","placed"] 1 (zqs (K:=K)):=by
 refine T.zl3.has zji (fun vs H Q E h=>?_) (fun f cdv A outer s H vs Q E hr h=>?_)
 ·obtain⟨pl,pp,bs,L,M,rfl,_⟩:=h;rfl
 ·obtain⟨pl,pp,bs,L,M,rfl,hl,pr,hm,lL,k⟩:=h;have hu:=zbw hr;refine⟨_,(zm (zae (zac (zk4 K rfl rfl) (by rfl) T.all PyProof.Rows.boot_all (zc (zbx (own:=["lower","tie"]) (cap:=["placed"]) (ix:=[1]) (osc:=zp (top 15)) rfl ⟨rfl,by decide +kernel,by decide +kernel,by decide +kernel,by decide +kernel⟩ rfl (zai K rfl (pv 0)) (fun _ _ _ _=>zby (n:=2) K rfl rfl (zam (zbb (i:=0) (show List.Nodup (["lower","tie","placed"]:List Str) by decide +kernel) rfl (Or.inl rfl)) (zam (zbb (i:=1) (show List.Nodup (["lower","tie","placed"]:List Str) by decide +kernel) rfl (Or.inl rfl)) zbt))) (fun _ _ _ _=>zbp) (fun _ _ _ _=>(zq9 (zj2 hu (pv 0) (pv 2))))) zh)))),?_⟩;have lb:bs.length=L.length:=Paired.length pr;refine⟨_,rfl,pl,rfl,⟨_,hl⟩,fun D hD=>?_⟩;refine zbd (zb1 (K:=K) (a:=pl) (xs:=bs.map V.ref)) (fun i σ' ys H'=>∃w0 w1,σ' = [w0,w1,some (.ref pp)]/\ys=((L.take i).map fun p=>decide (p.1∈M)).map V.bl/\Same H H'/\H' D=some (.lst ys))
   ⟨none,none,rfl,by simp,Same.new hD,zf⟩ (fun i σ' ys H' h=>?_) (by rw[al0q];exact zar (by lia)) ?_ ?_
  ·obtain⟨_,_,_,rfl,q,hd⟩:=h;refine⟨q.seq hl,hd,?_⟩;rw[al0q,al0q,al28q];lia
  ·rintro i v σ' ys H' hx ⟨w0,w1,rfl,rfl,q,hd⟩;obtain⟨b,⟨l,r⟩,rfl,hlr,_,hb⟩:=zbj pr hx;have hix:=zaj hx;refine⟨b,_,rfl,SqT.of (q _ _ hb),rfl,_,_,rfl,_,_,rfl,rfl,?_⟩
   try dsimp only [zw]
   unfold tYes;dsimp only;rw[al12q rfl];have g:=DGet.k (k:=Sum.inr l) (q _ _ hm);refine⟨_,rfl,_,rfl,pp,_,rfl,g,hd,zcl hix ⟨_,_,rfl,?_,q.upd hD,zf⟩⟩;rw[al9q,hlr,al15q,al15q]
   congr 1
   show [V.bl (valV (dV M tru) (Sum.inr l)).isSome] = [V.bl (decide (l∈M))]
   by_cases c:l∈M
   ·rw[zbk c,al10q c];rfl
   ·rw[zc8 c,al17q c];rfl
  rintro σ' ys H1 ⟨w0,w1,rfl,rfl,q,hd⟩;rw[al0q,lb,al22q] at hd;refine⟨D,_,rfl,SqL.of hd,?_⟩;rw[zlv];exact k _ q
inductive sp_least' (vs:List V) (H:Hp) (Q:VK):Prop
 | mk (pd pp:ty1q) (ob:Obj) (keys:List Str) (ln:Ln) (ad:Str->ty1q) (bs:Str->List ty1q) (M:List Str) (u:Str) (r:List Str) (_:vs = [.ref pd,.ref pp]) (_:Bn H pd ob keys ln ad bs) (_:H pp=some (.dK (dV M tru))) (_:keys.length<=63) (_:(∀k∈keys,(ln k).length<=900)) (_:zdq ln keys M=u::r) (_:∀H',Same H H'->Q (.str u) H')
def zqt:Sp:=fun vs H Q _=>sp_least' vs H Q
theorem zig (T:Tx K mg w zr zv zi):Has P w K mg base "least_free" ["beneath","placed"] 2 zqt:=by
 refine T.zii.has sc_least_free (fun vs H Q E h=>?_) (fun f cdv A outer s H vs Q E hr h=>?_)
 ·obtain⟨pd,pp,ob,keys,ln,ad,bs,M,u,r,rfl,_⟩:=h;rfl
 ·obtain⟨pd,pp,ob,keys,ln,ad,bs,M,u,r,rfl,hB,hm,lk,ll,hf,k⟩:=h;have hu:=zbw hr;refine⟨_,(zg (zis (i:=2) (own:=["name"]) (cap:=["placed","beneath"]) (ix:=[1,0]) (osc:=zp (top 14)) rfl sc_least_free.nd rfl rfl rfl ⟨rfl,by decide +kernel,by decide +kernel,by decide +kernel,by decide +kernel⟩ rfl (zb5 (pv 0)) (fun _ _ _ _=>zbb (i:=0) (show List.Nodup (["name","placed","beneath"]:List Str) by decide +kernel) rfl (Or.inl rfl)) (fun _ _ _ _=>zmz (PW.pt (zha (zeq (zdd hu (pv 0) (pv 1))) (zer (zmb (pfn (zlw T) (zc (zy hu (pv 2) (pv 0) (fun _ _=>rfl)) (zc (pv 1) zh)))))))) (fun _ _ _ _=>(pv 0)))
   (zm (zae (pix (zab K rfl) (pv 2) zj)))),?_⟩
  refine⟨_,rfl,pd,ob,_,rfl,hB.d,fun D hD=>?_⟩;refine zbd (zgr (a:=pd) (ob:=ob) (kvs:=dV keys fun k=>.ref (ad k))) (fun i σ' ys H'=>∃w0,σ' = [w0,some (.ref pp),some (.ref pd)]/\ys=((keys.take i).filter fun x=>decide (x ∉ M)&&zd6 M (ln x)).map V.str/\Same H H'/\H' D=some (.lst ys))
   ⟨none,rfl,by simp,Same.new hD,zf⟩ (fun i σ' ys H' h=>?_) (by rw[al0q,zas];exact zar (by lia)) ?_ ?_
  ·obtain⟨_,_,rfl,q,hd⟩:=h;refine⟨q _ _ hB.d,hd,?_⟩;rw[al0q];exact al58q (al59q _ _) (by rw[al28q];lia)
  ·rintro i v σ' ys H1 hx ⟨w0,rfl,rfl,q,hd⟩;have hix:=zaj hx;rw[zgn,al4q] at hx;cases eu:keys[i]? with
   | none=>rw[eu] at hx;cases hx
   | some z=>
    rw[eu] at hx;cases hx;have hz:z∈keys:=al6q eu;have B1:=hB.same q;have g:=DGet.k (k:=Sum.inr z) (q _ _ hm);have no:∀(H2:Hp),Same H1 H2->(decide (z ∉ M)&&zd6 M (ln z))=false->∃w0',[some (V.str z),some (V.ref pp),some (V.ref pd)] = [w0',some (.ref pp),some (.ref pd)]/\((keys.take i).filter fun x=>decide (x ∉ M)&&zd6 M (ln x)).map V.str=((keys.take (i+1)).filter fun x=>decide (x ∉ M)&&zd6 M (ln x)).map V.str/\Same H H2/\H2 D=some (.lst (((keys.take i).filter fun x=>decide (x ∉ M)&&zd6 M (ln x)).map V.str)):=fun H2 t e=>by
     refine⟨_,rfl,?_,q.trans t,t _ _ hd⟩;rw[al9q,eu,al87q,al15q];have:(some z).toList.filter (fun x=>decide (x ∉ M)&&zd6 M (ln x)) = []:=by
      show [z].filter _ = [];rw[al142q (by rw[e];exact al23q)];rfl
     rw[this,al175q,al62q]
    try dsimp only [zw]
    refine⟨_,rfl,_,rfl,pp,_,rfl,g,_,rfl,?_⟩;refine ite2 (fun c=>?_) (fun c=>?_)
    ·have c1:z ∉ M:=fun y=>by rw[zbk y] at c;cases c
     refine⟨_,rfl,_,rfl,pd,_,rfl,B1.get hz,_,rfl,ad z,pp,bs z,ln z,M,rfl,SqL.of (B1.l z hz),B1.e z hz,q _ _ hm,ll z hz,fun H2 t2=>⟨_,rfl,?_⟩⟩;refine ite2 (fun c2=>?_) (fun c2=>?_)
     ·refine⟨_,rfl,t2 _ _ hd,zcl hix ⟨_,rfl,?_,(q.trans t2).upd hD,zf⟩⟩;rw[al9q,eu,al87q,al15q]
      congr 1
      have:(some z).toList.filter (fun x=>decide (x ∉ M)&&zd6 M (ln x)) = [z]:=by
       show [z].filter _ = [z];rw[al141q (by rw[al10q c1,c2];rfl)];rfl
      rw[this];rfl
     ·have c2:zd6 M (ln z)=false:=by simpa using c2
      exact⟨t2 _ _ hd,zcl hix (no H2 t2 (by rw[c2,Bool.and_false]))⟩
    ·have c1:z∈M:=al34q fun y=>by
      rw[zc8 y] at c;exact c rfl
     refine⟨hd,zcl hix (no H1 (Same.refl _) ?_)⟩;rw[show decide (z ∉ M)=false from al17q (fun y=>y c1),Bool.false_and]
  rintro σ' ys H1 ⟨w0,rfl,rfl,q,hd⟩;rw[al0q,zas,al22q] at hd;have hd:H1 D=some (.lst ((zdq ln keys M).map V.str)):=hd;rw[hf] at hd
  try dsimp only [zw]
  exact⟨_,rfl,D,_,_,_,rfl,rfl,SqL.of hd,ziv,k _ q⟩
inductive sp_refuse' (vs:List V) (H:Hp) (Q:VK):Prop
 | mk (p pu pt:ty1q) (x y:V) (us:List Str) (ads:List ty1q) (ts:List Tie) (_:vs = [.ref p]) (_:Tel K H p pu pt x y us ads ts) (_:NoR (zak ts (ts.zip ads)) (zn ts (srt us))) (_:∀H',Same H H'->Q .non H')
def zoz:Sp:=fun vs H Q _=>sp_refuse' (K:=K) vs H Q
theorem zfl (T:Tx K mg w zr zv zi):Has P w K mg base "refuse_round" ["telling"] 6 (zoz (K:=K)):=by
 refine T.zc4.has sc_refuse_round (fun vs H Q E h=>?_) (fun f cdv A outer s H vs Q E hr h=>?_)
 ·obtain⟨p,pu,pt,x,y,us,ads,ts,rfl,_⟩:=h;rfl
 ·obtain⟨p,pu,pt,x,y,us,ads,ts,rfl,hT,nr,k⟩:=h;refine⟨_,(zg (sset (i:=1) sc_refuse_round.nd (pfn (zcj T) (zc (pv 0) zh)))
   (zm (zbm (zad (zc7 K rfl (hu10 hr)) (pv 1) (zao zh) (zah _)) (zm zpi) zap))),?_⟩
  refine⟨_,rfl,p,pu,pt,x,y,us,ads,ts,rfl,hT,fun q rs H1 s1 fq hq lr R=>?_⟩;have e:rs = []:=al34q fun z=>by
   obtain⟨s',hs,j,hj,r⟩:=R.nil_iff.mp z;exact nr s' hs j hj r
  subst e
  try dsimp only [zw]
  refine⟨_,rfl,by decide,fun e he=>?_⟩;have s2:=Same.new (o:=.lst []) he;refine⟨q,e,_,rfl,rfl,DEq.nilL (SqL.of (s2 _ _ hq)) (SqL.of zf),_,rfl,iteF ?_⟩;exact k _ (s1.trans s2)
inductive sp_order' (vs:List V) (H:Hp) (Q:VK):Prop
 | mk (p pu pt:ty1q) (x y:V) (us:List Str) (ads:List ty1q) (ts:List Tie) (_:vs = [.ref p]) (_:Tel K H p pu pt x y us ads ts) (_:NoR (zak ts (ts.zip ads)) (zn ts (srt us))) (_:∀(q:ty1q) (os:List Str) (H':Hp),Same H H'->H q=none->H' q=some (.lst (os.map V.str))->Ord (zak ts (ts.zip ads)) (zn ts (srt us)) os->os.Perm (zn ts (srt us))->Q (.ref q) H')
def zqu:Sp:=fun vs H Q _=>sp_order' (K:=K) vs H Q
theorem zfb (T:Tx K mg w zr zv zi):Has P w K mg base "order" ["telling"] 7 (zqu (K:=K)):=by
 refine T.ztz.has sc_order (fun vs H Q E h=>?_) (fun f cdv A outer s H vs Q E hr h=>?_)
 ·obtain⟨p,pu,pt,x,y,us,ads,ts,rfl,_⟩:=h;rfl
 ·obtain⟨p,pu,pt,x,y,us,ads,ts,rfl,hT,nr,k⟩:=h;have hu:=zbw hr;refine⟨_,(zg (za7 (pfn (zfl T) (zc (pv 0) zh)))
   (zg (sset (i:=1) sc_order.nd (pfn (zaq T) (zc (pv 0) zh)))
   (zg (sset (i:=2) sc_order.nd za8)
   (zg (zcu al30q (zad zmj (zac zmy (by rfl) T.len al130q (zc (pv 2) zh)) (zac zla (by rfl) T.len al130q (zc (pv 1) zh)) (zah _)) (zm (zbg hu (pv 2) (pfn (zig T) (zc (pv 1) (zc (pv 2) zh))) zfi rfl)))
   (zm (zae (zbn (zd1 rfl) (by rfl) T.list al104q (zc (pv 2) zh)))))))),?_⟩
  refine⟨_,rfl,p,pu,pt,x,y,us,ads,ts,rfl,hT,nr,fun H1 s1=>?_⟩;refine⟨_,rfl,p,pu,pt,x,y,us,ads,ts,rfl,hT.same s1,fun pd ob ad bs H2 s2 fpd hB=>?_⟩;have cl:=zbs (us:=us) (ts:=ts) (ads:=ads) hT.ends;have lk:=hT.klen;have kn:=zav (ts:=ts) hT.nd;have kl:=zng (ts:=ts) hT.nd;have ll:∀k∈zn ts (srt us),(zak ts (ts.zip ads) k).length<=900:=fun k _=>by
   have h1:=zgq (ts:=ts) (z:=ts.zip ads) (k:=k);have h2:=hT.tl;rw[al78q] at h1;lia
  generalize zn ts (srt us)=keys at hB cl lk k nr kn kl ll;generalize zak ts (ts.zip ads)=ln at hB cl k nr ll;have q2:=s1.trans s2
  try dsimp only [zw]
  refine fun pp hpp=>?_
  have s3:=Same.new (o:=.dK []) hpp;refine⟨fun m σ H'=>∃os,σ = [some (.ref p),some (.ref pd),some (.ref pp)]/\Same H2 H'/\H' pp=some (.dK (dV os tru))/\Ord ln keys os/\m=keys.length-os.length,⟨_,[],rfl,s3,zf,Ord.nil,rfl⟩,?_⟩;rintro m σ H4 ⟨os,rfl,q4,hp4,O,rfl⟩;have B4:=hB.same q4;have lo:=za9 O.nd O.sub;refine⟨_,rfl,pp,_,rfl,hp4,_,rfl,pd,_,rfl,.inr ⟨_,B4.d⟩,_,_,rfl,rfl,_,rfl,?_⟩;rw[zas,zas];refine ite2 (fun c=>?_) (fun c=>?_)
  ·have c:=al16q c;have hx:∃x∈keys,x ∉ os:=al107q fun hn=>by
    have:=za9 (us:=os) kn fun x hx=>al34q fun z=>hn ⟨x,hx,z⟩
    lia
   obtain⟨u,r,hu'⟩:∃u r,zdq ln keys os=u::r:=by
    cases e:zdq ln keys os with
    | nil=>exact absurd e (zp0 cl nr hx)
    | cons u r=>exact⟨u,r,rfl⟩
   obtain⟨m1,m2,m3⟩:=frees_mem.mp (show u∈zdq ln keys os by rw[hu'];simp);refine⟨fun σ' H'=>∃m',m'<keys.length-os.length/\_,fun σ' H' h=>h,?_⟩;refine⟨_,rfl,_,rfl,_,rfl,pd,pp,ob,keys,ln,ad,bs,os,u,r,rfl,B4,hp4,lk,ll,hu',fun H5 s5=>?_⟩;refine⟨pp,_,rfl,DPut.k (k:=Sum.inr u) (s5 _ _ hp4) (by rw[zas];exact zz (by lia)),?_⟩;rw[zni m2];refine⟨_,?_,os++[u],rfl,(q4.trans s5).upd hpp,zf,O.snoc kl hu',rfl⟩;rw[al18q];show keys.length-(os.length+1)<_;lia
  ·have c:¬((os.length:Int)<(keys.length:Int)):=fun z=>c (al10q z)
   have e:os.length=keys.length:=by lia
   refine⟨_,rfl,pp,_,rfl,hp4,fun q hq=>?_⟩;rw[zgn];exact k q os _ (q2.trans (q4.trans (Same.new hq))) ((q2.trans q4).free hq) zf O (O.perm kn e)
inductive sp_levels' (vs:List V) (H:Hp) (Q:VK):Prop
 | mk (p pu pt:ty1q) (x y:V) (us:List Str) (ads:List ty1q) (ts:List Tie) (_:vs = [.ref p]) (_:Tel K H p pu pt x y us ads ts) (_:NoR (zak ts (ts.zip ads)) (zn ts (srt us))) (_:∀(q:ty1q) (cs:List ty1q) (lv:Str->Nat) (H':Hp),Same H H'->H q=none->H' q=some (.lst (cs.map V.ref))->cs.length<=63->cs.Nodup->(∀c∈cs,H c=none/\c≠q)->(∀(j:Nat) c,cs[j]? = some c->H' c=some (.lst (((zn ts (srt us)).filter (rowB lv j)).map V.str)))->Lv (zak ts (ts.zip ads)) (zn ts (srt us)) lv cs.length->Q (.ref q) H')
def zo0:Sp:=fun vs H Q _=>sp_levels' (K:=K) vs H Q
theorem zqv (T:Tx K mg w zr zv zi):Has P w K mg base "levels" ["telling"] 8 (zo0 (K:=K)):=by
 refine T.zq8.has sc_levels (fun vs H Q E h=>?_) (fun f cdv A outer s H vs Q E hr h=>?_)
 ·obtain⟨p,pu,pt,x,y,us,ads,ts,rfl,_⟩:=h;rfl
 ·obtain⟨p,pu,pt,x,y,us,ads,ts,rfl,hT,nr,k⟩:=h;have hu:=zbw hr;refine⟨_,(zg (sset (i:=1) sc_levels.nd (pfn (zaq T) (zc (pv 0) zh)))
   (zg (sset (i:=2) sc_levels.nd za8)
   (zg (sset (i:=3) sc_levels.nd (zao zh))
   (zg (zaw al30q rfl (zai K rfl (pfn (zfb T) (zc (pv 0) zh))) (gnm (i:=4) sc_levels.nd) (zg (sset (i:=5) sc_levels.nd (zss K rfl 0 rfl (by rfl) T.max (zbx (own:=["lower","tie"]) (cap:=["numbers"]) (ix:=[2]) (osc:=zp (top 39)) rfl ⟨rfl,by decide +kernel,by decide +kernel,by decide +kernel,by decide +kernel⟩ rfl (zai K rfl (zy hu (pv 1) (pv 4) (fun _ _=>rfl))) (fun _ _ _ _=>zby (n:=2) K rfl rfl (zam (zbb (i:=0) (show List.Nodup (["lower","tie","numbers"]:List Str) by decide +kernel) rfl (Or.inl rfl)) (zam (zbb (i:=1) (show List.Nodup (["lower","tie","numbers"]:List Str) by decide +kernel) rfl (Or.inl rfl)) zbt))) (fun _ _ _ _=>zbp) (fun _ _ _ _=>(zan zc0 (zy hu (pv 2) (pv 0) (fun _ _=>rfl)) zj)))))
    (zg (zbg hu (pv 2) (pv 4) (pv 5) rfl)
    (zg (zbm (zad zck (pv 5) (zac (zag K rfl) (by rfl) T.len al130q (zc (pv 3) zh)) (zah _)) (zm (za7 (zcp K rfl PySem.F.plainAttrs_list PySem.F.slot_list_append PySem.F.type_list_append zbc (pv 3) (zc (zao zh) zh)))) zap)
    (zm (za7 (zcp K rfl PySem.F.plainAttrs_list PySem.F.slot_list_append PySem.F.type_list_append zbc (pix (zab K rfl) (pv 3) (pv 5)) (zc (pv 4) zh))))))))
   (zm (zae (zbx (own:=["row"]) (cap:=[]) (ix:=[]) (osc:=zp (top 39)) rfl ⟨rfl,by decide +kernel,by decide +kernel,by decide +kernel,by decide +kernel⟩ rfl (zai K rfl (pv 3)) (fun _ _ _ _=>zbb (i:=0) (show List.Nodup (["row"]:List Str) by decide +kernel) rfl (Or.inl rfl)) (fun _ _ _ _=>zbp) (fun _ _ _ _=>(zac (zb2 (K:=K) rfl) (by rfl) T.sorted al80q (zc (pv 0) zh)))))))))),?_⟩
  refine⟨_,rfl,p,pu,pt,x,y,us,ads,ts,rfl,hT,fun pd ob ad bs H1 s1 fpd hB=>?_⟩;have lk:=hT.klen;have kn:=zav (ts:=ts) hT.nd;have kl:=zng (ts:=ts) hT.nd;have ll:∀k∈zn ts (srt us),(zak ts (ts.zip ads) k).length<=900:=fun k _=>by
   have h1:=zgq (ts:=ts) (z:=ts.zip ads) (k:=k);have h2:=hT.tl;rw[al78q] at h1;lia
  try dsimp only [zw]
  refine fun pn hpn=>?_
  have s2:=Same.new (o:=.dK []) hpn
  try dsimp only [zw]
  refine⟨by decide,fun pr hpr=>?_⟩;have s3:=Same.new (o:=.lst []) hpr;have q3:=s1.trans (s2.trans s3);have fpr:H1 pr=none:=s2.free hpr;have npr:pn≠pr:=zq zf hpr;refine⟨_,rfl,p,pu,pt,x,y,us,ads,ts,rfl,hT.same q3,nr,fun q os H4 s4 fq hq O pm=>?_⟩;have hn4:=s4 _ _ (s3 _ _ (zf (H:=H1) (a:=pn) (o:=.dK [])));have hr4:=s4 _ _ (zf (H:=upd H1 pn (.dK [])) (a:=pr) (o:=.lst []));have nqn:pn≠q:=zq (s3 _ _ zf) fq;have nqr:pr≠q:=zq zf fq;have fq1:H1 q=none:=(s2.trans s3).free fq;have lo:os.length<=63:=by rw[pm.length_eq];exact lk
  generalize zn ts (srt us)=keys at hB lk k nr kn kl ll O pm;generalize zak ts (ts.zip ads)=ln at hB k nr ll O;refine⟨q,rfl,⟨_,SqL.of hq⟩,zat (xs:=os.map V.str) (fun i σ H'=>∃(v4 v5:Option V) (cs:List ty1q) (lv:Str->Nat),σ = [some (.ref p),some (.ref pd),some (.ref pn),some (.ref pr),v4,v5]/\Same H1 H'/\H' q=some (.lst (os.map V.str))/\
   H' pn=some (.dK (dV (os.take i) fun x=>.int (lv x)))/\H' pr=some (.lst (cs.map V.ref))/\cs.length<=i/\cs.Nodup/\(∀c∈cs,H1 c=none/\c≠pn/\c≠pr/\c≠q)/\
   (∀(j:Nat) c,cs[j]? = some c->H' c=some (.lst (((os.take i).filter (rowB lv j)).map V.str)))/\Lv ln (os.take i) lv cs.length)
   ⟨none,none,[],fun _=>0,rfl,s2.trans (s3.trans s4),hq,hn4,hr4,al13q _,by simp,by simp,by simp,Lv.nil⟩ (fun i σ H' _ h=>by obtain⟨_,_,_,_,_,_,q,_⟩:=h;exact SqL.of q) ?_ ?_⟩
  ·rintro i v σ H5 hx ⟨v4,v5,cs,lv,rfl,q5,hq5,hn5,hr5,cl,cn,cf,ch,L⟩;rw[al4q] at hx;cases eu:os[i]? with
   | none=>rw[eu] at hx;cases hx
   | some u=>
    rw[eu] at hx;cases hx;have hu':u∈keys:=O.sub u (al6q eu);have hlow:=O.low i u eu;have hi:=zaj eu;have hul:u ∉ os.take i:=fun z=>by
     have nd:=O.nd;rw[←al181q i os,al102q] at nd;refine nd.2.2 u z u ?_ rfl;obtain⟨hi,e⟩:=al3q.mp eu;rw[←e];exact List.mem_drop_iff_getElem.mpr ⟨0,by lia,by simp⟩
    have tk:os.take (i+1)=os.take i++[u]:=by rw[al9q,eu];rfl
    have lt:(os.take i).length<=63:=by rw[al28q];lia
    have B5:=hB.same q5;have lb:(bs u).length=(ln u).length:=Paired.length (B5.e u hu');have lu:=ll u hu'
    try dsimp only [zw]
    refine⟨_,rfl,_,rfl,pd,_,rfl,B5.get hu',ad u,rfl,⟨_,SqL.of (B5.l u hu')⟩,fun D hD=>?_⟩;refine zbd (zb1 (K:=K) (a:=ad u) (xs:=(bs u).map V.ref)) (fun i' σ' ys H'=>∃w0 w1,σ' = [w0,w1,some (.ref pn)]/\ys=(lvN lv ((ln u).take i')).map V.int/\Same H5 H'/\H' D=some (.lst ys))
     ⟨none,none,rfl,by simp[lvN],Same.new hD,zf⟩ (fun i' σ' ys H' h=>?_) (by rw[al0q];exact zar (by lia)) ?_ ?_
    ·obtain⟨_,_,_,rfl,q,hd⟩:=h;refine⟨SqL.of (q _ _ (B5.l u hu')),hd,?_⟩;unfold lvN;rw[al0q,al0q,al28q];lia
    ·rintro i' v σ' ys H' hx ⟨w0,w1,rfl,rfl,q,hd⟩;obtain⟨b,⟨l,r⟩,rfl,hlr,_,hb⟩:=zbj (B5.e u hu') hx;have hix:=zaj hx;have hl:l∈os.take i:=hlow l r (al6q hlr);refine⟨b,_,rfl,SqT.of (q _ _ hb),rfl,_,_,rfl,_,_,rfl,rfl,?_⟩
     try dsimp only [zw]
     unfold tYes;dsimp only;rw[al12q rfl];have g:=DGet.k (k:=Sum.inr l) (q _ _ hn5);rw[zbk hl] at g;refine⟨_,rfl,_,rfl,pn,_,rfl,g,_,_,rfl,rfl,hd,zcl hix ⟨_,_,rfl,?_,q.upd hD,zf⟩⟩;rw[al9q,hlr];unfold lvN;rw[al15q,al15q];rfl
    rintro σ' ys H6 ⟨w0,w1,rfl,rfl,t6,hd6⟩;rw[al0q,lb,al22q] at hd6;refine⟨D,_,rfl,SqL.of hd6,fun m hm=>?_⟩;obtain⟨k',rfl,hk⟩:=L.next hlow hm;have L':=L.step hul hlow hm hk;have hn6:=t6 _ _ hn5;have hr6:=t6 _ _ hr5
    try dsimp only [zw]
    refine⟨_,rfl,_,rfl,_,rfl,pn,_,rfl,DPut.k (k:=Sum.inr u) hn6 (by rw[zas];exact zz (by lia)),?_⟩;rw[zc2 hul];have ed:dV (os.take i++[u]) (fun z=>if z=u then V.int (k':Int) else V.int (lv z))=dV (os.take (i+1)) fun x=>V.int (lvU lv u k' x):=by
     rw[tk];refine zbe fun z _=>?_
     unfold lvU;split<;>rfl
    rw[ed];have q7:Same H1 (upd H6 pn (.dK (dV (os.take (i+1)) fun x=>V.int (lvU lv u k' x)))):=(q5.trans t6).upd hpn;have hq7:upd H6 pn (.dK (dV (os.take (i+1)) fun x=>V.int (lvU lv u k' x))) q=some (.lst (os.map V.str)):=by rw[zo (al26q nqn)];exact t6 _ _ hq5
    have hr7:upd H6 pn (.dK (dV (os.take (i+1)) fun x=>V.int (lvU lv u k' x))) pr=some (.lst (cs.map V.ref)):=by rw[zo (al26q npr)];exact hr6
    have hn7:upd H6 pn (.dK (dV (os.take (i+1)) fun x=>V.int (lvU lv u k' x))) pn=some (.dK (dV (os.take (i+1)) fun x=>V.int (lvU lv u k' x))):=zf;have ch7:∀(j:Nat) c,cs[j]? = some c->upd H6 pn (.dK (dV (os.take (i+1)) fun x=>V.int (lvU lv u k' x))) c=some (.lst (((os.take i).filter (rowB lv j)).map V.str)):=fun j c e=>by
     rw[zo (cf c (al6q e)).2.1];exact t6 _ _ (ch j c e)
    generalize upd H6 pn (.dK (dV (os.take (i+1)) fun x=>V.int (lvU lv u k' x)))=H7 at q7 hq7 hr7 hn7 ch7
    try dsimp only
    unfold tSeq;refine zp4 (fun σ' H'=>∃(cs':List ty1q),σ' = [some (.ref p),some (.ref pd),some (.ref pn),some (.ref pr),some (.str u),some (.int k')]/\Same H1 H'/\H' q=some (.lst (os.map V.str))/\
      H' pn=some (.dK (dV (os.take (i+1)) fun x=>V.int (lvU lv u k' x)))/\H' pr=some (.lst (cs'.map V.ref))/\cs'.length<=i+1/\cs'.Nodup/\(∀c∈cs',H1 c=none/\c≠pn/\c≠pr/\c≠q)/\
      (∀(j:Nat) c,cs'[j]? = some c->H' c=some (.lst (((os.take i).filter (rowB lv j)).map V.str)))/\k'<cs'.length/\cs'.length=if k'=cs.length then cs.length+1 else cs.length) (decide (k'=cs.length)) (fun Q' hQ=>?_) (fun e hn=>?_) (fun e hn=>?_) ?_
    ·refine⟨_,rfl,_,rfl,pr,_,rfl,.inl (SqL.of hr7),rfl,_,rfl,?_⟩;have e:decide (V.int (k':Int)=V.int ((cs.map V.ref).length:Int))=decide (k'=cs.length):=by
      rw[al120q,al0q];constructor
      ·intro z;injection z with z;lia
      ·intro z;rw[z]
     rw[e];exact hQ
    ·have e:=al16q e;refine⟨_,rfl,.inl ⟨rfl,_,SqL.of hr7⟩,by decide,fun q0 hq0=>?_⟩;have t0:=Same.new (o:=.lst []) hq0;refine⟨pr,_,_,rfl,rfl,t0 _ _ hr7,by rw[al0q];exact zz (by lia),?_⟩;have fq0:H1 q0=none:=q7.free hq0;have fp0:H1 pr=none:=fpr;have mp:=al15q (f:=V.ref) (l₁:=cs) (l₂:=[q0]);have nr0:pr≠q0:=zq hr7 hq0;refine hn _ _ ⟨cs++[q0],rfl,(q7.trans t0).upd fp0,?_,?_,by rw[zf,mp];rfl,by rw[al18q];show cs.length+1<=_;lia,?_,fun c hc=>?_,fun j c hc=>?_,by rw[al18q];show _<cs.length+1;lia,by rw[al12q e,al18q];rfl⟩
     ·rw[zo (al26q nqr)];exact t0 _ _ hq7
     ·rw[zo npr];exact t0 _ _ hn7
     ·rw[al102q];refine⟨cn,by simp,fun a ha b hb z=>?_⟩;have hb:b=q0:=by simpa using hb
      subst hb;subst z;obtain⟨j,hj⟩:=al29q.mp ha;have:=ch7 j _ hj;rw[hq0] at this;cases this
     ·rcases al25q.mp hc with hc | hc
      ·exact cf c hc
      ·have hc:c=q0:=by simpa using hc
       subst hc;exact⟨fq0,al26q (zq hn7 hq0),al26q nr0,al26q (zq hq7 hq0)⟩
     ·by_cases hj:j<cs.length
      ·rw[al47q hj] at hc;rw[zo (cf c (al6q hc)).2.2.1];exact t0 _ _ (ch7 j c hc)
      ·rw[al50q (by lia)] at hc;have hj2:j=cs.length:=by
        have:=zaj hc;have:j-cs.length<1:=this;lia
       subst hj2;simp at hc;subst hc;rw[zo (al26q nr0),zf,L.row_nil (al13q _)];rfl
    ·have e:=al89q e;exact hn _ _ ⟨cs,rfl,q7,hq7,hn7,hr7,by lia,cn,cf,ch7,by lia,by rw[al8q e]⟩
    ·rintro σ' H8 ⟨cs',rfl,q8,hq8,hn8,hr8,cl8,cn8,cf8,ch8,kc,ec⟩;have hk':cs'[k']? = some cs'[k']:=al1q kc;have hc:=ch8 k' _ hk';generalize cs'[k']=c at hk' hc;have hcm:=cf8 c (al6q hk');refine⟨_,rfl,_,rfl,pr,_,_,.ref c,rfl,rfl,SqL.of hr8,za2 (by rw[al4q,hk'];rfl),.inl ⟨rfl,_,SqL.of hc⟩,_,rfl,c,_,_,rfl,rfl,hc,?_,?_⟩
     ·rw[al0q];exact zz (by have:=al59q (rowB lv k') (os.take i);lia)
     refine⟨_,_,cs',lvU lv u k',rfl,q8.upd hcm.1,?_,?_,?_,cl8,cn8,cf8,fun j d hd=>?_,?_⟩
     ·rw[zo (al26q hcm.2.2.2)];exact hq8
     ·rw[zo (al26q hcm.2.1)];exact hn8
     ·rw[zo (al26q hcm.2.2.1)];exact hr8
     ·rw[tk,zp3 hul]
      by_cases e:k'=j
      ·subst e;rw[hk'] at hd;cases hd;rw[zf,al12q rfl,al15q];rfl
      ·rw[al8q e,al62q,zo (fun z=>e (zu5 cn8 hk' (by rw[←z];exact hd)))];exact ch8 j d hd
     ·rw[tk,ec];exact L'
  ·rintro σ H5 ⟨v4,v5,cs,lv,rfl,q5,hq5,hn5,hr5,cl,cn,cf,ch,L⟩;rw[al0q,al22q] at ch L;rw[al0q] at cl;have Lk:=L.mem fun x=>pm.mem_iff
   try dsimp only [zw]
   refine⟨_,rfl,pr,rfl,⟨_,SqL.of hr5⟩,fun D hD=>?_⟩;refine zbd (zb1 (K:=K) (a:=pr) (xs:=cs.map V.ref)) (fun i' σ' ys H'=>∃(w0:Option V) (ds:List ty1q),σ' = [w0]/\ys=ds.map V.ref/\ds.length=i'/\Same H5 H'/\H' D=some (.lst ys)/\ds.Nodup/\(∀d∈ds,H5 d=none/\d≠D)/\∀(j:Nat) d,ds[j]? = some d->H' d=some (.lst ((keys.filter (rowB lv j)).map V.str)))
    ⟨none,[],rfl,rfl,rfl,Same.new hD,zf,by simp,by simp,by simp⟩ (fun i' σ' ys H' h=>?_) (by rw[al0q];exact zar (by lia)) ?_ ?_
   ·obtain⟨_,_,_,rfl,dl,q,hd,_⟩:=h;refine⟨SqL.of (q _ _ hr5),hd,?_⟩;rw[al0q];lia
   ·rintro i' v σ' ys H6 hx ⟨w0,ds,rfl,rfl,dl,q,hd,dn,df,dh⟩;have hix:=zaj hx;rw[al4q] at hx;cases ec:cs[i']? with
    | none=>rw[ec] at hx;cases hx
    | some c=>
     rw[ec] at hx;cases hx;have hc:=q _ _ (ch i' c ec)
     try dsimp only [zw]
     unfold tYes;dsimp only;rw[al12q rfl];refine⟨_,rfl,c,os.filter (rowB lv i'),rfl,SqL.of hc,by have:=al59q (rowB lv i') os;lia,fun d ms hd' pm' rs=>?_⟩;have em:=zka pm' rs;subst em;rw[zlc pm kl];have t1:=Same.new (o:=.lst ((keys.filter (rowB lv i')).map V.str)) hd';have nd:D≠d:=zq hd hd';refine⟨t1 _ _ hd,zcl hix ⟨_,ds++[d],rfl,by rw[al15q];rfl,by rw[al18q];show ds.length+1=_;lia,(q.trans t1).upd hD,by rw[zf],?_,fun b hb=>?_,fun j b hb=>?_⟩⟩
     ·rw[al102q];refine⟨dn,by simp,fun a ha b hb z=>?_⟩;have hb:b=d:=by simpa using hb
      subst hb;subst z;obtain⟨j,hj⟩:=al29q.mp ha;have:=dh j _ hj;rw[hd'] at this;cases this
     ·rcases al25q.mp hb with hb | hb
      ·exact df b hb
      ·have hb:b=d:=by simpa using hb
       subst hb;exact⟨q.free hd',al26q nd⟩
     ·by_cases hj:j<ds.length
      ·rw[al47q hj] at hb;rw[zo (df b (al6q hb)).2];exact t1 _ _ (dh j b hb)
      ·rw[al50q (by lia)] at hb;have hj2:j=ds.length:=by
        have:=zaj hb;have:j-ds.length<1:=this;lia
       subst hj2;simp at hb;subst hb;rw[zo (al26q nd),zf,dl]
   rintro σ' ys H6 ⟨w0,ds,rfl,rfl,dl,q,hd,dn,df,dh⟩;rw[al0q] at dl;have f5:=s1.trans q5;refine k D ds lv H6 (f5.trans q) (f5.free hD) hd (by lia) dn (fun c hc=>⟨f5.free (df c hc).1,(df c hc).2⟩) dh ?_;rw[dl];exact Lk
inductive sp_gap' (vs:List V) (H:Hp) (Q:VK):Prop
 | mk (r:ty1q) (t:Tie) (us:List Str) (_:vs = [.ref r]) (_:H r=some (.tup (tieV t))) (_:TOk us t) (_:∀H',Same H H'->Q (.int (zaa t)) H')
def zvz:Sp:=fun vs H Q _=>sp_gap' vs H Q
theorem zkn (T:Tx K mg w zr zv zi):Has P w K mg base "gap_of" ["tie"] 1 zvz:=by
 refine T.zq5.has zow (fun vs H Q E h=>?_) (fun f cdv A outer s H vs Q E hr h=>?_)
 ·obtain⟨r,t,us,rfl,_⟩:=h;rfl
 ·obtain⟨r,t,us,rfl,hr,tok,k⟩:=h;refine⟨_,(zm (zae (zph (zad zck (pix (zx K rfl) (pv 0) zj) zba (zah _)) (pix (zx K rfl) (pv 0) zj) zj))),?_⟩;refine⟨_,rfl,r,_,_,_,rfl,rfl,SqT.of hr,zne t,rfl,_,rfl,?_⟩;refine ite2 (fun c=>?_) (fun c=>?_)
  ·have c:t.k=zpy:=V.str.inj (al16q c);exact⟨_,rfl,r,_,_,_,rfl,rfl,SqT.of hr,tok.after c,k _ (Same.refl _)⟩
  ·have c:¬t.k=zpy:=fun z=>c (al10q (al61q V.str z))
   have:=k _ (Same.refl H);rw[tok.plain c] at this;exact this
inductive sp_within' (vs:List V) (H:Hp) (Q:VK):Prop
 | mk (p pm pu pt pf:ty1q) (lo hi:Int) (us:List Str) (ads:List ty1q) (ts:List Tie) (af:List ty1q) (fs:List Fnd) (_:vs = [.ref p]) (_:TelF K H p pm pu pt pf lo hi us ads ts af fs) (_:∀(pd:ty1q) (ob:Obj) (ad:Str->ty1q) (H':Hp),Same H H'->H pd=none->Fw H' pd ob (zn ts (srt us)) (fwOf ts (fs.zip af)) ad->Q (.ref pd) H')
def zo1:Sp:=fun vs H Q _=>sp_within' (K:=K) vs H Q
theorem zc3 (T:Tx K mg w zr zv zi):Has P w K mg base "finds_within" ["telling"] 4 (zo1 (K:=K)):=by
 refine T.zfr.has sc_finds_within (fun vs H Q E h=>?_) (fun f cdv A outer s H vs Q E hr h=>?_)
 ·obtain⟨p,pm,pu,pt,pf,lo,hi,us,ads,ts,af,fs,rfl,_⟩:=h;rfl
 ·obtain⟨p,pm,pu,pt,pf,lo,hi,us,ads,ts,af,fs,rfl,hF,k⟩:=h;have hu:=zbw hr;refine⟨_,(zg (sset (i:=1) sc_finds_within.nd (pfn (zcf T) (zc (pix (zx K rfl) (pv 0) zj) (zc (pix (zx K rfl) (pv 0) zj) zh))))
   (zg (sset (i:=2) sc_finds_within.nd za8)
   (zg (zaw al30q rfl (zai K rfl (pfn (zrz T) (zc (pix (zx K rfl) (pv 0) zj) (zc (pix (zx K rfl) (pv 0) zj) zh)))) (gnm (i:=3) sc_finds_within.nd) (zm (zbg hu (pv 2) (pix (zab K rfl) (pv 3) zj) (zao zh) rfl)))
   (zg (zaw al30q rfl (zai K rfl (pix (zx K rfl) (pv 0) zj)) (gnm (i:=4) sc_finds_within.nd) (zm (za7 (zcp K rfl PySem.F.plainAttrs_list PySem.F.slot_list_append PySem.F.type_list_append zbc (zy hu (pv 2) (zy hu (pv 1) (pix (zx K rfl) (pv 4) zj) (fun _ _=>rfl)) (fun _ _=>rfl)) (zc (pv 4) zh)))))
   (zm (zd3 (zae (pv 2)))))))),?_⟩
  have hts:=hF.tel.ends;have hfl:=hF.flen;have fl60:=hF.fl;have hfu:=hF.fu;have hff:=hF.f;have hft:=hF.ft;obtain⟨hp,hu1,ht1,tp,nd,hl,tl,_⟩:=hF.tel;have hlen:ads.length=ts.length:=by have:=tp.len;rw[al0q] at this;exact this
  refine⟨_,rfl,p,_,_,_,rfl,rfl,hp,rfl,_,rfl,p,_,_,_,rfl,rfl,hp,rfl,pu,pt,us,ads,ts,rfl,hu1,ht1,tp,nd,by lia,hts,fun pn H1 fpn hn s1=>?_⟩
  try dsimp only [zw]
  refine fun pd hpd=>?_
  have s2:=Same.new (o:=.dK []) hpd;have q2:=s1.trans s2;refine⟨_,rfl,p,_,_,_,rfl,rfl,q2.tup hp,rfl,_,rfl,p,_,_,_,rfl,rfl,q2.tup hp,rfl,pu,pt,us,ads,ts,rfl,q2.seq hu1,q2.seq ht1,tp.same q2,nd,hl,hts,fun po as H3 fpo fas npo asnd hpo hls s3=>?_⟩;have hn3:=s3 _ _ (s2 _ _ hn);have hd3:=s3 _ _ (zf (H:=H1) (a:=pd) (o:=.dK []));have q3:=q2.trans s3;have fpd:H pd=none:=s1.free hpd;have npd:pn≠pd:=zq hn hpd;have lk:as.length=(zn ts (srt us)).length:=by have:=Paired.length hls;unfold zch at this;rw[al0q] at this;exact this
  have lk63:(zn ts (srt us)).length<=63:=by
   have:=zgp (us:=us) (ts:=ts) nd;unfold zch at this;rw[al0q] at this;lia
  have hz:∀{i:Nat}{f:Fnd}{r:ty1q},fs[i]? = some f->af[i]? = some r->(fs.zip af)[i]? = some (f,r):=fun h1 h2=>al45q.mpr ⟨h1,h2⟩
  generalize ek:zn ts (srt us)=keys at lk lk63 k;have knd:keys.Nodup:=ek▸zav nd;have hgs:zch us ts=keys.map (zcm ts (srt us)):=by unfold zch;rw[ek]
  refine⟨po,rfl,⟨_,SqL.of hpo⟩,zat (xs:=as.map V.ref) (fun i σ H'=>∃(v3:Option V) (ad:Str->ty1q),σ = [some (.ref p),some (.ref pn),some (.ref pd),v3,none]/\(∀b o,b≠pd->H3 b=some o->H' b=some o)/\
   H' pd=some (.dK (dV (keys.take i) fun k=>.ref (ad k)))/\(∀k∈keys.take i,H' (ad k)=some (.lst [])/\H3 (ad k)=none)/\(∀k∈keys.take i,∀k'∈keys.take i,ad k=ad k'->k=k'))
   ⟨none,fun _=>0,rfl,fun b o _ e=>e,hd3,(fun k hk=>by simp at hk),fun k hk=>by simp at hk⟩ (fun i σ H' _ h=>by obtain⟨_,_,_,q,_⟩:=h;exact SqL.of (q _ _ (zcx hpo hd3 (by simp)) hpo)) ?_ ?_⟩
  ·rintro i v σ H4 hx ⟨v3,ad,rfl,kp,hd4,hk4,inj⟩;obtain⟨r,g,rfl,hg,har,hr⟩:=zbj hls hx;rw[hgs,al4q] at hg;cases eu:keys[i]? with
   | none=>rw[eu] at hg;cases hg
   | some u=>
    rw[eu] at hg;cases hg;have hu':u∈keys:=al6q eu;have hi:=zaj eu;have hfr:u ∉ keys.take i:=by
     have:=za3 knd i hi;rw[show keys[i]=u from (al3q.mp eu).2] at this;exact this
    obtain⟨gr,egr⟩:=zkd (us:=us) (ts:=ts) nd (k:=u) (ek▸hu');rw[egr] at hr;have hr4:=kp _ _ (zcx hr hd3 (by simp)) hr
    try dsimp only [zw]
    refine⟨by decide,fun q0 hq0=>?_⟩;have t0:=Same.new (o:=.lst []) hq0;have hd5:=t0 _ _ hd4;have nq:pd≠q0:=zq hd4 hq0;refine⟨_,rfl,_,rfl,r,_,_,_,rfl,rfl,SqL.of (t0 _ _ hr4),ziv,pd,_,rfl,DPut.k (k:=Sum.inr u) hd5 (by rw[zas,al28q];exact zz (by lia)),?_⟩;have fq:H3 q0=none:=by
     cases e:H3 q0 with
     | none=>rfl
     | some o=>rw[kp _ _ (al26q nq) e] at hq0;cases hq0
    refine⟨_,fun z=>if z=u then q0 else ad z,rfl,fun b o n e=>by rw[zo n];exact t0 _ _ (kp b o n e),?_,?_,?_⟩
    ·rw[zf,zc2 hfr,al9q,eu]
     congr 2
     refine zbe fun z hz=>?_
     dsimp only
     by_cases e:z=u
     ·rw[al12q e,al12q e]
     ·rw[al8q e,al8q e]
    ·intro k hk;rw[al9q,eu,al25q] at hk;dsimp only
     by_cases e:k=u
     ·rw[al12q e];exact⟨by rw[zo (al26q nq),zf],fq⟩
     ·rw[al8q e];have hk':k∈keys.take i:=hk.elim id fun z=>absurd (by simpa using z) e
      obtain⟨h1,h2⟩:=hk4 k hk';refine⟨?_,h2⟩;rw[zo (fun z=>by rw[z,hd4] at h1;cases h1)];exact t0 _ _ h1
    ·intro k hk k' hk' e;rw[al9q,eu,al25q] at hk hk';dsimp only at e
     by_cases c1:k=u<;>by_cases c2:k'=u
     ·rw[c1,c2]
     ·rw[al12q c1,al8q c2] at e;have h2:=(hk4 k' (hk'.elim id fun z=>absurd (by simpa using z) c2)).1;rw[←e,hq0] at h2;cases h2
     ·rw[al8q c1,al12q c2] at e;have h2:=(hk4 k (hk.elim id fun z=>absurd (by simpa using z) c1)).1;rw[e,hq0] at h2;cases h2
     ·rw[al8q c1,al8q c2] at e;exact inj k (hk.elim id fun z=>absurd (by simpa using z) c1) k' (hk'.elim id fun z=>absurd (by simpa using z) c2) e
  ·rintro σ H4 ⟨v3,ad,rfl,kp,hd4,hk4,inj⟩;rw[al0q,lk,al22q] at hd4 hk4 inj;have sq4:∀{H':Hp},(∀b o,b≠pd->H3 b=some o->H' b=some o)->Same H H':=fun kp' b o e=>kp' b o (zq e fpd) (q3 _ _ e)
   have q4:=sq4 kp;refine⟨_,rfl,p,_,_,_,rfl,rfl,q4.tup hp,rfl,pf,rfl,⟨_,q4.seq hff⟩,zat (xs:=af.map V.ref) (fun i σ H'=>∃(v4:Option V),σ = [some (.ref p),some (.ref pn),some (.ref pd),v3,v4]/\(∀b o,b≠pd->H3 b=some o->H' b=some o)/\
    H' pd=some (.dK (dV keys fun k=>.ref (ad k)))/\∀k∈keys,H' (ad k)=some (.lst ((fwOf ts ((fs.zip af).take i) k).map fun p=>V.ref p.2)))
    ⟨none,rfl,kp,hd4,fun k hk=>by rw[al179q];exact (hk4 k hk).1⟩ (fun i σ H' _ h=>by obtain⟨_,_,q,_⟩:=h;exact (sq4 q).seq hff) ?_ ?_⟩
   ·rintro i x σ H5 hx ⟨v4,rfl,kp5,hd5,hb5⟩;obtain⟨r,f,rfl,hf,har,hr⟩:=ziw hft hx;have q5:=sq4 kp5;have hr5:=q5 _ _ hr;have hab:=hfu f (al6q hf);have hit:=zaj hf;have hzi:=hz hf har;have g1:=DGet.k (k:=Sum.inr f.u) (kp5 _ _ npd hn3);rw[zc1 hab] at g1;have hka:labs ts f.u∈keys:=ek▸zcb hts hab;have g3:=DGet.k (k:=Sum.inr (labs ts f.u)) hd5;rw[zbk hka] at g3;have hb1:=hb5 _ hka;have lb:(fwOf ts ((fs.zip af).take i) (labs ts f.u)).length<=60:=by
     have h2:=zns (ts:=ts) (z:=(fs.zip af).take i) (k:=labs ts f.u);rw[al28q,al78q] at h2;lia
    try dsimp only [zw]
    refine⟨_,rfl,_,rfl,_,rfl,r,_,_,_,rfl,rfl,SqT.of hr5,zu7 f,pn,_,rfl,g1,pd,_,rfl,g3,?_⟩;refine⟨.inl ⟨rfl,_,SqL.of hb1⟩,_,rfl,ad (labs ts f.u),_,_,rfl,rfl,hb1,by rw[al0q];exact zz (by lia),?_⟩;refine⟨_,rfl,fun b o n e=>?_,?_,fun k hk=>?_⟩
    ·rw[zo (fun z=>by rw[z,(hk4 _ hka).2] at e;cases e)];exact kp5 b o n e
    ·rw[zo (fun z=>by rw[←z,hd5] at hb1;cases hb1)];exact hd5
    ·rw[zsv hzi]
     by_cases e:labs ts f.u=k
     ·subst e;rw[al12q rfl,zf,al15q];rfl
     ·rw[al8q e,al62q,zo (fun z=>e (inj _ hka _ hk z.symm))];exact hb5 k hk
   ·rintro σ H5 ⟨v4,rfl,kp5,hd5,hb5⟩;rw[al0q] at hb5;have ez:(fs.zip af).take af.length=fs.zip af:=al52q (by rw[al78q];lia);rw[ez] at hb5;refine .inr ⟨pd,_,hd5,fun ob=>⟨_,rfl,k pd ob ad _ ?_ fpd ⟨zf,fun k hk=>?_⟩⟩⟩
    ·exact (sq4 kp5).upd fpd
    ·have b1:=hb5 k hk;rw[zo (fun z=>by rw[z,hd5] at b1;cases b1)];exact b1
inductive sp_floors' (vs:List V) (H:Hp) (Q:VK):Prop
 | mk (p pm pu pt pf:ty1q) (lo hi:Int) (us:List Str) (ads:List ty1q) (ts:List Tie) (af:List ty1q) (fs:List Fnd) (_:vs = [.ref p]) (_:TelF K H p pm pu pt pf lo hi us ads ts af fs) (_:∀(pd:ty1q) (ob:Obj) (v:Str->IS) (ad:Str->ty1q) (H':Hp),Same H H'->H pd=none->Bd H' pd ob (zn ts (srt us)) v ad->(∀k∈zn ts (srt us),MaxP (loL lo (fwOf ts (fs.zip af) k)) (v k))->Q (.ref pd) H')
def zo2:Sp:=fun vs H Q _=>sp_floors' (K:=K) vs H Q
theorem zko (T:Tx K mg w zr zv zi):Has P w K mg base "floors" ["telling"] 5 (zo2 (K:=K)):=by
 refine T.zq6.has sc_floors (fun vs H Q E h=>?_) (fun f cdv A outer s H vs Q E hr h=>?_)
 ·obtain⟨p,pm,pu,pt,pf,lo,hi,us,ads,ts,af,fs,rfl,_⟩:=h;rfl
 ·obtain⟨p,pm,pu,pt,pf,lo,hi,us,ads,ts,af,fs,rfl,hF,k⟩:=h;have hu:=zbw hr;refine⟨_,(zg (sset (i:=1) sc_floors.nd (pfn (zc3 T) (zc (pv 0) zh)))
   (zg (sset (i:=2) sc_floors.nd za8)
   (zg (zaw al30q rfl (zb5 (pv 1)) (gnm (i:=3) sc_floors.nd) (zm (zbg hu (pv 2) (pv 3) (zac (znp (K:=K) rfl rfl hu) (by rfl) T.max PyProof.Rows.boot_max (zc (zan zfy (zao (zc (zax (zc (pix (zx K rfl) (pix (zx K rfl) (pv 0) zj) zj) (zc zba zh))) zh)) (zbx (own:=["find"]) (cap:=[]) (ix:=[]) (osc:=zp (top 19)) rfl ⟨rfl,by decide +kernel,by decide +kernel,by decide +kernel,by decide +kernel⟩ rfl (zai K rfl (zy hu (pv 1) (pv 3) (fun _ _=>rfl))) (fun _ _ _ _=>zbb (i:=0) (show List.Nodup (["find"]:List Str) by decide +kernel) rfl (Or.inl rfl)) (fun _ _ _ _=>zbp) (fun _ _ _ _=>(zax (zc (pix (zx K rfl) (pv 0) zj) (zc (pix (zx K rfl) (pv 0) zj) zh)))))) zh)) rfl)))
   (zm (zd3 (zae (pv 2))))))),?_⟩
  have nd:=hF.tel.nd;have lk:=hF.tel.klen;have fl60:=hF.fl;have hft:=hF.ft;refine⟨_,rfl,p,pm,pu,pt,pf,lo,hi,us,ads,ts,af,fs,rfl,hF,fun pw ow aw H1 s1 fpw hW=>?_⟩;have knd:=zav (ts:=ts) nd;have fwl:∀k,(fwOf ts (fs.zip af) k).length<=60:=fun k=>by
   have h2:=zns (ts:=ts) (z:=fs.zip af) (k:=k);rw[al78q] at h2;lia
  have fwt:∀k,∀q∈fwOf ts (fs.zip af) k,H q.2=some (.tup (fndV q.1)):=fun k q hq=>by
   have:=(al43q.mp hq).1;obtain⟨i,hi⟩:=al29q.mp this;obtain⟨h1,h2⟩:=al45q.mp hi;exact zaf hft h2 (by rw[al4q,h1];rfl)
  generalize zn ts (srt us)=keys at hW lk k knd;generalize fwOf ts (fs.zip af)=fw at hW k fwl fwt
  try dsimp only [zw]
  refine fun pd hpd=>?_
  have s2:=Same.new (o:=.dK []) hpd;refine⟨_,rfl,pw,ow,_,rfl,s2 _ _ hW.d,zcc (fun i σ H'=>∃(v3:Option V) (v:Str->IS) (ad:Str->ty1q),σ = [some (.ref p),some (.ref pw),some (.ref pd),v3]/\Same H1 H'/\H' pd=some (.dK (dV (keys.take i) fun k=>.ref (ad k)))/\
    ∀k∈keys.take i,H' (ad k)=some (.tup [.int (v k).1,.str (v k).2])/\MaxP (loL lo (fw k)) (v k))
   ⟨none,fun _=>(0,""),fun _=>0,rfl,s2,zf,fun k hk=>by simp at hk⟩ (fun i σ H' _ h=>by obtain⟨_,_,_,_,q,_⟩:=h;exact q _ _ hW.d) ?_ ?_⟩
  ·rintro i kk vv σ H3 hx ⟨v3,v,ad,rfl,q3,hd3,hk3⟩;obtain⟨u,hu',rfl,_⟩:=zi1 hx;have huk:u∈keys:=al6q hu';have F3:=hF.same (s1.trans q3);have W3:=hW.same q3
   try dsimp only [zw]
   refine⟨_,rfl,p,_,_,_,rfl,rfl,F3.tel.p,rfl,pm,_,_,_,rfl,rfl,F3.m,rfl,(by show 2<=sizeLine;decide),fun b0 hb0=>?_⟩;have t1:=Same.new (o:=.tup [.int lo,.str ""]) hb0;refine⟨by show 1<=sizeLine;decide,fun l0 hl0=>?_⟩;have t2:=Same.new (o:=.lst [.ref b0]) hl0;have q5:=q3.trans (t1.trans t2);have hb5:=t2 _ _ (zf (H:=H3) (a:=b0) (o:=.tup [.int lo,.str ""]));have hl5:upd (upd H3 b0 (.tup [.int lo,.str ""])) l0 (.lst [.ref b0]) l0=some (.lst [.ref b0]):=zf;have e35:=t1.trans t2;generalize upd (upd H3 b0 (.tup [.int lo,.str ""])) l0 (.lst [.ref b0])=H5 at q5 hb5 hl5 t2 e35;have W5:=hW.same q5;have lL:=fwl u;have tL:=fwt u;have hlW:=W5.l u huk;generalize eL:fw u=L at lL tL hlW;refine⟨_,rfl,_,rfl,pw,_,rfl,zbh W5.d huk,aw u,rfl,⟨_,SqL.of hlW⟩,fun D hD=>?_⟩;refine zbd (zb1 (K:=K) (a:=aw u) (xs:=L.map fun p=>V.ref p.2)) (fun i' σ' ys H'=>∃(w0:Option V) (bs:List ty1q),σ' = [w0]/\ys=bs.map V.ref/\Paired (fun a (p:IS)=>H' a=some (.tup [.int p.1,.str p.2])) bs ((L.take i').map fun p=>(p.1.lo,p.1.n))/\Same H5 H'/\H' D=some (.lst ys))
    ⟨none,[],rfl,rfl,.nil,Same.new hD,zf⟩ (fun i' σ' ys H' h=>?_) (by rw[al0q];exact zar (by lia)) ?_ ?_
   ·obtain⟨_,bs,_,rfl,pb,q,hd⟩:=h;refine⟨SqL.of (q _ _ hlW),hd,?_⟩;have:=Paired.length pb;rw[al0q,al28q] at this;rw[al0q];lia
   ·rintro i' v' σ' ys H' hx ⟨w0,bs,rfl,rfl,pb,q,hd⟩;have hix:=zaj hx;rw[al4q] at hx;cases ef:L[i']? with
    | none=>rw[ef] at hx;cases hx
    | some f=>
     rw[ef] at hx;cases hx;have hf:=q _ _ (q5 _ _ (s1 _ _ (tL f (al6q ef))))
     try dsimp only [zw]
     unfold tYes;dsimp only;rw[al12q rfl];refine⟨_,rfl,f.2,_,_,_,rfl,rfl,SqT.of hf,zu8 f.1,_,rfl,f.2,_,_,_,rfl,rfl,SqT.of hf,zrl f.1,(by show 2<=sizeLine;decide),fun b1 hb1=>?_⟩;have w1:=Same.new (o:=.tup [.int f.1.lo,.str f.1.n]) hb1;have hd1:=w1 _ _ hd;refine⟨hd1,zcl hix ⟨_,bs++[b1],rfl,by rw[al15q];rfl,?_,(q.trans w1).upd hD,zf⟩⟩;rw[al9q,ef,al15q];exact Paired.snoc (Paired.mapP pb fun a z e=>za1 hd1 _ _ (w1 _ _ e)) (za1 hd1 _ _ zf)
   rintro σ' ys H6 ⟨w0,bs,rfl,rfl,pb,t6,hd6⟩;rw[al0q,al22q] at pb;have lb:=Paired.length pb;rw[al0q] at lb;have hl6:=t6 _ _ hl5;refine⟨l0,D,_,_,rfl,rfl,hl6,hd6,by rw[al0q];exact zar (show 1+_<=1000 by lia),fun l hl=>?_⟩;have t7:=Same.new (o:=.lst ([V.ref b0]++bs.map V.ref)) hl;have pr:Paired (fun a (p:IS)=>H6 a=some (.tup [.int p.1,.str p.2])) (b0::bs) (loL lo L):=.cons (t6 _ _ hb5) pb;have pr7:=Paired.mapP pr fun a z e=>t7 _ _ e
   refine⟨l,b0::bs,loL lo L,rfl,SqL.of zf,Paired.mapP pr7 fun a z e=>SqT.of e,by unfold loL;simp,fun j a m ha hm hmax=>?_⟩;have ham:=zaf pr7 ha hm;have q7:=q5.trans (t6.trans t7);have e37:=e35.trans (t6.trans t7);have hd7:=e37 _ _ hd3;have hfr:u ∉ keys.take i:=by
    have hi:=zaj hu';have:=za3 knd i hi;rw[show keys[i]=u from (al3q.mp hu').2] at this;exact this
   refine⟨_,rfl,_,rfl,pd,_,rfl,DPut.k (k:=Sum.inr u) hd7 (by rw[zas,al28q];exact zz (by lia)),?_⟩;have tst:∀b vs,upd H6 l (.lst ([V.ref b0]++bs.map V.ref)) b=some (.tup vs)->upd (upd H6 l (.lst ([V.ref b0]++bs.map V.ref))) pd (.dK (putK (dV (keys.take i) fun k=>.ref (ad k)) (Sum.inr u) (.ref a))) b=some (.tup vs):=fun b vs e=>by
    rw[zo (zcx e hd7 (by intro z;cases z))];exact e
   refine⟨_,fun z=>if z=u then m else v z,fun z=>if z=u then a else ad z,rfl,q7.upd hpd,?_,fun k hk=>?_⟩
   ·rw[zf,zc2 hfr,al9q,hu']
    congr 2
    refine zbe fun z hz=>?_
    try dsimp only
    by_cases e:z=u
    ·rw[al12q e,al12q e]
    ·rw[al8q e,al8q e]
   ·rw[al9q,hu',al25q] at hk
    try dsimp only
    by_cases e:k=u
    ·rw[al12q e,al12q e];refine⟨tst _ _ ham,?_⟩;rw[e,eL];exact⟨al6q hm,hmax⟩
    ·rw[al8q e,al8q e];obtain⟨h1,h2⟩:=hk3 k (hk.elim id fun z=>absurd (by simpa using z) e);exact⟨tst _ _ (e37 _ _ h1),h2⟩
  ·rintro σ H3 ⟨v3,v,ad,rfl,q3,hd3,hk3⟩;rw[zas,al22q] at hd3 hk3;refine .inr ⟨pd,_,hd3,fun ob=>⟨_,rfl,k pd ob v ad _ ((s1.trans q3).upd (s1.free hpd)) (s1.free hpd) ⟨zf,fun k hk=>?_⟩ fun k hk=>(hk3 k hk).2⟩⟩;have b1:=(hk3 k hk).1;rw[zo (fun z=>by rw[z,hd3] at b1;cases b1)];exact b1
inductive sp_ceil' (vs:List V) (H:Hp) (Q:VK):Prop
 | mk (p pm pu pt pf:ty1q) (lo hi:Int) (us:List Str) (ads:List ty1q) (ts:List Tie) (af:List ty1q) (fs:List Fnd) (_:vs = [.ref p]) (_:TelF K H p pm pu pt pf lo hi us ads ts af fs) (_:∀(pd:ty1q) (ob:Obj) (v:Str->IS) (ad:Str->ty1q) (H':Hp),Same H H'->H pd=none->Bd H' pd ob (zn ts (srt us)) v ad->(∀k∈zn ts (srt us),MinP (hiL hi (fwOf ts (fs.zip af) k)) (v k))->Q (.ref pd) H')
def ztq:Sp:=fun vs H Q _=>sp_ceil' (K:=K) vs H Q
theorem zf9 (T:Tx K mg w zr zv zi):Has P w K mg base "ceilings" ["telling"] 5 (ztq (K:=K)):=by
 refine T.zl4.has sc_ceilings (fun vs H Q E h=>?_) (fun f cdv A outer s H vs Q E hr h=>?_)
 ·obtain⟨p,pm,pu,pt,pf,lo,hi,us,ads,ts,af,fs,rfl,_⟩:=h;rfl
 ·obtain⟨p,pm,pu,pt,pf,lo,hi,us,ads,ts,af,fs,rfl,hF,k⟩:=h;have hu:=zbw hr;refine⟨_,(zg (sset (i:=1) sc_ceilings.nd (pfn (zc3 T) (zc (pv 0) zh)))
   (zg (sset (i:=2) sc_ceilings.nd za8)
   (zg (zaw al30q rfl (zb5 (pv 1)) (gnm (i:=3) sc_ceilings.nd) (zm (zbg hu (pv 2) (pv 3) (zac (znr (K:=K) rfl rfl hu) (by rfl) T.min PyProof.Rows.boot_min (zc (zan zfy (zao (zc (zax (zc (pix (zx K rfl) (pix (zx K rfl) (pv 0) zj) zj) (zc zba zh))) zh)) (zbx (own:=["find"]) (cap:=[]) (ix:=[]) (osc:=zp (top 20)) rfl ⟨rfl,by decide +kernel,by decide +kernel,by decide +kernel,by decide +kernel⟩ rfl (zai K rfl (zy hu (pv 1) (pv 3) (fun _ _=>rfl))) (fun _ _ _ _=>zbb (i:=0) (show List.Nodup (["find"]:List Str) by decide +kernel) rfl (Or.inl rfl)) (fun _ _ _ _=>zbp) (fun _ _ _ _=>(zax (zc (pix (zx K rfl) (pv 0) zj) (zc (pix (zx K rfl) (pv 0) zj) zh)))))) zh)) rfl)))
   (zm (zd3 (zae (pv 2))))))),?_⟩
  have nd:=hF.tel.nd;have lk:=hF.tel.klen;have fl60:=hF.fl;have hft:=hF.ft;refine⟨_,rfl,p,pm,pu,pt,pf,lo,hi,us,ads,ts,af,fs,rfl,hF,fun pw ow aw H1 s1 fpw hW=>?_⟩;have knd:=zav (ts:=ts) nd;have fwl:∀k,(fwOf ts (fs.zip af) k).length<=60:=fun k=>by
   have h2:=zns (ts:=ts) (z:=fs.zip af) (k:=k);rw[al78q] at h2;lia
  have fwt:∀k,∀q∈fwOf ts (fs.zip af) k,H q.2=some (.tup (fndV q.1)):=fun k q hq=>by
   have:=(al43q.mp hq).1;obtain⟨i,hi⟩:=al29q.mp this;obtain⟨h1,h2⟩:=al45q.mp hi;exact zaf hft h2 (by rw[al4q,h1];rfl)
  generalize zn ts (srt us)=keys at hW lk k knd;generalize fwOf ts (fs.zip af)=fw at hW k fwl fwt
  try dsimp only [zw]
  refine fun pd hpd=>?_
  have s2:=Same.new (o:=.dK []) hpd;refine⟨_,rfl,pw,ow,_,rfl,s2 _ _ hW.d,zcc (fun i σ H'=>∃(v3:Option V) (v:Str->IS) (ad:Str->ty1q),σ = [some (.ref p),some (.ref pw),some (.ref pd),v3]/\Same H1 H'/\H' pd=some (.dK (dV (keys.take i) fun k=>.ref (ad k)))/\
    ∀k∈keys.take i,H' (ad k)=some (.tup [.int (v k).1,.str (v k).2])/\MinP (hiL hi (fw k)) (v k))
   ⟨none,fun _=>(0,""),fun _=>0,rfl,s2,zf,fun k hk=>by simp at hk⟩ (fun i σ H' _ h=>by obtain⟨_,_,_,_,q,_⟩:=h;exact q _ _ hW.d) ?_ ?_⟩
  ·rintro i kk vv σ H3 hx ⟨v3,v,ad,rfl,q3,hd3,hk3⟩;obtain⟨u,hu',rfl,_⟩:=zi1 hx;have huk:u∈keys:=al6q hu';have F3:=hF.same (s1.trans q3);have W3:=hW.same q3
   try dsimp only [zw]
   refine⟨_,rfl,p,_,_,_,rfl,rfl,F3.tel.p,rfl,pm,_,_,_,rfl,rfl,F3.m,rfl,(by show 2<=sizeLine;decide),fun b0 hb0=>?_⟩;have t1:=Same.new (o:=.tup [.int hi,.str ""]) hb0;refine⟨by show 1<=sizeLine;decide,fun l0 hl0=>?_⟩;have t2:=Same.new (o:=.lst [.ref b0]) hl0;have q5:=q3.trans (t1.trans t2);have hb5:=t2 _ _ (zf (H:=H3) (a:=b0) (o:=.tup [.int hi,.str ""]));have hl5:upd (upd H3 b0 (.tup [.int hi,.str ""])) l0 (.lst [.ref b0]) l0=some (.lst [.ref b0]):=zf;have e35:=t1.trans t2;generalize upd (upd H3 b0 (.tup [.int hi,.str ""])) l0 (.lst [.ref b0])=H5 at q5 hb5 hl5 t2 e35;have W5:=hW.same q5;have lL:=fwl u;have tL:=fwt u;have hlW:=W5.l u huk;generalize eL:fw u=L at lL tL hlW;refine⟨_,rfl,_,rfl,pw,_,rfl,zbh W5.d huk,aw u,rfl,⟨_,SqL.of hlW⟩,fun D hD=>?_⟩;refine zbd (zb1 (K:=K) (a:=aw u) (xs:=L.map fun p=>V.ref p.2)) (fun i' σ' ys H'=>∃(w0:Option V) (bs:List ty1q),σ' = [w0]/\ys=bs.map V.ref/\Paired (fun a (p:IS)=>H' a=some (.tup [.int p.1,.str p.2])) bs ((L.take i').map fun p=>(p.1.hi,p.1.n))/\Same H5 H'/\H' D=some (.lst ys))
    ⟨none,[],rfl,rfl,.nil,Same.new hD,zf⟩ (fun i' σ' ys H' h=>?_) (by rw[al0q];exact zar (by lia)) ?_ ?_
   ·obtain⟨_,bs,_,rfl,pb,q,hd⟩:=h;refine⟨SqL.of (q _ _ hlW),hd,?_⟩;have:=Paired.length pb;rw[al0q,al28q] at this;rw[al0q];lia
   ·rintro i' v' σ' ys H' hx ⟨w0,bs,rfl,rfl,pb,q,hd⟩;have hix:=zaj hx;rw[al4q] at hx;cases ef:L[i']? with
    | none=>rw[ef] at hx;cases hx
    | some f=>
     rw[ef] at hx;cases hx;have hf:=q _ _ (q5 _ _ (s1 _ _ (tL f (al6q ef))))
     try dsimp only [zw]
     unfold tYes;dsimp only;rw[al12q rfl];refine⟨_,rfl,f.2,_,_,_,rfl,rfl,SqT.of hf,zu9 f.1,_,rfl,f.2,_,_,_,rfl,rfl,SqT.of hf,zrl f.1,(by show 2<=sizeLine;decide),fun b1 hb1=>?_⟩;have w1:=Same.new (o:=.tup [.int f.1.hi,.str f.1.n]) hb1;have hd1:=w1 _ _ hd;refine⟨hd1,zcl hix ⟨_,bs++[b1],rfl,by rw[al15q];rfl,?_,(q.trans w1).upd hD,zf⟩⟩;rw[al9q,ef,al15q];exact Paired.snoc (Paired.mapP pb fun a z e=>za1 hd1 _ _ (w1 _ _ e)) (za1 hd1 _ _ zf)
   rintro σ' ys H6 ⟨w0,bs,rfl,rfl,pb,t6,hd6⟩;rw[al0q,al22q] at pb;have lb:=Paired.length pb;rw[al0q] at lb;have hl6:=t6 _ _ hl5;refine⟨l0,D,_,_,rfl,rfl,hl6,hd6,by rw[al0q];exact zar (show 1+_<=1000 by lia),fun l hl=>?_⟩;have t7:=Same.new (o:=.lst ([V.ref b0]++bs.map V.ref)) hl;have pr:Paired (fun a (p:IS)=>H6 a=some (.tup [.int p.1,.str p.2])) (b0::bs) (hiL hi L):=.cons (t6 _ _ hb5) pb;have pr7:=Paired.mapP pr fun a z e=>t7 _ _ e
   refine⟨l,b0::bs,hiL hi L,rfl,SqL.of zf,Paired.mapP pr7 fun a z e=>SqT.of e,by unfold hiL;simp,fun j a m ha hm hmax=>?_⟩;have ham:=zaf pr7 ha hm;have q7:=q5.trans (t6.trans t7);have e37:=e35.trans (t6.trans t7);have hd7:=e37 _ _ hd3;have hfr:u ∉ keys.take i:=by
    have hi:=zaj hu';have:=za3 knd i hi;rw[show keys[i]=u from (al3q.mp hu').2] at this;exact this
   refine⟨_,rfl,_,rfl,pd,_,rfl,DPut.k (k:=Sum.inr u) hd7 (by rw[zas,al28q];exact zz (by lia)),?_⟩;have tst:∀b vs,upd H6 l (.lst ([V.ref b0]++bs.map V.ref)) b=some (.tup vs)->upd (upd H6 l (.lst ([V.ref b0]++bs.map V.ref))) pd (.dK (putK (dV (keys.take i) fun k=>.ref (ad k)) (Sum.inr u) (.ref a))) b=some (.tup vs):=fun b vs e=>by
    rw[zo (zcx e hd7 (by intro z;cases z))];exact e
   refine⟨_,fun z=>if z=u then m else v z,fun z=>if z=u then a else ad z,rfl,q7.upd hpd,?_,fun k hk=>?_⟩
   ·rw[zf,zc2 hfr,al9q,hu']
    congr 2
    refine zbe fun z hz=>?_
    try dsimp only
    by_cases e:z=u
    ·rw[al12q e,al12q e]
    ·rw[al8q e,al8q e]
   ·rw[al9q,hu',al25q] at hk
    try dsimp only
    by_cases e:k=u
    ·rw[al12q e,al12q e];refine⟨tst _ _ ham,?_⟩;rw[e,eL];exact⟨al6q hm,hmax⟩
    ·rw[al8q e,al8q e];obtain⟨h1,h2⟩:=hk3 k (hk.elim id fun z=>absurd (by simpa using z) e);exact⟨tst _ _ (e37 _ _ h1),h2⟩
  ·rintro σ H3 ⟨v3,v,ad,rfl,q3,hd3,hk3⟩;rw[zas,al22q] at hd3 hk3;refine .inr ⟨pd,_,hd3,fun ob=>⟨_,rfl,k pd ob v ad _ ((s1.trans q3).upd (s1.free hpd)) (s1.free hpd) ⟨zf,fun k hk=>?_⟩ fun k hk=>(hk3 k hk).2⟩⟩;have b1:=(hk3 k hk).1;rw[zo (fun z=>by rw[z,hd3] at b1;cases b1)];exact b1
theorem zo3 {H H':Hp}{a:ty1q}{xs:List V}(e:Same H H') (h:SqT K H a xs):SqT K H' a xs:=by
 rcases h with (h | ⟨o,h⟩) | h
 ·exact .inl (.inl (e _ _ h))
 ·exact .inl (.inr ⟨o,e _ _ h⟩)
 ·exact .inr h
inductive sp_Rinit' (C:ty1q) (vs:List V) (H:Hp) (Q:VK):Prop
 | mk (e p:ty1q) (xs:List V) (_:vs = [.ref e,.ref p]) (_:H e=some (excO e C none)) (_:SqL K H p xs) (_:xs.length<=1000) (_:∀(q d:ty1q),q≠e->d≠e->H q=none->H d=none->d≠q->Q .non (upd (upd (upd H q (.lst xs)) d (.xd [("ties",.ref q)])) e (excO e C (some d))))
def zqw (C:ty1q):Sp:=fun vs H Q _=>sp_Rinit' (K:=K) C vs H Q
theorem zd8 (T:Tx K mg w zr zv zi):HasM P w K mg base zv "__init__" ["self","ties"] 1 (zqw (K:=K) zv):=by
 refine T.zec.has zdv (fun vs H Q E h=>?_) (fun f cdv A outer s H vs Q E hr h=>?_)
 ·obtain⟨e,p,xs,rfl,_⟩:=h;rfl
 ·obtain⟨e,p,xs,rfl,he,hp,hl,k⟩:=h;refine⟨_,(zg (za7 (zkj (by rfl) T.zfc T.zfd (zc (pv 0) (zc zba zh))))
   (zm (zok (pv 0) (zbn (zb9 K rfl) (by rfl) T.list al104q (zc (pv 1) zh)) rfl))),?_⟩
  obtain⟨bm,xo,U⟩:=T.zks;refine⟨_,rfl,e,zv,none,bm,_,rfl,he,xo,U,(by show 1<=sizeLine;decide),?_⟩;refine⟨_,rfl,p,xs,rfl,.inl hp,fun q hq=>?_⟩;have ne:q≠e:=fun z=>by rw[z,he] at hq;cases hq
  refine⟨_,rfl,e,zv,rfl,by rw[zo ne.symm];exact he,T.zq3,T.zdm,fun d hd=>?_⟩;have nd:d≠q:=fun z=>by rw[z,zf] at hd;cases hd
  rw[zo nd] at hd;exact k q d ne (fun z=>by rw[z,he] at hd;cases hd) hq hd nd
inductive sp_Ninit' (C:ty1q) (vs:List V) (H:Hp) (Q:VK):Prop
 | mk (e p p1:ty1q) (x0 x2:V) (xs:List V) (_:vs = [.ref e,.ref p]) (_:H e=some (excO e C none)) (_:SqT K H p [x0,.ref p1,x2]) (_:SqL K H p1 xs) (_:xs.length<=1000) (_:∀(q r d:ty1q),q≠e->r≠e->d≠e->H q=none->H r=none->H d=none->r≠q->d≠q->d≠r->Q .non (upd (upd (upd (upd H q (.lst xs)) r (.tup [x0,.ref q,x2])) d (.xd [("row",.ref r)])) e (excO e C (some d))))
def zqx (C:ty1q):Sp:=fun vs H Q _=>sp_Ninit' (K:=K) C vs H Q
theorem zc9 (T:Tx K mg w zr zv zi):HasM P w K mg base zi "__init__" ["self","row"] 1 (zqx (K:=K) zi):=by
 refine T.zdb.has zcz (fun vs H Q E h=>?_) (fun f cdv A outer s H vs Q E hr h=>?_)
 ·obtain⟨e,p,p1,x0,x2,xs,rfl,_⟩:=h;rfl
 ·obtain⟨e,p,p1,x0,x2,xs,rfl,he,hp,hp1,hl,k⟩:=h;refine⟨_,(zg (za7 (zkj (by rfl) T.zfc T.zfd (zc (pv 0) (zc zba zh))))
   (zm (zok (pv 0) (zax (zc (pix (zx K rfl) (pv 1) zj) (zc (zbn (zb9 K rfl) (by rfl) T.list al104q (zc (pix (zx K rfl) (pv 1) zj) zh)) (zc (pix (zx K rfl) (pv 1) zj) zh)))) rfl))),?_⟩
  obtain⟨bm,xo,U⟩:=T.zff;refine⟨_,rfl,e,zi,none,bm,_,rfl,he,xo,U,(by show 1<=sizeLine;decide),?_⟩
  try dsimp only
  refine⟨_,rfl,p,_,_,x0,rfl,rfl,hp,rfl,_,rfl,p,_,_,.ref p1,rfl,rfl,hp,rfl,p1,xs,rfl,.inl hp1,fun q hq=>?_⟩;have t1:=Same.new (o:=.lst xs) hq;refine⟨_,rfl,p,_,_,x2,rfl,rfl,zo3 t1 hp,rfl,(by show 3<=sizeLine;decide),fun r hr=>?_⟩;have ne:q≠e:=fun z=>by rw[z,he] at hq;cases hq
  have nr:r≠q:=fun z=>by rw[z,zf] at hr;cases hr
  rw[zo nr] at hr;have nre:r≠e:=fun z=>by rw[z,he] at hr;cases hr
  refine⟨_,rfl,e,zi,rfl,by rw[zo nre.symm,zo ne.symm];exact he,T.zjq,T.zcs,fun d hd=>?_⟩;have d1:d≠r:=fun z=>by rw[z,zf] at hd;cases hd
  rw[zo d1] at hd;have d2:d≠q:=fun z=>by rw[z,zf] at hd;cases hd
  rw[zo d2] at hd;exact k q r d ne nre (fun z=>by rw[z,he] at hd;cases hd) hq hr hd nr d2 d1
inductive sp_bare' (vs:List V) (H:Hp) (Q:VK):Prop
 | mk (pb:ty1q) (ob:Obj) (keys:List Str) (v:Str->IS) (ab:Str->ty1q) (fz:Bool) (_:vs = [.ref pb]) (_:Bd H pb ob keys v ab) (_:keys.Nodup) (_:keys.length<=63) (_:∀(pd:ty1q) (o:Obj) (ad:Str->ty1q) (H':Hp),Same H H'->H pd=none->H' pd=some (cdO fz o keys ad)->(∀k∈keys,ChAt H H' (ad k) ((v k).1,(v k).2,[]))->Q (.ref pd) H')
def ztr:Sp:=fun vs H Q _=>sp_bare' vs H Q
theorem zcg (T:Tx K mg w zr zv zi):Has P w K mg base "bare_chains" ["bounds"] 1 ztr:=by
 refine T.zg6.has sc_bare_chains (fun vs H Q E h=>?_) (fun f cdv A outer s H vs Q E hr h=>?_)
 ·obtain⟨pb,ob,keys,v,ab,fz,rfl,_⟩:=h;rfl
 ·obtain⟨pb,ob,keys,v,ab,fz,rfl,hB,knd,lk,k⟩:=h;have hu:=zbw hr;refine⟨_,(zg (sset (i:=1) sc_bare_chains.nd za8)
   (zg (zaw al30q rfl (zb5 (pv 0)) (gnm (i:=2) sc_bare_chains.nd) (zm (zbg hu (pv 1) (pv 2) (zan (zpu K rfl) (zy hu (pv 0) (pv 2) (fun _ _=>rfl)) (zax (zc (zao zh) zh))) rfl)))
   (zm (zd3 (zae (pv 1)))))),?_⟩
  try dsimp only [zw]
  refine fun pd hpd=>?_
  have s1:=Same.new (o:=.dK []) hpd;refine⟨_,rfl,pb,ob,_,rfl,s1 _ _ hB.d,zcc (fun i σ H'=>∃(v2:Option V) (ad:Str->ty1q),σ = [some (.ref pb),some (.ref pd),v2]/\Same H H'/\H' pd=some (.dK (dV (keys.take i) fun k=>.ref (ad k)))/\∀k∈keys.take i,ChAt H H' (ad k) ((v k).1,(v k).2,[]))
   ⟨none,fun _=>0,rfl,s1,zf,fun k hk=>by simp at hk⟩ (fun i σ H' _ h=>by obtain⟨_,_,_,q,_⟩:=h;exact q _ _ hB.d) ?_ ?_⟩
  ·rintro i kk vv σ H3 hx ⟨v2,ad,rfl,q3,hd3,hk3⟩;obtain⟨u,hu',rfl,_⟩:=zi1 hx;have huk:u∈keys:=al6q hu';have B3:=hB.same q3
   try dsimp only [zw]
   refine⟨_,rfl,_,rfl,pb,_,rfl,zbh B3.d huk,by show 0<=sizeLine;decide,fun l0 hl0=>?_⟩;have t1:=Same.new (o:=.lst []) hl0;refine⟨by show 1<=sizeLine;decide,fun b0 hb0=>?_⟩;have t2:=Same.new (o:=.tup [.ref l0]) hb0;refine⟨ab u,b0,_,_,rfl,rfl,SqT.of (t2 _ _ (t1 _ _ (B3.e u huk))),SqT.of zf,by simp,by show 3<=sizeLine;decide,fun z=>by simp at z,fun _ p hp=>?_⟩;have t3:=Same.new (o:=.tup [.int (v u).1,.str (v u).2,.ref l0]) hp;have e36:=t1.trans (t2.trans t3);have hd6:=e36 _ _ hd3;have hfr:u ∉ keys.take i:=by
    have hi:=zaj hu';have:=za3 knd i hi;rw[show keys[i]=u from (al3q.mp hu').2] at this;exact this
   have hc:ChAt H (upd (upd (upd H3 l0 (.lst [])) b0 (.tup [.ref l0])) p (.tup [.int (v u).1,.str (v u).2,.ref l0])) p ((v u).1,(v u).2,[]):=⟨l0,zf,t3 _ _ (t2 _ _ zf),q3.free hl0⟩;refine⟨_,rfl,_,rfl,pd,_,rfl,DPut.k (k:=Sum.inr u) hd6 (by rw[zas,al28q];exact zz (by lia)),?_⟩;refine⟨_,fun z=>if z=u then p else ad z,rfl,(q3.trans e36).upd hpd,?_,fun k hk=>?_⟩
   ·rw[zf,zc2 hfr,al9q,hu']
    congr 2
    refine zbe fun z hz=>?_
    try dsimp only
    by_cases e:z=u
    ·rw[al12q e,al12q e]
    ·rw[al8q e,al8q e]
   ·rw[al9q,hu',al25q] at hk
    try dsimp only
    by_cases e:k=u
    ·rw[al12q e,e];exact hc.put hd6
    ·rw[al8q e];exact ((hk3 k (hk.elim id fun z=>absurd (by simpa using z) e)).same e36).put hd6
  ·rintro σ H3 ⟨v2,ad,rfl,q3,hd3,hk3⟩;rw[zas,al22q] at hd3 hk3;cases fz with
   | false=>exact .inl ⟨_,rfl,k pd ob ad _ q3 hpd hd3 hk3⟩
   | true=>exact .inr ⟨pd,_,hd3,fun ob'=>⟨_,rfl,k pd ob' ad _ (q3.upd hpd) hpd zf fun k hk=>(hk3 k hk).put hd3⟩⟩
inductive sp_ledup' (vs:List V) (H:Hp) (Q:VK):Prop
 | mk (a r:ty1q) (c:Chn) (t:Tie) (us:List Str) (_:vs = [.ref a,.ref r]) (_:ChAt (fun _=>none) H a c) (_:H r=some (.tup (tieV t))) (_:TOk us t) (_:c.2.2.length<=900) (_:∀(q:ty1q) (H':Hp),Same H H'->H q=none->ChAt H H' q (c.1+zaa t,c.2.1,c.2.2++[(t,r)])->Q (.ref q) H')
def zqy:Sp:=fun vs H Q _=>sp_ledup' vs H Q
theorem zkp (T:Tx K mg w zr zv zi):Has P w K mg base "led_up" ["chain","tie"] 2 zqy:=by
 refine T.zq7.has zox (fun vs H Q E h=>?_) (fun f cdv A outer s H vs Q E hr h=>?_)
 ·obtain⟨a,r,c,t,us,rfl,_⟩:=h;rfl
 ·obtain⟨a,r,c,t,us,rfl,⟨l,ha,hl,_⟩,hr',tok,lc,k⟩:=h;refine⟨_,(zm (zae (zax (zc (zan zc0 (pix (zx K rfl) (pv 0) zj) (pfn (zkn T) (zc (pv 1) zh))) (zc (pix (zx K rfl) (pv 0) zj) (zc (zan zfy (pix (zx K rfl) (pv 0) zj) (zao (zc (pv 1) zh))) zh)))))),?_⟩;refine⟨_,rfl,a,_,_,_,rfl,rfl,SqT.of ha,rfl,_,rfl,r,t,us,rfl,hr',tok,fun H1 s1=>?_⟩;refine⟨_,_,rfl,rfl,_,rfl,a,_,_,_,rfl,rfl,SqT.of (s1 _ _ ha),rfl,_,rfl,a,_,_,_,rfl,rfl,SqT.of (s1 _ _ ha),rfl,_,rfl,by show 1<=sizeLine;decide,fun l1 hl1=>?_⟩;have t1:=Same.new (o:=.lst [.ref r]) hl1;refine⟨l,l1,_,_,rfl,rfl,t1 _ _ (s1 _ _ hl),zf,by rw[al0q];exact zar (show _+1<=1000 by lia),fun l2 hl2=>?_⟩;have t2:=Same.new (o:=.lst (c.2.2.map (fun p=>V.ref p.2)++[.ref r])) hl2;refine⟨by show 3<=sizeLine;decide,fun b hb=>?_⟩;have t3:=Same.new (o:=.tup [.int (c.1+zaa t),.str c.2.1,.ref l2]) hb;refine k b _ (s1.trans (t1.trans (t2.trans t3))) ((s1.trans (t1.trans t2)).free hb) ⟨l2,zf,?_,(s1.trans t1).free hl2⟩;rw[t3 _ _ zf,al15q];rfl
inductive sp_leddown' (vs:List V) (H:Hp) (Q:VK):Prop
 | mk (a r:ty1q) (c:Chn) (t:Tie) (us:List Str) (_:vs = [.ref a,.ref r]) (_:ChAt (fun _=>none) H a c) (_:H r=some (.tup (tieV t))) (_:TOk us t) (_:c.2.2.length<=900) (_:∀(q:ty1q) (H':Hp),Same H H'->H q=none->ChAt H H' q (c.1-zaa t,c.2.1,(t,r)::c.2.2)->Q (.ref q) H')
def zlx:Sp:=fun vs H Q _=>sp_leddown' vs H Q
theorem zly (T:Tx K mg w zr zv zi):Has P w K mg base "led_down" ["chain","tie"] 2 zlx:=by
 refine T.zl5.has zjj (fun vs H Q E h=>?_) (fun f cdv A outer s H vs Q E hr h=>?_)
 ·obtain⟨a,r,c,t,us,rfl,_⟩:=h;rfl
 ·obtain⟨a,r,c,t,us,rfl,⟨l,ha,hl,_⟩,hr',tok,lc,k⟩:=h;refine⟨_,(zm (zae (zax (zc (zan zdz (pix (zx K rfl) (pv 0) zj) (pfn (zkn T) (zc (pv 1) zh))) (zc (pix (zx K rfl) (pv 0) zj) (zc (zan zfy (zao (zc (pv 1) zh)) (pix (zx K rfl) (pv 0) zj)) zh)))))),?_⟩;refine⟨_,rfl,a,_,_,_,rfl,rfl,SqT.of ha,rfl,_,rfl,r,t,us,rfl,hr',tok,fun H1 s1=>?_⟩;refine⟨_,_,rfl,rfl,_,rfl,a,_,_,_,rfl,rfl,SqT.of (s1 _ _ ha),rfl,_,rfl,by show 1<=sizeLine;decide,fun l1 hl1=>?_⟩;have t1:=Same.new (o:=.lst [.ref r]) hl1;refine⟨_,rfl,a,_,_,_,rfl,rfl,SqT.of (t1 _ _ (s1 _ _ ha)),rfl,?_⟩;refine⟨l1,l,_,_,rfl,rfl,zf,t1 _ _ (s1 _ _ hl),by rw[al0q];exact zar (show 1+_<=1000 by lia),fun l2 hl2=>?_⟩;have t2:=Same.new (o:=.lst ([V.ref r]++c.2.2.map (fun p=>V.ref p.2))) hl2;refine⟨by show 3<=sizeLine;decide,fun b hb=>?_⟩;have t3:=Same.new (o:=.tup [.int (c.1-zaa t),.str c.2.1,.ref l2]) hb;refine k b _ (s1.trans (t1.trans (t2.trans t3))) ((s1.trans (t1.trans t2)).free hb) ⟨l2,zf,?_,(s1.trans t1).free hl2⟩;rw[t3 _ _ zf];rfl
inductive sp_longer' (vs:List V) (H:Hp) (Q:VK):Prop
 | mk (pb pc:ty1q) (ob oc:Obj) (keys:List Str) (R:Rw) (adb:Str->ty1q) (bs:Str->List ty1q) (M:List Str) (v:Str->Chn) (adc:Str->ty1q) (_:vs = [.ref pb,.ref pc]) (_:Bn H pb ob keys (lnR R) adb bs) (_:H pc=some (.frz oc (.dK (dV M fun k=>.ref (adc k))))) (_:(∀k∈M,ChAt (fun _=>none) H (adc k) (v k))) (_:(∀k l b,(l,b)∈R k->H b.2=some (.tup (tieV b.1))/\∃us,TOk us b.1)) (_:keys.Nodup) (_:keys.length<=63) (_:(∀k,(R k).length<=900)) (_:(∀k∈M,(v k).2.2.length<=900)) (_:∀(pd:ty1q) (o:Obj) (M':List Str) (v':Str->Chn) (ad:Str->ty1q) (H':Hp),Same H H'->H pd=none->H' pd=some (.frz o (.dK (dV M' fun k=>.ref (ad k))))->(∀k∈M',ChAt H H' (ad k) (v' k))->M'.Nodup->(∀k∈M',k∈keys)->(∀k∈keys,Grw R M v k (R k) (k∈M') (v' k))->Q (.ref pd) H')
def zo4:Sp:=fun vs H Q _=>sp_longer' vs H Q
theorem zd9 (T:Tx K mg w zr zv zi):Has P w K mg base "one_tie_longer" ["beneath","chains"] 3 zo4:=by
 refine T.zee.has sc_one_tie_longer (fun vs H Q E h=>?_) (fun f cdv A outer s H vs Q E hr h=>?_)
 ·obtain⟨pb,pc,ob,oc,keys,R,adb,bs,M,v,adc,rfl,_⟩:=h;rfl
 ·obtain⟨pb,pc,ob,oc,keys,R,adb,bs,M,v,adc,rfl,hB,hC,hM,hR,knd,lk,lR,lM,k⟩:=h;have hu:=zbw hr;refine⟨_,(zg (sset (i:=2) sc_one_tie_longer.nd za8)
   (zg (zaw al30q rfl (zb5 (pv 0)) (gnm (i:=3) sc_one_tie_longer.nd) (zm (zaw al30q rfl (zai K rfl (zy hu (pv 0) (pv 3) (fun _ _=>rfl))) (zby K rfl rfl (zam (gnm (i:=4) sc_one_tie_longer.nd) (zam (gnm (i:=5) sc_one_tie_longer.nd) zbt))) (zm (zbm (zeq (zj2 hu (pv 4) (pv 1))) (zg (sset (i:=6) sc_one_tie_longer.nd (pfn (zkp T) (zc (zy hu (pv 1) (pv 4) (fun _ _=>rfl)) (zc (pv 5) zh))))
      (zm (zbm (PW.pt (zkt (zeq (zdd hu (pv 3) (pv 2))) (zfx (zad zmk (pix (zx K rfl) (pv 6) zj) (pix (zx K rfl) (zy hu (pv 2) (pv 3) (fun _ _=>rfl)) zj) (zah _))))) (zm (zbg hu (pv 2) (pv 3) (pv 6) rfl)) zap))) zap)))))
   (zm (zd3 (zae (pv 2)))))),?_⟩
  try dsimp only [zw]
  refine fun pd hpd=>?_
  have s1:=Same.new (o:=.dK []) hpd;refine⟨_,rfl,pb,ob,_,rfl,s1 _ _ hB.d,zcc (fun i σ H'=>∃(v3 v4 v5 v6:Option V) (M':List Str) (v':Str->Chn) (ad:Str->ty1q),σ = [some (.ref pb),some (.ref pc),some (.ref pd),v3,v4,v5,v6]/\Same H H'/\H' pd=some (.dK (dV M' fun k=>.ref (ad k)))/\(∀k∈M',ChAt H H' (ad k) (v' k))/\M'.Nodup/\(∀k∈M',k∈keys.take i)/\∀k∈keys.take i,Grw R M v k (R k) (k∈M') (v' k))
   ⟨none,none,none,none,[],fun _=>(0,"",[]),fun _=>0,rfl,s1,zf,fun k hk=>by simp at hk,List.nodup_nil,fun k hk=>by simp at hk,fun k hk=>by simp at hk⟩ (fun i σ H' _ h=>by obtain⟨_,_,_,_,_,_,_,_,q,_⟩:=h;exact q _ _ hB.d) ?_ ?_⟩
  ·rintro i kk vv σ H3 hx ⟨v3,v4,v5,v6,M',v',ad,rfl,q3,hd3,hk3,nd3,sb3,gr3⟩;obtain⟨u,hu',rfl,_⟩:=zi1 hx;have huk:u∈keys:=al6q hu';have B3:=hB.same q3;have lbs:(bs u).length=(R u).length:=(Paired.length (hB.e u huk)).trans zi8;have hfr:u ∉ keys.take i:=by
    have hi:=zaj hu';have:=za3 knd i hi;rw[show keys[i]=u from (al3q.mp hu').2] at this;exact this
   have tk:keys.take (i+1)=keys.take i++[u]:=by rw[al9q,hu'];rfl
   try dsimp only [zw]
   refine⟨_,rfl,_,rfl,pb,_,rfl,B3.get huk,adb u,rfl,⟨_,SqL.of (B3.l u huk)⟩,zat (xs:=(bs u).map V.ref) (fun j σ H'=>∃(v4 v5 v6:Option V) (M':List Str) (v':Str->Chn) (ad:Str->ty1q),σ = [some (.ref pb),some (.ref pc),some (.ref pd),some (.str u),v4,v5,v6]/\Same H H'/\H' pd=some (.dK (dV M' fun k=>.ref (ad k)))/\(∀k∈M',ChAt H H' (ad k) (v' k))/\M'.Nodup/\(∀k∈M',k∈keys.take i++[u])/\
     (∀k∈keys.take i,Grw R M v k (R k) (k∈M') (v' k))/\Grw R M v u ((R u).take j) (u∈M') (v' u))
    ⟨v4,v5,v6,M',v',ad,rfl,q3,hd3,hk3,nd3,fun k hk=>al35q _ (sb3 k hk),gr3,Grw.nil fun z=>hfr (sb3 u z)⟩ (fun j σ H' _ h=>by obtain⟨_,_,_,_,_,_,_,q,_⟩:=h;exact SqL.of ((hB.same q).l u huk)) ?_ ?_⟩
   ·clear hk3 nd3 sb3 gr3 hd3 q3 B3;rintro j x σ H4 hx ⟨v4,v5,v6,M',v',ad,rfl,q4,hd4,hk4,nd4,sb4,gr4,gu4⟩;have B4:=hB.same q4;obtain⟨b,⟨l,r⟩,rfl,hlr,_,hb⟩:=zbj (B4.e u huk) hx;obtain⟨t,ht⟩:=zn9 hlr;have htm:(l,(t,r))∈R u:=al6q ht;obtain⟨htr,us,tok⟩:=hR u l (t,r) htm;have rt:(R u).take (j+1)=(R u).take j++[(l,(t,r))]:=by rw[al9q,ht];rfl
    have hC4:=q4 _ _ hC;refine⟨b,_,rfl,SqT.of hb,rfl,_,_,rfl,_,_,rfl,rfl,?_⟩
    try dsimp only [zw]
    refine zcq (decide (l∈M)) (fun Q' hQ=>?_) ?_
    ·by_cases c:l∈M
     ·refine⟨_,rfl,_,rfl,pc,_,rfl,zbh hC4 c,?_⟩;rw[al10q c] at hQ;exact⟨_,rfl,hQ⟩
     ·refine⟨_,rfl,_,rfl,pc,none,rfl,zqa hC4 c,?_⟩;rw[al17q c] at hQ;exact⟨_,rfl,hQ⟩
    refine ite2 (fun c=>?_) (fun c=>?_)
    ·have c:=al16q c;refine⟨_,rfl,_,rfl,pc,_,rfl,zbh hC4 c,_,rfl,adc l,r,v l,t,us,rfl,(hM l c).same q4,q4 _ _ htr,tok,lM l c,fun q H5 s5 fq hq=>?_⟩;have q5:=q4.trans s5;have hd5:=s5 _ _ hd4;have hq5:ChAt H H5 q ((v l).1+zaa t,(v l).2.1,(v l).2.2++[(t,r)]):=hq.old q4;have hk5:∀k∈M',ChAt H H5 (ad k) (v' k):=fun k hk=>(hk4 k hk).same s5
     try dsimp only [zw]
     refine zcq (decide (u ∉ M'\/(v' u).1<(v l).1+zaa t)) (fun Q' hQ=>?_) ?_
     ·by_cases c2:u∈M'
      ·have g:=DGet.k (k:=Sum.inr u) hd5;rw[zbk c2] at g;obtain⟨lq,h1,_⟩:=hq5;obtain⟨lu,h2,_⟩:=hk5 u c2;refine⟨_,rfl,_,rfl,pd,_,rfl,g,_,rfl,iteF ⟨_,rfl,q,_,_,_,rfl,rfl,SqT.of h1,rfl,_,rfl,_,rfl,pd,_,rfl,g,ad u,_,_,_,rfl,rfl,SqT.of h2,rfl,_,_,rfl,rfl,_,rfl,?_⟩⟩;rw[show decide (u ∉ M'\/(v' u).1<(v l).1+zaa t)=decide ((v l).1+zaa t > (v' u).1) from al120q.mpr ⟨fun z=>z.elim (fun z=>absurd c2 z) id,fun z=>.inr z⟩] at hQ;exact hQ
      ·have g:=DGet.k (k:=Sum.inr u) hd5;rw[zc8 c2] at g;refine⟨_,rfl,_,rfl,pd,_,rfl,g,_,rfl,iteT ?_⟩;rw[al10q (Or.inl c2)] at hQ;exact hQ
     refine ite2 (fun c2=>?_) (fun c2=>?_)
     ·have c2:=al16q c2;have lM':M'.length<=63:=by
       have:=za9 (us:=keys) nd4 fun k hk=>by
        rcases al25q.mp (sb4 k hk) with z | z
        ·exact al112q z
        ·rw[show k=u by simpa using z];exact huk
       lia
      refine⟨_,rfl,_,rfl,_,rfl,pd,_,rfl,DPut.k (k:=Sum.inr u) hd5 (by rw[zas];exact zz (by lia)),?_⟩;have adq:∀k,k≠u->(if k=u then q else ad k)=ad k:=fun k n=>al8q n
      have ek:∀(L:List Str),(dV L fun z=>if z=u then V.ref q else V.ref (ad z))=dV L fun k=>V.ref (if k=u then q else ad k):=fun L=>zbe fun z _=>by split<;>rfl
      have hk6:∀(kv:List (Key×V)),∀k,(k=u\/k∈M')->ChAt H (upd H5 pd (.dK kv)) (if k=u then q else ad k) (if k=u then ((v l).1+zaa t,(v l).2.1,(v l).2.2++[(t,r)]) else v' k):=fun kv k hk=>by
       by_cases e:k=u
       ·rw[al12q e,al12q e];exact hq5.put hd5
       ·rw[al8q e,al8q e];exact (hk5 k (hk.resolve_left e)).put hd5
      have gu5:∀(hs:Prop),hs->Grw R M v u ((R u).take (j+1)) hs (if u=u then ((v l).1+zaa t,(v l).2.1,(v l).2.2++[(t,r)]) else v' u):=fun hs hh=>by
       rw[al12q rfl,rt];exact gu4.take c hh (fun z=>c2.elim (fun y=>absurd z y) id) rfl
      by_cases c3:u∈M'
      ·rw[zkc c3,ek];refine⟨_,_,_,M',fun k=>if k=u then ((v l).1+zaa t,(v l).2.1,(v l).2.2++[(t,r)]) else v' k,fun k=>if k=u then q else ad k,rfl,q5.upd hpd,zf,fun k hk=>hk6 _ k (.inr hk),nd4,sb4,fun k hk=>?_,gu5 _ c3⟩;exact (gr4 k hk).congr Iff.rfl (by dsimp only;rw[al8q (fun z=>hfr (z▸hk):¬k=u)])
      ·rw[zc2 c3,ek];refine⟨_,_,_,M'++[u],fun k=>if k=u then ((v l).1+zaa t,(v l).2.1,(v l).2.2++[(t,r)]) else v' k,fun k=>if k=u then q else ad k,rfl,q5.upd hpd,zf,fun k hk=>hk6 _ k ?_,?_,fun k hk=>?_,fun k hk=>?_,gu5 _ (by simp)⟩
       ·rcases za5 hk with z | z
        ·exact .inr z
        ·exact .inl z
       ·rw[al102q];refine⟨nd4,by simp,fun a ha b hb e=>?_⟩;have hb:b=u:=by simpa using hb
        exact c3 (hb▸e▸ha)
       ·rcases za5 hk with z | z
        ·exact sb4 k z
        ·rw[z];simp
       ·have ne:k≠u:=fun z=>hfr (z▸hk)
        refine (gr4 k hk).congr ⟨fun z=>al35q _ z,fun z=>?_⟩ (by dsimp only;rw[al8q ne]);rcases za5 z with z | z
        ·exact z
        ·exact absurd z ne
     ·have c2:¬(u ∉ M'\/(v' u).1<(v l).1+zaa t):=fun z=>c2 (al10q z)
      have c3:u∈M':=al34q fun z=>c2 (.inl z)
      refine⟨_,_,_,M',v',ad,rfl,q5,hd5,hk5,nd4,sb4,gr4,?_⟩;rw[rt];exact gu4.stay c3 (by have:¬((v' u).1<(v l).1+zaa t):=fun z=>c2 (.inr z);show (v l).1+zaa t<=_;lia)
    ·have c:l ∉ M:=fun z=>c (al10q z)
     refine⟨_,_,_,M',v',ad,rfl,q4,hd4,hk4,nd4,sb4,gr4,?_⟩;rw[rt];exact gu4.skip c
   ·rintro σ H4 ⟨v4,v5,v6,M',v',ad,rfl,q4,hd4,hk4,nd4,sb4,gr4,gu4⟩;rw[al0q,lbs,al22q] at gu4;refine⟨_,_,_,_,M',v',ad,rfl,q4,hd4,hk4,nd4,by rw[tk];exact sb4,fun k hk=>?_⟩;rw[tk] at hk;rcases za5 hk with z | z
    ·exact gr4 k z
    ·rw[z];exact gu4
  ·rintro σ H3 ⟨v3,v4,v5,v6,M',v',ad,rfl,q3,hd3,hk3,nd3,sb3,gr3⟩;rw[zas,al22q] at sb3 gr3;exact .inr ⟨pd,_,hd3,fun ob'=>⟨_,rfl,k pd ob' M' v' ad _ (q3.upd hpd) hpd zf (fun k hk=>(hk3 k hk).put hd3) nd3 sb3 gr3⟩⟩
inductive sp_improw' (vs:List V) (H:Hp) (Q:VK):Prop
 | mk (p pm pu pt pf:ty1q) (lo hi:Int) (us:List Str) (ads:List ty1q) (ts:List Tie) (af:List ty1q) (fs:List Fnd) (_:vs = [.ref p]) (_:TelF K H p pm pu pt pf lo hi us ads ts af fs) (_:NoR (zak ts (ts.zip ads)) (zn ts (srt us))) (_:(∀H',Same H H'->zf6 lo hi us ads ts af fs->Q .non H')) (_:∀(q:ty1q) (c:Chn) (w:Str) (H':Hp),Same H H'->zqb H' q c w->zib lo hi us ads ts af fs c w->Q (.ref q) H')
def zo5:Sp:=fun vs H Q _=>sp_improw' (K:=K) vs H Q
theorem zea (T:Tx K mg w zr zv zi):Has P w K mg base "impossible_row" ["telling"] 6 (zo5 (K:=K)):=by
 refine T.zef.has sc_impossible_row (fun vs H Q E h=>?_) (fun f cdv A outer s H vs Q E hr h=>?_)
 ·obtain⟨p,pm,pu,pt,pf,lo,hi,us,ads,ts,af,fs,rfl,_⟩:=h;rfl
 ·obtain⟨p,pm,pu,pt,pf,lo,hi,us,ads,ts,af,fs,rfl,hF,nr,kN,kR⟩:=h;have hu:=zbw hr;refine⟨_,(zg (sset (i:=1) sc_impossible_row.nd (pfn (zaq T) (zc (pv 0) zh)))
   (zg (sset (i:=2) sc_impossible_row.nd (pfn (zf9 T) (zc (pv 0) zh)))
   (zg (sset (i:=3) sc_impossible_row.nd (pfn (zcg T) (zc (pfn (zko T) (zc (pv 0) zh)) zh)))
   (zg (zcu al30q (zad (ztc (hu10 hr)) (pv 3) za8 (zah _)) (zg (zaw al30q rfl (zb5 (pv 3)) (gnm (i:=4) sc_impossible_row.nd) (zm (zbm (zad zmk (pix (zx K rfl) (zy hu (pv 3) (pv 4) (fun _ _=>rfl)) zj) (pix (zx K rfl) (zy hu (pv 2) (pv 4) (fun _ _=>rfl)) zj) (zah _)) (zm (zae (zax (zc (pix (zx K rfl) (zy hu (pv 3) (pv 4) (fun _ _=>rfl)) zj) (zc (pix (zx K rfl) (zy hu (pv 3) (pv 4) (fun _ _=>rfl)) zj) (zc (pix (zx K rfl) (zy hu (pv 2) (pv 4) (fun _ _=>rfl)) zj) zh)))))) zap)))
    (zm (sset (i:=3) sc_impossible_row.nd (pfn (zd9 T) (zc (pv 1) (zc (pv 3) zh)))))))
   (zm (zae zt7)))))),?_⟩
  have knd:=zav (ts:=ts) hF.tel.nd;have lk:=hF.tel.klen;have lf:=hF.flen;have cl:=zn8 (ads:=ads) hF.tel.ends;have lR:∀k,(rwOf ts (ts.zip ads) k).length<=900:=fun k=>by
   have h1:=zvd (ts:=ts) (z:=ts.zip ads) (k:=k);have h2:=hF.tel.tl;rw[al78q] at h1;lia
  have hR:∀k l b,(l,b)∈rwOf ts (ts.zip ads) k->H b.2=some (.tup (tieV b.1))/\TOk us b.1:=fun k l b h=>zn7 hF.tel h
  have uF:∀k m m',FlF ts lo (fs.zip af) k m->FlF ts lo (fs.zip af) k m'->m.1=m'.1:=fun k m m' h h'=>by rw[h.low lf,h'.low lf]
  have uG:∀k m m',CeF ts hi (fs.zip af) k m->CeF ts hi (fs.zip af) k m'->m.1=m'.1:=fun k m m' h h'=>by rw[h.high lf,h'.high lf]
  rw[zcd] at nr;refine⟨_,rfl,p,pu,pt,_,_,us,ads,ts,rfl,hF.tel,fun pb ob adb bs H1 s1 fpb hB=>?_⟩;rw[zcd] at hB
  try dsimp only [zw]
  refine⟨_,rfl,p,pm,pu,pt,pf,lo,hi,us,ads,ts,af,fs,rfl,hF.same s1,fun pe oe ve ae H2 s2 fpe hE hEm=>?_⟩
  try dsimp only [zw]
  refine⟨_,rfl,p,pm,pu,pt,pf,lo,hi,us,ads,ts,af,fs,rfl,hF.same (s1.trans s2),fun pl ol vl al H3 s3 fpl hL hLm=>?_⟩;refine⟨pl,ol,_,vl,al,true,rfl,hL,knd,lk,fun pc oc adc H4 s4 fpc hC hCh=>?_⟩;have hC:H4 pc=some (.frz oc (.dK (dV (zn ts (srt us)) fun k=>.ref (adc k)))):=hC;have s24:=s3.trans s4;have s14:=s2.trans s24;have s04:=s1.trans s14;have hEm:∀k∈zn ts (srt us),CeF ts hi (fs.zip af) k (ve k):=hEm;have hLm:∀k∈zn ts (srt us),FlF ts lo (fs.zip af) k (vl k):=hLm;unfold zf6 at kN;unfold zib at kR;generalize zn ts (srt us)=keys at *;generalize rwOf ts (ts.zip ads)=R at *;generalize FlF ts lo (fs.zip af)=F at *;generalize CeF ts hi (fs.zip af)=G at *;have R0:Rung R F keys 0 keys (fun k=>((vl k).1,(vl k).2,[])):=Rung.zero knd (fun k hk=>⟨rfl,hLm k hk⟩) uF
  try dsimp only [zw]
  refine⟨fun m σ H'=>∃(n:Nat) (pc:ty1q) (oc:Obj) (M:List Str) (v:Str->Chn) (adc:Str->ty1q) (v4:Option V),σ = [some (.ref p),some (.ref pb),some (.ref pe),some (.ref pc),v4]/\Same H4 H'/\H' pc=some (.frz oc (.dK (dV M fun k=>.ref (adc k))))/\(∀k∈M,ChAt (fun _=>none) H' (adc k) (v k))/\Rung R F keys n M v/\
    (∀k∈keys,∀c m,Up R F k c->G k m->c.2.2.length<n->c.1<=m.1)/\m=keys.length-n,
   ⟨_,0,pc,oc,keys,_,adc,none,rfl,Same.refl _,hC,fun k hk=>(hCh k hk).any,R0,fun k hk c m _ _ z=>absurd z (Nat.not_lt_zero _),rfl⟩,?_⟩
  rintro m σ H5 ⟨n,pc,oc,M,v,adc,v4,rfl,q5,hC5,hM5,Rn,sm,rfl⟩;refine⟨_,rfl,fun e he=>?_⟩;have t6:=Same.new (o:=.dK []) he;have q6:=q5.trans t6;have hC6:=t6 _ _ hC5;refine⟨pc,e,_,rfl,rfl,.inr ⟨oc,hC6⟩,zf,_,rfl,?_⟩;have hM6:∀k∈M,ChAt (fun _=>none) (upd H5 e (.dK [])) (adc k) (v k):=fun k hk=>(hM5 k hk).same t6
  clear hC5 hM5;generalize upd H5 e (.dK [])=H6 at q6 hC6 hM6 t6;refine ite2 (fun c=>?_) (fun c=>?_)
  ·have ne:M≠[]:=fun z=>by rw[z] at c;simp[dV] at c
   obtain⟨k0,hk0⟩:=List.exists_mem_of_ne_nil _ ne;have hn:n<keys.length:=by
    have:=(Rn.is k0 hk0).1.short cl nr (Rn.sub k0 hk0);rw[(Rn.is k0 hk0).2] at this;exact this
   refine⟨fun σ' H'=>∃m',m'<keys.length-n/\_,fun σ' H' h=>h,?_⟩;refine⟨_,rfl,pc,oc,_,rfl,hC6,zcc (fun i σ H'=>∃(v4:Option V),σ = [some (.ref p),some (.ref pb),some (.ref pe),some (.ref pc),v4]/\Same H6 H'/\∀k∈M.take i,(v k).1<=(ve k).1)
    ⟨_,rfl,Same.refl _,fun k hk=>by simp at hk⟩ (fun i σ H' _ h=>by obtain⟨_,_,q,_⟩:=h;exact q _ _ hC6) ?_ ?_⟩
   ·rintro i kk vv σ H7 hx ⟨v4,rfl,q7,le7⟩;obtain⟨u,hu',rfl,_⟩:=zi1 hx;have huM:u∈M:=al6q hu';have huk:u∈keys:=Rn.sub u huM;have E7:=hE.same (s3.trans (s4.trans (q6.trans q7)));obtain⟨l,h1,h2,_⟩:=(hM6 u huM).same q7;have hC7:=q7 _ _ hC6
    try dsimp only [zw]
    refine⟨_,rfl,_,rfl,pc,_,rfl,zbh hC7 huM,adc u,_,_,_,rfl,rfl,SqT.of h1,rfl,_,rfl,_,rfl,pe,_,rfl,zbh E7.d huk,ae u,_,_,_,rfl,rfl,SqT.of (E7.e u huk),rfl,_,_,rfl,rfl,_,rfl,?_⟩;refine ite2 (fun c2=>?_) (fun c2=>?_)
    ·have c2:(ve u).1<(v u).1:=al16q c2;refine⟨_,rfl,_,rfl,pc,_,rfl,zbh hC7 huM,adc u,_,_,_,rfl,rfl,SqT.of h1,rfl,_,rfl,_,rfl,pc,_,rfl,zbh hC7 huM,adc u,_,_,_,rfl,rfl,SqT.of h1,rfl,_,rfl,_,rfl,pe,_,rfl,zbh E7.d huk,ae u,_,_,_,rfl,rfl,SqT.of (E7.e u huk),rfl,by show 3<=sizeLine;decide,fun q hq=>?_⟩;have t8:=Same.new (o:=.tup [.str (v u).2.1,.ref l,.str (ve u).2]) hq;refine kR q (v u) (ve u).2 _ (s04.trans (q6.trans (q7.trans t8))) ⟨l,zf,t8 _ _ h2⟩ ⟨u,ve u,huk,(Rn.is u huM).1,hEm u huk,rfl,c2,fun k' hk' c' m' u' g' lt=>sm k' hk' c' m' u' g' ?_⟩;rw[(Rn.is u huM).2] at lt;exact lt
    ·have c2:¬((v u).1 > (ve u).1):=fun z=>c2 (al10q z)
     refine⟨_,rfl,q7,fun k hk=>?_⟩;rw[al9q,hu'] at hk;rcases za5 hk with z | z
     ·exact le7 k z
     ·rw[z];lia
   ·rintro σ H7 ⟨v4,rfl,q7,le7⟩;rw[zas,al22q] at le7;have q47:=q6.trans q7;have B7:=hB.same (s14.trans q47);have hC7:=q7 _ _ hC6;refine⟨_,rfl,_,rfl,pb,pc,ob,oc,keys,R,adb,bs,M,v,adc,rfl,B7,hC7,fun k hk=>(hM6 k hk).same q7,fun k l b h=>⟨q47 _ _ (s04 _ _ (hR k l b h).1),us,(hR k l b h).2⟩,knd,lk,lR,fun k hk=>by
     have:=(Rn.is k hk).1.short cl nr (Rn.sub k hk);lia,fun pd o M' v' ad H8 s8 fpd hd8 hk8 nd8 sb8 gr8=>?_⟩
    refine⟨keys.length-(n+1),by lia,n+1,pd,o,M',v',ad,_,rfl,q47.trans s8,hd8,fun k hk=>(hk8 k hk).any,Rn.next cl nd8 sb8 gr8,fun k hk c m u g lt=>?_,rfl⟩
    by_cases e:c.2.2.length=n
    ·obtain⟨h1,h2⟩:=Rn.all k hk c u e;have h3:=le7 k h1;rw[uG k m (ve k) g (hEm k hk)];lia
    ·exact sm k hk c m u g (by lia)
  ·have e:M = []:=by
    cases M with
    | nil=>rfl
    | cons a b=>simp[dV] at c
   subst e;have st:=Rn.stop cl;exact kN _ (s04.trans q6) fun k hk c m u g=>sm k hk c m u g (st k hk c u)
inductive sp_cup' (vs:List V) (H:Hp) (Q:VK):Prop
 | mk (p pm pu pt pf:ty1q) (lo hi:Int) (us:List Str) (ads:List ty1q) (ts:List Tie) (af:List ty1q) (fs:List Fnd) (_:vs = [.ref p]) (_:TelF K H p pm pu pt pf lo hi us ads ts af fs) (_:NoR (zak ts (ts.zip ads)) (zn ts (srt us))) (_:∀(pd:ty1q) (o:Obj) (v:Str->Chn) (ad:Str->ty1q) (H':Hp),Same H H'->H pd=none->H' pd=some (.frz o (.dK (dV (zn ts (srt us)) fun k=>.ref (ad k))))->(∀k∈zn ts (srt us),ChAt H H' (ad k) (v k))->(∀k∈zn ts (srt us),Up (rwOf ts (ts.zip ads)) (FlF ts lo (fs.zip af)) k (v k)/\LoIs (rwOf ts (ts.zip ads)) (FlF ts lo (fs.zip af)) k (v k).1)->Q (.ref pd) H')
def zv0:Sp:=fun vs H Q _=>sp_cup' (K:=K) vs H Q
theorem zjm (T:Tx K mg w zr zv zi):Has P w K mg base "chains_up" ["telling"] 8 (zv0 (K:=K)):=by
 refine T.zju.has sc_chains_up (fun vs H Q E h=>?_) (fun f cdv A outer s H vs Q E hr h=>?_)
 ·obtain⟨p,pm,pu,pt,pf,lo,hi,us,ads,ts,af,fs,rfl,_⟩:=h;rfl
 ·obtain⟨p,pm,pu,pt,pf,lo,hi,us,ads,ts,af,fs,rfl,hF,nr0,k⟩:=h;have hu:=zbw hr;refine⟨_,(zg (sset (i:=1) sc_chains_up.nd (pfn (zaq T) (zc (pv 0) zh)))
   (zg (sset (i:=2) sc_chains_up.nd (pfn (zcg T) (zc (pfn (zko T) (zc (pv 0) zh)) zh)))
   (zg (zaw al30q rfl (zai K rfl (pfn (zfb T) (zc (pv 0) zh))) (gnm (i:=3) sc_chains_up.nd) (zm (zaw al30q rfl (zai K rfl (zy hu (pv 1) (pv 3) (fun _ _=>rfl))) (zby K rfl rfl (zam (gnm (i:=4) sc_chains_up.nd) (zam (gnm (i:=5) sc_chains_up.nd) zbt))) (zg (sset (i:=6) sc_chains_up.nd (pfn (zkp T) (zc (zy hu (pv 2) (pv 4) (fun _ _=>rfl)) (zc (pv 5) zh))))
     (zm (zbm (zad zmk (pix (zx K rfl) (pv 6) zj) (pix (zx K rfl) (zy hu (pv 2) (pv 3) (fun _ _=>rfl)) zj) (zah _)) (zm (zbg hu (pv 2) (pv 3) (pv 6) rfl)) zap))))))
   (zm (zd3 (zae (pv 2))))))),?_⟩
  have knd:=zav (ts:=ts) hF.tel.nd;have lk:=hF.tel.klen;have lf:=hF.flen;have cl:=zn8 (ads:=ads) hF.tel.ends;have hR:∀k l b,(l,b)∈rwOf ts (ts.zip ads) k->H b.2=some (.tup (tieV b.1))/\TOk us b.1:=fun k l b h=>zn7 hF.tel h
  have uF:∀k m m',FlF ts lo (fs.zip af) k m->FlF ts lo (fs.zip af) k m'->m.1=m'.1:=fun k m m' h h'=>by rw[h.low lf,h'.low lf]
  have nr:=nr0;rw[zcd] at nr;refine⟨_,rfl,p,pu,pt,_,_,us,ads,ts,rfl,hF.tel,fun pb ob adb bs H1 s1 fpb hB=>?_⟩;rw[zcd] at hB
  try dsimp only [zw]
  refine⟨_,rfl,p,pm,pu,pt,pf,lo,hi,us,ads,ts,af,fs,rfl,hF.same s1,fun pl ol vl al H2 s2 fpl hL hLm=>?_⟩;refine⟨pl,ol,_,vl,al,false,rfl,hL,knd,lk,fun pc oc adc H3 s3 fpc hC hCh=>?_⟩;have hC:H3 pc=some (.dK (dV (zn ts (srt us)) fun k=>.ref (adc k))):=hC;have s13:=s2.trans s3;have s03:=s1.trans s13
  try dsimp only [zw]
  refine⟨_,rfl,p,pu,pt,_,_,us,ads,ts,rfl,(hF.same s03).tel,nr0,fun po os H4 s4 fpo hpo O pmo=>?_⟩;have hB4:=hB.same (s13.trans s4);have hC4:=s4 _ _ hC;have s04:=s03.trans s4;have fpc0:H pc=none:=(s1.trans s2).free fpc;have npo:po≠pc:=fun z=>by rw[z,hC] at fpo;cases fpo
  have hCh4:∀k∈zn ts (srt us),ChAt H H4 (adc k) ((vl k).1,(vl k).2,[]):=fun k hk=>((hCh k hk).same s4).old (s1.trans s2)
  have hLm:∀k∈zn ts (srt us),FlF ts lo (fs.zip af) k (vl k):=hLm;rw[zcd] at O;clear nr0 hB hC hCh;generalize zn ts (srt us)=keys at *;generalize rwOf ts (ts.zip ads)=R at *;generalize FlF ts lo (fs.zip af)=F at *;have U0:UpSt R F keys [] (fun k=>((vl k).1,(vl k).2,[])):=⟨fun k hk=>Up.bare (hLm k hk),fun k hk m hm=>Int.le_of_eq (uF k m (vl k) hm (hLm k hk)),fun k hk=>by simp at hk⟩;have hh:∀{H':Hp},(∀b o,b≠pc->H4 b=some o->H' b=some o)->Same H H':=fun kp b o e=>kp b o (zq e fpc0) (s04 _ _ e)
  refine⟨po,rfl,⟨_,SqL.of hpo⟩,zat (xs:=os.map V.str) (fun i σ H'=>∃(v3 v4 v5 v6:Option V) (v:Str->Chn) (ad:Str->ty1q),σ = [some (.ref p),some (.ref pb),some (.ref pc),v3,v4,v5,v6]/\(∀b o,b≠pc->H4 b=some o->H' b=some o)/\H' pc=some (.dK (dV keys fun k=>.ref (ad k)))/\(∀k∈keys,ChAt H H' (ad k) (v k))/\UpSt R F keys (os.take i) v)
   ⟨none,none,none,none,_,adc,rfl,fun b o _ e=>e,hC4,hCh4,by simpa using U0⟩ (fun i σ H' _ h=>by obtain⟨_,_,_,_,_,_,_,q,_⟩:=h;exact SqL.of (q _ _ npo hpo)) ?_ ?_⟩
  ·rintro i x σ H5 hx ⟨v3,v4,v5,v6,v,ad,rfl,kp5,hd5,hk5,U5⟩;rw[al4q] at hx;cases eu:os[i]? with
   | none=>rw[eu] at hx;cases hx
   | some u=>
    rw[eu] at hx;cases hx;have huk:u∈keys:=O.sub u (al6q eu);obtain⟨fr,nlu,low⟩:=zoa O eu;have B5:=hB4.keep hC4 kp5;have lbs:(bs u).length=(R u).length:=(Paired.length (hB4.e u huk)).trans zi8;have tk:os.take (i+1)=os.take i++[u]:=by rw[al9q,eu];rfl
    try dsimp only [zw]
    refine⟨_,rfl,_,rfl,pb,_,rfl,B5.get huk,adb u,rfl,⟨_,SqL.of (B5.l u huk)⟩,zat (xs:=(bs u).map V.ref) (fun j σ H'=>∃(v4 v5 v6:Option V) (v:Str->Chn) (ad:Str->ty1q),σ = [some (.ref p),some (.ref pb),some (.ref pc),some (.str u),v4,v5,v6]/\(∀b o,b≠pc->H4 b=some o->H' b=some o)/\H' pc=some (.dK (dV keys fun k=>.ref (ad k)))/\(∀k∈keys,ChAt H H' (ad k) (v k))/\UpSt R F keys (os.take i) v/\∀l b,(l,b)∈(R u).take j->(v l).1+zaa b.1<=(v u).1)
     ⟨v4,v5,v6,v,ad,rfl,kp5,hd5,hk5,U5,fun l b h=>by simp at h⟩ (fun j σ H' _ h=>by obtain⟨_,_,_,_,_,_,q,_⟩:=h;exact SqL.of ((hB4.keep hC4 q).l u huk)) ?_ ?_⟩
    ·clear hk5 hd5 U5 B5 kp5;rintro j x σ H6 hx ⟨v4,v5,v6,v,ad,rfl,kp6,hd6,hk6,U6,le6⟩;have B6:=hB4.keep hC4 kp6;have q6:Same H H6:=hh kp6;obtain⟨b,⟨l,r⟩,rfl,hlr,_,hb⟩:=zbj (B6.e u huk) hx;obtain⟨t,ht⟩:=zn9 hlr;have htm:(l,(t,r))∈R u:=al6q ht;obtain⟨htr,tok⟩:=hR u l (t,r) htm;have hlk:l∈keys:=(cl _ _ _ htm).2;have nl:l≠u:=nlu l r (zdt htm);have rt:(R u).take (j+1)=(R u).take j++[(l,(t,r))]:=by rw[al9q,ht];rfl
     refine⟨b,_,rfl,SqT.of hb,rfl,_,_,rfl,_,_,rfl,rfl,?_⟩
     try dsimp only [zw]
     have gl:=DGet.k (k:=Sum.inr l) hd6;rw[zbk hlk] at gl;have lv:(v l).2.2.length<=900:=by
      have:=(U6.is l hlk).short cl nr hlk;lia
     refine⟨_,rfl,_,rfl,pc,_,rfl,gl,_,rfl,ad l,r,v l,t,us,rfl,(hk6 l hlk).any,q6 _ _ htr,tok,lv,fun q H7 s7 fq hq=>?_⟩;have hd7:=s7 _ _ hd6;have kp7:∀b o,b≠pc->H4 b=some o->H7 b=some o:=fun b o n e=>s7 _ _ (kp6 b o n e)
     have hk7:∀k∈keys,ChAt H H7 (ad k) (v k):=fun k hk=>(hk6 k hk).same s7
     have hq7:=hq.old q6;have gu:=DGet.k (k:=Sum.inr u) hd7;rw[zbk huk] at gu;obtain⟨lq,h1,_⟩:=id hq7;obtain⟨lu,h2,_⟩:=hk7 u huk
     try dsimp only [zw]
     refine⟨_,rfl,q,_,_,_,rfl,rfl,SqT.of h1,rfl,_,rfl,_,rfl,pc,_,rfl,gu,ad u,_,_,_,rfl,rfl,SqT.of h2,rfl,_,_,rfl,rfl,_,rfl,?_⟩;refine ite2 (fun c=>?_) (fun c=>?_)
     ·have c:(v u).1<(v l).1+zaa t:=al16q c;refine⟨_,rfl,_,rfl,_,rfl,pc,_,rfl,DPut.k (k:=Sum.inr u) hd7 (by rw[zas];exact zz (by lia)),?_⟩;rw[zkc huk,show (dV keys fun z=>if z=u then V.ref q else V.ref (ad z))=dV keys fun k=>V.ref (if k=u then q else ad k) from zbe fun z _=>by split<;>rfl];refine⟨_,_,_,fun k=>if k=u then ((v l).1+zaa t,(v l).2.1,(v l).2.2++[(t,r)]) else v k,fun k=>if k=u then q else ad k,rfl,fun b o n e=>by rw[zo n];exact kp7 b o n e,zf,fun k hk=>?_,U6.set fr (fun k hk l b hb=>low k hk l b.2 (zdt hb)) ((U6.is l hlk).up htm) (Int.le_of_lt c),fun l' b' h'=>?_⟩
      ·dsimp only
       by_cases e:k=u
       ·rw[al12q e,al12q e];exact hq7.put hd7
       ·rw[al8q e,al8q e];exact (hk7 k hk).put hd7
      ·dsimp only;rw[al12q rfl];show _<=(v l).1+zaa t;rw[rt] at h';rcases za5 h' with z | z
       ·rw[al8q (nlu l' b'.2 (zdt (al112q z)))];have:=le6 l' b' z;lia
       ·cases z;rw[al8q nl];exact al111q _
     ·have c:¬((v l).1+zaa t > (v u).1):=fun z=>c (al10q z)
      refine⟨_,_,_,v,ad,rfl,kp7,hd7,hk7,U6,fun l' b' h'=>?_⟩;rw[rt] at h';rcases za5 h' with z | z
      ·exact le6 l' b' z
      ·cases z;show (v l).1+zaa t<=_;lia
    ·rintro σ H6 ⟨v4,v5,v6,v,ad,rfl,kp6,hd6,hk6,U6,le6⟩;rw[al0q,lbs,al22q] at le6;exact⟨_,_,_,_,v,ad,rfl,kp6,hd6,hk6,by rw[tk];exact U6.snoc le6⟩
  ·rintro σ H5 ⟨v3,v4,v5,v6,v,ad,rfl,kp5,hd5,hk5,U5⟩;rw[al0q,al22q] at U5;have all:∀k∈keys,k∈os:=fun k hk=>pmo.mem_iff.mpr hk
   exact .inr ⟨pc,_,hd5,fun ob'=>⟨_,rfl,k pc ob' v ad _ ((hh kp5).upd fpc0) fpc0 zf (fun k hk=>(hk5 k hk).put hd5) fun k hk=>⟨U5.is k hk,U5.lo cl all hk⟩⟩⟩
inductive sp_cdn' (vs:List V) (H:Hp) (Q:VK):Prop
 | mk (p pm pu pt pf:ty1q) (lo hi:Int) (us:List Str) (ads:List ty1q) (ts:List Tie) (af:List ty1q) (fs:List Fnd) (_:vs = [.ref p]) (_:TelF K H p pm pu pt pf lo hi us ads ts af fs) (_:NoR (zak ts (ts.zip ads)) (zn ts (srt us))) (_:∀(pd:ty1q) (o:Obj) (v:Str->Chn) (ad:Str->ty1q) (H':Hp),Same H H'->H pd=none->H' pd=some (.frz o (.dK (dV (zn ts (srt us)) fun k=>.ref (ad k))))->(∀k∈zn ts (srt us),ChAt H H' (ad k) (v k))->(∀k∈zn ts (srt us),Dn (rwOf ts (ts.zip ads)) (CeF ts hi (fs.zip af)) k (v k)/\HiIs (rwOf ts (ts.zip ads)) (CeF ts hi (fs.zip af)) k (v k).1)->Q (.ref pd) H')
def zv1:Sp:=fun vs H Q _=>sp_cdn' (K:=K) vs H Q
theorem zg5 (T:Tx K mg w zr zv zi):Has P w K mg base "chains_down" ["telling"] 8 (zv1 (K:=K)):=by
 refine T.zg7.has sc_chains_down (fun vs H Q E h=>?_) (fun f cdv A outer s H vs Q E hr h=>?_)
 ·obtain⟨p,pm,pu,pt,pf,lo,hi,us,ads,ts,af,fs,rfl,_⟩:=h;rfl
 ·obtain⟨p,pm,pu,pt,pf,lo,hi,us,ads,ts,af,fs,rfl,hF,nr0,k⟩:=h;have hu:=zbw hr;refine⟨_,(zg (sset (i:=1) sc_chains_down.nd (pfn (zaq T) (zc (pv 0) zh)))
   (zg (sset (i:=2) sc_chains_down.nd (pfn (zcg T) (zc (pfn (zf9 T) (zc (pv 0) zh)) zh)))
   (zg (zaw al30q rfl (zta K rfl (by rfl) T.reversed (pfn (zfb T) (zc (pv 0) zh))) (gnm (i:=3) sc_chains_down.nd) (zm (zaw al30q rfl (zai K rfl (zy hu (pv 1) (pv 3) (fun _ _=>rfl))) (zby K rfl rfl (zam (gnm (i:=4) sc_chains_down.nd) (zam (gnm (i:=5) sc_chains_down.nd) zbt))) (zg (sset (i:=6) sc_chains_down.nd (pfn (zly T) (zc (zy hu (pv 2) (pv 3) (fun _ _=>rfl)) (zc (pv 5) zh))))
     (zm (zbm (zad zmj (pix (zx K rfl) (pv 6) zj) (pix (zx K rfl) (zy hu (pv 2) (pv 4) (fun _ _=>rfl)) zj) (zah _)) (zm (zbg hu (pv 2) (pv 4) (pv 6) rfl)) zap))))))
   (zm (zd3 (zae (pv 2))))))),?_⟩
  have knd:=zav (ts:=ts) hF.tel.nd;have lk:=hF.tel.klen;have lf:=hF.flen;have cl:=zn8 (ads:=ads) hF.tel.ends;have hR:∀k l b,(l,b)∈rwOf ts (ts.zip ads) k->H b.2=some (.tup (tieV b.1))/\TOk us b.1:=fun k l b h=>zn7 hF.tel h
  have uF:∀k m m',CeF ts hi (fs.zip af) k m->CeF ts hi (fs.zip af) k m'->m.1=m'.1:=fun k m m' h h'=>by rw[h.high lf,h'.high lf]
  have nr:=nr0;rw[zcd] at nr;refine⟨_,rfl,p,pu,pt,_,_,us,ads,ts,rfl,hF.tel,fun pb ob adb bs H1 s1 fpb hB=>?_⟩;rw[zcd] at hB
  try dsimp only [zw]
  refine⟨_,rfl,p,pm,pu,pt,pf,lo,hi,us,ads,ts,af,fs,rfl,hF.same s1,fun pl ol vl al H2 s2 fpl hL hLm=>?_⟩;refine⟨pl,ol,_,vl,al,false,rfl,hL,knd,lk,fun pc oc adc H3 s3 fpc hC hCh=>?_⟩;have hC:H3 pc=some (.dK (dV (zn ts (srt us)) fun k=>.ref (adc k))):=hC;have s13:=s2.trans s3;have s03:=s1.trans s13
  try dsimp only [zw]
  refine⟨_,rfl,p,pu,pt,_,_,us,ads,ts,rfl,(hF.same s03).tel,nr0,fun po os H4 s4 fpo hpo O pmo=>?_⟩;have hB4:=hB.same (s13.trans s4);have hC4:=s4 _ _ hC;have s04:=s03.trans s4;have fpc0:H pc=none:=(s1.trans s2).free fpc;have npo:po≠pc:=fun z=>by rw[z,hC] at fpo;cases fpo
  have hCh4:∀k∈zn ts (srt us),ChAt H H4 (adc k) ((vl k).1,(vl k).2,[]):=fun k hk=>((hCh k hk).same s4).old (s1.trans s2)
  have hLm:∀k∈zn ts (srt us),CeF ts hi (fs.zip af) k (vl k):=hLm;rw[zcd] at O;clear nr0 hB hC hCh;generalize zn ts (srt us)=keys at *;generalize rwOf ts (ts.zip ads)=R at *;generalize CeF ts hi (fs.zip af)=F at *;have U0:DnSt R F keys [] (fun k=>((vl k).1,(vl k).2,[])):=⟨fun k hk=>Dn.bare (hLm k hk),fun k hk m hm=>Int.le_of_eq (uF k m (vl k) hm (hLm k hk)).symm,fun k hk=>by simp at hk⟩;have hh:∀{H':Hp},(∀b o,b≠pc->H4 b=some o->H' b=some o)->Same H H':=fun kp b o e=>kp b o (zq e fpc0) (s04 _ _ e)
  refine⟨po,os.map V.str,rfl,SqL.of hpo,ztb (xs:=os.map V.str) (fun i σ H'=>∃(v3 v4 v5 v6:Option V) (v:Str->Chn) (ad:Str->ty1q),σ = [some (.ref p),some (.ref pb),some (.ref pc),v3,v4,v5,v6]/\(∀b o,b≠pc->H4 b=some o->H' b=some o)/\H' pc=some (.dK (dV keys fun k=>.ref (ad k)))/\(∀k∈keys,ChAt H H' (ad k) (v k))/\DnSt R F keys (os.reverse.take i) v)
   ⟨none,none,none,none,_,adc,rfl,fun b o _ e=>e,hC4,hCh4,by simpa using U0⟩ (fun i σ H' _ h=>by obtain⟨_,_,_,_,_,_,_,q,_⟩:=h;exact SqL.of (q _ _ npo hpo)) ?_ ?_⟩
  ·rintro i x σ H5 hx ⟨v3,v4,v5,v6,v,ad,rfl,kp5,hd5,hk5,U5⟩;rw[←List.map_reverse,al4q] at hx;cases eu:os.reverse[i]? with
   | none=>rw[eu] at hx;cases hx
   | some u=>
    rw[eu] at hx;cases hx;have huk:u∈keys:=O.sub u (al186q.mp (al6q eu));obtain⟨fr,low⟩:=zs3 O eu;have B5:=hB4.keep hC4 kp5;have lbs:(bs u).length=(R u).length:=(Paired.length (hB4.e u huk)).trans zi8;have tk:os.reverse.take (i+1)=os.reverse.take i++[u]:=by rw[al9q,eu];rfl
    try dsimp only [zw]
    refine⟨_,rfl,_,rfl,pb,_,rfl,B5.get huk,adb u,rfl,⟨_,SqL.of (B5.l u huk)⟩,zat (xs:=(bs u).map V.ref) (fun j σ H'=>∃(v4 v5 v6:Option V) (v:Str->Chn) (ad:Str->ty1q),σ = [some (.ref p),some (.ref pb),some (.ref pc),some (.str u),v4,v5,v6]/\(∀b o,b≠pc->H4 b=some o->H' b=some o)/\H' pc=some (.dK (dV keys fun k=>.ref (ad k)))/\(∀k∈keys,ChAt H H' (ad k) (v k))/\DnSt R F keys (os.reverse.take i) v/\∀l b,(l,b)∈(R u).take j->(v l).1<=(v u).1-zaa b.1)
     ⟨v4,v5,v6,v,ad,rfl,kp5,hd5,hk5,U5,fun l b h=>by simp at h⟩ (fun j σ H' _ h=>by obtain⟨_,_,_,_,_,_,q,_⟩:=h;exact SqL.of ((hB4.keep hC4 q).l u huk)) ?_ ?_⟩
    ·clear hk5 hd5 U5 B5 kp5;rintro j x σ H6 hx ⟨v4,v5,v6,v,ad,rfl,kp6,hd6,hk6,U6,le6⟩;have B6:=hB4.keep hC4 kp6;have q6:Same H H6:=hh kp6;obtain⟨b,⟨l,r⟩,rfl,hlr,_,hb⟩:=zbj (B6.e u huk) hx;obtain⟨t,ht⟩:=zn9 hlr;have htm:(l,(t,r))∈R u:=al6q ht;obtain⟨htr,tok⟩:=hR u l (t,r) htm;have hlk:l∈keys:=(cl _ _ _ htm).2;obtain⟨frl,nl⟩:=low l r (zdt htm);have rt:(R u).take (j+1)=(R u).take j++[(l,(t,r))]:=by rw[al9q,ht];rfl
     refine⟨b,_,rfl,SqT.of hb,rfl,_,_,rfl,_,_,rfl,rfl,?_⟩
     try dsimp only [zw]
     have gu:=DGet.k (k:=Sum.inr u) hd6;rw[zbk huk] at gu;have lv:(v u).2.2.length<=900:=by
      have:=(U6.is u huk).short cl nr huk;lia
     refine⟨_,rfl,_,rfl,pc,_,rfl,gu,_,rfl,ad u,r,v u,t,us,rfl,(hk6 u huk).any,q6 _ _ htr,tok,lv,fun q H7 s7 fq hq=>?_⟩;have hd7:=s7 _ _ hd6;have kp7:∀b o,b≠pc->H4 b=some o->H7 b=some o:=fun b o n e=>s7 _ _ (kp6 b o n e)
     have hk7:∀k∈keys,ChAt H H7 (ad k) (v k):=fun k hk=>(hk6 k hk).same s7
     have hq7:=hq.old q6;have gl:=DGet.k (k:=Sum.inr l) hd7;rw[zbk hlk] at gl;obtain⟨lq,h1,_⟩:=id hq7;obtain⟨lu,h2,_⟩:=hk7 l hlk
     try dsimp only [zw]
     refine⟨_,rfl,q,_,_,_,rfl,rfl,SqT.of h1,rfl,_,rfl,_,rfl,pc,_,rfl,gl,ad l,_,_,_,rfl,rfl,SqT.of h2,rfl,_,_,rfl,rfl,_,rfl,?_⟩;refine ite2 (fun c=>?_) (fun c=>?_)
     ·have c:(v u).1-zaa t<(v l).1:=al16q c;refine⟨_,rfl,_,rfl,_,rfl,pc,_,rfl,DPut.k (k:=Sum.inr l) hd7 (by rw[zas];exact zz (by lia)),?_⟩;rw[zkc hlk,show (dV keys fun z=>if z=l then V.ref q else V.ref (ad z))=dV keys fun k=>V.ref (if k=l then q else ad k) from zbe fun z _=>by split<;>rfl];refine⟨_,_,_,fun k=>if k=l then ((v u).1-zaa t,(v u).2.1,(t,r)::(v u).2.2) else v k,fun k=>if k=l then q else ad k,rfl,fun b o n e=>by rw[zo n];exact kp7 b o n e,zf,fun k hk=>?_,U6.set frl ((U6.is u huk).dn htm) (Int.le_of_lt c),fun l' b' h'=>?_⟩
      ·dsimp only
       by_cases e:k=l
       ·rw[al12q e,al12q e];exact hq7.put hd7
       ·rw[al8q e,al8q e];exact (hk7 k hk).put hd7
      ·dsimp only;rw[al8q (al26q nl)];rw[rt] at h';rcases za5 h' with z | z
       ·have h8:=le6 l' b' z
        by_cases e:l'=l
        ·rw[al12q e];rw[e] at h8;show (v u).1-zaa t<=_;lia
        ·rw[al8q e];exact h8
       ·cases z;rw[al12q rfl];exact al111q _
     ·have c:¬((v u).1-zaa t<(v l).1):=fun z=>c (al10q z)
      refine⟨_,_,_,v,ad,rfl,kp7,hd7,hk7,U6,fun l' b' h'=>?_⟩;rw[rt] at h';rcases za5 h' with z | z
      ·exact le6 l' b' z
      ·cases z;show (v l).1<=(v u).1-zaa t;lia
    ·rintro σ H6 ⟨v4,v5,v6,v,ad,rfl,kp6,hd6,hk6,U6,le6⟩;rw[al0q,lbs,al22q] at le6;exact⟨_,_,_,_,v,ad,rfl,kp6,hd6,hk6,by rw[tk];exact U6.snoc le6⟩
  ·rintro σ H5 ⟨v3,v4,v5,v6,v,ad,rfl,kp5,hd5,hk5,U5⟩;rw[al0q,←al165q (as:=os),al22q] at U5;have all:∀k∈keys,k∈os.reverse:=fun k hk=>al186q.mpr (pmo.mem_iff.mpr hk)
   exact .inr ⟨pc,_,hd5,fun ob'=>⟨_,rfl,k pc ob' v ad _ ((hh kp5).upd fpc0) fpc0 zf (fun k hk=>(hk5 k hk).put hd5) fun k hk=>⟨U5.is k hk,U5.hi cl all hk⟩⟩⟩
theorem zkq {H H':Hp}{e:ty1q}(he:H e=none) (s:∀b o,b≠e->H b=some o->H' b=some o):Same H (del H' e):=fun b o h=>by
 have n:=zq h he;unfold del;rw[al8q n];exact s b o n h
inductive sp_refR' (C:ty1q) (vs:List V) (H:Hp) (Q:VK) (E:XK):Prop
 | mk (p pu pt:ty1q) (x y:V) (us:List Str) (ads:List ty1q) (ts:List Tie) (_:vs = [.ref p]) (_:Tel K H p pu pt x y us ads ts) (_:(NoR (zak ts (ts.zip ads)) (zn ts (srt us))->∀H',Same H H'->Q .non H')) (_:∀(d q:ty1q) (rs:List ty1q) (H':Hp),Same H H'->H' d=some (.xd [("ties",.ref q)])->H' q=some (.lst (rs.map V.ref))->rs≠[]->rs.length<=64->Rnd (zak ts (ts.zip ads)) (zn ts (srt us)) rs->E (.ref C) (some d) H')
def zts (C:ty1q):Sp:=fun vs H Q E=>sp_refR' (K:=K) C vs H Q E
theorem zfm (T:Tx K mg w zr zv zi):HasX P w K mg base "refuse_round" ["telling"] 6 (zts (K:=K) zv):=by
 refine T.zc4.hasX sc_refuse_round (fun vs H Q E h=>?_) (fun f cdv A outer s H vs Q E hr h=>?_)
 ·obtain⟨p,pu,pt,x,y,us,ads,ts,rfl,_⟩:=h;rfl
 ·obtain⟨p,pu,pt,x,y,us,ads,ts,rfl,hT,kQ,kE⟩:=h;refine⟨_,(zg (sset (i:=1) sc_refuse_round.nd (pfn (zcj T) (zc (pv 0) zh)))
   (zm (zbm (zad (zc7 K rfl (hu10 hr)) (pv 1) (zao zh) (zah _)) (zm (zie (zd8 T) T.zks (hr.mono (by decide)) zgy (by rfl) T.zkr (by decide) (zc (pv 1) zh))) zap))),?_⟩
  refine⟨_,rfl,p,pu,pt,x,y,us,ads,ts,rfl,hT,fun q rs H1 s1 fq hq lr R=>?_⟩
  try dsimp only [zw]
  refine⟨_,rfl,by decide,fun e he=>?_⟩;have s2:=Same.new (o:=.lst []) he;refine⟨q,e,_,rfl,rfl,DEq.nilL (SqL.of (s2 _ _ hq)) (SqL.of zf),_,rfl,?_⟩;refine ite2 (fun c=>?_) (fun c=>?_)
  ·have c:rs≠[]:=fun z=>by rw[z] at c;simp at c
   have hq2:=s2 _ _ hq;have q2:=s1.trans s2;generalize upd H1 e (.lst [])=H2 at hq2 q2;refine⟨_,rfl,fun o ho=>?_⟩;have t3:=Same.new (o:=excO o zv none) ho;refine⟨o,q,_,rfl,zf,SqL.of (t3 _ _ hq2),by rw[al0q];lia,fun q' d n1 n2 f1 f2 n3=>?_⟩;refine⟨rfl,some d,zf,?_⟩;rw[zo n1] at f1;rw[zo n2] at f2;refine kE d q' rs _ (q2.trans (zkq ho fun b o' n h=>?_)) ?_ ?_ c lr R
   ·rw[zo n,zo (zq h f2),zo (zq h f1),zo n];exact h
   ·unfold del;rw[al8q n2,zo n2,zf]
   ·unfold del;rw[al8q n1,zo n1,zo (al26q n3),zf]
  ·have c:rs = []:=by simpa using c
   refine kQ (fun s hs j hj r=>?_) _ (s1.trans s2);exact (R.nil_iff.mpr ⟨s,hs,j,hj,r⟩) c
inductive sp_refundR' (C1 C:ty1q) (vs:List V) (H:Hp) (Q:VK) (E:XK):Prop
 | mk (p pm pu pt pf:ty1q) (lo hi:Int) (us:List Str) (ads:List ty1q) (ts:List Tie) (af:List ty1q) (fs:List Fnd) (_:vs = [.ref p]) (_:TelF K H p pm pu pt pf lo hi us ads ts af fs) (_:(NoR (zak ts (ts.zip ads)) (zn ts (srt us))->∀H',Same H H'->zf6 lo hi us ads ts af fs->Q .non H')) (_:(∀(d q:ty1q) (rs:List ty1q) (H':Hp),Same H H'->H' d=some (.xd [("ties",.ref q)])->H' q=some (.lst (rs.map V.ref))->rs≠[]->rs.length<=64->Rnd (zak ts (ts.zip ads)) (zn ts (srt us)) rs->E (.ref C1) (some d) H')) (_:(NoR (zak ts (ts.zip ads)) (zn ts (srt us))->∀(d r:ty1q) (c:Chn) (w:Str) (H':Hp),Same H H'->H' d=some (.xd [("row",.ref r)])->zqb H' r c w->zib lo hi us ads ts af fs c w->E (.ref C) (some d) H'))
def zlz (C1 C:ty1q):Sp:=fun vs H Q E=>sp_refundR' (K:=K) C1 C vs H Q E
theorem zeb (T:Tx K mg w zr zv zi):HasX P w K mg base "refuse_undated" ["telling"] 7 (zlz (K:=K) zv zi):=by
 refine T.zeg.hasX sc_refuse_undated (fun vs H Q E h=>?_) (fun f cdv A outer s H vs Q E hr h=>?_)
 ·obtain⟨p,pm,pu,pt,pf,lo,hi,us,ads,ts,af,fs,rfl,_⟩:=h;rfl
 ·obtain⟨p,pm,pu,pt,pf,lo,hi,us,ads,ts,af,fs,rfl,hF,kN,kRd,kR⟩:=h;refine⟨_,(zg (za7 (zrt (zfm T) zgy (hr.mono (by decide)) (by rfl) (zc (pv 0) zh)))
   (zg (sset (i:=1) sc_refuse_undated.nd (pfn (zea T) (zc (pv 0) zh)))
   (zm (zbm (zeq (zr3 (pv 1))) (zm (zie (zc9 T) T.zff (hr.mono (by decide)) zgy (by rfl) T.zfe (by decide) (zc (pv 1) zh))) zap)))),?_⟩
  refine⟨_,rfl,p,pu,pt,_,_,us,ads,ts,rfl,hF.tel,fun nr H1 s1=>?_,kRd⟩
  try dsimp only [zw]
  refine⟨_,rfl,p,pm,pu,pt,pf,lo,hi,us,ads,ts,af,fs,rfl,hF.same s1,nr,fun H2 s2 no=>?_,fun q c w H2 s2 ra ri=>?_⟩
  ·try dsimp only [zw]
   refine⟨_,rfl,_,rfl,iteF ?_⟩;exact kN nr _ (s1.trans s2) no
  ·try dsimp only [zw]
   refine⟨_,rfl,_,rfl,iteT ?_⟩;obtain⟨l,h1,h2⟩:=ra;refine⟨_,rfl,fun e he=>?_⟩;have t3:=Same.new (o:=excO e zi none) he;have lc:c.2.2.length<=900:=by
    obtain⟨k,m,hk,u,_⟩:=ri;have nr':=nr;rw[zcd] at nr';have:=u.short (zn8 (ads:=ads) hF.tel.ends) nr' hk;have:=hF.tel.klen;lia
   refine⟨e,q,l,.str c.2.1,.str w,_,rfl,zf,SqT.of (t3 _ _ h1),SqL.of (t3 _ _ h2),by rw[al0q];lia,fun q' r d n1 n2 n3 fq fr fd n4 n5 n6=>?_⟩;refine⟨rfl,some d,zf,?_⟩;rw[zo n1] at fq;rw[zo n2] at fr;rw[zo n3] at fd;refine kR nr d r c w _ (s1.trans (s2.trans (zkq he fun b o n h=>?_))) ?_ ⟨q',?_,?_⟩ ri
   ·rw[zo n,zo (zq h fd),zo (zq h fr),zo (zq h fq),zo n];exact h
   ·unfold del;rw[al8q n3,zo n3,zf]
   ·unfold del;rw[al8q n2,zo n2,zo (al26q n6),zf]
   ·unfold del;rw[al8q n1,zo n1,zo (al26q n5),zo (al26q n4),zf]
theorem zr0 {us:List Str}{ts:List Tie}{ads rs:List ty1q}(nr:NoR (zak ts (ts.zip ads)) (zn ts (srt us))) (hn:rs≠[]) (R:Rnd (zak ts (ts.zip ads)) (zn ts (srt us)) rs):False:=by
 obtain⟨s,hs,j,hj,r⟩:=R.nil_iff.mp hn;exact nr s hs j hj r
def zo6 (H:Hp) (q:ty1q) (keys:List Str) (f g:Str->Int):Prop:=∃as:List ty1q,H q=some (.lst (as.map V.ref))/\Paired (fun a k=>H a=some (.tup [.str k,.int (f k),.int (g k)])) as keys
inductive sp_spansR' (C1 C:ty1q) (vs:List V) (H:Hp) (Q:VK) (E:XK):Prop
 | mk (p pm pu pt pf:ty1q) (lo hi:Int) (us:List Str) (ads:List ty1q) (ts:List Tie) (af:List ty1q) (fs:List Fnd) (_:vs = [.ref p]) (_:TelF K H p pm pu pt pf lo hi us ads ts af fs) (_:(NoR (zak ts (ts.zip ads)) (zn ts (srt us))->∀(q:ty1q) (f g:Str->Int) (H':Hp),Same H H'->H q=none->zo6 H' q (zn ts (srt us)) f g->(∀k∈zn ts (srt us),LoIs (rwOf ts (ts.zip ads)) (FlF ts lo (fs.zip af)) k (f k))->(∀k∈zn ts (srt us),HiIs (rwOf ts (ts.zip ads)) (CeF ts hi (fs.zip af)) k (g k))->zf6 lo hi us ads ts af fs->Q (.ref q) H')) (_:(∀(d q:ty1q) (rs:List ty1q) (H':Hp),Same H H'->H' d=some (.xd [("ties",.ref q)])->H' q=some (.lst (rs.map V.ref))->rs≠[]->rs.length<=64->Rnd (zak ts (ts.zip ads)) (zn ts (srt us)) rs->E (.ref C1) (some d) H')) (_:(NoR (zak ts (ts.zip ads)) (zn ts (srt us))->∀(d r:ty1q) (c:Chn) (w:Str) (H':Hp),Same H H'->H' d=some (.xd [("row",.ref r)])->zqb H' r c w->zib lo hi us ads ts af fs c w->E (.ref C) (some d) H'))
def zo7 (C1 C:ty1q):Sp:=fun vs H Q E=>sp_spansR' (K:=K) C1 C vs H Q E
theorem ztt (T:Tx K mg w zr zv zi):HasX P w K mg base "spans" ["telling"] 9 (zo7 (K:=K) zv zi):=by
 refine T.zt0.hasX sc_spans (fun vs H Q E h=>?_) (fun f cdv A outer s H vs Q E hr h=>?_)
 ·obtain⟨p,pm,pu,pt,pf,lo,hi,us,ads,ts,af,fs,rfl,_⟩:=h;rfl
 ·obtain⟨p,pm,pu,pt,pf,lo,hi,us,ads,ts,af,fs,rfl,hF,kN,kRd,kR⟩:=h;have hu:=zbw hr;refine⟨_,(zg (za7 (zrt (zeb T) zgy (hr.mono (by decide)) (by rfl) (zc (pv 0) zh)))
   (zg (sset (i:=1) sc_spans.nd (pfn (zjm T) (zc (pv 0) zh)))
   (zg (sset (i:=2) sc_spans.nd (pfn (zg5 T) (zc (pv 0) zh)))
   (zm (zae (zbx (own:=["name"]) (cap:=["ups","downs"]) (ix:=[1,2]) (osc:=zp (top 31)) rfl ⟨rfl,by decide +kernel,by decide +kernel,by decide +kernel,by decide +kernel⟩ rfl (zb5 (pv 1)) (fun _ _ _ _=>zbb (i:=0) (show List.Nodup (["name","ups","downs"]:List Str) by decide +kernel) rfl (Or.inl rfl)) (fun _ _ _ _=>zbp) (fun _ _ _ _=>(zax (zc (pv 0) (zc (pix (zx K rfl) (zy hu (pv 1) (pv 0) (fun _ _=>rfl)) zj) (zc (pix (zx K rfl) (zy hu (pv 2) (pv 0) (fun _ _=>rfl)) zj) zh))))))))))),?_⟩
  have lk:=hF.tel.klen;refine⟨_,rfl,p,pm,pu,pt,pf,lo,hi,us,ads,ts,af,fs,rfl,hF,fun nr H1 s1 no=>?_,kRd,kR⟩
  try dsimp only [zw]
  refine⟨_,rfl,p,pm,pu,pt,pf,lo,hi,us,ads,ts,af,fs,rfl,hF.same s1,nr,fun pa oa va aa H2 s2 fpa hpa hca ua=>?_⟩
  try dsimp only [zw]
  refine⟨_,rfl,p,pm,pu,pt,pf,lo,hi,us,ads,ts,af,fs,rfl,hF.same (s1.trans s2),nr,fun pb ob vb ab H3 s3 fpb hpb hcb ub=>?_⟩;have q3:=s1.trans (s2.trans s3);have hpa3:=s3 _ _ hpa;have hca3:∀k∈zn ts (srt us),ChAt H1 H3 (aa k) (va k):=fun k hk=>(hca k hk).same s3
  have kN':=fun q H' s f h=>kN nr q (fun k=>(va k).1) (fun k=>(vb k).1) H' s f h (fun k hk=>(ua k hk).2) (fun k hk=>(ub k hk).2) no
  clear ua ub kN kRd kR;generalize zn ts (srt us)=keys at *
  try dsimp only [zw]
  refine⟨_,rfl,pa,oa,_,rfl,hpa3,fun D hD=>?_⟩;refine zbd (zgr (a:=pa) (ob:=oa) (kvs:=dV keys fun k=>.ref (aa k))) (fun i σ' ys H'=>∃(w0:Option V) (as:List ty1q),σ' = [w0,some (.ref pa),some (.ref pb)]/\ys=as.map V.ref/\Paired (fun a k=>H' a=some (.tup [.str k,.int (va k).1,.int (vb k).1])) as (keys.take i)/\Same H3 H'/\H' D=some (.lst ys))
   ⟨none,[],rfl,rfl,.nil,Same.new hD,zf⟩ (fun i σ' ys H' h=>?_) (by rw[al0q,zas];exact zar (by lia)) ?_ ?_
  ·obtain⟨_,as,_,rfl,pb',q,hd⟩:=h;refine⟨q _ _ hpa3,hd,?_⟩;have:=Paired.length pb';rw[al28q] at this;rw[al0q];lia
  ·rintro i x σ' ys H4 hx ⟨w0,as,rfl,rfl,pr,q4,hd4⟩;have hix:=zaj hx;rw[zgn,al4q] at hx;cases eu:keys[i]? with
   | none=>rw[eu] at hx;cases hx
   | some u=>
    rw[eu] at hx;cases hx;have hu':u∈keys:=al6q eu;obtain⟨la,h1,_⟩:=(hca3 u hu').same q4;obtain⟨lb,h2,_⟩:=(hcb u hu').same q4
    try dsimp only [zw]
    unfold tYes;dsimp only;rw[al12q rfl];refine⟨_,rfl,_,rfl,_,rfl,pa,_,rfl,zbh (q4 _ _ hpa3) hu',aa u,_,_,_,rfl,rfl,SqT.of h1,rfl,_,rfl,_,rfl,pb,_,rfl,zbh (q4 _ _ hpb) hu',ab u,_,_,_,rfl,rfl,SqT.of h2,rfl,(by show 3<=sizeLine;decide),fun b1 hb1=>?_⟩;have w1:=Same.new (o:=.tup [.str u,.int (va u).1,.int (vb u).1]) hb1;have hd1:=w1 _ _ hd4;refine⟨hd1,zcl hix ⟨_,as++[b1],rfl,by rw[al15q];rfl,?_,(q4.trans w1).upd hD,zf⟩⟩;rw[al9q,eu];exact Paired.snoc (Paired.mapP pr fun a z e=>za1 hd1 _ _ (w1 _ _ e)) (za1 hd1 _ _ zf)
  rintro σ' ys H4 ⟨w0,as,rfl,rfl,pr,q4,hd4⟩;rw[al0q,zas,al22q] at pr;exact kN' D _ (q3.trans q4) (q3.free hD) ⟨as,hd4,pr⟩
inductive sp_asked46' (vs:List V) (H:Hp) (Q:VK):Prop
 | mk (p pm pu pt pf:ty1q) (lo hi:Int) (us:List Str) (ads:List ty1q) (ts:List Tie) (af:List ty1q) (fs:List Fnd) (_:vs = [.ref p]) (_:TelF K H p pm pu pt pf lo hi us ads ts af fs) (_:∀(r q:ty1q) (wd:Str) (H':Hp),Same H H'->H' r=some (.tup [.str wd,.ref q])->((wd = "spans"/\NoR (zak ts (ts.zip ads)) (zn ts (srt us))/\H q=none/\∃f g:Str->Int,zo6 H' q (zn ts (srt us)) f g/\(∀k∈zn ts (srt us),LoIs (rwOf ts (ts.zip ads)) (FlF ts lo (fs.zip af)) k (f k))/\(∀k∈zn ts (srt us),HiIs (rwOf ts (ts.zip ads)) (CeF ts hi (fs.zip af)) k (g k))/\zf6 lo hi us ads ts af fs)\/(wd = "row"/\NoR (zak ts (ts.zip ads)) (zn ts (srt us))/\∃(c:Chn) (w:Str),zqb H' q c w/\zib lo hi us ads ts af fs c w)\/(wd = "round"/\∃rs:List ty1q,H' q=some (.lst (rs.map V.ref))/\rs≠[]/\rs.length<=64/\Rnd (zak ts (ts.zip ads)) (zn ts (srt us)) rs))->Q (.ref r) H')
def zl0:Sp:=fun vs H Q _=>sp_asked46' (K:=K) vs H Q
theorem zd4 (T:Tx K mg w zr zv zi):Has P w K mg base "_law_asked" ["_law_telling"] 10 (zl0 (K:=K)):=by
 refine T.zij.has sc__law_asked (fun vs H Q E h=>?_) (fun f cdv A outer s H vs Q E hr h=>?_)
 ·obtain⟨p,pm,pu,pt,pf,lo,hi,us,ads,ts,af,fs,rfl,_⟩:=h;rfl
 ·obtain⟨p,pm,pu,pt,pf,lo,hi,us,ads,ts,af,fs,rfl,hF,k⟩:=h;refine⟨_,(zg (sset (i:=1) sc__law_asked.nd (zax zh))
   (zg (zvm ⟨rfl,rfl,rfl⟩ (fun pn xe Es pt=>(zm (sset (i:=1) sc__law_asked.nd (zax (zc zba (zc (zvl (ztt T) pt (hr.mono (by decide)) (by rfl) (zc (pv 0) zh)) zh)))))) (zvo (i:=2) ⟨rfl,rfl,rfl⟩ (by rfl) T.zkr T.zq2 sc__law_asked.nd rfl rfl (fun _ _=>(zm (sset (i:=1) sc__law_asked.nd (zax (zc zba (zc (zkl K rfl (pv 2) rfl) zh)))))) (zvo (i:=2) ⟨rfl,rfl,rfl⟩ (by rfl) T.zfe T.zjp sc__law_asked.nd rfl rfl (fun _ _=>(zm (sset (i:=1) sc__law_asked.nd (zax (zc zba (zc (zkl K rfl (pv 2) rfl) zh)))))) zvn)))
   (zm (zae (pv 1))))),?_⟩
  refine⟨by show 0<=sizeLine;decide,fun b0 hb0=>?_⟩;have t0:=Same.new (o:=.tup []) hb0;refine⟨_,rfl,p,pm,pu,pt,pf,lo,hi,us,ads,ts,af,fs,rfl,hF.same t0,fun nr q f g H1 s1 fq hS hf hg no=>?_,fun d q rs H1 s1 hd hq hne hl R=>?_,fun nr d r c w H1 s1 hd hra hri=>?_⟩
  ·refine⟨by show 2<=sizeLine;decide,fun r hr'=>?_⟩;have t2:=Same.new (o:=.tup [.str "spans",.ref q]) hr';obtain⟨as,h1,h2⟩:=hS;exact⟨_,rfl,k r q "spans" _ (t0.trans (s1.trans t2)) zf (.inl ⟨rfl,nr,t0.free fq,f,g,⟨as,t2 _ _ h1,Paired.mapP h2 fun a k e=>t2 _ _ e⟩,hf,hg,no⟩)⟩
  ·refine⟨zv,rfl,true,T.zfg,?_⟩;rw[al12q rfl];intro e he;have t2:=Same.new (o:=excH e zv (some d)) he;refine⟨_,rfl,e,zv,d,_,_,rfl,zf,t2 _ _ hd,T.zq4,T.zdm,rfl,by show 2<=sizeLine;decide,fun b1 hb1=>?_⟩;have t3:=Same.new (o:=.tup [.str "round",.ref q]) hb1;exact⟨_,rfl,k b1 q "round" _ (t0.trans (s1.trans (t2.trans t3))) zf (.inr (.inr ⟨rfl,rs,t3 _ _ (t2 _ _ hq),hne,hl,R⟩))⟩
  ·refine⟨zi,rfl,false,T.zdn,?_⟩;rw[al8q al23q];refine⟨true,T.zct,?_⟩;rw[al12q rfl];intro e he;have t2:=Same.new (o:=excH e zi (some d)) he;refine⟨_,rfl,e,zi,d,_,_,rfl,zf,t2 _ _ hd,T.zjr,T.zcs,rfl,by show 2<=sizeLine;decide,fun b1 hb1=>?_⟩;have t3:=Same.new (o:=.tup [.str "row",.ref r]) hb1;obtain⟨l,h1,h2⟩:=hra;exact⟨_,rfl,k b1 r "row" _ (t0.trans (s1.trans (t2.trans t3))) zf (.inr (.inl ⟨rfl,nr,c,w,⟨l,t3 _ _ (t2 _ _ h1),t3 _ _ (t2 _ _ h2)⟩,hri⟩))⟩
inductive sp_allb' (vs:List V) (H:Hp) (Q:VK):Prop
 | mk (p pu pt:ty1q) (x y:V) (us:List Str) (ads:List ty1q) (ts:List Tie) (_:vs = [.ref p]) (_:Tel K H p pu pt x y us ads ts) (_:NoR (zak ts (ts.zip ads)) (zn ts (srt us))) (_:∀(pd:ty1q) (ob:Obj) (os:List Str) (bel:Str->List Str) (ad:Str->ty1q) (obs:Str->Obj) (H':Hp),Same H H'->H pd=none->Dp H' pd ob os bel ad obs->os.Perm (zn ts (srt us))->(∀k∈zn ts (srt us),(bel k).Nodup/\∀y,y∈bel k↔Bel (zak ts (ts.zip ads)) k y)->Q (.ref pd) H')
def ztu:Sp:=fun vs H Q _=>sp_allb' (K:=K) vs H Q
theorem zdk (T:Tx K mg w zr zv zi):Has P w K mg base "all_beneath" ["telling"] 8 (ztu (K:=K)):=by
 refine T.zg8.has sc_all_beneath (fun vs H Q E h=>?_) (fun f cdv A outer s H vs Q E hr h=>?_)
 ·obtain⟨p,pu,pt,x,y,us,ads,ts,rfl,_⟩:=h;rfl
 ·obtain⟨p,pu,pt,x,y,us,ads,ts,rfl,hT,nr,k⟩:=h;have hu:=zbw hr;refine⟨_,(zg (sset (i:=1) sc_all_beneath.nd (pfn (zaq T) (zc (pv 0) zh)))
   (zg (sset (i:=2) sc_all_beneath.nd za8)
   (zg (zaw al30q rfl (zai K rfl (pfn (zfb T) (zc (pv 0) zh))) (gnm (i:=3) sc_all_beneath.nd) (zg (zbg hu (pv 2) (pv 3) za8 rfl)
    (zm (zaw al30q rfl (zai K rfl (zy hu (pv 1) (pv 3) (fun _ _=>rfl))) (zby K rfl rfl (zam (gnm (i:=4) sc_all_beneath.nd) (zam (gnm (i:=5) sc_all_beneath.nd) zbt))) (zg (zbg hu (zy hu (pv 2) (pv 3) (fun _ _=>rfl)) (pv 4) zfi rfl)
     (zm (za7 (zcp K rfl PySem.F.plainAttrs_dict PySem.F.slot_dict_update PySem.F.type_dict_update znz (zy hu (pv 2) (pv 3) (fun _ _=>rfl)) (zc (zy hu (pv 2) (pv 4) (fun _ _=>rfl)) zh)))))))))
   (zm (zs1 (zae (pv 2))))))),?_⟩
  refine⟨_,rfl,p,pu,pt,x,y,us,ads,ts,rfl,hT,fun ps ob0 aB bB H1 s1 fps hB=>?_⟩;have lk:=hT.klen;have kn:=zav (ts:=ts) hT.nd;have cl:=zbs (us:=us) (ts:=ts) (ads:=ads) hT.ends;have ll:∀k,(zak ts (ts.zip ads) k).length<=900:=fun k=>by
   have h1:=zgq (ts:=ts) (z:=ts.zip ads) (k:=k);have h2:=hT.tl;rw[al78q] at h1;lia
  try dsimp only [zw]
  refine fun pd hpd=>?_
  have s2:=Same.new (o:=.dK []) hpd;refine⟨_,rfl,p,pu,pt,x,y,us,ads,ts,rfl,hT.same (s1.trans s2),nr,fun q os H3 s3 fq hq O pm=>?_⟩;have hd3:=s3 _ _ (zf (H:=H1) (a:=pd) (o:=.dK []));have nq:pd≠q:=zq zf fq;have lo:os.length<=63:=by rw[pm.length_eq];exact lk
  generalize zn ts (srt us)=keys at hB lk k nr kn cl O pm;generalize zak ts (ts.zip ads)=ln at hB k nr cl ll O;have osk:∀z,z∈os↔z∈keys:=fun z=>pm.mem_iff
  refine⟨q,rfl,⟨_,SqL.of hq⟩,zat (xs:=os.map V.str) (fun i σ H'=>∃(v3 v4 v5:Option V) (bel:Str->List Str) (ad:Str->ty1q),σ = [some (.ref p),some (.ref ps),some (.ref pd),v3,v4,v5]/\Same H1 H'/\H' q=some (.lst (os.map V.str))/\
    H' pd=some (.dK (dV (os.take i) fun k=>.ref (ad k)))/\(∀k∈os.take i,H' (ad k)=some (.dK (dV (bel k) tru))/\H1 (ad k)=none/\ad k≠pd/\ad k≠q/\(bel k).Nodup/\∀y,y∈bel k↔Bel ln k y)/\(∀k∈os.take i,∀k'∈os.take i,ad k=ad k'->k=k'))
   ⟨none,none,none,fun _=>[],fun _=>0,rfl,s2.trans s3,hq,hd3,(fun k hk=>by simp at hk),fun k hk=>by simp at hk⟩ (fun i σ H' _ h=>by obtain⟨_,_,_,_,_,_,_,q,_⟩:=h;exact SqL.of q) ?_ ?_⟩
  ·rintro i v σ H4 hx ⟨v3,v4,v5,bel,ad,rfl,q4,hq4,hd4,hk4,inj⟩;rw[al4q] at hx;cases eu:os[i]? with
   | none=>rw[eu] at hx;cases hx
   | some u=>
    rw[eu] at hx;cases hx;have huk:u∈keys:=(osk u).mp (al6q eu);have hi:=zaj eu;have hlow:=O.low i u eu;have hfr:u ∉ os.take i:=by
     have:=za3 O.nd i hi;rw[show os[i]=u from (al3q.mp eu).2] at this;exact this
    have tk:os.take (i+1)=os.take i++[u]:=by rw[al9q,eu];rfl
    have lt:(os.take i).length<=63:=by rw[al28q];lia
    try dsimp only [zw]
    refine fun q0 hq0=>?_
    have t0:=Same.new (o:=.dK []) hq0;have hd5:=t0 _ _ hd4;refine⟨_,rfl,_,rfl,pd,_,rfl,DPut.k (k:=Sum.inr u) hd5 (by rw[zas];exact zz (by lia)),?_⟩;rw[zc2 hfr];have nqp:q0≠pd:=al26q (zq hd4 hq0);have nqq:q0≠q:=al26q (zq hq4 hq0);have fq0:H1 q0=none:=q4.free hq0;have ne0:∀k∈os.take i,ad k≠q0:=fun k hk=>zq (hk4 k hk).1 hq0
    have ed:dV (os.take i++[u]) (fun z=>if z=u then V.ref q0 else V.ref (ad z))=dV (os.take (i+1)) fun z=>V.ref (if z=u then q0 else ad z):=by
     rw[tk];refine zbe fun z _=>?_
     split<;>rfl
    rw[ed];have q6:Same H1 (upd (upd H4 q0 (.dK [])) pd (.dK (dV (os.take (i+1)) fun z=>V.ref (if z=u then q0 else ad z)))):=(q4.trans t0).upd hpd;have hd6:upd (upd H4 q0 (.dK [])) pd (.dK (dV (os.take (i+1)) fun z=>V.ref (if z=u then q0 else ad z))) pd=some (.dK (dV (os.take (i+1)) fun z=>V.ref (if z=u then q0 else ad z))):=zf;have hq6:upd (upd H4 q0 (.dK [])) pd (.dK (dV (os.take (i+1)) fun z=>V.ref (if z=u then q0 else ad z))) q=some (.lst (os.map V.str)):=by rw[zo (al26q nq)];exact t0 _ _ hq4
    have hM6:upd (upd H4 q0 (.dK [])) pd (.dK (dV (os.take (i+1)) fun z=>V.ref (if z=u then q0 else ad z))) q0=some (.dK (dV [] tru)):=by rw[zo nqp,zf];rfl
    have hk6:∀k∈os.take i,upd (upd H4 q0 (.dK [])) pd (.dK (dV (os.take (i+1)) fun z=>V.ref (if z=u then q0 else ad z))) (ad k)=some (.dK (dV (bel k) tru)):=fun k hk=>by rw[zo (hk4 k hk).2.2.1];exact t0 _ _ (hk4 k hk).1
    generalize upd (upd H4 q0 (.dK [])) pd (.dK (dV (os.take (i+1)) fun z=>V.ref (if z=u then q0 else ad z)))=H6 at q6 hd6 hq6 hM6 hk6;have B6:=hB.same q6;have hu':u∈os.take (i+1):=by rw[tk];simp
    refine⟨_,rfl,_,rfl,ps,_,rfl,B6.get huk,aB u,rfl,⟨_,SqL.of (B6.l u huk)⟩,zat (xs:=(bB u).map V.ref) (fun i' σ H'=>∃(v4 v5:Option V) (M:List Str),σ = [some (.ref p),some (.ref ps),some (.ref pd),some (.str u),v4,v5]/\Same H1 H'/\H' q=some (.lst (os.map V.str))/\H' pd=some (.dK (dV (os.take (i+1)) fun z=>V.ref (if z=u then q0 else ad z)))/\
      (∀k∈os.take i,H' (ad k)=some (.dK (dV (bel k) tru)))/\H' q0=some (.dK (dV M tru))/\M.Nodup/\∀y,y∈M↔∃l r,(l,r)∈(ln u).take i'/\(l=y\/Bel ln l y))
     ⟨_,_,[],rfl,q6,hq6,hd6,hk6,hM6,by simp,by simp⟩ (fun i' σ H' _ h=>by obtain⟨_,_,_,_,q,_⟩:=h;exact SqL.of (q _ _ (hB.l u huk))) ?_ ?_⟩
    ·rintro i' v σ H7 hx ⟨v4,v5,M,rfl,q7,hq7,hd7,hk7,hM7,Mn,Mm⟩;obtain⟨b,⟨l,r⟩,rfl,hlr,_,hb⟩:=zbj (hB.same q7 |>.e u huk) hx;have hlu:(l,r)∈ln u:=al6q hlr;have hl:l∈os.take i:=hlow l r hlu;have lu:l≠u:=fun z=>hfr (z▸hl)
     obtain⟨_,hl1,hl2,hl3,hln,hlm⟩:=hk4 l hl;have Msub:∀y∈M,y∈keys:=fun y hy=>by
      obtain⟨l',r',h1,h2⟩:=(Mm y).mp hy;have hl':=cl u huk l' r' (al112q h1);rcases h2 with rfl | ⟨j,_,h2⟩
      ·exact hl'
      ·exact h2.inKeys cl hl'
     have lM:M.length<=63:=al58q (za9 Mn Msub) lk;have hlk:l∈keys:=cl u huk l r hlu;have lbl:(bel l).length<=63:=al58q (za9 hln fun y hy=>by
      obtain⟨j,_,h2⟩:=(hlm y).mp hy;exact h2.inKeys cl hlk) lk
     have g1:=DGet.k (k:=Sum.inr u) hd7;rw[zbk hu',al12q rfl] at g1;refine⟨b,_,rfl,SqT.of hb,rfl,_,_,rfl,_,_,rfl,rfl,?_⟩
     try dsimp only [zw]
     refine⟨_,rfl,_,rfl,pd,_,rfl,g1,_,rfl,q0,_,rfl,DPut.k (k:=Sum.inr l) hM7 (by rw[zas];exact zz (by lia)),?_⟩;rw[zn4];have q8:=q7.upd (o:=.dK (dV (putS M l) tru)) fq0;have hq8:upd H7 q0 (.dK (dV (putS M l) tru)) q=some (.lst (os.map V.str)):=by rw[zo (al26q nqq)];exact hq7
     have hd8:upd H7 q0 (.dK (dV (putS M l) tru)) pd=some (.dK (dV (os.take (i+1)) fun z=>V.ref (if z=u then q0 else ad z))):=by rw[zo (al26q nqp)];exact hd7
     have hk8:∀k∈os.take i,upd H7 q0 (.dK (dV (putS M l) tru)) (ad k)=some (.dK (dV (bel k) tru)):=fun k hk=>by rw[zo (ne0 k hk)];exact hk7 k hk
     have hM8:upd H7 q0 (.dK (dV (putS M l) tru)) q0=some (.dK (dV (putS M l) tru)):=zf;generalize upd H7 q0 (.dK (dV (putS M l) tru))=H8 at q8 hq8 hd8 hk8 hM8;have g2:=DGet.k (k:=Sum.inr u) hd8;rw[zbk hu',al12q rfl] at g2;have g3:=DGet.k (k:=Sum.inr l) hd8;rw[zbk (show l∈os.take (i+1) by rw[tk];exact al35q _ hl),al8q lu] at g3;have lp:(putS M l).length<=64:=by
      unfold putS;split
      ·lia
      ·rw[al18q];show M.length+1<=64;lia
     refine⟨_,rfl,_,rfl,pd,_,rfl,g2,.inr (.inr (.inl ⟨rfl,.inl ⟨_,hM8⟩⟩)),_,rfl,_,rfl,pd,_,rfl,g3,q0,ad l,_,_,rfl,rfl,al26q (ne0 l hl),hM8,.inl (hk8 l hl),by rw[zas,zas];lia,?_⟩;rw[zrq];refine⟨_,_,mrg (putS M l) (bel l),rfl,q8.upd fq0,by rw[zo (al26q nqq)];exact hq8,by rw[zo (al26q nqp)];exact hd8,fun k hk=>by rw[zo (ne0 k hk)];exact hk8 k hk,zf,zh8 (zds Mn),fun y=>?_⟩;rw[zn3,zgx,Mm,hlm,al9q,hlr];constructor
     ·rintro ((⟨l',r',h1,h2⟩ | rfl) | h)
      ·exact⟨l',r',al35q _ h1,h2⟩
      ·exact⟨y,r,al39q _ (by simp),.inl rfl⟩
      ·exact⟨l,r,al39q _ (by simp),.inr h⟩
     ·rintro ⟨l',r',h1,h2⟩;rcases al25q.mp h1 with h1 | h1
      ·exact .inl (.inl ⟨l',r',h1,h2⟩)
      ·have h1:(l',r')=(l,r):=by simpa using h1
       cases h1;rcases h2 with rfl | h2
       ·exact .inl (.inr rfl)
       ·exact .inr h2
    ·rintro σ H7 ⟨v4,v5,M,rfl,q7,hq7,hd7,hk7,hM7,Mn,Mm⟩;have lb:(bB u).length=(ln u).length:=Paired.length (hB.e u huk);rw[al0q,lb,al22q] at Mm;refine⟨_,_,_,fun z=>if z=u then M else bel z,fun z=>if z=u then q0 else ad z,rfl,q7,hq7,hd7,fun k hk=>?_,fun k hk k' hk' e=>?_⟩
     ·rw[tk,al25q] at hk;dsimp only
      by_cases c:k=u
      ·rw[al12q c,al12q c];refine⟨hM7,fq0,nqp,nqq,Mn,fun y=>?_⟩;rw[Mm,c];exact bel_iff.symm
      ·rw[al8q c,al8q c];have hk':k∈os.take i:=hk.elim id fun z=>absurd (by simpa using z) c
       obtain⟨_,h2⟩:=hk4 k hk';exact⟨hk7 k hk',h2⟩
     ·rw[tk,al25q] at hk hk';dsimp only at e
      by_cases c1:k=u<;>by_cases c2:k'=u
      ·rw[c1,c2]
      ·rw[al12q c1,al8q c2] at e;exact absurd e.symm (ne0 k' (hk'.elim id fun z=>absurd (by simpa using z) c2))
      ·rw[al8q c1,al12q c2] at e;exact absurd e (ne0 k (hk.elim id fun z=>absurd (by simpa using z) c1))
      ·rw[al8q c1,al8q c2] at e;exact inj k (hk.elim id fun z=>absurd (by simpa using z) c1) k' (hk'.elim id fun z=>absurd (by simpa using z) c2) e
  ·rintro σ H4 ⟨v3,v4,v5,bel,ad,rfl,q4,hq4,hd4,hk4,inj⟩;rw[al0q,al22q] at hd4 hk4 inj;refine zn6 (ad:=ad) (f:=fun k=>dV (bel k) tru) os H4 (fun k hk=>(hk4 k hk).1) inj O.nd fun H5 obs h1 h2=>?_
   have hd5:H5 pd=some (.dK (dV os fun k=>.ref (ad k))):=by rw[h2 pd fun k hk=>al26q (hk4 k hk).2.2.1];exact hd4
   have q5:Same H1 H5:=fun b o e=>by
    rw[h2 b fun k hk z=>by rw[z,(hk4 k hk).2.1] at e;cases e];exact q4 b o e
   refine .frz pd _ hd5 fun ob=>.go ⟨_,rfl,k pd ob os bel ad obs _ ((s1.trans q5).upd (s1.free hpd)) (s1.free hpd) ⟨zf,fun z hz=>?_⟩ pm fun z hz=>?_⟩
   ·rw[zo (hk4 z hz).2.2.1];exact h1 z hz
   ·exact (hk4 z ((osk z).mpr hz)).2.2.2.2
inductive sp_between' (vs:List V) (H:Hp) (Q:VK):Prop
 | mk (pd:ty1q) (ob:Obj) (os:List Str) (bel:Str->List Str) (ad:Str->ty1q) (obs:Str->Obj) (u l:Str) (_:vs = [.ref pd,.str u,.str l]) (_:Dp H pd ob os bel ad obs) (_:u∈os) (_:(∀t∈bel u,t∈os)) (_:(bel u).length<=63) (_:∀H',Same H H'->Q (.bl ((bel u).any fun t=>decide (l∈bel t))) H')
def zl1:Sp:=fun vs H Q _=>sp_between' vs H Q
theorem zfn (T:Tx K mg w zr zv zi):Has P w K mg base "lies_between" ["depths","upper","lower"] 1 zl1:=by
 refine T.zfs.has ze8 (fun vs H Q E h=>?_) (fun f cdv A outer s H vs Q E hr h=>?_)
 ·obtain⟨pd,ob,os,bel,ad,obs,u,l,rfl,_⟩:=h;rfl
 ·obtain⟨pd,ob,os,bel,ad,obs,u,l,rfl,hD,hu',cl,lb,k⟩:=h;have hu:=zbw hr;refine⟨_,(zm (zae (zac (zn0 K rfl rfl) (by rfl) T.any PyProof.Rows.boot_any (zc (zbx (own:=["third"]) (cap:=["lower","depths"]) (ix:=[2,0]) (osc:=zp (top 35)) rfl ⟨rfl,by decide +kernel,by decide +kernel,by decide +kernel,by decide +kernel⟩ rfl (zb5 (zy hu (pv 0) (pv 1) (fun _ _=>rfl))) (fun _ _ _ _=>zbb (i:=0) (show List.Nodup (["third","lower","depths"]:List Str) by decide +kernel) rfl (Or.inl rfl)) (fun _ _ _ _=>zbp) (fun _ _ _ _=>(zq9 (zj2 hu (pv 1) (zy hu (pv 2) (pv 0) (fun _ _=>rfl)))))) zh)))),?_⟩;refine⟨_,rfl,_,rfl,pd,_,rfl,zbh hD.d hu',ad u,obs u,_,rfl,hD.e u hu',fun D hDn=>?_⟩;refine zbd (zgr (a:=ad u) (ob:=obs u) (kvs:=dV (bel u) tru)) (fun i σ' ys H'=>∃w0,σ' = [w0,some (.str l),some (.ref pd)]/\ys=(((bel u).take i).map fun t=>decide (l∈bel t)).map V.bl/\Same H H'/\H' D=some (.lst ys))
   ⟨none,rfl,by simp,Same.new hDn,zf⟩ (fun i σ' ys H' h=>?_) (by rw[al0q,zas];exact zar (by lia)) ?_ ?_
  ·obtain⟨_,_,rfl,q,hd⟩:=h;refine⟨q _ _ (hD.e u hu'),hd,?_⟩;rw[al0q,al0q,al28q];lia
  ·rintro i v σ' ys H' hx ⟨w0,rfl,rfl,q,hd⟩;have hix:=zaj hx;rw[zgn,al4q] at hx;cases et:(bel u)[i]? with
   | none=>rw[et] at hx;cases hx
   | some t=>
    rw[et] at hx;cases hx;have ht:=cl t (al6q et);have D':=hD.same q
    try dsimp only [zw]
    unfold tYes;dsimp only;rw[al12q rfl];refine⟨_,rfl,_,rfl,_,rfl,pd,_,rfl,zbh D'.d ht,ad t,_,rfl,zn5 (D'.e t ht) l,hd,zcl hix ⟨_,rfl,?_,q.upd hDn,zf⟩⟩;rw[al9q,et,al15q,al15q]
    congr 1
    show [V.bl (if l∈bel t then some (V.bl true) else none).isSome] = [V.bl (decide (l∈bel t))]
    by_cases c:l∈bel t
    ·rw[al12q c,al10q c];rfl
    ·rw[al8q c,al17q c];rfl
  rintro σ' ys H1 ⟨w0,rfl,rfl,q,hd⟩;rw[al0q,zas,al22q] at hd;refine⟨D,_,rfl,SqL.of hd,?_⟩;rw[List.any_map];exact k _ q
def DrB (us:List Str) (ads:List ty1q) (ts:List Tie):Prop:=∀qs:List SS,qs.Nodup->(∀q∈qs,Drn (zak ts (ts.zip ads)) (zn ts (srt us)) q)->qs.length<=60
inductive sp_drawn' (vs:List V) (H:Hp) (Q:VK):Prop
 | mk (p pu pt:ty1q) (x y:V) (us:List Str) (ads:List ty1q) (ts:List Tie) (_:vs = [.ref p]) (_:Tel K H p pu pt x y us ads ts) (_:DrB us ads ts) (_:NoR (zak ts (ts.zip ads)) (zn ts (srt us))) (_:∀(D:ty1q) (bs:List ty1q) (qs:List SS) (H':Hp),Same H H'->H D=none->H' D=some (.lst (bs.map V.ref))->Paired (fun a (p:SS)=>H' a=some (.tup [.str p.1,.str p.2])) bs qs->qs.Pairwise (fun a b=>ltPP a b=true)->qs.length<64->(∀p,p∈qs↔Drn (zak ts (ts.zip ads)) (zn ts (srt us)) p)->Q (.ref D) H')
def zqz:Sp:=fun vs H Q _=>sp_drawn' (K:=K) vs H Q
theorem zo8 (T:Tx K mg w zr zv zi):Has P w K mg base "drawn" ["telling"] 9 (zqz (K:=K)):=by
 refine T.zt1.has sc_drawn (fun vs H Q E h=>?_) (fun f cdv A outer s H vs Q E hr h=>?_)
 ·obtain⟨p,pu,pt,x,y,us,ads,ts,rfl,_⟩:=h;rfl
 ·obtain⟨p,pu,pt,x,y,us,ads,ts,rfl,hT,t60,nr,k⟩:=h;have hu:=zbw hr;refine⟨_,(zg (sset (i:=1) sc_drawn.nd (pfn (zaq T) (zc (pv 0) zh)))
   (zg (sset (i:=2) sc_drawn.nd (pfn (zdk T) (zc (pv 0) zh)))
   (zg (sset (i:=3) sc_drawn.nd zpp)
   (zg (zaw al30q rfl (zb5 (pv 1)) (gnm (i:=4) sc_drawn.nd) (zm (zaw al30q rfl (zai K rfl (zy hu (pv 1) (pv 4) (fun _ _=>rfl))) (zby K rfl rfl (zam (gnm (i:=5) sc_drawn.nd) (zam (gnm (i:=6) sc_drawn.nd) zbt))) (zm (zbm (zra (zmb (pfn (zfn T) (zc (pv 2) (zc (pv 4) (zc (pv 5) zh)))))) (zm (zbg hu (pv 3) (zax (zc (pv 4) (zc (pv 5) zh))) zfi rfl)) zap)))))
   (zm (zae (zac (zgw (K:=K) rfl rfl) (by rfl) T.sorted al80q (zc (pv 3) zh)))))))),?_⟩
  refine⟨_,rfl,p,pu,pt,x,y,us,ads,ts,rfl,hT,fun ps ob0 aB bB H1 s1 fps hB=>?_⟩;have lk:=hT.klen;have kn:=zav (ts:=ts) hT.nd;have cl:=zbs (us:=us) (ts:=ts) (ads:=ads) hT.ends;unfold DrB at t60
  try dsimp only [zw]
  refine⟨_,rfl,p,pu,pt,x,y,us,ads,ts,rfl,hT.same s1,nr,fun pd ob os bel ad obs H2 s2 fpd hD pm hbel=>?_⟩;generalize zn ts (srt us)=keys at hB lk k nr kn cl pm hbel t60;generalize zak ts (ts.zip ads)=ln at hB k nr cl hbel t60;have osk:∀z,z∈os↔z∈keys:=fun z=>pm.mem_iff
  have belk:∀u∈keys,∀t∈bel u,t∈keys:=fun u hu t ht=>by
   obtain⟨j,_,h⟩:=((hbel u hu).2 t).mp ht;exact h.inKeys cl hu
  have btw:∀u∈keys,∀l,((bel u).any fun t=>decide (l∈bel t))=true↔∃t,Bel ln u t/\Bel ln t l:=fun u hu l=>by
   rw[al108q];constructor
   ·rintro ⟨t,h1,h2⟩;exact⟨t,((hbel u hu).2 t).mp h1,((hbel t (belk u hu t h1)).2 l).mp (al16q h2)⟩
   ·rintro ⟨t,h1,h2⟩;have h1':=((hbel u hu).2 t).mpr h1;exact⟨t,h1',al10q (((hbel t (belk u hu t h1')).2 l).mpr h2)⟩
  try dsimp only [zw]
  refine fun pp hpp=>?_
  have s3:=Same.new (o:=.dT []) hpp;have B2:=hB.same s2;refine⟨_,rfl,ps,ob0,_,rfl,s3 _ _ B2.d,zcc (fun i σ H'=>∃(v4 v5 v6:Option V) (qs:List SS),σ = [some (.ref p),some (.ref ps),some (.ref pd),some (.ref pp),v4,v5,v6]/\Same H2 H'/\H' pp=some (.dT (dP qs))/\qs.Nodup/\∀q:SS,q∈qs↔q.1∈keys.take i/\(∃r,(q.2,r)∈ln q.1)/\¬∃t,Bel ln q.1 t/\Bel ln t q.2)
   ⟨none,none,none,[],rfl,s3,zf,by simp,by simp⟩ (fun i σ H' _ h=>by obtain⟨_,_,_,_,_,q,_⟩:=h;exact q _ _ B2.d) ?_ ?_⟩
  ·rintro i kk vv σ H4 hx ⟨v4,v5,v6,qs,rfl,q4,hp4,qn,qm⟩;obtain⟨u,hu',rfl,_⟩:=zi1 hx;have huk:u∈keys:=al6q hu';have hfr:u ∉ keys.take i:=by
    have hi:=zaj hu';have:=za3 kn i hi;rw[show keys[i]=u from (al3q.mp hu').2] at this;exact this
   have B4:=B2.same q4
   try dsimp only [zw]
   refine⟨_,rfl,_,rfl,ps,_,rfl,B4.get huk,aB u,rfl,⟨_,SqL.of (B4.l u huk)⟩,zat (xs:=(bB u).map V.ref) (fun i' σ H'=>∃(v5 v6:Option V) (qs:List SS),σ = [some (.ref p),some (.ref ps),some (.ref pd),some (.ref pp),some (.str u),v5,v6]/\Same H2 H'/\H' pp=some (.dT (dP qs))/\qs.Nodup/\
     ∀q:SS,q∈qs↔(q.1∈keys.take i/\(∃r,(q.2,r)∈ln q.1)/\¬∃t,Bel ln q.1 t/\Bel ln t q.2)\/(q.1=u/\(∃r,(q.2,r)∈(ln u).take i')/\¬∃t,Bel ln q.1 t/\Bel ln t q.2))
    ⟨_,_,qs,rfl,q4,hp4,qn,fun q=>by rw[qm];simp⟩ (fun i' σ H' _ h=>by obtain⟨_,_,_,_,q,_⟩:=h;exact SqL.of ((B2.same q).l u huk)) ?_ ?_⟩
   ·clear qn qm hp4;rintro i' v σ H5 hx ⟨v5,v6,qs,rfl,q5,hp5,qn,qm⟩;obtain⟨b,⟨l,r⟩,rfl,hlr,_,hb⟩:=zbj ((B2.same q5).e u huk) hx;have hlu:(l,r)∈ln u:=al6q hlr;have lq:=t60 qs qn fun q hq=>by
     rcases (qm q).mp hq with ⟨h1,h,n⟩ | ⟨e,⟨r,h⟩,n⟩
     ·exact⟨al112q h1,h,n⟩
     ·exact⟨by rw[e];exact huk,⟨r,by rw[e];exact al112q h⟩,n⟩
    refine⟨b,_,rfl,SqT.of hb,rfl,_,_,rfl,_,_,rfl,rfl,?_⟩
    try dsimp only [zw]
    have mstep:∀q:SS,(q.1=u/\(∃r,(q.2,r)∈(ln u).take (i'+1))/\¬∃t,Bel ln q.1 t/\Bel ln t q.2)↔(q.1=u/\(∃r,(q.2,r)∈(ln u).take i')/\¬∃t,Bel ln q.1 t/\Bel ln t q.2)\/(q=(u,l)/\¬∃t,Bel ln u t/\Bel ln t l):=fun q=>by
     rw[al9q,hlr];constructor
     ·rintro ⟨e,⟨r',h⟩,n⟩;rcases al25q.mp h with h | h
      ·exact .inl ⟨e,⟨r',h⟩,n⟩
      ·have h:(q.2,r')=(l,r):=by simpa using h
       have h:=(Prod.mk.inj h).1;refine .inr ⟨Prod.ext e h,?_⟩;rw[←e,←h];exact n
     ·rintro (⟨e,⟨r',h⟩,n⟩ | ⟨rfl,n⟩)
      ·exact⟨e,⟨r',al35q _ h⟩,n⟩
      ·exact⟨rfl,⟨r,al39q _ (by simp)⟩,n⟩
    have hB':=btw u huk l;refine zcw (!((bel u).any fun t=>decide (l∈bel t))) (fun Q' hQ=>?_) (fun H6 s6=>?_)
    ·refine⟨_,rfl,_,rfl,_,rfl,pd,ob,os,bel,ad,obs,u,l,rfl,hD.same q5,(osk u).mpr huk,fun t ht=>(osk t).mpr (belk u huk t ht),al58q (za9 (hbel u huk).1 (belk u huk)) lk,fun H6 s6=>⟨_,rfl,?_⟩⟩;exact hQ _ s6
    ·have q6:=q5.trans s6;have hp6:=s6 _ _ hp5;refine ite2 (fun c=>?_) (fun c=>?_)
     ·have nb:¬∃t,Bel ln u t/\Bel ln t l:=fun z=>by rw[hB'.mpr z] at c;cases c
      refine⟨_,rfl,_,rfl,_,rfl,(by show 2<=sizeLine;decide),fun b0 hb0=>?_⟩;have t0:=Same.new (o:=.tup [.str u,.str l]) hb0;refine⟨pp,_,rfl,DPut.t (k:=[Sum.inr u,Sum.inr l]) (t0 _ _ hp6) zf (by unfold dP;rw[al0q];exact zz (by lia)),?_⟩;rw[zvb (p:=(u,l))];refine⟨_,_,putS qs (u,l),rfl,(q6.trans t0).upd hpp,zf,zds qn,fun q=>?_⟩;rw[zgx,qm,mstep];constructor
      ·rintro ((h | h) | rfl)
       ·exact .inl h
       ·exact .inr (.inl h)
       ·exact .inr (.inr ⟨rfl,nb⟩)
      ·rintro (h | h | ⟨rfl,_⟩)
       ·exact .inl (.inl h)
       ·exact .inl (.inr h)
       ·exact .inr rfl
     ·have yb:∃t,Bel ln u t/\Bel ln t l:=hB'.mp (by simpa using c);refine⟨_,_,qs,rfl,q6,hp6,qn,fun q=>?_⟩;rw[qm,mstep];constructor
      ·rintro (h | h)
       ·exact .inl h
       ·exact .inr (.inl h)
      ·rintro (h | h | ⟨_,n⟩)
       ·exact .inl h
       ·exact .inr h
       ·exact absurd yb n
   ·clear qn qm hp4;rintro σ H5 ⟨v5,v6,qs,rfl,q5,hp5,qn,qm⟩;have lb:(bB u).length=(ln u).length:=Paired.length (hB.e u huk);rw[al0q,lb,al22q] at qm;refine⟨_,_,_,qs,rfl,q5,hp5,qn,fun q=>?_⟩;rw[qm,al9q,hu'];constructor
    ·rintro (⟨h1,h2⟩ | ⟨h1,h2⟩)
     ·exact⟨al35q _ h1,h2⟩
     ·exact⟨al39q _ (by rw[h1];simp),by rw[←h1] at h2;exact h2⟩
    ·rintro ⟨h1,h2⟩;rcases al25q.mp h1 with h1 | h1
     ·exact .inl ⟨h1,h2⟩
     ·have h1:q.1=u:=by simpa using h1
      exact .inr ⟨h1,by rw[←h1];exact h2⟩
  ·rintro σ H4 ⟨v4,v5,v6,qs,rfl,q4,hp4,qn,qm⟩;rw[zas,al22q] at qm;have lq:=t60 qs qn fun q hq=>(qm q).mp hq
   refine⟨_,rfl,pp,_,qs,rfl,.inl hp4,zva qs,qn,by lia,fun D bs rs hDn pb pmr up=>?_⟩;have t5:=Same.new (o:=.lst (bs.map V.ref)) hDn;have q3:=s1.trans (s2.trans q4);refine k D bs rs _ (q3.trans t5) (q3.free hDn) zf (Paired.mapP pb fun a z e=>t5 _ _ e) up (by rw[pmr.length_eq];lia) fun z=>?_
   rw[pmr.mem_iff,qm];rfl
inductive sp_step' (vs:List V) (H:Hp) (Q:VK):Prop
 | mk (e u z:Str) (pp pd:ty1q) (bs:List ty1q) (qs:List SS) (ob:Obj) (os:List Str) (bel:Str->List Str) (ad:Str->ty1q) (obs:Str->Obj) (_:vs = [.str e,.str u,.ref pp,.ref pd]) (_:H pp=some (.lst (bs.map V.ref))) (_:Paired (fun a (p:SS)=>H a=some (.tup [.str p.1,.str p.2])) bs qs) (_:qs.length<64) (_:Dp H pd ob os bel ad obs) (_:(∀q∈qs,q.2∈os)) (_:(u,z)∈qs) (_:(z=e\/e∈bel z)) (_:∀(w:Str) (H':Hp),Same H H'->(u,w)∈qs->(w=e\/e∈bel w)->Q (.str w) H')
def ztv:Sp:=fun vs H Q _=>sp_step' vs H Q
theorem zfo (T:Tx K mg w zr zv zi):Has P w K mg base "step_towards" ["end","name","pairs","depths"] 1 ztv:=by
 refine T.zft.has sc_step_towards (fun vs H Q E h=>?_) (fun f cdv A outer s H vs Q E hr h=>?_)
 ·obtain⟨e,u,z,pp,pd,bs,qs,ob,os,bel,ad,obs,rfl,_⟩:=h;rfl
 ·obtain⟨e,u,z,pp,pd,bs,qs,ob,os,bel,ad,obs,rfl,hp,tb,lq,hD,hos,hz1,hz2,k⟩:=h;have hu:=zbw hr;refine⟨_,(zg (zis (i:=4) (own:=["pair"]) (cap:=["name","end","depths"]) (ix:=[1,0,3]) (osc:=zp (top 37)) rfl sc_step_towards.nd rfl rfl rfl ⟨rfl,by decide +kernel,by decide +kernel,by decide +kernel,by decide +kernel⟩ rfl (zai K rfl (pv 2)) (fun _ _ _ _=>zbb (i:=0) (show List.Nodup (["pair","name","end","depths"]:List Str) by decide +kernel) rfl (Or.inl rfl)) (fun _ _ _ _=>zmz (PW.pt (zha (zad zck (pix (zx K rfl) (pv 0) zj) (pv 1) (zah _)) (zer (PW.pt (zkt (zad zck (pix (zx K rfl) (pv 0) zj) (pv 2) (zah _)) (zfx (zeq (zj2 hu (pv 2) (zy hu (pv 3) (pix (zx K rfl) (pv 0) zj) (fun _ _=>rfl))))))))))) (fun _ _ _ _=>(pix (zx K rfl) (pv 0) zj)))
   (zm (zae (pix (zab K rfl) (pv 4) zj)))),?_⟩
  have lb:bs.length=qs.length:=Paired.length tb;refine⟨_,rfl,pp,rfl,⟨_,SqL.of hp⟩,fun D hDn=>?_⟩;refine zbd (zb1 (K:=K) (a:=pp) (xs:=bs.map V.ref)) (fun i σ' ys H'=>∃w0,σ' = [w0,some (.str u),some (.str e),some (.ref pd)]/\ys=((qs.take i).filter fun q=>decide (q.1=u)&&(decide (q.2=e)||decide (e∈bel q.2))).map (fun q=>V.str q.2)/\Same H H'/\H' D=some (.lst ys))
   ⟨none,rfl,by simp,Same.new hDn,zf⟩ (fun i σ' ys H' h=>?_) (by rw[al0q];exact zar (by lia)) ?_ ?_
  ·obtain⟨_,_,rfl,q,hd⟩:=h;refine⟨SqL.of (q _ _ hp),hd,?_⟩;rw[al0q];exact al58q (al59q _ _) (by rw[al28q];lia)
  ·rintro i v σ' ys H' hx ⟨w0,rfl,rfl,q,hd⟩;have hix:=zaj hx;obtain⟨c,⟨q1,q2⟩,rfl,hq,_,hc⟩:=zbj tb hx;have hc':=q _ _ hc;have D':=hD.same q;have ho:=hos _ (al6q hq);have no:(decide (q1=u)&&(decide (q2=e)||decide (e∈bel q2)))=false->∃w0',[some (V.ref c),some (V.str u),some (V.str e),some (V.ref pd)] = [w0',some (.str u),some (.str e),some (.ref pd)]/\((qs.take i).filter fun q=>decide (q.1=u)&&(decide (q.2=e)||decide (e∈bel q.2))).map (fun q=>V.str q.2)=((qs.take (i+1)).filter fun q=>decide (q.1=u)&&(decide (q.2=e)||decide (e∈bel q.2))).map (fun q=>V.str q.2)/\Same H H'/\H' D=some (.lst (((qs.take i).filter fun q=>decide (q.1=u)&&(decide (q.2=e)||decide (e∈bel q.2))).map (fun q=>V.str q.2))):=fun h=>by
    refine⟨_,rfl,?_,q,hd⟩;rw[al9q,hq,al87q,al15q];have:(some (q1,q2)).toList.filter (fun q:SS=>decide (q.1=u)&&(decide (q.2=e)||decide (e∈bel q.2))) = []:=by
     show [(q1,q2)].filter _ = [];rw[al142q (by dsimp only;rw[h];exact al23q)];rfl
    rw[this,al175q,al62q]
   have yes:(decide (q1=u)&&(decide (q2=e)||decide (e∈bel q2)))=true->∃w0',[some (V.ref c),some (V.str u),some (V.str e),some (V.ref pd)] = [w0',some (.str u),some (.str e),some (.ref pd)]/\((qs.take i).filter fun q=>decide (q.1=u)&&(decide (q.2=e)||decide (e∈bel q.2))).map (fun q=>V.str q.2)++[V.str q2]=((qs.take (i+1)).filter fun q=>decide (q.1=u)&&(decide (q.2=e)||decide (e∈bel q.2))).map (fun q=>V.str q.2)/\Same H (upd H' D (.lst (((qs.take i).filter fun q=>decide (q.1=u)&&(decide (q.2=e)||decide (e∈bel q.2))).map (fun q=>V.str q.2)++[V.str q2])))/\upd H' D (.lst (((qs.take i).filter fun q=>decide (q.1=u)&&(decide (q.2=e)||decide (e∈bel q.2))).map (fun q=>V.str q.2)++[V.str q2])) D=some (.lst (((qs.take i).filter fun q=>decide (q.1=u)&&(decide (q.2=e)||decide (e∈bel q.2))).map (fun q=>V.str q.2)++[V.str q2])):=fun h=>by
    refine⟨_,rfl,?_,q.upd hDn,zf⟩;rw[al9q,hq,al87q,al15q];have:(some (q1,q2)).toList.filter (fun q:SS=>decide (q.1=u)&&(decide (q.2=e)||decide (e∈bel q.2))) = [(q1,q2)]:=by
     show [(q1,q2)].filter _ = [(q1,q2)];rw[al141q (by dsimp only;exact h)];rfl
    rw[this];rfl
   try dsimp only [zw]
   refine⟨_,rfl,c,_,_,_,rfl,rfl,SqT.of hc',rfl,_,rfl,rfl,_,rfl,?_⟩;refine ite2 (fun c1=>?_) (fun c1=>?_)
   ·have c1:q1=u:=V.str.inj (al16q c1);refine⟨_,rfl,c,_,_,_,rfl,rfl,SqT.of hc',rfl,_,rfl,rfl,_,rfl,?_⟩;refine ite2 (fun c2=>?_) (fun c2=>?_)
    ·have c2:q2=e:=V.str.inj (al16q c2);exact⟨_,rfl,c,_,_,_,rfl,rfl,SqT.of hc',rfl,hd,zcl hix (yes (by rw[al10q c1,al10q c2];rfl))⟩
    ·have c2:¬q2=e:=fun w=>c2 (al10q (al61q V.str w))
     refine⟨_,rfl,_,rfl,_,rfl,c,_,_,_,rfl,rfl,SqT.of hc',rfl,pd,_,rfl,zbh D'.d ho,ad q2,_,rfl,zn5 (D'.e q2 ho) e,_,rfl,?_⟩;refine ite2 (fun c3=>?_) (fun c3=>?_)
     ·have c3:e∈bel q2:=al34q fun w=>by rw[al8q w] at c3;cases c3
      exact⟨_,rfl,c,_,_,_,rfl,rfl,SqT.of hc',rfl,hd,zcl hix (yes (by rw[al10q c1,al10q c3,Bool.or_true];rfl))⟩
     ·have c3:e ∉ bel q2:=fun w=>by rw[al12q w] at c3;exact c3 rfl
      exact⟨hd,zcl hix (no (by rw[al10q c1,al17q c2,al17q c3];rfl))⟩
   ·have c1:¬q1=u:=fun w=>c1 (al10q (al61q V.str w))
    exact⟨hd,zcl hix (no (by rw[al17q c1];rfl))⟩
  rintro σ' ys H1 ⟨w0,rfl,rfl,q,hd⟩;rw[al0q,lb,al22q] at hd;have mem:∀w∈qs.filter (fun q=>decide (q.1=u)&&(decide (q.2=e)||decide (e∈bel q.2))),(u,w.2)∈qs/\(w.2=e\/e∈bel w.2):=fun w hw=>by
   obtain⟨h1,h2⟩:=al43q.mp hw;rw[al49q,Bool.or_eq_true,al40q,al40q,al40q] at h2;refine⟨?_,h2.2⟩;rw[←h2.1];exact h1
  have ne:qs.filter (fun q=>decide (q.1=u)&&(decide (q.2=e)||decide (e∈bel q.2)))≠[]:=by
   refine List.ne_nil_of_mem (a:=(u,z)) (al43q.mpr ⟨hz1,?_⟩);rw[al49q,Bool.or_eq_true,al40q,al40q,al40q];exact⟨rfl,hz2⟩
  generalize qs.filter (fun q=>decide (q.1=u)&&(decide (q.2=e)||decide (e∈bel q.2)))=fl at hd mem ne;cases fl with
  | nil=>exact absurd rfl ne
  | cons w r=>
   obtain⟨m1,m2⟩:=mem w (by simp)
   try dsimp only [zw]
   exact⟨_,rfl,D,_,_,_,rfl,rfl,SqL.of hd,ziv,k w.2 _ q m1 m2⟩
inductive sp_walk' (vs:List V) (H:Hp) (Q:VK):Prop
 | mk (p pu pt:ty1q) (x y:V) (us:List Str) (ads:List ty1q) (ts:List Tie) (a b:Str) (_:vs = [.ref p,.str a,.str b]) (_:Tel K H p pu pt x y us ads ts) (_:DrB us ads ts) (_:NoR (zak ts (ts.zip ads)) (zn ts (srt us))) (_:a∈us) (_:b∈us) (_:∀(q:ty1q) (ws:List Str) (H':Hp),Same H H'->H q=none->H' q=some (.lst (ws.map V.str))->ws.length<=64->(Bel (zak ts (ts.zip ads)) (labs ts a) (labs ts b)->2<=ws.length/\ws[0]? = some (labs ts a)/\ws[ws.length-1]? = some (labs ts b)/\∀(i:Nat) c d,ws[i]? = some c->ws[i+1]? = some d->Drn (zak ts (ts.zip ads)) (zn ts (srt us)) (c,d))->(¬Bel (zak ts (ts.zip ads)) (labs ts a) (labs ts b)->ws = [])->Q (.ref q) H')
def ztw:Sp:=fun vs H Q _=>sp_walk' (K:=K) vs H Q
theorem zv2 (T:Tx K mg w zr zv zi):Has P w K mg base "walk" ["telling","upper","lower"] 10 (ztw (K:=K)):=by
 refine T.zv6.has sc_walk (fun vs H Q E h=>?_) (fun f cdv A outer s H vs Q E hr h=>?_)
 ·obtain⟨p,pu,pt,x,y,us,ads,ts,a,b,rfl,_⟩:=h;rfl
 ·obtain⟨p,pu,pt,x,y,us,ads,ts,a,b,rfl,hT,t60,nr,ha,hb,k⟩:=h;have hu:=zbw hr;refine⟨_,(zg (sset (i:=3) sc_walk.nd (pfn (zcf T) (zc (pix (zx K rfl) (pv 0) zj) (zc (pix (zx K rfl) (pv 0) zj) zh))))
   (zg (sset (i:=4) sc_walk.nd (pfn (zdk T) (zc (pv 0) zh)))
   (zg (sset (i:=5) sc_walk.nd (zy hu (pv 3) (pv 2) (fun _ _=>rfl)))
   (zg (zbm (zeq (zdd hu (pv 5) (zy hu (pv 4) (zy hu (pv 3) (pv 1) (fun _ _=>rfl)) (fun _ _=>rfl)))) (zm (zae (zao zh))) zap)
   (zg (sset (i:=6) sc_walk.nd (pfn (zo8 T) (zc (pv 0) zh)))
   (zg (sset (i:=7) sc_walk.nd (zao (zc (zy hu (pv 3) (pv 1) (fun _ _=>rfl)) zh)))
   (zg (zcu al30q (zad zpk (pix (zab K rfl) (pv 7) (zhc zd0 zj)) (pv 5) (zah _)) (zm (za7 (zcp K rfl PySem.F.plainAttrs_list PySem.F.slot_list_append PySem.F.type_list_append zbc (pv 7) (zc (pfn (zfo T) (zc (pv 5) (zc (pix (zab K rfl) (pv 7) (zhc zd0 zj)) (zc (pv 6) (zc (pv 4) zh))))) zh)))))
   (zm (zae (pv 7)))))))))),?_⟩
  have hts:=hT.ends;have lk:=hT.klen;have cl:=zbs (us:=us) (ts:=ts) (ads:=ads) hts;have hla:=zcb hts ha;have hlb:=zcb hts hb;have T0:=hT;obtain⟨hp,hu1,ht1,tp,nd,hl,tl,_⟩:=hT;refine⟨_,rfl,p,_,_,_,rfl,rfl,hp,rfl,_,rfl,p,_,_,_,rfl,rfl,hp,rfl,pu,pt,us,ads,ts,rfl,hu1,ht1,tp,nd,by lia,hts,fun pn H1 fpn hn s1=>?_⟩
  try dsimp only [zw]
  refine⟨_,rfl,p,pu,pt,x,y,us,ads,ts,rfl,T0.same s1,nr,fun pd ob os bel ad obs H2 s2 fpd hD pm hbel=>?_⟩;have hn2:=s2 _ _ hn;have gb:=DGet.k (k:=Sum.inr b) hn2;rw[zc1 hb] at gb;have ga:=DGet.k (k:=Sum.inr a) hn2;rw[zc1 ha] at ga;have osk:∀z,z∈os↔z∈zn ts (srt us):=fun z=>pm.mem_iff
  have q2:=s1.trans s2
  try dsimp only [zw]
  refine⟨_,rfl,_,rfl,pn,_,rfl,gb,?_⟩
  try dsimp only [zw]
  refine zcq (!decide (labs ts b∈bel (labs ts a))) (fun Q' hQ=>?_) ?_
  ·refine⟨_,rfl,_,rfl,_,rfl,_,rfl,pn,_,rfl,ga,pd,_,rfl,zbh hD.d ((osk _).mpr hla),ad (labs ts a),_,rfl,zn5 (hD.e _ ((osk _).mpr hla)) (labs ts b),_,rfl,?_⟩
   by_cases c:labs ts b∈bel (labs ts a)
   ·rw[al10q c] at hQ;rw[al12q c];exact hQ
   ·rw[al17q c] at hQ;rw[al8q c];exact hQ
  have hbab:=(hbel _ hla).2 (labs ts b);refine ite2 (fun c=>?_) (fun c=>?_)
  ·have c:labs ts b ∉ bel (labs ts a):=fun w=>by rw[al10q w] at c;cases c
   refine⟨by decide,fun q hq=>?_⟩;exact k q [] _ (q2.trans (Same.new hq)) (q2.free hq) zf (by simp) (fun h=>absurd (hbab.mpr h) c) fun _=>rfl
  have hab:Bel (zak ts (ts.zip ads)) (labs ts a) (labs ts b):=hbab.mp (by simpa using c);unfold zgb;dsimp only;refine⟨_,rfl,p,pu,pt,x,y,us,ads,ts,rfl,T0.same q2,t60,nr,fun pp bs qs H3 s3 fpp hpp tb up lq dq=>?_⟩;have ga3:=DGet.k (k:=Sum.inr a) (s3 _ _ hn2);rw[zc1 ha] at ga3;generalize hA:labs ts a=A' at hla hab hbab ga ga3 k;generalize hB:labs ts b=B' at hlb hab hbab gb k;generalize zn ts (srt us)=keys at lk nr cl hla hlb hbel pm osk dq k;generalize zak ts (ts.zip ads)=ln at nr cl hab hbab hbel dq k;have D3:=hD.same s3;have q3:=q2.trans s3
  try dsimp only [zw]
  refine⟨_,rfl,_,rfl,pn,_,rfl,ga3,by show 1<=sizeLine;decide,fun q hq=>?_⟩;have s4:=Same.new (o:=.lst [.str A']) hq;refine⟨fun m σ H'=>∃(ws:List Str) (c:Str),σ = [some (.ref p),some (.str a),some (.str b),some (.ref pn),some (.ref pd),some (.str B'),some (.ref pp),some (.ref q)]/\Same H3 H'/\H' q=some (.lst (ws.map V.str))/\1<=ws.length/\ws[0]? = some A'/\ws[ws.length-1]? = some c/\Rc ln A' (ws.length-1) c/\(c=B'\/Bel ln c B')/\(∀(i:Nat) d e,ws[i]? = some d->ws[i+1]? = some e->Drn ln keys (d,e))/\m=keys.length-ws.length,⟨_,[A'],A',rfl,s4,zf,by simp,rfl,rfl,Rc.refl,.inr hab,fun i d e e1 e2=>by simp at e2,rfl⟩,?_⟩;rintro m σ H4 ⟨ws,c,rfl,q4,hq4,w1,w0,wl,wr,wb,wd,rfl⟩;have ck:=wr.inKeys cl hla;have short:=zeo cl nr hla wr;refine⟨_,rfl,_,rfl,q,_,_,.str c,rfl,rfl,SqL.of hq4,zoc wl,_,rfl,rfl,_,rfl,?_⟩;refine ite2 (fun cc=>?_) (fun cc=>?_)
  ·have cc:c≠B':=fun w=>by rw[w] at cc;simp at cc
   have cb:Bel ln c B':=wb.resolve_left cc;obtain⟨z,zd,ze⟩:=zs4 cl nr ck cb;have D4:=D3.same q4;have zk:∀w∈qs,w.2∈os:=fun w hw=>by
    obtain⟨h1,⟨r,h2⟩,_⟩:=(dq w).mp hw;exact (osk _).mpr (cl _ h1 _ r h2)
   refine⟨fun σ' H'=>∃m',m'<keys.length-ws.length/\_,fun σ' H' h=>h,?_⟩;refine⟨_,rfl,.inl ⟨rfl,_,SqL.of hq4⟩,_,rfl,_,rfl,_,rfl,q,_,_,.str c,rfl,rfl,SqL.of hq4,zoc wl,_,rfl,_,rfl,B',c,z,pp,pd,bs,qs,ob,os,bel,ad,obs,rfl,q4 _ _ hpp,Paired.mapP tb fun a p e=>q4 _ _ e,lq,D4,zk,(dq _).mpr zd,?_,fun w H5 s5 hw1 hw2=>?_⟩
   ·rcases ze with h | h
    ·exact .inl h
    ·obtain⟨h1,⟨r,h2⟩,_⟩:=zd;exact .inr (((hbel z (cl _ h1 _ r h2)).2 B').mpr h)
   have wdr:=(dq _).mp hw1;obtain⟨h1,⟨r,h2⟩,h3⟩:=wdr;have h2:(w,r)∈ln c:=h2;have wk:w∈keys:=cl _ h1 _ r h2;have rw':Rc ln A' (ws.length-1+1) w:=wr.step h2;have short2:=zeo cl nr hla rw';refine⟨q,_,_,rfl,rfl,s5 _ _ hq4,by rw[al0q];exact zz (by lia),?_⟩;have ll:(ws++[w]).length=ws.length+1:=by rw[al18q];rfl
   refine⟨_,?_,ws++[w],w,rfl,(q4.trans s5).upd hq,by rw[zf,al15q];rfl,by lia,?_,?_,?_,?_,?_,rfl⟩
   ·rw[ll];lia
   ·rw[al47q (by lia)];exact w0
   ·rw[ll,Nat.add_sub_cancel,al50q (al13q _)];simp
   ·rw[ll,Nat.add_sub_cancel];rw[show ws.length-1+1=ws.length by lia] at rw';exact rw'
   ·rcases hw2 with h | h
    ·exact .inl h
    ·exact .inr (((hbel w wk).2 B').mp h)
   ·intro i d e e1 e2;have hi:=zaj e2;rw[ll] at hi;rw[al47q (by lia)] at e1
    by_cases ci:i+1<ws.length
    ·rw[al47q ci] at e2;exact wd i d e e1 e2
    ·have ei:i=ws.length-1:=by lia
     subst ei;rw[wl] at e1;cases e1;rw[show ws.length-1+1=ws.length by lia,al50q (al13q _)] at e2;simp at e2;subst e2;exact (dq _).mp hw1
  ·have cc:c=B':=by
    have:=cc;simp at this;exact this
   subst cc;refine⟨_,rfl,k q ws _ (q3.trans q4) (q3.free hq) hq4 (by lia) (fun _=>⟨?_,w0,wl,wd⟩) fun n=>absurd hab n⟩;refine al34q fun n=>?_
   have e1:ws.length=1:=by lia
   rw[e1] at wl wr;have:=wr.zero;subst this;obtain⟨j,j1,h⟩:=hab;exact nr _ hla j j1 h
inductive sp_ties49' (vs:List V) (H:Hp) (Q:VK):Prop
 | mk (pn a:ty1q) (nm:List Str) (ns:List Int) (m:Nat) (_:vs = [.ref pn,.ref a]) (_:SqL K H pn (nm.map V.str)) (_:SqL K H a (ns.map V.int)) (_:nm.Nodup) (_:nm.length=m+1) (_:m<=46) (_:(∀x∈nm,zgm x=true)) (_:∀(p:ty1q) (as:List ty1q) (ts:List Tie) (H':Hp),Same H H'->H p=none->H' p=some (.lst (as.map V.ref))->Tups H' as (ts.map tieV)->TsAt nm (ts.map zaa) ts->(∀t∈ts,TOk nm t)->Q (.ref p) H')
def zo9:Sp:=fun vs H Q _=>sp_ties49' (K:=K) vs H Q
theorem zjn (T:Tx K mg w zr zv zi):Has P w K mg base "_law_ties" ["_law_names","_law_script"] 2 (zo9 (K:=K)):=by
 refine T.zjv.has sc__law_ties (fun vs H Q E h=>?_) (fun f cdv A outer s H vs Q E hr h=>?_)
 ·obtain⟨pn,a,nm,ns,m,rfl,_⟩:=h;rfl
 ·obtain⟨pn,a,nm,ns,m,rfl,hn,ha,nd,lm,m46,nn,k⟩:=h;refine⟨_,(zg (sset (i:=2) sc__law_ties.nd (zao zh))
   (zg (zaw al30q rfl (zet (by rfl) T.range (zc zj (zc (zac (zag K rfl) (by rfl) T.len al130q (zc (pv 0) zh)) zh))) (gnm (i:=3) sc__law_ties.nd) (zg (sset (i:=4) sc__law_ties.nd (pfn (zal T) (zc (pv 1) (zc (zan zc0 zj (pv 3)) zh))))
    (zm (zbm (zad zck (zan zbu (pv 4) zj) zj (zah _)) (zm (za7 (zcp K rfl PySem.F.plainAttrs_list PySem.F.slot_list_append PySem.F.type_list_append zbc (pv 2) (zc (zax (zc (pix (zab K rfl) (zao (zc zba (zc zba (zc zba zh)))) (zan zbu (zan zcn (pv 4) zj) zj)) (zc (pix (zab K rfl) (pv 0) (pv 3)) (zc (pix (zab K rfl) (pv 0) (zan zdz (pv 3) zj)) zh)))) zh)))) (zm (za7 (zcp K rfl PySem.F.plainAttrs_list PySem.F.slot_list_append PySem.F.type_list_append zbc (pv 2) (zc (zax (zc zba (zc (pix (zab K rfl) (pv 0) (pv 3)) (zc (pix (zab K rfl) (pv 0) (zan zdz (pv 3) zj)) (zc (pix (zab K rfl) (zao (zc (zan zbu (zan zcn (pv 4) zj) zj) (zc (zan zbu (zan zcn (pv 4) zj) (zan zrc zj zj)) zh))) (zan zdz (zan zbu (pv 4) zj) zj)) zh))))) zh))))))))
   (zm (zae (pv 2))))),?_⟩
  rw[show L2.start (["_law_names","_law_script","_law_ties_here","_law_k","_law_cell"]:List Str) [V.ref pn,V.ref a] = [some (V.ref pn),some (V.ref a),none,none,none] from rfl]
  try dsimp only [zw,List.set]
  refine⟨by decide,fun p hp=>?_⟩;have t0:=Same.new (o:=.lst []) hp;have e0:=zf (H:=H) (a:=p) (o:=.lst []);generalize upd H p (.lst [])=H0 at t0 e0
  try dsimp only [zw,List.set]
  have lmn:((nm.map V.str).length:Int)=m+1:=by rw[al0q,lm];rfl
  refine⟨_,rfl,pn,_,rfl,.inl (t0.seq hn),1,((nm.map V.str).length:Int),rfl,by rw[lmn];lia,?_⟩;rw[show (((nm.map V.str).length:Int)-1).toNat=m by rw[lmn];lia];refine zeu (lo:=1) (n:=m) (fun i σ H'=>∃(v3 v4:Option V) (as:List ty1q) (ts:List Tie),σ = [some (.ref pn),some (.ref a),some (.ref p),v3,v4]/\(∀b o,H0 b=some o->b≠p->H' b=some o)/\H' p=some (.lst (as.map V.ref))/\Tups H' as (ts.map tieV)/\ts.length=i/\(∀(j:Nat) t,ts[j]? = some t->t.k≠SAME/\nm[j+1]? = some t.a/\nm[j]? = some t.b/\0<=zaa t)/\(∀t∈ts,TOk nm t))
   ⟨none,none,[],[],rfl,fun b o e _=>e,e0,.nil,rfl,(fun j t e=>by cases e),by simp⟩ ?_ ?_
  rotate_left
  ·rintro σ H1 ⟨v3,v4,as,ts,rfl,kp,hp1,tt,lt,at',ok⟩;refine⟨_,rfl,k p as ts H1 (fun b o e=>kp b o (t0 _ _ e) (zq e hp)) hp hp1 tt ⟨nd,by rw[al0q,lt,lm],by rw[al0q],fun g hg=>?_,fun i t e=>?_⟩ ok⟩
   ·obtain⟨t,ht,rfl⟩:=al32q.mp hg;obtain⟨j,hj⟩:=al29q.mp ht;exact (at' j t hj).2.2.2
   ·obtain⟨h1,h2,h3,_⟩:=at' i t e;exact⟨h1,h2,h3,by rw[al4q,e];rfl⟩
  ·rintro i σ H1 hi ⟨v3,v4,as,ts,rfl,kp,hp1,tt,lt,at',ok⟩;have s1:Same H H1:=fun b o e=>kp b o (t0 _ _ e) (zq e hp)
   have la:as.length=ts.length:=by have:=tt.len;rwa [al0q] at this
   have ex:=al1q (show i+1<nm.length by lia);have ey:=al1q (show i<nm.length by lia);generalize nm[i+1]=x at ex;generalize nm[i]=y at ey;have ax:atI (nm.map V.str) (1+(i:Int))=some (.str x):=by
    rw[show (1:Int)+(i:Int)=((i+1:Nat):Int) by lia];exact za2 (by rw[al4q,ex];rfl)
   have ay:atI (nm.map V.str) (1+(i:Int)-1)=some (.str y):=by
    rw[show (1:Int)+(i:Int)-1=((i:Nat):Int) by lia];exact za2 (by rw[al4q,ey];rfl)
   have hx:=al6q ex;have hy:=al6q ey;have more:∀(b:ty1q) (t:Tie) (G:Hp) (v4:Option V),Same H1 G->G b=some (.tup (tieV t))->t.k≠SAME->t.a=x->t.b=y->0<=zaa t->TOk nm t->∃(v3' v4':Option V) (as':List ty1q) (ts':List Tie),[some (.ref pn),some (.ref a),some (.ref p),some (.int (1+(i:Int))),v4] = [some (.ref pn),some (.ref a),some (.ref p),v3',v4']/\(∀b' o,H0 b'=some o->b'≠p->upd G p (.lst (as.map V.ref++[.ref b])) b'=some o)/\upd G p (.lst (as.map V.ref++[.ref b])) p=some (.lst (as'.map V.ref))/\Tups (upd G p (.lst (as.map V.ref++[.ref b]))) as' (ts'.map tieV)/\ts'.length=i+1/\(∀(j:Nat) t,ts'[j]? = some t->t.k≠SAME/\nm[j+1]? = some t.a/\nm[j]? = some t.b/\0<=zaa t)/\(∀t∈ts',TOk nm t):=fun b t G v4 sG hb k1 ka kb kg kt=>by
    have hpG:=sG _ _ hp1;refine⟨_,_,as++[b],ts++[t],rfl,fun b' o e n=>by rw[zo n];exact sG _ _ (kp b' o e n),by rw[zf,al15q];rfl,?_,by rw[al18q,lt];rfl,fun j u e=>?_,fun u hu=>?_⟩
    ·rw[al15q];exact Tups.snoc ((tt.same sG).stay (za1 hpG)) (za1 hpG _ _ hb)
    ·rcases al98q j ts.length with c | c
     ·rw[al47q c] at e;exact at' j u e
     ·have hj:=zaj e;rw[al18q] at hj;have:j=i:=by have h1 : [t].length=1:=rfl;lia
      subst this;rw[al50q c,show j-ts.length=0 by lia] at e;cases e;exact⟨k1,by rw[ka];exact ex,by rw[kb];exact ey,kg⟩
    ·rcases al25q.mp hu with h | h
     ·exact ok u h
     ·have:u=t:=by simpa using h
      subst this;exact kt
   try dsimp only [zw,List.set]
   refine⟨_,rfl,_,rfl,_,_,rfl,rfl,a,ns,4+(1+(i:Int)),rfl,s1.seq ha,by lia,?_⟩;generalize za0 ns (4+(1+(i:Int)))=c
   try dsimp only [zw,List.set]
   refine zcq (decide (V.int (c%3)=V.int 0)) (fun Q' hQ=>⟨_,rfl,_,_,rfl,rfl,by show (0:Int)<3;decide,rfl,_,rfl,hQ⟩) ?_;have m0:=al92q c (show (3:Int)≠0 by decide);have m1:=al74q c (show (0:Int)<3 by decide);refine ite2 (fun c1=>?_) (fun c1=>?_)
   ·have n0:=al92q (c / 3) (show (3:Int)≠0 by decide);have n1:=al74q (c / 3) (show (0:Int)<3 by decide);obtain⟨kd,hkd,hk⟩:∃kd:Str,atI [V.str "over",V.str "cuts",V.str "fills"] (c / 3%3)=some (.str kd)/\kd∈(["over","cuts","fills"]:List Str):=by
     obtain⟨z,ez⟩:∃z:Nat,c / 3%3=(z:Int):=⟨(c / 3%3).toNat,by lia⟩;rw[ez]
     match z,(show z<3 by lia) with
     | 0,_=>exact⟨"over",rfl,by simp⟩
     | 1,_=>exact⟨"cuts",rfl,by simp⟩
     | 2,_=>exact⟨"fills",rfl,by simp⟩
    refine⟨_,rfl,.inl ⟨rfl,_,SqL.of hp1⟩,by show 3<=sizeLine;decide,fun l hl=>?_⟩;have t1:=Same.new (o:=.lst [V.str "over",V.str "cuts",V.str "fills"]) hl;have s2:=s1.trans t1;refine⟨_,rfl,_,_,rfl,rfl,⟨by decide,by decide⟩,_,_,rfl,rfl,by show (0:Int)<3;decide,l,_,_,_,rfl,rfl,SqL.of zf,hkd,_,rfl,_,rfl,pn,_,_,_,rfl,rfl,s2.seq hn,ax,_,rfl,_,rfl,_,_,rfl,rfl,pn,_,_,_,rfl,rfl,s2.seq hn,ay,by show 3<=sizeLine;decide,fun b hb=>?_⟩;have t2:=Same.new (o:=.tup [.str kd,.str x,.str y]) hb;have ke:kd≠SAME/\kd∈znc:=by
     simp at hk;rcases hk with rfl | rfl | rfl<;>exact⟨by decide +kernel,by decide +kernel⟩
    exact⟨p,_,_,rfl,rfl,(t1.trans t2) _ _ hp1,by rw[al0q];exact zz (by lia),more b ⟨kd,x,y,none⟩ _ _ (t1.trans t2) zf ke.1 rfl rfl (al111q _) ⟨TieOk.plain ke.2 hx hy,hx,hy⟩⟩
   ·have c1:c%3≠0:=fun z=>c1 (al10q (al61q V.int z))
    have n0:=al92q (c / 3) (show (10:Int)≠0 by decide);have n1:=al74q (c / 3) (show (0:Int)<10 by decide);have p56:(0:Int)<10 ^ (56:Int).toNat:=by decide
    have n2:=al92q (c / 3) (show (10 ^ (56:Int).toNat:Int)≠0 by decide);have n3:=al74q (c / 3) p56;obtain⟨g,hg,g0,g1⟩:∃g:Int,atI [V.int (c / 3%10),V.int (c / 3%10 ^ (56:Int).toNat)] (c%3-1)=some (.int g)/\0<=g/\g<10 ^ 56:=by
     rcases (show c%3=1\/c%3=2 by lia) with z | z
     ·rw[z];exact⟨_,rfl,n0,Int.lt_trans n1 (by decide)⟩
     ·rw[z];exact⟨_,rfl,n2,n3⟩
    refine⟨_,rfl,.inl ⟨rfl,_,SqL.of hp1⟩,_,rfl,_,rfl,pn,_,_,_,rfl,rfl,s1.seq hn,ax,_,rfl,_,rfl,_,_,rfl,rfl,pn,_,_,_,rfl,rfl,s1.seq hn,ay,_,rfl,_,_,rfl,rfl,⟨by decide,by decide⟩,_,_,rfl,rfl,by show (0:Int)<10;decide,_,rfl,_,_,rfl,rfl,⟨by decide,by decide⟩,_,_,rfl,rfl,⟨by decide,by decide,by decide⟩,_,_,rfl,rfl,p56,by show 2<=sizeLine;decide,fun l hl=>?_⟩;have t1:=Same.new (o:=.lst [V.int (c / 3%10),V.int (c / 3%10 ^ (56:Int).toNat)]) hl;refine⟨_,rfl,_,_,rfl,rfl,by show (0:Int)<3;decide,_,_,rfl,rfl,l,_,_,_,rfl,rfl,SqL.of zf,hg,by show 4<=sizeLine;decide,fun b hb=>?_⟩;have t2:=Same.new (o:=.tup [.str "after",.str x,.str y,.int g]) hb;exact⟨p,_,_,rfl,rfl,(t1.trans t2) _ _ hp1,by rw[al0q];exact zz (by lia),more b ⟨"after",x,y,some g⟩ _ _ (t1.trans t2) zf (by show (Str.ofString "after")≠SAME;decide +kernel) rfl rfl g0 ⟨TieOk.after hx hy g0 (by show g.natAbs<10 ^ 60;lia),hx,hy⟩⟩
inductive sp_gap49' (vs:List V) (H:Hp) (Q:VK):Prop
 | mk (b:ty1q) (us:List Str) (t:Tie) (_:vs = [.ref b]) (_:H b=some (.tup (tieV t))) (_:TOk us t) (_:Q (.int (zaa t)) H)
def zq0:Sp:=fun vs H Q _=>sp_gap49' vs H Q
theorem zdw (T:Tx K mg w zr zv zi):Has P w K mg base "_law_gap" ["_law_tie"] 1 zq0:=by
 refine T.zl6.has zjk (fun vs H Q E h=>?_) (fun f cdv A outer s H vs Q E hr h=>?_)
 ·obtain⟨b,us,t,rfl,_⟩:=h;rfl
 ·obtain⟨b,us,t,rfl,hb,ok,k⟩:=h;refine⟨_,(zg (zbm (zad zck (pix (zx K rfl) (pv 0) zj) zba (zah _)) (zm (zae (pix (zx K rfl) (pv 0) zj))) zap)
   (zm (zae zj))),?_⟩
  try dsimp only [zw]
  refine zcq (decide (V.str t.k=V.str (Str.ofString "after"))) (fun Q' hQ=>⟨_,rfl,b,_,_,_,rfl,rfl,SqT.of hb,ziv,rfl,_,rfl,hQ⟩) ?_;refine ite2 (fun c=>?_) (fun c=>?_)
  ·exact⟨_,rfl,b,_,_,_,rfl,rfl,SqT.of hb,ok.after (V.str.inj (al16q c)),k⟩
  ·have e:zaa t=0:=ok.plain fun z=>c (al10q (al61q V.str z))
   rw[e] at k;exact k
inductive sp_turn49' (vs:List V) (H:Hp) (Q:VK):Prop
 | mk (pt pr:ty1q) (us:List Str) (ads:List ty1q) (ts:List Tie) (rs:List ty1q) (n:Nat) (_:vs = [.ref pt,.ref pr,.int n]) (_:SqL K H pt (ads.map V.ref)) (_:Tups H ads (ts.map tieV)) (_:(∀t∈ts,TOk us t)) (_:(∀x∈us,zgm x=true)) (_:(∀t∈ts,t.k≠SAME)) (_:SqL K H pr (rs.map V.ref)) (_:rs.length=n) (_:n<=900) (_:(∃vs,Rtie ts ads rs vs)) (_:∀H',Same H H'->Q (.bl true) H')
def zpa:Sp:=fun vs H Q _=>sp_turn49' (K:=K) vs H Q
theorem zdx (T:Tx K mg w zr zv zi):Has P w K mg base "_law_goes_round" ["_law_ties_here","_law_ring","_law_many"] 2 (zpa (K:=K)):=by
 refine T.zdy.has sc__law_goes_round (fun vs H Q E h=>?_) (fun f cdv A outer s H vs Q E hr h=>?_)
 ·obtain⟨pt,pr,us,ads,ts,rs,n,rfl,_⟩:=h;rfl
 ·obtain⟨pt',pr,us,ads,ts,rs,n,rfl,ht,tt,ok,nn,ns,hring,lr,n9,rt,k⟩:=h;refine⟨_,(zg (zbm (zad zpk (zac (zag K rfl) (by rfl) T.len al130q (zc (pv 1) zh)) (pv 2) (zah _)) (zm (zae zfi)) zap)
   (zg (zaw al30q rfl (zes (by rfl) T.range (zc (zac (zag K rfl) (by rfl) T.len al130q (zc (pv 1) zh)) zh)) (gnm (i:=3) sc__law_goes_round.nd) (zm (zbm (PW.pt (zkt (zad (zk3 K rfl (hu11 hr)) (pix (zab K rfl) (pv 1) (pv 3)) (pv 0) (by with_unfolding_all rfl)) (zfx (zad zpk (pix (zx K rfl) (pix (zab K rfl) (pv 1) (pv 3)) zj) (pix (zx K rfl) (pix (zab K rfl) (pv 1) (zan zdz (pv 3) zj)) zj) (zah _))))) (zm (zae zfi)) zap)))
   (zm (zae zfi)))),?_⟩
  rw[show L2.start (["_law_ties_here","_law_ring","_law_many","_law_k"]:List Str) [V.ref pt',V.ref pr,V.int n] = [some (V.ref pt'),some (V.ref pr),some (V.int n),none] from rfl]
  try dsimp only [zw,List.set]
  obtain⟨vs,R⟩:=rt;have lrm:((rs.map V.ref).length:Int)=(n:Int):=by rw[al0q,lr]
  refine zcq false (fun Q' hQ=>⟨_,rfl,pr,_,rfl,.inl hring,_,rfl,rfl,_,rfl,by rw[lrm,al10q rfl];exact hQ⟩) (iteF ?_)
  try unfold zgb
  try dsimp only [zw,List.set]
  refine⟨_,rfl,pr,_,rfl,.inl hring,((rs.map V.ref).length:Int),rfl,by lia,by lia,?_⟩;rw[al129q];refine zeu (lo:=0) (n:=(rs.map V.ref).length) (fun i σ H'=>∃v3:Option V,σ = [some (.ref pt'),some (.ref pr),some (.int n),v3]/\Same H H') ⟨none,rfl,Same.refl _⟩ ?_ (fun σ H' ⟨v3,e,s⟩=>k H' s);rintro i σ H1 hi ⟨v3,rfl,s1⟩;rw[al0q] at hi;have tie:∀j r,rs[j]? = some r->∃t,t∈ts/\H1 r=some (.tup (tieV t))/\t.a=vs j/\t.b=vs (j+1):=fun j r e=>by
   obtain⟨t,h1,_,h3,h4⟩:=R.at' j r e;rw[zbq ns] at h3 h4;obtain⟨i',hi'⟩:=al29q.mp h1;obtain⟨h5,h6⟩:=al45q.mp hi';exact⟨t,(al91q h1).1,s1 _ _ (zaf tt h6 (by rw[al4q,h5];rfl)),h3,h4⟩
  have er:=al1q hi;generalize rs[i]=r at er;obtain⟨t,htm,hrt,ta,tb⟩:=tie i r er;have ar:atI (rs.map V.ref) (0+(i:Int))=some (.ref r):=by
   rw[Int.zero_add];exact za2 (by rw[al4q,er];rfl)
  obtain⟨r',ar',t',hrt',tb'⟩:∃r',atI (rs.map V.ref) (0+(i:Int)-1)=some (.ref r')/\∃t',H1 r'=some (.tup (tieV t'))/\t'.b=t.a:=by
   cases i with
   | zero=>
    rcases List.eq_nil_or_concat rs with z | ⟨q,r',z⟩
    ·rw[z] at hi;simp at hi
    ·rw[List.concat_eq_append] at z;have e:rs[q.length]? = some r':=by rw[z,al50q (al13q _),al178q];rfl
     obtain⟨t',_,h2,_,h4⟩:=tie _ _ e;refine⟨r',by rw[z,al15q];exact zej _ _,t',h2,?_⟩;have el:rs.length=q.length+1:=by rw[z,al18q];rfl
     rw[h4,ta,R.cl,el]
   | succ j=>
    have e:=al1q (show j<rs.length by lia);obtain⟨t',_,h2,_,h4⟩:=tie _ _ e;refine⟨_,?_,t',h2,by rw[h4,ta]⟩;rw[show (0:Int)+((j+1:Nat):Int)-1=((j:Nat):Int) by lia];exact za2 (by rw[al4q,e];rfl)
  have hw:∀vs∈ts.map tieV,∀v∈vs,Wd v:=fun vs hv=>by
   obtain⟨u,hu,rfl⟩:=al32q.mp hv;exact ((ok u hu).ok.words nn).1
  have tt1:=tt.same s1;have i1:atI (tieV t) 1=some (.str t.a):=za2 (j:=1) rfl;have i2:atI (tieV t') 2=some (.str t'.b):=za2 (j:=2) rfl
  try dsimp only [zw,List.set]
  refine zcq false (fun Q' hQ=>?_) (iteF ⟨_,rfl,s1⟩);refine⟨_,rfl,_,rfl,pr,_,_,_,rfl,rfl,s1.seq hring,ar,_,rfl,pt',_,_,rfl,.inl (s1.seq ht),tt1.deq (n:=7) hw hrt ((ok t htm).ok.words nn).1,_,rfl,?_⟩;rw[al12q rfl,tt1.anyE,al10q (al32q.mpr ⟨t,htm,rfl⟩)];refine iteF ?_;refine⟨_,rfl,_,rfl,pr,_,_,_,rfl,rfl,s1.seq hring,ar,r,_,_,_,rfl,rfl,SqT.of hrt,i1,_,rfl,_,rfl,_,_,rfl,rfl,pr,_,_,_,rfl,rfl,s1.seq hring,ar',r',_,_,_,rfl,rfl,SqT.of hrt',i2,rfl,_,rfl,?_⟩;rw[tb',al10q rfl];exact hQ
theorem ztx {xs:List V}{x:V}:cutV (xs++[x]) none (some (-1))=xs:=by
 unfold cutV HT.sIx;simp;rw[show (-1+((xs.length:Int)+1)).toNat=xs.length by lia,List.take_left' rfl]
theorem zv3 {a b:TS}{D:Ends}{σ:St}{H:Hp}(P:St->Hp->Prop) (h1:∀D':Ends,(∀σ' H',P σ' H'->D'.nx σ' H')->a D' σ H) (h2:∀σ' H',P σ' H'->b D σ' H'):tSeq a b D σ H:=h1 _ h2
inductive sp_trim' (vs:List V) (H:Hp) (Q:VK):Prop
 | mk (pt:ty1q) (us:List Str) (ads:List ty1q) (ts:List Tie) (_:vs = [.ref pt]) (_:SqL K H pt (ads.map V.ref)) (_:Tups H ads (ts.map tieV)) (_:(∀t∈ts,TOk us t)) (_:(∃t∈ts,zaa t≠0)) (_:∀(q:ty1q) (a b:Nat) (H':Hp),Same H H'->SqL K H' q (((ads.drop a).take (b-a)).map V.ref)->a<b->b<=ts.length->(∀(i:Nat) t,i<a->ts[i]? = some t->zaa t=0)->(∀(i:Nat) t,b<=i->ts[i]? = some t->zaa t=0)->(∃t,ts[a]? = some t/\zaa t≠0)->(∃t,ts[b-1]? = some t/\zaa t≠0)->Q (.ref q) H')
def zty:Sp:=fun vs H Q _=>sp_trim' (K:=K) vs H Q
theorem zfp (T:Tx K mg w zr zv zi):Has P w K mg base "_law_trimmed" ["_law_ties_here"] 2 (zty (K:=K)):=by
 refine T.zfv.has sc__law_trimmed (fun vs H Q E h=>?_) (fun f cdv A outer s H vs Q E hr h=>?_)
 ·obtain⟨pt,us,ads,ts,rfl,_⟩:=h;rfl
 ·obtain⟨pt',us,ads,ts,rfl,ht,tt,ok,ex,k⟩:=h;refine⟨_,(zg (zcu al30q (PW.pt (zha (zad zmk (zac (zag K rfl) (by rfl) T.len al130q (zc (pv 0) zh)) zj (zah _)) (zer (zad zck (pfn (zdw T) (zc (pix (zab K rfl) (pv 0) zj) zh)) zj (zah _))))) (zm (sset (i:=0) sc__law_trimmed.nd (zei (zel K rfl) (pv 0) (zgd zj) zgc))))
   (zg (zcu al30q (PW.pt (zha (zad zmk (zac (zag K rfl) (by rfl) T.len al130q (zc (pv 0) zh)) zj (zah _)) (zer (zad zck (pfn (zdw T) (zc (pix (zab K rfl) (pv 0) (zhc zd0 zj)) zh)) zj (zah _))))) (zm (sset (i:=0) sc__law_trimmed.nd (zei (zel K rfl) (pv 0) zgc (zgd (zhc zd0 zj))))))
   (zm (zae (pv 0))))),?_⟩
  rw[show L2.start (["_law_ties_here"]:List Str) [V.ref pt'] = [some (V.ref pt')] from rfl];have la:ads.length=ts.length:=by have:=tt.len;rwa [al0q] at this
  have tn:0<ts.length:=by obtain⟨t,h,_⟩:=ex;exact al149q h
  have gt:∀{G:Hp},Same H G->∀(i:Nat) r,ads[i]? = some r->∃t,ts[i]? = some t/\G r=some (.tup (tieV t))/\TOk us t:=fun sG i r e=>by
   have hi:=zaj e;have et:=al1q (show i<ts.length by lia);exact⟨_,et,sG _ _ (zaf tt e (by rw[al4q,et];rfl)),ok _ (al6q et)⟩
  try dsimp only [zw,List.set]
  refine zv3 (fun σ' H'=>∃(q:ty1q) (a:Nat),σ' = [some (.ref q)]/\Same H H'/\SqL K H' q ((ads.drop a).map V.ref)/\a<ts.length/\(∀(i:Nat) t,i<a->ts[i]? = some t->zaa t=0)/\∃t,ts[a]? = some t/\zaa t≠0) (fun D' hD'=>?_) ?_
  ·refine⟨fun m σ H'=>∃(q:ty1q) (a:Nat),σ = [some (.ref q)]/\Same H H'/\SqL K H' q ((ads.drop a).map V.ref)/\a<ts.length/\(∀(i:Nat) t,i<a->ts[i]? = some t->zaa t=0)/\m=ts.length-a,⟨_,pt',0,rfl,Same.refl _,by rw[List.drop_zero];exact ht,tn,(fun i t h=>by lia),rfl⟩,?_⟩;rintro m σ H1 ⟨q,a,rfl,s1,hq,al,z1,rfl⟩;have ea:=al1q (show a<ads.length by lia);obtain⟨t,et,hrt,tok⟩:=gt s1 a _ ea;have ed:ads.drop a=ads[a]::ads.drop (a+1):=List.drop_eq_getElem_cons (by lia);have dl:(((ads.drop a).map V.ref).length:Int)=ts.length-a:=by rw[al0q,al134q];lia
   refine⟨_,rfl,q,_,rfl,.inl hq,_,_,rfl,rfl,_,rfl,?_⟩;rw[dl];refine ite2 (fun c=>?_) (fun c=>iteF (hD' _ _ ⟨q,a,rfl,s1,hq,al,z1,?_⟩))
   ·have c:=al16q c;rw[ed] at hq;refine⟨_,rfl,q,_,_,_,rfl,rfl,hq,ziv,ads[a],us,t,rfl,hrt,tok,rfl,_,rfl,?_⟩;refine ite2 (fun c2=>?_) (fun c2=>hD' _ _ ⟨q,a,rfl,s1,by rw[ed];exact hq,al,z1,t,et,fun z=>c2 (al10q (al61q V.int z))⟩);have c2:zaa t=0:=V.int.inj (al16q c2);refine⟨fun σ' H'=>∃m',m'<ts.length-a/\_,fun σ' H' h=>h,?_⟩;refine⟨_,rfl,_,rfl,q,_,rfl,hq,fun q2 hq2=>?_⟩;rw[al79q,zk5];refine⟨_,?_,q2,a+1,rfl,s1.trans (Same.new hq2),SqL.of zf,by lia,fun i u hi eu=>?_,rfl⟩
    ·lia
    ·rcases al98q i a with h | h
     ·exact z1 i u h eu
     ·rw[show i=a by lia,et] at eu;cases eu;exact c2
   ·have c:¬(1:Int)<ts.length-a:=fun z=>c (al10q z)
    obtain⟨u,hu,nz⟩:=ex;obtain⟨i,hi⟩:=al29q.mp hu;have hil:=zaj hi;rcases al98q i a with h | h
    ·exact absurd (z1 i u h hi) nz
    ·exact⟨u,by rw[show a=i by lia];exact hi,nz⟩
  rintro σ0 H0 ⟨q0,a,rfl,s0,hq0,al,z1,na⟩;refine zv3 (fun σ' H'=>∃(q:ty1q) (b:Nat),σ' = [some (.ref q)]/\Same H H'/\SqL K H' q (((ads.drop a).take (b-a)).map V.ref)/\a<b/\b<=ts.length/\(∀(i:Nat) t,b<=i->ts[i]? = some t->zaa t=0)/\∃t,ts[b-1]? = some t/\zaa t≠0) (fun D' hD'=>?_) ?_
  rotate_left
  ·rintro σ1 H1 ⟨q,b,rfl,s1,hq,ab,bl,z2,nb⟩;exact⟨_,rfl,k q a b H1 s1 hq ab bl z1 z2 na nb⟩
  ·refine⟨fun m σ H'=>∃(q:ty1q) (b:Nat),σ = [some (.ref q)]/\Same H H'/\SqL K H' q (((ads.drop a).take (b-a)).map V.ref)/\a<b/\b<=ts.length/\(∀(i:Nat) t,b<=i->ts[i]? = some t->zaa t=0)/\m=b,⟨_,q0,ts.length,rfl,s0,by rw[al52q (by rw[al134q];lia)];exact hq0,al,al13q _,fun i t h e=>by have:=zaj e;lia,rfl⟩,?_⟩;rintro m σ H1 ⟨q,b,rfl,s1,hq,ab,bl,z2,hm⟩;have eb:=al1q (show b-1<ads.length by lia);obtain⟨t,et,hrt,tok⟩:=gt s1 (b-1) _ eb;have ed:(ads.drop a).take (b-a)=(ads.drop a).take (b-1-a)++[ads[b-1]]:=by
    rw[show b-a=(b-1-a)+1 by lia,al9q,List.getElem?_drop,show a+(b-1-a)=b-1 by lia,eb];rfl
   have dl:((((ads.drop a).take (b-a)).map V.ref).length:Int)=b-a:=by rw[al0q,al28q,al134q];lia
   refine⟨_,rfl,q,_,rfl,.inl hq,_,_,rfl,rfl,_,rfl,?_⟩;rw[dl];refine ite2 (fun c=>?_) (fun c=>iteF (hD' _ _ ⟨q,b,rfl,s1,hq,ab,bl,z2,?_⟩))
   ·have c:=al16q c;rw[ed,al15q] at hq;refine⟨_,rfl,_,rfl,q,_,_,_,rfl,rfl,hq,zej _ _,ads[b-1],us,t,rfl,hrt,tok,rfl,_,rfl,?_⟩;refine ite2 (fun c2=>?_) (fun c2=>hD' _ _ ⟨q,b,rfl,s1,by rw[ed,al15q];exact hq,ab,bl,z2,t,et,fun z=>c2 (al10q (al61q V.int z))⟩);have c2:zaa t=0:=V.int.inj (al16q c2);refine⟨fun σ' H'=>∃m',m'<m/\_,fun σ' H' h=>h,?_⟩;refine⟨_,rfl,_,rfl,_,rfl,q,_,rfl,hq,fun q2 hq2=>?_⟩;rw[show (([ads[b-1]]:List ty1q).map V.ref) = [V.ref ads[b-1]] from rfl,ztx];refine⟨_,?_,q2,b-1,rfl,s1.trans (Same.new hq2),SqL.of zf,by lia,by lia,fun i u hi eu=>?_,rfl⟩
    ·lia
    ·rcases al98q i b with h | h
     ·rw[show i=b-1 by lia,et] at eu;cases eu;exact c2
     ·exact z2 i u h eu
   ·have c:¬(1:Int)<b-a:=fun z=>c (al10q z)
    rw[show b-1=a by lia];exact na
def dueV (lo hi:Int) (nm:List Str) (gp:List Int) (k:Str):List V:=[.int (lo+sm gp (rk nm k)),.int (hi-(sm gp gp.length-sm gp (rk nm k)))]
theorem pdue {H:Hp}{g:Str->List V}:∀{as:List ty1q}{ks:List Str},Tups H as (ks.map fun k=>.str k::g k)->Paired (fun a (q:Str×List V)=>SqT K H a (.str q.1::q.2)) as (ks.map fun k=>(k,g k))
 | [],[],.nil=>.nil
 | _::_,_::_,.cons h t=>.cons (SqT.of h) (pdue t)
inductive sp_due49' (vs:List V) (H:Hp) (Q:VK):Prop
 | mk (pn pm pg:ty1q) (nm:List Str) (gp:List Int) (lo hi:Int) (_:vs = [.ref pn,.ref pm,.ref pg]) (_:SqL K H pn (nm.map V.str)) (_:SqT K H pm [.int lo,.int hi]) (_:SqL K H pg (gp.map V.int)) (_:nm.Nodup) (_:nm.length=gp.length+1) (_:gp.length<=46) (_:∀(q:ty1q) (bs:List ty1q) (hs:List Str) (H':Hp),Same H H'->H' q=some (.lst (bs.map V.ref))->Tups H' bs (hs.map fun k=>.str k::dueV lo hi nm gp k)->hs.Perm nm->hs.Pairwise (fun a b=>a.cps.toList<b.cps.toList)->Q (.ref q) H')
def zq1:Sp:=fun vs H Q _=>sp_due49' (K:=K) vs H Q
theorem zl2 (T:Tx K mg w zr zv zi):Has P w K mg base "_law_due" ["_law_names","_law_frame","_law_gaps"] 1 (zq1 (K:=K)):=by
 refine T.zl7.has sc__law_due (fun vs H Q E h=>?_) (fun f cdv A outer s H vs Q E hr h=>?_)
 ·obtain⟨pn,pm,pg,nm,gp,lo,hi,rfl,_⟩:=h;rfl
 ·obtain⟨pn,pm,pg,nm,gp,lo,hi,rfl,hn,hm,hg,nd,gl,g46,k⟩:=h;refine⟨_,(zg (sset (i:=3) sc__law_due.nd (zao zh))
   (zg (zaw al30q rfl (zes (by rfl) T.range (zc (zac (zag K rfl) (by rfl) T.len al130q (zc (pv 0) zh)) zh)) (gnm (i:=4) sc__law_due.nd) (zm (za7 (zcp K rfl PySem.F.plainAttrs_list PySem.F.slot_list_append PySem.F.type_list_append zbc (pv 3) (zc (zax (zc (pix (zab K rfl) (pv 0) (pv 4)) (zc (zan zc0 (pix (zx K rfl) (pv 1) zj) (zac (zdi K rfl rfl) (by rfl) T.sum al155q (zc (zei (zel K rfl) (pv 2) zgc (zgd (pv 4))) zh))) (zc (zan zdz (pix (zx K rfl) (pv 1) zj) (zac (zdi K rfl rfl) (by rfl) T.sum al155q (zc (zei (zel K rfl) (pv 2) (zgd (pv 4)) zgc) zh))) zh)))) zh)))))
   (zm (zae (zac (zif (K:=K) rfl) (by rfl) T.sorted al80q (zc (pv 3) zh)))))),?_⟩
  rw[show L2.start (["_law_names","_law_frame","_law_gaps","_law_due_here","_law_k"]:List Str) [V.ref pn,V.ref pm,V.ref pg] = [some (V.ref pn),some (V.ref pm),some (V.ref pg),none,none] from rfl]
  try dsimp only [zw,List.set]
  refine⟨by decide,fun p hp=>?_⟩;have t0:=Same.new (o:=.lst []) hp;have e0:=zf (H:=H) (a:=p) (o:=.lst []);generalize upd H p (.lst [])=H0 at t0 e0
  try dsimp only [zw,List.set]
  have lmn:((nm.map V.str).length:Int)=nm.length:=by rw[al0q]
  refine⟨_,rfl,pn,_,rfl,.inl (t0.seq hn),((nm.map V.str).length:Int),rfl,by lia,by lia,?_⟩;rw[lmn,al129q];refine zeu (lo:=0) (n:=nm.length) (fun i σ H'=>∃(v4:Option V) (as:List ty1q),σ = [some (.ref pn),some (.ref pm),some (.ref pg),some (.ref p),v4]/\(∀b o,H0 b=some o->b≠p->H' b=some o)/\H' p=some (.lst (as.map V.ref))/\Tups H' as ((nm.take i).map fun k=>.str k::dueV lo hi nm gp k))
   ⟨none,[],rfl,fun b o e _=>e,e0,by rw[al179q];exact .nil⟩ ?_ ?_
  ·rintro i σ H1 hi' ⟨v4,as,rfl,kp,hp1,tt⟩;have s1:Same H H1:=fun b o e=>kp b o (t0 _ _ e) (zq e hp)
   have la:as.length<=47:=by have:=tt.len;rw[al0q,al28q] at this;lia
   have ex:=al1q hi';generalize nm[i]=x at ex;have ax:atI (nm.map V.str) (0+(i:Int))=some (.str x):=by
    rw[Int.zero_add];exact za2 (by rw[al4q,ex];rfl)
   try dsimp only [zw,List.set]
   refine⟨_,rfl,.inl ⟨rfl,_,SqL.of hp1⟩,_,rfl,_,rfl,pn,_,_,_,rfl,rfl,s1.seq hn,ax,_,rfl,pm,_,_,_,rfl,rfl,s1.tup hm,rfl,_,rfl,_,rfl,_,rfl,pg,_,rfl,s1.seq hg,fun l1 hl1=>?_⟩;have gi:i<=(gp.map V.int).length:=by rw[al0q];lia
   rw[show cutV (gp.map V.int) none (some (0+(i:Int)))=(gp.take i).map V.int from by rw[zsl (by lia) (by lia),show (0+(i:Int)).toNat=i by lia,←List.map_take]];have t1:=Same.new (o:=.lst ((gp.take i).map V.int)) hl1;have s2:=s1.trans t1;refine⟨l1,gp.take i,rfl,SqL.of zf,_,_,rfl,rfl,_,rfl,pm,_,_,_,rfl,rfl,s2.tup hm,rfl,_,rfl,_,rfl,_,rfl,pg,_,rfl,s2.seq hg,fun l2 hl2=>?_⟩;rw[show cutV (gp.map V.int) (some (0+(i:Int))) none=(gp.drop i).map V.int from by rw[znh (by lia) (by lia),show (0+(i:Int)).toNat=i by lia,←List.map_drop]];have t2:=Same.new (o:=.lst ((gp.drop i).map V.int)) hl2;refine⟨l2,gp.drop i,rfl,SqL.of zf,_,_,rfl,rfl,by show 3<=sizeLine;decide,fun b hb=>?_⟩;have t3:=Same.new (o:=.tup [.str x,.int (lo+(gp.take i).sum),.int (hi-(gp.drop i).sum)]) hb;have t13:=t1.trans (t2.trans t3);have hp3:=t13 _ _ hp1;have ed:sm gp gp.length-sm gp i=(gp.drop i).sum:=by
    unfold sm;rw[al22q]
    conv=>lhs;lhs;rw[←al181q i gp,List.sum_append]
    lia
   refine⟨p,_,_,rfl,rfl,hp3,by rw[al0q];exact zz (by lia),?_⟩;refine⟨_,as++[b],rfl,fun b' o e n=>by rw[zo n];exact t13 _ _ (kp b' o e n),by rw[zf,al15q];rfl,?_⟩;rw[al9q,ex,al15q];refine Tups.snoc ((tt.same t13).stay (za1 hp3)) (za1 hp3 _ _ ?_);show _=some (HO.tup (V.str x::dueV lo hi nm gp x));unfold dueV;rw[zje nd ex,ed];exact zf
  rintro σ H1 ⟨v4,as,rfl,kp,hp1,tt⟩;rw[al22q] at tt;have s1:Same H H1:=fun b o e=>kp b o (t0 _ _ e) (zq e hp)
  try unfold zgb
  try dsimp only [zw,List.set]
  refine⟨_,rfl,p,as,nm.map fun k=>(k,dueV lo hi nm gp k),rfl,SqL.of hp1,pdue tt,by rw[al73q];exact (List.map_id'' (fun _=>rfl) nm).symm▸nd,by rw[al0q];lia,fun D bs hs hD lb pb pm' up=>?_⟩;have t1:=Same.new (o:=.lst (bs.map V.ref)) hD;refine k D bs (hs.map Prod.fst) _ (s1.trans t1) zf ?_ ?_ ?_
  ·refine zbl (by rw[al0q,al0q];exact lb) fun i b ws e1 e2=>?_
   rw[al4q,al4q] at e2;cases ey:hs[i]? with
   | none=>rw[ey] at e2;cases e2
   | some y=>
    rw[ey] at e2;cases e2;obtain⟨j,h1,h2⟩:=pb i b y e1 ey;rw[al4q] at h2;cases en:nm[j]? with
    | none=>rw[en] at h2;cases h2
    | some z=>
     rw[en] at h2;cases h2;exact t1 _ _ (zaf tt h1 (by rw[al4q,en];rfl))
  ·have:=pm'.map Prod.fst
   rwa [al73q,show (Prod.fst ∘ fun k=>(k,dueV lo hi nm gp k))=id from rfl,List.map_id] at this
  ·exact List.Pairwise.map _ (fun a b h=>h) up
theorem zpb {ln:Ln}{nm:List Str}{gr:Bool}{m:Nat}(R:Rw1 ln nm gr) (hm:nm.length=m+1) {s:Str}(hs:nm[m]? = some s):∀{i:Nat}{t:Str},nm[m-i]? = some t->i<=m->Rc ln s i t
 | 0,t,h,_=>by rw[Nat.sub_zero,hs] at h;cases h;exact Rc.refl
 | i+1,t,h,hi=>by
  have eu:=al1q (show m-i<nm.length by lia);have:=zpb R hm hs eu (by lia);obtain⟨r,hr⟩:=R.step (m-(i+1)) _ _ h (by rw[show m-(i+1)+1=m-i by lia];exact eu);exact this.step hr
def zda (nm:List Str) (m:Nat):List SS:=(List.range m).map fun i=>(nm.getD (i+1) "",nm.getD i "")
theorem zih {nm:List Str}{m i:Nat}(hm:nm.length=m+1) (h:i<m):(zda nm m)[i]? = some (nm.getD (i+1) "",nm.getD i "")/\nm[i+1]? = some (nm.getD (i+1) "")/\nm[i]? = some (nm.getD i ""):=by
 refine⟨by unfold zda;rw[al4q,al105q h];rfl,?_,?_⟩
 ·rw[al11q,al1q (show i+1<nm.length by lia)];rfl
 ·rw[al11q,al1q (show i<nm.length by lia)];rfl
theorem zpc {nm:List Str}{m:Nat}(hm:nm.length=m+1) {q:SS}:q∈zda nm m↔∃i:Nat,nm[i+1]? = some q.1/\nm[i]? = some q.2:=by
 constructor
 ·intro h;obtain⟨i,hi⟩:=al29q.mp h;have hl:=zaj hi;unfold zda at hl;rw[al0q,al44q] at hl;obtain⟨e1,e2,e3⟩:=zih hm hl;rw[e1] at hi;cases hi;exact⟨i,e2,e3⟩
 ·rintro ⟨i,h1,h2⟩;have hl:=zaj h1;obtain⟨e1,e2,e3⟩:=zih hm (show i<m by lia);refine al6q (e1.trans ?_);rw[h1] at e2;rw[h2] at e3;rw[←al41q e2,←al41q e3]
theorem zpd {nm:List Str}{m:Nat}(hm:nm.length=m+1) (nd:nm.Nodup):(zda nm m).Nodup:=by
 rw[al90q,al48q];intro i j hi hj hij z;have pl:(zda nm m).length=m:=by unfold zda;rw[al0q,al44q]
 obtain⟨e1,e2,e3⟩:=zih hm (show i<m by lia);obtain⟨f1,f2,f3⟩:=zih hm (show j<m by lia);rw[al1q hi,z,←al1q hj,f1] at e1;have z2:=(Prod.mk.inj (al41q e1)).2;rw[z2] at f3;have:=za4 nd e3 f3;lia
inductive sp_ones49' (vs:List V) (H:Hp) (Q:VK):Prop
 | mk (p pu pt pn:ty1q) (x y:V) (us:List Str) (ads:List ty1q) (ts:List Tie) (nm:List Str) (gp:List Int) (gr:Bool) (_:vs = [.ref p,.ref pn]) (_:Tel K H p pu pt x y us ads ts) (_:TsOk nm gp gr false ts) (_:us.Perm nm) (_:SqL K H pn (nm.map V.str)) (_:gp.length<=46) (_:∀H',Same H H'->Q (.bl true) H')
def zpe:Sp:=fun vs H Q _=>sp_ones49' (K:=K) vs H Q
theorem zdl (T:Tx K mg w zr zv zi):Has P w K mg base "_law_row_of_ones" ["_law_telling","_law_names"] 11 (zpe (K:=K)):=by
 refine T.zdo.has sc__law_row_of_ones (fun vs H Q E h=>?_) (fun f cdv A outer s H vs Q E hr h=>?_)
 ·obtain⟨p,pu,pt,pn,x,y,us,ads,ts,nm,gp,gr,rfl,_⟩:=h;rfl
 ·obtain⟨p,pu,pt',pn,x,y,us,ads,ts,nm,gp,gr,rfl,hT,TK,up,hn,g46,k⟩:=h;refine⟨_,(zg (sset (i:=2) sc__law_row_of_ones.nd (zbn (zb9 K rfl) (by rfl) T.list al104q (zc (pv 1) zh)))
   (zg (za7 (zm7 K rfl PySem.F.plainAttrs_list PySem.F.slot_list_reverse PySem.F.type_list_reverse zkz (pv 2)))
   (zg (zbm (PW.pt (zkt (zad (zc7 K rfl (hu10 hr)) (pfn (zfb T) (zc (pv 0) zh)) (pv 1) (zah _)) (zfx (zad (zc7 K rfl (hu10 hr)) (pfn (zqv T) (zc (pv 0) zh)) (zbx (own:=["_law_name"]) (cap:=[]) (ix:=[]) (osc:=zp (top 48)) rfl ⟨rfl,by decide +kernel,by decide +kernel,by decide +kernel,by decide +kernel⟩ rfl (zai K rfl (pv 1)) (fun _ _ _ _=>zbb (i:=0) (show List.Nodup (["_law_name"]:List Str) by decide +kernel) rfl (Or.inl rfl)) (fun _ _ _ _=>zbp) (fun _ _ _ _=>(zao (zc (pv 0) zh)))) (zah _))))) (zm (zae zfi)) zap)
   (zg (zbm (zad (zc7 K rfl (hu10 hr)) (pfn (zo8 T) (zc (pv 0) zh)) (zac (zh7 (K:=K) rfl) (by rfl) T.sorted al80q (zc (zbx (own:=["_law_k"]) (cap:=["_law_names"]) (ix:=[1]) (osc:=zp (top 48)) rfl ⟨rfl,by decide +kernel,by decide +kernel,by decide +kernel,by decide +kernel⟩ rfl (zet (by rfl) T.range (zc zj (zc (zac (zag K rfl) (by rfl) T.len al130q (zc (pv 1) zh)) zh))) (fun _ _ _ _=>zbb (i:=0) (show List.Nodup (["_law_k","_law_names"]:List Str) by decide +kernel) rfl (Or.inl rfl)) (fun _ _ _ _=>zbp) (fun _ _ _ _=>(zax (zc (pix (zab K rfl) (pv 1) (pv 0)) (zc (pix (zab K rfl) (pv 1) (zan zdz (pv 0) zj)) zh))))) zh)) (zah _)) (zm (zae zfi)) zap)
   (zm (zae (zwa (zco zck (zac (zag K rfl) (by rfl) T.len al130q (zc (pv 1) zh)) zj (zah _)) (zjx (zco (zgk K rfl (hu10 hr)) (pfn (zv2 T) (zc (pv 0) (zc (pix (zab K rfl) (pv 1) (zhc zd0 zj)) (zc (pix (zab K rfl) (pv 1) zj) zh)))) (pv 2) (zah _)))))))))),?_⟩
  rw[show L2.start (["_law_telling","_law_names","_law_turned"]:List Str) [V.ref p,V.ref pn] = [some (V.ref p),some (V.ref pn),none] from rfl];have lad:=hT.len;have R:=TK.rw1 (ads:=ads) lad;have pk:(zn ts (srt us)).Perm nm:=by rw[zg4 TK.ns];exact (zca us).trans up
  have kn:=zav (ts:=ts) hT.nd;have nr:NoR (zak ts (ts.zip ads)) (zn ts (srt us)):=zot R;have hm:=TK.gl;have drb:DrB us ads ts:=fun qs n h=>by
   have:=zh9 (us:=zda nm gp.length) n fun q hq=>(zpc hm).mpr ((zjg R pk).mp (h q hq))
   unfold zda at this;rw[al0q,al44q] at this;lia
  try dsimp only [zw,List.set]
  refine⟨_,rfl,pn,_,rfl,.inl hn,fun tu htu=>?_⟩;have t0:=Same.new (o:=.lst (nm.map V.str)) htu;have e0:=zf (H:=H) (a:=tu) (o:=.lst (nm.map V.str))
  try dsimp only [zw,List.set]
  refine⟨_,rfl,.inl ⟨rfl,_,SqL.of e0⟩,tu,_,rfl,rfl,e0,?_⟩;have s1:Same H (upd (upd H tu (.lst (nm.map V.str))) tu (.lst (nm.map V.str).reverse)):=t0.upd htu;have e1:=zf (H:=upd H tu (.lst (nm.map V.str))) (a:=tu) (o:=.lst (nm.map V.str).reverse);generalize upd (upd H tu (.lst (nm.map V.str))) tu (.lst (nm.map V.str).reverse)=H1 at s1 e1;clear t0 e0;have T1:=hT.same s1
  try dsimp only [zw,List.set]
  refine zcw false (fun Q' hQ=>?_) (fun H2 s2=>iteF ?_)
  ·refine⟨_,rfl,p,pu,pt',x,y,us,ads,ts,rfl,T1,nr,fun qo os H2 s2 _ hqo O pm=>?_⟩;have eo:=ztd R pk O pm;subst eo;refine⟨_,rfl,qo,pn,true,rfl,rfl,DEq.sameL (SqL.of hqo) (s2.seq (s1.seq hn)) zh2,_,rfl,iteF ?_⟩;refine⟨_,rfl,p,pu,pt',x,y,us,ads,ts,rfl,T1.same s2,nr,fun ql cs lv H3 s3 _ hql lc _ _ hcs L=>?_⟩;have rp:=zjd (lv:=lv) (keys:=zn ts (srt us)) rfl hcs;rw[zos L (zvs R pk),zqo R pk kn] at rp;have q3:=s1.trans (s2.trans s3);refine⟨_,rfl,pn,rfl,⟨_,q3.seq hn⟩,fun D hD=>?_⟩;refine zbd (zb1 (K:=K) (a:=pn) (xs:=os.map V.str)) (fun i σ' ys H'=>∃(w0:Option V) (ds:List ty1q),σ' = [w0]/\ys=ds.map V.ref/\Same H3 H'/\H' D=some (.lst ys)/\Paired (fun c g=>H' c=some (.lst (g.map V.str))/\c≠D) ds ((os.take i).map fun x=>[x]))
    ⟨none,[],rfl,rfl,Same.new hD,zf,by rw[al179q];exact .nil⟩ (fun i σ' ys H' h=>?_) (by rw[al0q];exact zar (by lia)) ?_ ?_
   ·obtain⟨_,ds,_,rfl,q,hd,pd⟩:=h;refine⟨q.seq (q3.seq hn),hd,?_⟩;have:=Paired.length pd;rw[al0q,al28q] at this;rw[al0q];lia
   ·rintro i v σ' ys H4 hv ⟨w0,ds,rfl,rfl,q4,hd4,pd⟩;have hix:=zaj hv;have hi':i<os.length:=by rw[al0q] at hix;exact hix
    have ex:=al1q hi';generalize os[i]=z at ex;rw[al4q,ex] at hv;cases hv
    try dsimp only [zw,List.set]
    unfold tYes;dsimp only;rw[al12q rfl];refine⟨_,rfl,by show 1<=sizeLine;decide,fun l hl=>?_⟩;have w1:=Same.new (o:=.lst [.str z]) hl;have hd5:=w1 _ _ hd4;have nl:l≠D:=fun y=>by rw[y,hd4] at hl;cases hl
    refine⟨hd5,zcl hix ⟨_,ds++[l],rfl,by rw[al15q];rfl,(q4.trans w1).upd hD,zf,?_⟩⟩;rw[al9q,ex,al15q];exact Paired.snoc (Paired.mono pd fun c g _ y=>⟨by rw[zo y.2];exact w1 _ _ y.1,y.2⟩) ⟨by rw[zo nl];exact zf,nl⟩
   ·rintro σ' ys H4 ⟨w0,ds,rfl,rfl,q4,hd4,pd⟩;rw[al0q,al22q] at pd;refine⟨ql,D,true,rfl,rfl,zlr (n:=6) (q4 _ _ hql) hd4 (Paired.mono rp fun _ _ _ e=>q4 _ _ e) (Paired.mono pd fun _ _ _ e=>e.1),_,rfl,hQ _ (s2.trans (s3.trans q4))⟩
  have q2:=s1.trans s2;have T2:=hT.same q2;have e2:=s2 _ _ e1
  try unfold zgb
  try dsimp only [zw,List.set]
  refine zcw false (fun Q' hQ=>?_) (fun H3 s3=>iteF ?_)
  ·refine⟨_,rfl,p,pu,pt',x,y,us,ads,ts,rfl,T2,drb,nr,fun D bs qs H3 s3 _ hD3 pb pw lq dq=>?_⟩;have q3:=q2.trans s3;have lmn:((nm.map V.str).length:Int)=gp.length+1:=by rw[al0q,hm];rfl
   refine⟨_,rfl,pn,_,rfl,.inl (q3.seq hn),1,((nm.map V.str).length:Int),rfl,by rw[lmn];lia,fun C hC=>?_⟩;rw[show (((nm.map V.str).length:Int)-1).toNat=gp.length by rw[lmn];lia];refine zbd (zit (lo:=1) (n:=gp.length)) (fun i σ' ys H'=>∃(w0:Option V) (ds:List ty1q),σ' = [w0,some (.ref pn)]/\ys=ds.map V.ref/\Same H3 H'/\H' C=some (.lst ys)/\Paired (fun a (q:SS)=>H' a=some (.tup [.str q.1,.str q.2])) ds ((zda nm gp.length).take i))
    ⟨none,[],rfl,rfl,Same.new hC,zf,by rw[al179q];exact .nil⟩ (fun i σ' ys H' h=>?_) (by rw[al0q,al44q];exact zar (by lia)) ?_ ?_
   ·obtain⟨_,ds,_,rfl,q,hd,pd⟩:=h;refine⟨trivial,hd,?_⟩;have:=Paired.length pd;rw[al28q] at this;rw[al0q];lia
   ·rintro i v σ' ys H4 hv ⟨w0,ds,rfl,rfl,q4,hd4,pd⟩;have hix:=zaj hv;have hi':i<gp.length:=by rw[al0q,al44q] at hix;exact hix
    rw[al4q,al105q hi'] at hv;cases hv;obtain⟨f1,f2,f3⟩:=zih hm hi';have ax:atI (nm.map V.str) (1+(i:Int))=some (.str (nm.getD (i+1) "")):=by
     rw[show (1:Int)+(i:Int)=((i+1:Nat):Int) by lia];exact za2 (by rw[al4q,f2];rfl)
    have ay:atI (nm.map V.str) (1+(i:Int)-1)=some (.str (nm.getD i "")):=by
     rw[show (1:Int)+(i:Int)-1=((i:Nat):Int) by lia];exact za2 (by rw[al4q,f3];rfl)
    have hn4:=q4.seq (q3.seq hn)
    try dsimp only [zw,List.set]
    unfold tYes;dsimp only;rw[al12q rfl];refine⟨_,rfl,_,rfl,pn,_,_,_,rfl,rfl,hn4,ax,_,rfl,_,rfl,_,_,rfl,rfl,pn,_,_,_,rfl,rfl,hn4,ay,by show 2<=sizeLine;decide,fun b hb=>?_⟩;have w1:=Same.new (o:=.tup [.str (nm.getD (i+1) ""),.str (nm.getD i "")]) hb;have hd5:=w1 _ _ hd4;refine⟨hd5,zcl hix ⟨_,ds++[b],rfl,by rw[al15q];rfl,(q4.trans w1).upd hC,zf,?_⟩⟩;rw[al9q,f1];exact Paired.snoc (Paired.mapP pd fun a z e=>za1 hd5 _ _ (w1 _ _ e)) (za1 hd5 _ _ zf)
   ·rintro σ' ys H4 ⟨w0,ds,rfl,rfl,q4,hd4,pd⟩;have pl:(zda nm gp.length).length=gp.length:=by unfold zda;rw[al0q,al44q]
    rw[al0q,al44q,show (zda nm gp.length).take gp.length=zda nm gp.length from al52q (by lia)] at pd;refine⟨C,ds,zda nm gp.length,rfl,SqL.of hd4,Paired.mapP pd fun a z e=>SqT.of e,zpd hm TK.nd,by lia,fun E bs' qs' hE pb' pm' pw'=>?_⟩;have eq:qs=qs':=zia pw pw' fun z=>by rw[dq,zjg R pk,pm'.mem_iff,zpc hm]
    subst eq;have w2:=Same.new (o:=.lst (bs'.map V.ref)) hE;have lb:=Paired.length pb;have lb':=Paired.length pb';refine⟨D,E,true,rfl,rfl,DEq.allL (n:=7) (SqL.of (w2 _ _ (q4 _ _ hD3))) (SqL.of zf) (by rw[al0q,al0q];lia) (fun i v v' e1 e2=>?_),_,rfl,hQ _ (s3.trans (q4.trans w2))⟩;rw[al4q] at e1 e2;cases f1:bs[i]? with
    | none=>rw[f1] at e1;cases e1
    | some b=>
     cases f2:bs'[i]? with
     | none=>rw[f2] at e2;cases e2
     | some b'=>
      rw[f1] at e1;rw[f2] at e2;cases e1;cases e2;obtain⟨z,ez,hz⟩:=Paired.get' pb f1;have hz':=zaf pb' f2 ez;have ft:∀v∈[V.str z.1,V.str z.2],zb6 v=true:=fun v hv=>by
       simp at hv;rcases hv with rfl | rfl<;>rfl
      have:=DEq.flatT (K:=K) (n:=6) (SqT.of ((q4.trans w2) _ _ hz)) (w2.tup hz') ft ft
      rwa [zek ft] at this
  have q3:=q2.trans s3;have T3:=hT.same q3;have e3:=s3 _ _ e2
  try unfold zgb
  try dsimp only [zw,List.set]
  have hn3:=q3.seq hn;refine⟨_,rfl,pn,_,rfl,.inl hn3,rfl,_,rfl,?_⟩;refine ite2 (fun c=>k H3 q3) (fun c=>?_);have c:gp.length≠0:=fun z=>c (al10q (al61q V.int (by rw[al0q,hm,z];rfl)))
  have el:=al1q (show gp.length<nm.length by lia);have e0:=al1q (show 0<nm.length by lia);have al:atI (nm.map V.str) (-1)=some (.str nm[gp.length]):=by
   have e:nm=nm.take gp.length++[nm[gp.length]]:=by
    conv=>lhs;rw[←al52q (l:=nm) (i:=gp.length+1) (by lia),al9q,el]
    rfl
   conv=>lhs;rw[e,al15q]
   exact zej _ _
  have a0:atI (nm.map V.str) 0=some (.str nm[0]):=za2 (j:=0) (by rw[al4q,e0];rfl);have hul:nm[gp.length]∈us:=up.mem_iff.mpr (al46q _);have hu0:nm[0]∈us:=up.mem_iff.mpr (al46q _);refine⟨_,rfl,_,rfl,_,rfl,pn,_,_,_,rfl,rfl,hn3,al,_,rfl,pn,_,_,_,rfl,rfl,hn3,a0,p,pu,pt',x,y,us,ads,ts,nm[gp.length],nm[0],rfl,T3,drb,nr,hul,hu0,fun qw ws H4 s4 _ hqw lw bel _=>?_⟩;have B:Bel (zak ts (ts.zip ads)) (labs ts nm[gp.length]) (labs ts nm[0]):=by
   rw[zbq TK.ns,zbq TK.ns];exact⟨gp.length,by lia,zpb R hm el (by rw[al178q];exact e0) (al13q _)⟩
  obtain⟨_,w0,wl,wd⟩:=bel B;rw[zbq TK.ns] at w0 wl;have ew:=zqn R pk hm (w0.trans el.symm) (wl.trans e0.symm) wd;subst ew;rw[List.map_reverse] at hqw;refine⟨_,rfl,qw,tu,true,rfl,rfl,DEq.sameL (SqL.of hqw) (SqL.of (s4 _ _ e3)) (fun v hv=>?_),k H4 (q3.trans s4)⟩;obtain⟨z,_,rfl⟩:=al32q.mp (al186q.mp hv);exact zg1 rfl
def kLaw:Nat:=12
theorem zv4 {a b:TS}{D:Ends}{σ:St}{H:Hp}(P:St->Hp->Prop) (h1:∀D':Ends,(∀σ' H',P σ' H'->D'.nx σ' H')->a D' σ H) (h2:∀σ' H',P σ' H'->b D σ' H'):tSeq a b D σ H:=h1 _ h2
theorem papp {α β:Type}{F:α->β->Prop}:∀{as bs:List α}{xs ys:List β},Paired F as xs->Paired F bs ys->Paired F (as++bs) (xs++ys)
 | _,_,_,_,.nil,h=>h
 | _,_,_,_,.cons h t,k=>.cons h (papp t k)
theorem zjo {gp:List Int}:∀{a:Nat},(∀(i:Nat) g,i<a->gp[i]? = some g->g=0)->sm gp a=0
 | 0,_=>rfl
 | a+1,h=>by
  have ih:=zjo (gp:=gp) (a:=a) fun i g hi e=>h i g (by lia) e
  cases e:gp[a]? with
  | none=>
   unfold sm at ih ⊢;rw[al9q,e];simpa using ih
  | some g=>rw[zb0 e,ih,h a g (by lia) e];rfl
theorem zpf {gp:List Int}:∀(n:Nat) {b:Nat},b+n=gp.length->(∀(i:Nat) g,b<=i->gp[i]? = some g->g=0)->sm gp b=sm gp gp.length
 | 0,b,e,_=>by rw[←e];rfl
 | n+1,b,e,h=>by
  have eg:=al1q (show b<gp.length by lia);have:=zpf n (b:=b+1) (by lia) fun i g hi e=>h i g (by lia) e
  rw[←this,zb0 eg,h b _ (al13q _) eg,Int.add_zero]
theorem ptup {H:Hp}{f g:Str->Int}:∀{as:List ty1q}{ks:List Str},Paired (fun a k=>H a=some (.tup [.str k,.int (f k),.int (g k)])) as ks->Tups H as (ks.map fun k=>[.str k,.int (f k),.int (g k)])
 | _,_,.nil=>.nil
 | _,_,.cons h t=>.cons h (ptup t)
def nmF (c:Nat) (q:Int):V->V
 | .int z=>.str ((⟨#[c]⟩:Str)++Str.ofString (toString (z * 7%q)))
 | _=>.non
def sp_law:Sp:=fun vs H Q _=>∃(a:ty1q) (ns:List Int),vs = [.ref a]/\SqL K H a (ns.map V.int)/\ns.length<=63/\∀H',Q (.bl true) H'
theorem h_law (T:Tx K mg w zr zv zi):Has P w K mg base "law" ["_law_script"] kLaw (sp_law (K:=K)):=by
 refine T.zw9.has sc_law (fun vs H Q E h=>?_) (fun f cdv A outer s H vs Q E hr h=>?_)
 ·obtain⟨a,ns,rfl,_⟩:=h;rfl
 ·obtain⟨a,ns,rfl,ha,hl,k⟩:=h;refine⟨_,(zg (sset (i:=1) sc_law.nd (pix zuj zba (zan zbu (pfn (zal T) (zc (pv 0) (zc zj zh))) zj)))
   (zg (sset (i:=2) sc_law.nd (zbn zor (by rfl) T.int PyProof.Rows.boot_int (zc (zco zck (zan zbu (zan zcn (pfn (zal T) (zc (pv 0) (zc zj zh))) zj) zj) zj (zah _)) zh)))
   (zg (sset (i:=3) sc_law.nd (pix (zab K rfl) (zao (zc (zan zc0 zj (zan zbu (pfn (zal T) (zc (pv 0) (zc zj zh))) zj)) (zc (zan zc0 zj (zan zbu (zan zcn (pfn (zal T) (zc (pv 0) (zc zj zh))) zj) zj)) zh))) (pv 2)))
   (zg (sset (i:=4) sc_law.nd (zbx (own:=["_law_k"]) (cap:=["_law_letter","_law_great"]) (ix:=[1,2]) (osc:=zp (top 49)) rfl ⟨rfl,by decide +kernel,by decide +kernel,by decide +kernel,by decide +kernel⟩ rfl (zes (by rfl) T.range (zc (pv 3) zh)) (fun _ _ _ _=>zbb (i:=0) (show List.Nodup (["_law_k","_law_letter","_law_great"]:List Str) by decide +kernel) rfl (Or.inl rfl)) (fun _ _ _ _=>zbp) (fun _ _ _ _=>(zan zkv (pv 1) (zbn zhd (by rfl) T.str PyProof.Rows.boot_str (zc (zan zbu (zan zmf (pv 0) zj) (pix (zab K rfl) (zao (zc zj (zc zj zh))) (pv 2))) zh))))))
   (zg (sset (i:=5) sc_law.nd (pfn (zjn T) (zc (pv 4) (zc (pv 0) zh))))
   (zg (zis (i:=6) (own:=["_law_tie"]) (cap:=[]) (ix:=[]) (osc:=zp (top 49)) rfl sc_law.nd rfl rfl rfl ⟨rfl,by decide +kernel,by decide +kernel,by decide +kernel,by decide +kernel⟩ rfl (zai K rfl (pv 5)) (fun _ _ _ _=>zbb (i:=0) (show List.Nodup (["_law_tie"]:List Str) by decide +kernel) rfl (Or.inl rfl)) (fun _ _ _ _=>zbp) (fun _ _ _ _=>(pfn (zdw T) (zc (pv 0) zh))))
   (zg (sset (i:=5) sc_law.nd (zan (zoq K rfl) (pv 5) (zbx (own:=["_law_k"]) (cap:=["_law_names"]) (ix:=[4]) (osc:=zp (top 49)) rfl ⟨rfl,by decide +kernel,by decide +kernel,by decide +kernel,by decide +kernel⟩ rfl (zet (by rfl) T.range (zc zj (zc (zan zmf (pv 3) (pv 2)) zh))) (fun _ _ _ _=>zbb (i:=0) (show List.Nodup (["_law_k","_law_names"]:List Str) by decide +kernel) rfl (Or.inl rfl)) (fun _ _ _ _=>zbp) (fun _ _ _ _=>(zax (zc zba (zc (pix (zab K rfl) (pv 1) (pv 0)) (zc (pix (zab K rfl) (pv 1) (zan zdz (pv 0) zj)) zh))))))))
   (zg (sset (i:=7) sc_law.nd (zan zmf (zan zbu (pfn (zal T) (zc (pv 0) (zc zj zh))) (zan zrc zj zj)) (pix (zab K rfl) (zao (zc zj (zc (zhc zd0 zj) zh))) (zan zbu (pfn (zal T) (zc (pv 0) (zc zj zh))) zj))))
   (zg (sset (i:=8) sc_law.nd (pix (zab K rfl) (zao (zc zj (zc (zan zc0 zj (zan zbu (zan zcn (pfn (zal T) (zc (pv 0) (zc zj zh))) zj) zj)) (zc (zhc zd0 zj) zh)))) (zan zbu (zan zcn (pfn (zal T) (zc (pv 0) (zc zj zh))) zj) zj)))
   (zg (zbm (PW.pt (zkt (zad zck (zac (zdi K rfl rfl) (by rfl) T.sum al155q (zc (pv 6) zh)) zj (zah _)) (zfx (zad zck (pv 2) zj (zah _))))) (zm (sset (i:=8) sc_law.nd (zac (zmm rfl) (by rfl) T.max PyProof.Rows.boot_max (zc (pv 8) (zc zj zh))))) zap)
   (zg (sset (i:=9) sc_law.nd (zax (zc (pv 7) (zc (zan zc0 (zan zc0 (pv 7) (zac (zdi K rfl rfl) (by rfl) T.sum al155q (zc (pv 6) zh))) (pv 8)) zh))))
   (zg (zbm (zad zck (zan zbu (pfn (zal T) (zc (pv 0) (zc zj zh))) zj) zj (zah _)) (zg (sset (i:=5) sc_law.nd (zan (zoq K rfl) (pv 5) (zao (zc (zax (zc zba (zc (pix (zab K rfl) (pv 4) zj) (zc (pix (zab K rfl) (pv 4) (zhc zd0 zj)) zh)))) zh))))
    (zg (zrb (pfn (zd4 T) (zc (zax (zc (pv 9) (zc (zac (zb2 (K:=K) rfl) (by rfl) T.sorted al80q (zc (pv 4) zh)) (zc (pv 5) (zc (zao zh) zh))))) zh)) (zby K rfl rfl (zam (gnm (i:=10) sc_law.nd) (zam (gnm (i:=11) sc_law.nd) zbt))))
    (zm (zae (zmc (zco zck (pv 10) zba (zah _)) (zjx (pfn (zdx T) (zc (pv 5) (zc (pv 11) (zc (pix (zab K rfl) (zao (zc (zac (zag K rfl) (by rfl) T.len al130q (zc (pv 5) zh)) (zc (zan zc0 zj (zan zcn (pv 3) zj)) zh))) (pv 2)) zh)))))))))) zap)
   (zg (sset (i:=12) sc_law.nd (zax (zc (pv 9) (zc (zac (zb2 (K:=K) rfl) (by rfl) T.sorted al80q (zc (pv 4) zh)) (zc (pv 5) (zc (zao zh) zh))))))
   (zg (zbm (zra (zmb (pfn (zdl T) (zc (pv 12) (zc (pv 4) zh))))) (zm (zae zfi)) zap)
   (zg (zrb (pfn (zd4 T) (zc (pv 12) zh)) (zby K rfl rfl (zam (gnm (i:=10) sc_law.nd) (zam (gnm (i:=11) sc_law.nd) zbt))))
   (zg (zbm (zad zmj (pv 8) zj (zah _)) (zm (zae (zmc (zco zck (pv 10) zba (zah _)) (zjx (zco (zgk K rfl (hu10 hr)) (pv 11) (zax (zc zba (zc (pfn (zfp T) (zc (pv 5) zh)) (zc zba zh)))) (zah _)))))) zap)
   (zm (zae (zmc (zco zck (pv 10) zba (zah _)) (zjx (zco (zgk K rfl (hu10 hr)) (pv 11) (pfn (zl2 T) (zc (pv 4) (zc (pv 9) (zc (pv 6) zh)))) (zah _)))))))))))))))))))))),?_⟩
  rw[show L2.start (["_law_script","_law_letter","_law_great","_law_many","_law_names","_law_ties_here","_law_gaps","_law_first","_law_more","_law_frame","_law_word","_law_found","_law_telling"]:List Str) [V.ref a] = [some (V.ref a),none,none,none,none,none,none,none,none,none,none,none,none] from rfl]
  try dsimp only [zw,List.set]
  have z0:=al92q (za0 ns 0) (show (26:Int)≠0 by decide);have z1:=al74q (za0 ns 0) (show (0:Int)<26 by decide);obtain⟨c,hc,ec⟩:=zvw (za0 ns 0%26).toNat (al36q.mpr (by lia));have ec:atI (Str.ofString "abcdefghijklmnopqrstuvwxyz").cps.toList (za0 ns 0%26)=some c:=by
   have:=za2 ec
   rwa [Int.toNat_of_nonneg z0] at this
  refine⟨_,rfl,a,ns,_,rfl,ha,by decide,_,_,rfl,rfl,by show (0:Int)<26;decide,_,_,c,rfl,rfl,by decide +kernel,ec,?_⟩;clear z0 z1 ec
  try dsimp only [zw,List.set]
  refine⟨_,rfl,a,ns,_,rfl,ha,by decide,_,_,rfl,rfl,⟨by decide,by decide⟩,_,_,rfl,rfl,by show (0:Int)<4;decide,rfl,_,rfl,?_⟩;generalize decide (V.int (za0 ns 1 / 16%4)=V.int 3)=gr
  try dsimp only [zw,List.set]
  refine⟨_,rfl,a,ns,_,rfl,ha,by decide,_,_,rfl,rfl,by show (0:Int)<16;decide,_,_,rfl,rfl,_,rfl,a,ns,_,rfl,ha,by decide,_,_,rfl,rfl,⟨by decide,by decide⟩,_,_,rfl,rfl,by show (0:Int)<8;decide,_,_,rfl,rfl,by show 2<=sizeLine;decide,fun p1 hp1=>?_⟩;have t1:=Same.new (o:=.lst [.int (1+za0 ns 1%16),.int (40+za0 ns 1 / 64%8)]) hp1;obtain⟨m,hat,hm1,hgr,hgf⟩:∃m:Nat,atI [V.int (1+za0 ns 1%16),.int (40+za0 ns 1 / 64%8)] (if gr=true then 1 else 0)=some (.int ((m+1:Nat):Int))/\m<=46/\(gr=true->39<=m)/\(gr=false->m<=15):=by
   have a0:=al92q (za0 ns 1) (show (16:Int)≠0 by decide);have a1:=al74q (za0 ns 1) (show (0:Int)<16 by decide);have b0:=al92q (za0 ns 1 / 64) (show (8:Int)≠0 by decide);have b1:=al74q (za0 ns 1 / 64) (show (0:Int)<8 by decide);cases gr with
   | false=>
    refine⟨(za0 ns 1%16).toNat,?_,by lia,(fun z=>by cases z),fun _=>by lia⟩;rw[show (((za0 ns 1%16).toNat+1:Nat):Int)=1+za0 ns 1%16 by lia];rfl
   | true=>
    refine⟨(39+za0 ns 1 / 64%8).toNat,?_,by lia,fun _=>by lia,(fun z=>by cases z)⟩;rw[show (((39+za0 ns 1 / 64%8).toNat+1:Nat):Int)=40+za0 ns 1 / 64%8 by lia];rfl
  refine⟨_,rfl,p1,_,_,_,rfl,rfl,SqL.of zf,hat,?_⟩;have ha1:=t1.seq ha;generalize upd H p1 (.lst [.int (1+za0 ns 1%16),.int (40+za0 ns 1 / 64%8)])=H1 at ha1;clear ha t1 hat
  try dsimp only [zw,List.set]
  obtain⟨q,hq,qk⟩:∃q:Int,atI [V.int 17,.int 61] (if gr=true then 1 else 0)=some (.int q)/\qOk q (m+1):=by
   cases gr with
   | false=>exact⟨17,rfl,.inl ⟨rfl,by have:=hgf rfl;lia⟩⟩
   | true=>exact⟨61,rfl,.inr ⟨rfl,by lia⟩⟩
  have qp:0<q/\q<=61:=by rcases qk with ⟨rfl,_⟩ | ⟨rfl,_⟩<;>exact⟨by decide,by decide⟩
  have nd:=zqp (c:=c) qk;have nn:=zti hc qk;refine⟨_,rfl,((m+1:Nat):Int),rfl,by lia,by lia,fun D hD=>?_⟩;rw[al129q];refine zm6 (zit (lo:=0) (n:=m+1)) (nmF c q) hD (fun _ _=>trivial) (by rw[al0q,al44q];exact zar (by lia)) (fun v hv G Q' sG hQ=>?_) fun H2 s2 hD2=>?_
  ·obtain⟨z,hz,rfl⟩:=al32q.mp hv;have hz:=al36q.mp hz;have nb:=nn (nmK c q z) (by unfold nmL;exact al32q.mpr ⟨z,al36q.mpr hz,rfl⟩);have m0:=al92q ((0+(z:Int)) * 7) (show q≠0 by lia);have m1:=al74q ((0+(z:Int)) * 7) qp.1;refine⟨_,rfl,_,rfl,_,_,rfl,rfl,.inr ⟨by decide,by decide⟩,by show 2<=sizeLine;decide,fun l hl=>⟨_,rfl,l,_,_,_,rfl,rfl,SqL.of zf,hq,_,_,rfl,rfl,qp.1,_,rfl,zus (by lia),_,_,rfl,rfl,?_,hQ _ (Same.new hl)⟩⟩;have h12:(nmK c q z).length<=12:=by
    unfold zgm at nb;rw[al49q,al49q] at nb;exact al16q nb.1.2
   have hl':(nmK c q z).length=(⟨#[c]⟩:Str).length+(Str.ofString (toString ((0+(z:Int)) * 7%q))).length:=by
    show ((#[c]:Array Nat)++(Str.ofString (toString ((0+(z:Int)) * 7%q))).cps).size=_;rw[Array.size_append];rfl
   rw[←hl'];exact zar (by lia)
  have ha2:=s2.seq ha1;rw[show ((List.range (m+1)).map fun i=>V.int (0+(i:Nat))).map (nmF c q)=(nmL c q (m+1)).map V.str from by unfold nmL;rw[al73q,al73q];rfl] at hD2;have lnm:(nmL c q (m+1)).length=m+1:=zvx;generalize nmL c q (m+1)=nm at nd nn hD2 lnm;clear ha1 hq qk qp
  try dsimp only [zw,List.set]
  refine⟨_,rfl,_,rfl,D,a,nm,ns,m,rfl,SqL.of hD2,ha2,nd,lnm,hm1,nn,fun p as ts H3 s3 fp hp3 tt3 TA tok=>?_⟩;have ha3:=s3.seq ha2;have hD3:=s3 _ _ hD2;have lts:ts.length=m:=by have h1:=TA.gl;rw[al0q] at h1;lia
  have las:as.length=ts.length:=by have:=tt3.len;rwa [al0q] at this
  try dsimp only [zw,List.set]
  refine⟨_,rfl,p,rfl,⟨_,SqL.of hp3⟩,fun G hG=>?_⟩;refine zbd (zb1 (K:=K) (a:=p) (xs:=as.map V.ref)) (fun i σ' ys H'=>∃(w0:Option V),σ' = [w0]/\ys=((ts.map zaa).take i).map V.int/\Same H3 H'/\H' G=some (.lst ys))
   ⟨none,rfl,rfl,Same.new hG,zf⟩ (fun i σ' ys H' h=>?_) (by rw[al0q];exact zar (by lia)) ?_ ?_
  ·obtain⟨_,_,rfl,q',hd⟩:=h;exact⟨SqL.of (q' _ _ hp3),hd,by rw[al0q,al28q];lia⟩
  ·rintro i v σ' ys H4 hv ⟨w0,rfl,rfl,q4,hd4⟩;have hix:=zaj hv;have hi':i<as.length:=by rw[al0q] at hix;exact hix
   have eb:=al1q hi';have et:=al1q (show i<ts.length by lia);rw[al4q,eb] at hv;cases hv;have hb:=q4 _ _ (zaf tt3 eb (by rw[al4q,et];rfl))
   try dsimp only [zw,List.set]
   unfold tYes;dsimp only;rw[al12q rfl];refine⟨_,rfl,_,nm,ts[i],rfl,hb,tok _ (al46q _),hd4,zcl hix ⟨_,rfl,?_,q4.upd hG,zf⟩⟩;rw[al9q,al4q,et,al15q];rfl
  rintro σ' ys H4 ⟨w0,rfl,rfl,q4,hG4⟩;rw[al0q,las,al52q (by rw[al0q];exact al13q _)] at hG4;have ha4:=q4.seq ha3;have hD4:=q4 _ _ hD3;have hp4:=q4 _ _ hp3;have tt4:=tt3.same q4;clear ha2 ha3 hD2 hD3 hp3 tt3 q4 s2 s3
  try dsimp only [zw,List.set]
  obtain⟨n,hn,hn1,hn2⟩:∃n:Nat,(((m+1:Nat):Int) * (if gr=true then 1 else 0)-2).toNat=n/\(gr=true->n+1=m)/\(gr=false->n=0):=by
   cases gr with
   | false=>exact⟨0,by simp,(fun z=>by cases z),fun _=>rfl⟩
   | true=>exact⟨m-1,by simp;lia,fun _=>by have:=hgr rfl;lia,(fun z=>by cases z)⟩
  have nle:n<=45:=by cases gr with
   | false=>rw[hn2 rfl];decide
   | true=>have:=hn1 rfl;lia
  have nlm:n+1<nm.length\/n=0:=by cases gr with
   | false=>exact .inr (hn2 rfl)
   | true=>have:=hn1 rfl;exact .inl (by lia)
  refine⟨_,rfl,_,rfl,_,rfl,_,_,rfl,rfl,.inr (by cases gr<;>exact⟨by decide,by decide⟩),2,_,rfl,?_,fun C hC=>?_⟩
  ·cases gr with
   | false=>exact⟨by decide,by decide,by simp,by simp⟩
   | true=>exact⟨by decide,by decide,by simp;lia,by simp;lia⟩
  rw[hn];have gdn:∀i,i<nm.length->nm[i]? = some (nm.getD i ""):=fun i hi=>by rw[al11q,al1q hi];rfl
  refine zbd (zit (lo:=2) (n:=n)) (fun i σ' ys H'=>∃(w0:Option V) (ds:List ty1q),σ' = [w0,some (.ref D)]/\ys=ds.map V.ref/\Same H4 H'/\H' C=some (.lst ys)/\Tups H' ds (((zay nm n).take i).map tieV))
   ⟨none,[],rfl,rfl,Same.new hC,zf,by rw[al179q];exact .nil⟩ (fun i σ' ys H' h=>?_) (by rw[al0q,al44q];exact zar (by lia)) ?_ ?_
  ·obtain⟨_,ds,_,rfl,q',hd,pd⟩:=h;refine⟨trivial,hd,?_⟩;have:=pd.len;rw[al0q,al28q] at this;rw[al0q];lia
  ·rintro i v σ' ys H5 hv ⟨w0,ds,rfl,rfl,q5,hd5,pd⟩;have hix:=zaj hv;have hi':i<n:=by rw[al0q,al44q] at hix;exact hix
   rw[al4q,al105q hi'] at hv;cases hv;have ax:atI (nm.map V.str) (2+(i:Int))=some (.str (nm.getD (i+2) "")):=by
    rw[show (2:Int)+(i:Int)=((i+2:Nat):Int) by lia];exact za2 (by rw[al4q,gdn (i+2) (by lia)];rfl)
   have ay:atI (nm.map V.str) (2+(i:Int)-2)=some (.str (nm.getD i "")):=by
    rw[show (2:Int)+(i:Int)-2=((i:Nat):Int) by lia];exact za2 (by rw[al4q,gdn i (by lia)];rfl)
   have hD5:=SqL.of (K:=K) (q5 _ _ hD4)
   try dsimp only [zw,List.set]
   unfold tYes;dsimp only;rw[al12q rfl];refine⟨_,rfl,_,rfl,D,_,_,_,rfl,rfl,hD5,ax,_,rfl,_,rfl,_,_,rfl,rfl,D,_,_,_,rfl,rfl,hD5,ay,by show 3<=sizeLine;decide,fun b hb=>?_⟩;have w1:=Same.new (o:=.tup [.str "over",.str (nm.getD (i+2) ""),.str (nm.getD i "")]) hb;have hd6:=w1 _ _ hd5;have ft:(zay nm n)[i]? = some ⟨"over",nm.getD (i+2) "",nm.getD i "",none⟩:=by unfold zay;rw[al4q,al105q hi'];rfl
   refine⟨hd6,zcl hix ⟨_,ds++[b],rfl,by rw[al15q];rfl,(q5.trans w1).upd hC,zf,?_⟩⟩;rw[al9q,ft,al15q];exact Tups.snoc ((pd.same w1).stay (za1 hd6)) (za1 hd6 _ _ zf)
  rintro σ' ys H5 ⟨w0,cs,rfl,rfl,q5,hC5,pd⟩;have l2:(zay nm n).length=n:=by unfold zay;rw[al0q,al44q]
  rw[al0q,al44q,al52q (by lia)] at pd;have lcs:cs.length=n:=by have:=pd.len;rw[al0q,l2] at this;exact this
  refine⟨p,C,_,_,rfl,rfl,SqL.of (q5 _ _ hp4),SqL.of hC5,by rw[al0q,al0q];exact zar (by lia),fun p2 hp2=>?_⟩;rw[←al15q];have w2:=Same.new (o:=.lst ((as++cs).map V.ref)) hp2;have s6:=q5.trans w2;have ha6:=s6.seq ha4;have hD6:=s6 _ _ hD4;have hG6:=s6 _ _ hG4;have tt6:Tups (upd H5 p2 (.lst ((as++cs).map V.ref))) (as++cs) ((ts++zay nm n).map tieV):=by
   rw[show (ts++zay nm n).map tieV=ts.map tieV++(zay nm n).map tieV from al15q];exact papp (tt4.same s6) (pd.same w2)
  have hp6:=zf (H:=H5) (a:=p2) (o:=.lst ((as++cs).map V.ref));have tok6:∀t∈ts++zay nm n,TOk nm t:=fun t ht=>by
   rcases al25q.mp ht with h | h
   ·exact tok t h
   ·exact ztj nlm t h
  have gl:=TA.gl;have glm:(ts.map zaa).length=m:=by rw[al0q,lts]
  generalize upd H5 p2 (.lst ((as++cs).map V.ref))=H6 at ha6 hD6 hG6 tt6 hp6;clear ha4 hD4 hp4 tt4 hG4 pd hC5 q5 w2 s6 hn gdn
  try dsimp only [zw,List.set]
  refine⟨_,rfl,a,ns,_,rfl,ha6,by decide,_,_,rfl,rfl,⟨by decide,by decide,by decide⟩,_,_,rfl,rfl,by show (0:Int)<10 ^ (57:Int).toNat;decide,?_⟩;refine⟨_,rfl,(by show 2<=sizeLine;decide),fun p7 hp7=>?_⟩;have t7:=Same.new (o:=.lst [.int 1,.int (-1)]) hp7;refine⟨_,rfl,a,ns,_,rfl,t7.seq ha6,by decide,_,_,rfl,rfl,by show (0:Int)<2;decide,?_⟩;obtain⟨v,hv,hv'⟩:=zux (u:=.int 1) (v:=.int (-1)) (al92q (za0 ns 3) (show (2:Int)≠0 by decide)) (al74q (za0 ns 3) (show (0:Int)<2 by decide));obtain⟨j,rfl,hj⟩:∃j:Int,v = .int j/\(j=1\/j = -1):=by
   rcases hv' with rfl | rfl
   ·exact⟨_,rfl,.inl rfl⟩
   ·exact⟨_,rfl,.inr rfl⟩
  refine⟨p7,_,_,_,rfl,rfl,SqL.of zf,hv,?_⟩;refine⟨_,_,rfl,rfl,.inr (by rcases hj with rfl | rfl<;>exact⟨by decide,by decide⟩),?_⟩
  try dsimp only [zw,List.set]
  obtain⟨lo,elo⟩:∃lo,lo=za0 ns 2%10 ^ (57:Int).toNat * j:=⟨_,rfl⟩;rw[←elo];clear elo hv hv' hj;refine⟨_,rfl,a,ns,_,rfl,t7.seq ha6,by decide,_,_,rfl,rfl,⟨by decide,by decide⟩,_,_,rfl,rfl,by show (0:Int)<9;decide,_,_,rfl,rfl,_,rfl,(by show 3<=sizeLine;decide),fun p8 hp8=>?_⟩;have t8:=Same.new (o:=.lst [.int 0,.int (1+za0 ns 3 / 6%9),.int (-1)]) hp8;refine⟨_,rfl,a,ns,_,rfl,(t7.trans t8).seq ha6,by decide,_,_,rfl,rfl,⟨by decide,by decide⟩,_,_,rfl,rfl,by show (0:Int)<3;decide,?_⟩;obtain⟨mo,hmo,mo1⟩:∃mo:Int,atI [V.int 0,.int (1+za0 ns 3 / 6%9),.int (-1)] (za0 ns 3 / 2%3)=some (.int mo)/\(0<=mo\/mo = -1):=by
   have y0:=al92q (za0 ns 3 / 2) (show (3:Int)≠0 by decide);have y1:=al74q (za0 ns 3 / 2) (show (0:Int)<3 by decide);have y2:=al92q (za0 ns 3 / 6) (show (9:Int)≠0 by decide);obtain⟨z,ez⟩:∃z:Nat,za0 ns 3 / 2%3=(z:Int):=⟨(za0 ns 3 / 2%3).toNat,by lia⟩;rw[ez]
   match z,(show z<3 by lia) with
   | 0,_=>exact⟨_,rfl,.inl (by decide)⟩
   | 1,_=>exact⟨_,rfl,.inl (by lia)⟩
   | 2,_=>exact⟨_,rfl,.inr rfl⟩
  refine⟨p8,_,_,_,rfl,rfl,SqL.of zf,hmo,?_⟩;have s8:=t7.trans t8;have ha8:=s8.seq ha6;have hD8:=s8 _ _ hD6;have hG8:=s8 _ _ hG6;have tt8:=tt6.same s8;have hp8':=s8 _ _ hp6;generalize upd (upd H6 p7 (.lst [.int 1,.int (-1)])) p8 (.lst [.int 0,.int (1+za0 ns 3 / 6%9),.int (-1)])=H8 at ha8 hD8 hG8 tt8 hp8';clear ha6 hD6 hG6 tt6 hp6 s8 t7 t8 hmo
  try dsimp only [zw,List.set]
  obtain⟨gp,egp⟩:∃gp,gp=ts.map zaa:=⟨_,rfl⟩;rw[←egp] at TA hG8 gl glm;refine zv4 (fun σ' H'=>H'=H8/\∃mo:Int,σ' = [some (.ref a),some (.str ⟨#[c]⟩),some (.int (if gr=true then 1 else 0)),some (.int ((m+1:Nat):Int)),some (.ref D),some (.ref p2),some (.ref G),some (.int lo),some (.int mo),none,none,none,none]/\(0<=mo\/(mo = -1/\gp.sum≠0/\gr=false))) (fun D' hD'=>?_) ?_
  ·refine zcq (decide (V.int gp.sum=V.int 0)||decide (V.int (if gr=true then 1 else 0)=V.int 1)) (fun Q' hQ=>?_) ?_
   ·refine⟨_,rfl,G,gp,rfl,SqL.of hG8,rfl,_,rfl,?_⟩;refine ite2 (fun c1=>?_) (fun c1=>?_)
    ·rw[c1,Bool.true_or] at hQ;exact hQ
    ·refine⟨_,rfl,by cases gr<;>rfl,_,rfl,?_⟩;rw[show decide (V.int gp.sum=V.int 0)=false by simpa using c1,Bool.false_or] at hQ;exact hQ
   ·refine ite2 (fun c1=>?_) (fun c1=>?_)
    ·refine⟨_,rfl,_,_,rfl,hD' _ _ ⟨rfl,_,rfl,.inl ?_⟩⟩;split<;>lia
    ·rw[Bool.or_eq_true,not_or] at c1;refine hD' _ _ ⟨rfl,mo,rfl,mo1.imp id fun z=>⟨z,fun y=>c1.1 (al10q (al61q V.int y)),?_⟩⟩;cases gr with
     | false=>rfl
     | true=>exact absurd (al10q rfl) c1.2
  clear mo1 mo;rintro σ0 H0 ⟨rfl,mo,rfl,mo1⟩
  try dsimp only [zw,List.set]
  refine⟨_,rfl,_,rfl,_,rfl,G,gp,rfl,SqL.of hG8,_,_,rfl,rfl,_,rfl,_,_,rfl,rfl,by show 2<=sizeLine;decide,fun pm hpm=>?_⟩;obtain⟨hi,ehi⟩:∃hi,hi=lo+gp.sum+mo:=⟨_,rfl⟩;rw[←ehi];have t9:=Same.new (o:=.tup [.int lo,.int hi]) hpm;have hm9:=zf (H:=H0) (a:=pm) (o:=.tup [.int lo,.int hi]);have ha9:=t9.seq ha8;have hD9:=t9 _ _ hD8;have hG9:=t9 _ _ hG8;have tt9:=tt8.same t9;have hp9:=t9 _ _ hp8';generalize upd H0 pm (.tup [.int lo,.int hi])=H9 at hm9 ha9 hD9 hG9 tt9 hp9;clear ha8 hD8 hG8 tt8 hp8' t9 hpm;have las2:(as++cs).length=(ts++zay nm n).length:=by rw[al18q,al18q,las,lcs,l2]
  have le0:=al1q (show 0<nm.length by lia);have lel:=al1q (show m<nm.length by lia);have hng:n+1=gp.length\/n=0:=by cases gr with
   | false=>exact .inr (hn2 rfl)
   | true=>exact .inl (by rw[glm];exact hn1 rfl)
  have tel:∀{G':Hp}{tl pu pt' pf:ty1q}{us:List Str}{ads:List ty1q}{tz:List Tie},G' tl=some (.tup [.ref pm,.ref pu,.ref pt',.ref pf])->G' pm=some (.tup [.int lo,.int hi])->G' pu=some (.lst (us.map V.str))->G' pt'=some (.lst (ads.map V.ref))->Tups G' ads (tz.map tieV)->G' pf=some (.lst [])->us.Perm nm->tz.length<=900->(∀t∈tz,TOk nm t)->TelF K G' tl pm pu pt' pf lo hi us ads tz [] []:=fun h1 h2 h3 h4 h5 h6 pe lz ok=>by
   have lu:=pe.length_eq;exact⟨⟨SqT.of h1,SqL.of h3,SqL.of h4,h5,pe.symm.nodup nd,by lia,lz,fun t ht=>(ok t ht).mono fun x hx=>pe.mem_iff.mpr hx⟩,SqT.of h2,SqL.of h6,.nil,(fun f hf=>by cases hf),al65q _⟩
  have kper:∀{us:List Str}{tz:List Tie},us.Perm nm->(∀t∈tz,t.k≠SAME)->(zn tz (srt us)).Perm nm:=fun pe h=>by rw[zg4 h];exact (zca _).trans pe
  try dsimp only [zw,List.set]
  refine zcq (decide (V.int (za0 ns 4%4)=V.int 1)) (fun Q' hQ=>⟨_,rfl,a,ns,_,rfl,ha9,by decide,_,_,rfl,rfl,by show (0:Int)<4;decide,rfl,_,rfl,hQ⟩) ?_;refine ite2 (fun c1=>?_) (fun c1=>?_)
  ·obtain⟨y0,ey0⟩:∃x,nm[0]? = some x:=⟨_,le0⟩;obtain⟨yl,eyl⟩:∃x,nm[m]? = some x:=⟨_,lel⟩;have d0:nm.getD 0 "" = y0:=by rw[al11q,ey0];rfl
   have dl:nm.getD gp.length "" = yl:=by rw[glm,al11q,eyl];rfl
   have TK:=zry (n:=n) TA hng (bk:=true) (bt:=[(⟨"over",y0,yl,none⟩:Tie)]) (.inr ⟨rfl,by rw[d0,dl]⟩) gr (fun z=>by rw[glm];exact hn1 z) hn2;have a0:atI (nm.map V.str) 0=some (.str y0):=za2 (j:=0) (by rw[al4q,ey0];rfl);have al:atI (nm.map V.str) (-1)=some (.str yl):=by
    have e:nm=nm.take m++[yl]:=by
     conv=>lhs;rw[←al52q (l:=nm) (i:=m+1) (by lia),al9q,eyl]
     rfl
    rw[e,al15q];exact zej _ _
   refine⟨_,rfl,_,rfl,D,_,_,_,rfl,rfl,SqL.of hD9,a0,_,rfl,_,rfl,D,_,_,_,rfl,rfl,SqL.of hD9,al,by show 3<=sizeLine;decide,fun b hb=>⟨by show 1<=sizeLine;decide,fun l hl=>?_⟩⟩;have u1:=Same.new (o:=.tup [.str (Str.ofString "over"),.str y0,.str yl]) hb;have u2:=Same.new (o:=.lst [.ref b]) hl;refine⟨p2,l,_,_,rfl,rfl,SqL.of ((u1.trans u2) _ _ hp9),SqL.of zf,by rw[al0q,al18q];exact zar (by show as.length+cs.length+1<=1000;lia),fun p3 hp3=>?_⟩;rw[show (as++cs).map V.ref++[V.ref b]=(as++cs++[b]).map V.ref from by simp];have u3:=Same.new (o:=.lst ((as++cs++[b]).map V.ref)) hp3;have u13:=u1.trans (u2.trans u3);have hm10:=u13 _ _ hm9;have hD10:=u13 _ _ hD9;have tt10:Tups (upd (upd (upd H9 b (.tup [.str (Str.ofString "over"),.str y0,.str yl])) l (.lst [.ref b])) p3 (.lst ((as++cs++[b]).map V.ref))) (as++cs++[b]) ((ts++zay nm n++[(⟨"over",y0,yl,none⟩:Tie)]).map tieV):=by
    rw[al15q (l₁:=ts++zay nm n)];exact Tups.snoc (tt9.same u13) ((u2.trans u3) _ _ zf)
   have hp10:=zf (H:=upd (upd H9 b (.tup [.str (Str.ofString "over"),.str y0,.str yl])) l (.lst [.ref b])) (a:=p3) (o:=.lst ((as++cs++[b]).map V.ref));generalize upd (upd (upd H9 b (.tup [.str (Str.ofString "over"),.str y0,.str yl])) l (.lst [.ref b])) p3 (.lst ((as++cs++[b]).map V.ref))=H10 at hm10 hD10 tt10 hp10;clear u1 u2 u3 u13 hm9 ha9 hD9 hG9 tt9 hp9;have tok10:∀t∈ts++zay nm n++[(⟨"over",y0,yl,none⟩:Tie)],TOk nm t:=fun t ht=>by
    rcases al25q.mp ht with h | h
    ·exact tok6 t h
    ·have:t=⟨"over",y0,yl,none⟩:=by simpa using h
     subst this;have h1:=al6q ey0;have h2:=al6q eyl;exact⟨TieOk.plain (show Str.ofString "over"∈znc by decide +kernel) h1 h2,h1,h2⟩
   try dsimp only [zw,List.set]
   refine⟨_,rfl,_,rfl,D,nm,rfl,SqL.of hD10,by lia,fun pu us hpu perm pw=>⟨_,rfl,by decide,fun pf hpf=>⟨by show 4<=sizeLine;decide,fun tl htl=>?_⟩⟩⟩;have w1:=Same.new (o:=.lst (us.map V.str)) hpu;have w2:=Same.new (o:=.lst []) hpf;have w3:=Same.new (o:=.tup [.ref pm,.ref pu,.ref p3,.ref pf]) htl;have w13:=w1.trans (w2.trans w3);have hF:=tel (us:=us) (zf (a:=tl) (o:=.tup [.ref pm,.ref pu,.ref p3,.ref pf])) (w13 _ _ hm10) ((w2.trans w3) _ _ zf) (w13 _ _ hp10) (tt10.same w13) (w3 _ _ zf) perm (by rw[al18q,al18q,l2];show ts.length+n+1<=900;lia) tok10;have pk:=kper (tz:=ts++zay nm n++[(⟨"over",y0,yl,none⟩:Tie)]) perm TK.ns;have lad:=hF.tel.len;have R2:=TK.rw2 (ads:=as++cs++[b]) lad;have cl:=zbs (us:=us) (ts:=ts++zay nm n++[(⟨"over",y0,yl,none⟩:Tie)]) (ads:=as++cs++[b]) hF.tel.ends;have nn':¬NoR (zak (ts++zay nm n++[(⟨"over",y0,yl,none⟩:Tie)]) ((ts++zay nm n++[(⟨"over",y0,yl,none⟩:Tie)]).zip (as++cs++[b]))) (zn (ts++zay nm n++[(⟨"over",y0,yl,none⟩:Tie)]) (srt us)):=fun z=>by
    have el:nm[gp.length]? = some yl:=by rw[glm];exact eyl
    obtain⟨r,hr'⟩:=R2.back _ _ ey0 el;exact z yl (pk.mem_iff.mpr (al6q eyl)) (gp.length+1) (by lia) ((zg2 R2 el (i:=gp.length) (by rw[al178q];exact ey0) (al13q _)).step hr')
   refine⟨tl,pm,pu,p3,pf,lo,hi,us,as++cs++[b],ts++zay nm n++[(⟨"over",y0,yl,none⟩:Tie)],[],[],rfl,hF,fun r fo wd H12 s12 hr12 hw=>?_⟩;have s10:=w13.trans s12;refine⟨r,_,rfl,SqT.of hr12,rfl,_,_,rfl,_,_,rfl,rfl,?_⟩
   try dsimp only [zw,List.set]
   rcases hw with ⟨rfl,z,_⟩ | ⟨rfl,z,_⟩ | ⟨rfl,rs,hrs,hne,lrs,Rr⟩
   ·exact absurd z nn'
   ·exact absurd z nn'
   ·refine⟨_,rfl,rfl,_,rfl,?_⟩;rw[al10q rfl];have hp12:=s10 _ _ hp10;have lall:((as++cs++[b]).map V.ref).length=m+n+1:=by rw[al0q,al18q,al18q,las,lts,lcs];rfl
    refine iteT ⟨_,rfl,_,rfl,_,rfl,p3,_,rfl,.inl (SqL.of hp12),_,rfl,_,_,rfl,rfl,⟨by decide,by decide⟩,_,_,rfl,rfl,by show 2<=sizeLine;decide,fun l9 hl9=>?_⟩;have w9:=Same.new (o:=.lst [.int ((as++cs++[b]).map V.ref).length,.int (1+((m+1:Nat):Int) / 2)]) hl9;have hat:atI [V.int ((as++cs++[b]).map V.ref).length,.int (1+((m+1:Nat):Int) / 2)] (if gr=true then 1 else 0)=some (.int (rs.length:Int)):=by
     rw[lall];cases gr with
     | false=>
      have:=zte R2 pk cl Rr;have n0:=hn2 rfl;rw[this,glm,n0];rfl
     | true=>
      have:=ztf R2 pk cl Rr;rw[this,glm];show some (V.int (1+((m+1:Nat):Int) / 2))=some (V.int ((1+(m+1) / 2:Nat):Int))
      push_cast
      rfl
    exact⟨_,rfl,l9,_,_,_,rfl,rfl,SqL.of zf,hat,p3,fo,nm,as++cs++[b],ts++zay nm n++[(⟨"over",y0,yl,none⟩:Tie)],rs,rs.length,rfl,SqL.of (w9 _ _ hp12),tt10.same (s10.trans w9),tok10,nn,TK.ns,SqL.of (w9 _ _ hrs),rfl,by lia,Rr.rtie,fun H' _=>k H'⟩
  ·try unfold zgb
   try dsimp only [zw,List.set]
   have TK:=zry (n:=n) TA hng (bk:=false) (bt:=[]) (.inl ⟨rfl,rfl⟩) gr (fun z=>by rw[glm];exact hn1 z) hn2;rw[al62q] at TK;refine⟨_,rfl,_,rfl,D,nm,rfl,SqL.of hD9,by lia,fun pu us hpu perm pw=>⟨_,rfl,by decide,fun pf hpf=>⟨by show 4<=sizeLine;decide,fun tl htl=>?_⟩⟩⟩;have w1:=Same.new (o:=.lst (us.map V.str)) hpu;have w2:=Same.new (o:=.lst []) hpf;have w3:=Same.new (o:=.tup [.ref pm,.ref pu,.ref p2,.ref pf]) htl;have w13:=w1.trans (w2.trans w3);have hF:=tel (us:=us) (zf (a:=tl) (o:=.tup [.ref pm,.ref pu,.ref p2,.ref pf])) (w13 _ _ hm9) ((w2.trans w3) _ _ zf) (w13 _ _ hp9) (tt9.same w13) (w3 _ _ zf) perm (by rw[al18q,l2];lia) tok6;have hm10:=w13 _ _ hm9;have hD10:=w13 _ _ hD9;have hG10:=w13 _ _ hG9;have tt10:=tt9.same w13;have hp10:=w13 _ _ hp9;have e10:=zf (H:=upd (upd H9 pu (.lst (us.map V.str))) pf (.lst [])) (a:=tl) (o:=.tup [.ref pm,.ref pu,.ref p2,.ref pf]);generalize upd (upd (upd H9 pu (.lst (us.map V.str))) pf (.lst [])) tl (.tup [.ref pm,.ref pu,.ref p2,.ref pf])=H10 at hF hm10 hD10 hG10 tt10 hp10 e10;clear w1 w2 w3 w13 hm9 ha9 hD9 hG9 tt9 hp9;have pk:=kper (tz:=ts++zay nm n) perm TK.ns;have lad:=hF.tel.len;have R1:=TK.rw1 (ads:=as++cs) lad;have RG:=TK.rwg (ads:=as++cs) lad;have nr:NoR (zak (ts++zay nm n) ((ts++zay nm n).zip (as++cs))) (zn (ts++zay nm n) (srt us)):=zot R1;have mem:∀k∈zn (ts++zay nm n) (srt us),∃i:Nat,nm[i]? = some k:=fun k hk=>al29q.mp (pk.mem_iff.mp hk)
   have S0:sm gp gp.length=gp.sum:=ztk
   try dsimp only [zw,List.set]
   refine zcw false (fun Q' hQ=>⟨_,rfl,_,rfl,tl,pu,p2,D,_,_,us,as++cs,ts++zay nm n,nm,gp,gr,rfl,hF.tel,TK,perm,SqL.of hD10,by lia,fun G' sG=>⟨_,rfl,hQ G' sG⟩⟩) (fun H11 s11=>iteF ?_)
   try unfold zgb
   try dsimp only [zw,List.set]
   refine⟨_,rfl,tl,pm,pu,p2,pf,lo,hi,us,as++cs,ts++zay nm n,[],[],rfl,hF.same s11,fun r fo wd H12 s12 hr12 hw=>?_⟩;have s10:=s11.trans s12;refine⟨r,_,rfl,SqT.of hr12,rfl,_,_,rfl,_,_,rfl,rfl,?_⟩
   try dsimp only [zw,List.set]
   have bare:∀(f g:Str->Int),(∀k∈zn (ts++zay nm n) (srt us),LoIs (rwOf (ts++zay nm n) ((ts++zay nm n).zip (as++cs))) (FlF (ts++zay nm n) lo []) k (f k))->(∀k∈zn (ts++zay nm n) (srt us),HiIs (rwOf (ts++zay nm n) ((ts++zay nm n).zip (as++cs))) (CeF (ts++zay nm n) hi []) k (g k))->∀k∈zn (ts++zay nm n) (srt us),f k=lo+sm gp (rk nm k)/\g k=hi-(sm gp gp.length-sm gp (rk nm k)):=fun f g hf hg k hk=>by
    obtain⟨i,ei⟩:=mem k hk;have hil:=zaj ei;rw[zje nd ei];exact⟨(hf k hk).uniq (zvt RG ei),(hg k hk).uniq (zvv RG (gp.length-i) (by lia) ei)⟩
   refine zcq (decide (mo<0)) (fun Q' hQ=>⟨_,rfl,_,_,rfl,rfl,_,rfl,hQ⟩) ?_;refine ite2 (fun c2=>?_) (fun c2=>?_)
   ·have c2:mo<0:=al16q c2;obtain⟨e1,e2,e3⟩:mo = -1/\gp.sum≠0/\gr=false:=mo1.resolve_left fun z=>by lia
    subst e3;have n0:=hn2 rfl;subst n0;have c0:cs = []:=List.eq_nil_of_length_eq_zero lcs;subst c0;simp only [show zay nm 0 = [] from rfl,al62q] at *;have ex:∃t∈ts,zaa t≠0:=by
     refine al107q fun z=>e2 ?_
     rw[←S0];exact zjo fun i g hi e=>by
      rw[egp,al4q] at e;cases et:ts[i]? with
      | none=>rw[et] at e;cases e
      | some t=>
       rw[et] at e;cases e;exact al107q fun y=>z ⟨t,al6q et,y⟩
    rcases hw with ⟨rfl,_,_,f,g,_,hf,hg,no⟩ | ⟨rfl,_,cch,w,⟨l,hfo,hl⟩,ri⟩ | ⟨rfl,rs,_,hne,_,Rr⟩
    ·obtain⟨xl,exl⟩:∃xl,nm[m]? = some xl:=⟨_,lel⟩;have hk:xl∈zn ts (srt us):=pk.mem_iff.mpr (al6q exl);have:=zqc (fs:=[]) (af:=[]) hF.tel.ends hf hg no _ hk;obtain⟨b1,b2⟩:=bare f g hf hg _ hk;rw[zje nd exl,←glm] at b1 b2;lia
    ·refine⟨_,rfl,rfl,_,rfl,?_⟩;rw[al10q rfl];refine iteT ⟨_,rfl,_,rfl,p2,nm,as,ts,rfl,SqL.of (s10 _ _ hp10),tt10.same s10,tok,ex,fun q' x y H13 s13 hq' xy yl z1 z2 na nb=>⟨by show 3<=sizeLine;decide,fun tp htp=>?_⟩⟩;have gz:∀(i:Nat) t,ts[i]? = some t->gp[i]? = some (zaa t):=fun i t e=>by rw[egp,al4q,e];rfl
     have gz':∀(i:Nat) g,gp[i]? = some g->∃t,ts[i]? = some t/\zaa t=g:=fun i g e=>by
      rw[egp,al4q] at e;cases et:ts[i]? with
      | none=>rw[et] at e;cases e
      | some t=>rw[et] at e;exact⟨t,rfl,al41q e⟩
     obtain⟨ta,ea,na⟩:=na;obtain⟨tb,eb,nb⟩:=nb;have za:sm gp x=0:=zjo fun i g hi e=>by
      obtain⟨t,et,rfl⟩:=gz' i g e;exact z1 i t hi et
     have zb:sm gp y=sm gp gp.length:=zpf (gp.length-y) (by lia) fun i g hi e=>by
      obtain⟨t,et,rfl⟩:=gz' i g e;exact z2 i t hi et
     have g0a:=TA.g0 _ (al6q (gz _ _ ea));have g0b:=TA.g0 _ (al6q (gz _ _ eb));have pa:=zb0 (gz _ _ ea);have pb:=zb0 (gz _ _ eb);rw[show y-1+1=y by lia] at pb;obtain⟨w1,w2,w3⟩:=TA.row lad pk (by lia) xy (by lia) za zb (by lia) (by lia) ri;have el:cch.2.2.map (fun p=>V.ref p.2)=((as.drop x).take (y-x)).map V.ref:=by
      rw[w3,show (fun p:Tr=>V.ref p.2)=V.ref ∘ Prod.snd from rfl,←al73q,List.map_take,List.map_drop,List.map_snd_zip (by lia)]
     rw[el] at hl;have t5:=Same.new (o:=.tup [.str (Str.ofString ""),.ref q',.str (Str.ofString "")]) htp;have sA:=s13.trans t5;have sB:=s10.trans sA;have hfo':=sA _ _ hfo;rw[w1,w2] at hfo';refine⟨fo,tp,true,rfl,rfl,DEq.sameT (SqT.of hfo') (SqT.of zf) rfl (fun i v v' ev ev'=>?_),k _⟩
     match i,ev,ev' with
     | 0,ev,ev'=>cases ev;cases ev';exact zg1 rfl
     | 2,ev,ev'=>cases ev;cases ev';exact zg1 rfl
     | 1,ev,ev'=>
      cases ev;cases ev';refine DEq.sameL (n:=6) (SqL.of (sA _ _ hl)) (t5.seq hq') fun v hv=>?_
      obtain⟨b,hb,rfl⟩:=al32q.mp hv;have hb:=List.mem_of_mem_drop (al112q hb);obtain⟨i',hi'⟩:=al29q.mp hb;obtain⟨t,et⟩:∃t,ts[i']? = some t:=⟨_,al1q (show i'<ts.length by have:=zaj hi';lia)⟩;have hbt:=sB _ _ (zaf tt10 hi' (by rw[al4q,et];rfl));have fl:∀v∈tieV t,zb6 v=true:=fun v hv=>(((tok _ (al6q et)).ok.words nn).1 v hv).flat
      have:=DEq.flatT (K:=K) (n:=5) (SqT.of hbt) (SqT.of hbt) fl fl
      rwa [zek fl] at this
     | i+3,ev,ev'=>cases ev
    ·exact (zr0 nr hne Rr).elim
   ·have c2:¬mo<0:=fun z=>c2 (al10q z)
    have mo2:0<=mo:=by lia
    try unfold zgb
    try dsimp only [zw,List.set]
    rcases hw with ⟨rfl,_,_,f,g,⟨as',h1,h2⟩,hf,hg,no⟩ | ⟨rfl,_,cch,w,_,ri⟩ | ⟨rfl,rs,_,hne,_,Rr⟩
    ·refine⟨_,rfl,rfl,_,rfl,?_⟩;rw[al10q rfl];refine iteT ⟨_,rfl,_,rfl,_,rfl,_,rfl,D,pm,G,nm,gp,lo,hi,rfl,SqL.of (s10 _ _ hD10),SqT.of (s10 _ _ hm10),SqL.of (s10 _ _ hG10),nd,gl,by lia,fun q' bs hs H13 s13 hq' tb perm' pw'=>?_⟩;have eh:hs=zn (ts++zay nm n) (srt us):=by
      rw[zg4 TK.ns];exact zka (perm'.trans perm.symm) (pw'.imp fun h=>List.lt_asymm h)
     rw[eh] at tb;have tq:=ptup h2;rw[al68q (g:=fun k=>V.str k::dueV lo hi nm gp k) fun k hk=>by
      obtain⟨b1,b2⟩:=bare f g hf hg k hk;rw[b1,b2];rfl] at tq
     refine⟨fo,q',true,rfl,rfl,zlt (n:=6) (s13 _ _ h1) hq' (tq.same s13) tb (fun ws hw v hv=>?_),k _⟩;obtain⟨z,_,rfl⟩:=al32q.mp hw;unfold dueV at hv;simp at hv;rcases hv with rfl | rfl | rfl<;>rfl
    ·obtain⟨kk,mm,hk,u,gm,_,lt,_⟩:=ri;obtain⟨i,ei⟩:=mem kk hk;have hil:=zaj ei;have h1:=zrx RG u ei;have h2:=zg3 RG.g0 (show i<=gp.length by lia);have gm:CeF (ts++zay nm n) hi [] kk mm:=gm;rw[ce_bare] at gm;rw[gm] at lt;have lt:hi<cch.1:=lt;lia
    ·exact (zr0 nr hne Rr).elim
end
end LK49
open PySem PySem.W PyProof.Rows
set_option maxRecDepth 100000 in
set_option maxHeartbeats 0 in
theorem PySem.Challenge.cw_digmatrix_k49_whole_straight_rows_holds : PySem.Challenge.rw_digmatrix_k49_whole_straight_rows.Holds := by
 w_on;o_law;k_head;(case hw=>w_witness2)
 k_fill
 refine L2.law_walk (l:=PySem.Challenge.rw_digmatrix_k49_whole_straight_rows) (k:=LK49.kLaw) (x:="_law_script") (sp:=fun K=>LK49.sp_law (K:=K)) rfl rfl ⟨rfl,by decide,by decide⟩ (fun w h Y=>PySem.W.kIn_of Y) (fun K H a ns hl hS=>⟨a,ns,rfl,hS,hl,fun _=>rfl⟩) ?F
 case F=>
  intro w mg h KX G
  have T:∃zr,∃zv,∃zi,LK49.Tx (L2.KOf KX) mg w zr zv zi:=by
   dsimp only [L2.KOf]
   refine' LK49.Tx.ex ⟨?z0,?z1,?z2,?z3,?z4,?z5,?z6,?z7,?z8,?z9,?z10,?z11,?z12,?z13,?z14,?z15,?z16,?z17,?z18,?z19,?z20,?z21,?z22,?z23,?z24,?z25,?z26,?z27,?z28,?z29,?z30,?z31,?z32,?z33,?z34,?z35,?z36,?z37,?z38,?z39,?z40,?z41,?z42,?z43,?z44,?z45,?z46,?z47,?z48,?z49,?z50,?z51,?z52,?z53,?z54,?z55,?z56,?z57,?z58,?z59,?z60,?z61,?z62,?z63,?z64,?z65,?z66,?z67,?z68⟩
   case z0=>refine' L2.const_mk KX G ?_<;>try k_is
   case z1=>refine' ⟨?_,?_,?_⟩<;>try k_is
   case z2=>refine' L2.const_mk KX G ?_<;>try k_is
   case z3=>refine' ⟨?_,?_,?_⟩<;>try k_is
   case z4=>refine' L2.xcls_of ?x4 ?y4 ?u4 ?v4;(case x4=>k_is);(case y4=>rfl);(case u4=>k_is);(case v4=>k_is)
   case z5=>refine' L2.xok_at ?x5 ?y5;(case x5=>k_is);(case y5=>rfl)
   case z6=>refine' ⟨?_,?_,?_,?_⟩<;>try k_is
   case z7=>refine' L2.dfm_mk (fun _ _ _ _ _ _=>L2.len2 fun _ _=>rfl) ?_ ?_ ?_ ?_ ?_<;>try k_is
   case z8=>(unfold L2.NoAttr;k_is)
   case z9=>refine' L2.const_mk KX G ?_<;>try k_is
   case z10=>refine' ⟨?_,?_,?_⟩<;>try k_is
   case z11=>refine' L2.xcls_of ?x11 ?y11 ?u11 ?v11;(case x11=>k_is);(case y11=>rfl);(case u11=>k_is);(case v11=>k_is)
   case z12=>refine' L2.xok_at ?x12 ?y12;(case x12=>k_is);(case y12=>rfl)
   case z13=>refine' ⟨?_,?_,?_,?_⟩<;>try k_is
   case z14=>refine' L2.dfm_mk (fun _ _ _ _ _ _=>L2.len2 fun _ _=>rfl) ?_ ?_ ?_ ?_ ?_<;>try k_is
   case z15=>(unfold L2.NoAttr;k_is)
   case z16=>k_is
   case z17=>k_is
   case z18=>k_is
   case z19=>refine' L2.df_mk KX G (fun _ _ _ _ _ _=>L2.len2 fun _ _=>rfl) ?_ ?_ ?_ ?_<;>try k_is
   case z20=>refine' L2.df_mk KX G (fun _ _ _ _ _ _=>L2.len3 fun _ _ _=>rfl) ?_ ?_ ?_ ?_<;>try k_is
   case z21=>refine' L2.df_mk KX G (fun _ _ _ _ _ _=>L2.len2 fun _ _=>rfl) ?_ ?_ ?_ ?_<;>try k_is
   case z22=>refine' L2.df_mk KX G (fun _ _ _ _ _ _=>L2.len1 fun _=>rfl) ?_ ?_ ?_ ?_<;>try k_is
   case z23=>refine' L2.df_mk KX G (fun _ _ _ _ _ _=>L2.len1 fun _=>rfl) ?_ ?_ ?_ ?_<;>try k_is
   case z24=>refine' L2.df_mk KX G (fun _ _ _ _ _ _=>L2.len2 fun _ _=>rfl) ?_ ?_ ?_ ?_<;>try k_is
   case z25=>refine' L2.df_mk KX G (fun _ _ _ _ _ _=>L2.len1 fun _=>rfl) ?_ ?_ ?_ ?_<;>try k_is
   case z26=>refine' L2.df_mk KX G (fun _ _ _ _ _ _=>L2.len1 fun _=>rfl) ?_ ?_ ?_ ?_<;>try k_is
   case z27=>refine' L2.df_mk KX G (fun _ _ _ _ _ _=>L2.len2 fun _ _=>rfl) ?_ ?_ ?_ ?_<;>try k_is
   case z28=>refine' L2.df_mk KX G (fun _ _ _ _ _ _=>L2.len2 fun _ _=>rfl) ?_ ?_ ?_ ?_<;>try k_is
   case z29=>refine' L2.df_mk KX G (fun _ _ _ _ _ _=>L2.len1 fun _=>rfl) ?_ ?_ ?_ ?_<;>try k_is
   case z30=>refine' L2.df_mk KX G (fun _ _ _ _ _ _=>L2.len1 fun _=>rfl) ?_ ?_ ?_ ?_<;>try k_is
   case z31=>refine' L2.df_mk KX G (fun _ _ _ _ _ _=>L2.len1 fun _=>rfl) ?_ ?_ ?_ ?_<;>try k_is
   case z32=>refine' L2.df_mk KX G (fun _ _ _ _ _ _=>L2.len1 fun _=>rfl) ?_ ?_ ?_ ?_<;>try k_is
   case z33=>refine' L2.df_mk KX G (fun _ _ _ _ _ _=>L2.len1 fun _=>rfl) ?_ ?_ ?_ ?_<;>try k_is
   case z34=>refine' L2.df_mk KX G (fun _ _ _ _ _ _=>L2.len2 fun _ _=>rfl) ?_ ?_ ?_ ?_<;>try k_is
   case z35=>refine' L2.df_mk KX G (fun _ _ _ _ _ _=>L2.len2 fun _ _=>rfl) ?_ ?_ ?_ ?_<;>try k_is
   case z36=>refine' L2.df_mk KX G (fun _ _ _ _ _ _=>L2.len1 fun _=>rfl) ?_ ?_ ?_ ?_<;>try k_is
   case z37=>refine' L2.df_mk KX G (fun _ _ _ _ _ _=>L2.len1 fun _=>rfl) ?_ ?_ ?_ ?_<;>try k_is
   case z38=>refine' L2.df_mk KX G (fun _ _ _ _ _ _=>L2.len1 fun _=>rfl) ?_ ?_ ?_ ?_<;>try k_is
   case z39=>refine' L2.df_mk KX G (fun _ _ _ _ _ _=>L2.len1 fun _=>rfl) ?_ ?_ ?_ ?_<;>try k_is
   case z40=>refine' L2.df_mk KX G (fun _ _ _ _ _ _=>L2.len2 fun _ _=>rfl) ?_ ?_ ?_ ?_<;>try k_is
   case z41=>refine' L2.df_mk KX G (fun _ _ _ _ _ _=>L2.len1 fun _=>rfl) ?_ ?_ ?_ ?_<;>try k_is
   case z42=>refine' L2.df_mk KX G (fun _ _ _ _ _ _=>L2.len1 fun _=>rfl) ?_ ?_ ?_ ?_<;>try k_is
   case z43=>refine' L2.df_mk KX G (fun _ _ _ _ _ _=>L2.len1 fun _=>rfl) ?_ ?_ ?_ ?_<;>try k_is
   case z44=>refine' L2.df_mk KX G (fun _ _ _ _ _ _=>L2.len3 fun _ _ _=>rfl) ?_ ?_ ?_ ?_<;>try k_is
   case z45=>refine' L2.df_mk KX G (fun _ _ _ _ _ _=>L2.len3 fun _ _ _=>rfl) ?_ ?_ ?_ ?_<;>try k_is
   case z46=>refine' L2.df_mk KX G (fun _ _ _ _ _ _=>L2.len4 fun _ _ _ _=>rfl) ?_ ?_ ?_ ?_<;>try k_is
   case z47=>refine' L2.df_mk KX G (fun _ _ _ _ _ _=>L2.len1 fun _=>rfl) ?_ ?_ ?_ ?_<;>try k_is
   case z48=>refine' L2.df_mk KX G (fun _ _ _ _ _ _=>L2.len2 fun _ _=>rfl) ?_ ?_ ?_ ?_<;>try k_is
   case z49=>refine' L2.df_mk KX G (fun _ _ _ _ _ _=>L2.len2 fun _ _=>rfl) ?_ ?_ ?_ ?_<;>try k_is
   case z50=>refine' L2.df_mk KX G (fun _ _ _ _ _ _=>L2.len1 fun _=>rfl) ?_ ?_ ?_ ?_<;>try k_is
   case z51=>refine' L2.df_mk KX G (fun _ _ _ _ _ _=>L2.len1 fun _=>rfl) ?_ ?_ ?_ ?_<;>try k_is
   case z52=>refine' L2.df_mk KX G (fun _ _ _ _ _ _=>L2.len3 fun _ _ _=>rfl) ?_ ?_ ?_ ?_<;>try k_is
   case z53=>refine' L2.df_mk KX G (fun _ _ _ _ _ _=>L2.len1 fun _=>rfl) ?_ ?_ ?_ ?_<;>try k_is
   case z54=>refine' L2.df_mk KX G (fun _ _ _ _ _ _=>L2.len3 fun _ _ _=>rfl) ?_ ?_ ?_ ?_<;>try k_is
   case z55=>refine' L2.df_mk KX G (fun _ _ _ _ _ _=>L2.len2 fun _ _=>rfl) ?_ ?_ ?_ ?_<;>try k_is
   case z56=>refine' L2.df_mk KX G (fun _ _ _ _ _ _=>L2.len1 fun _=>rfl) ?_ ?_ ?_ ?_<;>try k_is
   case z57=>refine' L2.blt_mk KX G ?_;k_is
   case z58=>refine' L2.blt_mk KX G ?_;k_is
   case z59=>refine' L2.blt_mk KX G ?_;k_is
   case z60=>refine' L2.blt_mk KX G ?_;k_is
   case z61=>refine' L2.blt_mk KX G ?_;k_is
   case z62=>refine' L2.blt_mk KX G ?_;k_is
   case z63=>refine' L2.blt_mk KX G ?_;k_is
   case z64=>refine' L2.blt_mk KX G ?_;k_is
   case z65=>refine' L2.blt_mk KX G ?_;k_is
   case z66=>refine' L2.blt_mk KX G ?_;k_is
   case z67=>refine' L2.blt_mk KX G ?_;k_is
   case z68=>refine' L2.blt_mk KX G ?_;k_is
  obtain⟨_,_,_,T⟩:=T
  exact fun base _ _=>LK49.h_law T
#print axioms PySem.Challenge.cw_digmatrix_k49_whole_straight_rows_holds
