import PyProof.Rows.All
import Wide.All
import OpenK.AllK
import Wide.FinOn
import Lean
import PyProof.EqAt
import PyProof.EqKinds
import PyProof.TupleCall
import PyProof.ZipIter
import PyProof.DictWalks
import PyProof.StrOps2
import KE.IntTextLaws
import PyProof.StrBlockI
import PyProof.StrLawsIn
import PyProof.AutoSeq1
import PyProof.WalkInts
import PyProof.Rows.SetFrom
import PyProof.SetKind
import PyProof.CollectWalk
import PyProof.MinMaxWalk
import PyProof.TupleKey
import PyProof.FString5
import KE.KDictOf
import PyProof.AttrMissHeap
import KE.KSortTup
import PyProof.MeetsSeq3
import PyProof.DictUpdate
import PyProof.StrLawsChain
import PyProof.StrLawsTight
import PyProof.Rows.StrItems
import PyProof.ExcInit
import PyProof.ExcClass3
import PyProof.ExcBaseAll.ValueError
import PyProof.FString
import PyProof.Rows.FStr
import PyProof.RaisesMany
import PyProof.RulesAs
import PyProof.NsDelKeeps
import PyProof.ExcAttrAll.ValueError
import PyProof.Rows.SumAny
import PySem.Challenge.RW_digmatrix_k64_told_and_changed
abbrev aE:=PySem.W.Frag
abbrev ah:=PySem.Addr
abbrev au:=PySem.Shared
abbrev ai:=PySem.Value
abbrev aP:=PySem.Program
abbrev aA:=PySem.Value->PySem.Shared->Prop
abbrev aG:=List (PySem.Addr×PySem.Obj)
abbrev ay:=@List.length_map
abbrev aj:=@PySem.wpAny_bind
abbrev aU:=@List.getElem?_eq_getElem
abbrev bq:=@PySem.Heap.get?_push_of_some
abbrev aD:=@PySem.wpAny_pure
abbrev aZ:=@List.mem_of_getElem?
abbrev bU:=@List.getElem?_eq_some_iff
abbrev aX:=@List.getElem?_map
abbrev aq:=@if_neg
abbrev av:=@if_pos
abbrev aJ:=@List.mem_cons
abbrev aQ:=@List.take_add_one
abbrev aK:=@PySem.Heap.lt_size
abbrev bz:=@List.mem_cons_of_mem
abbrev aH:=@Nat.le_refl
abbrev aM:=@List.mem_map
abbrev aR:=@decide_eq_true
abbrev bH:=@PySem.Heap.get?_push_size
abbrev aV:=@List.map_append
abbrev bC:=@of_decide_eq_true
abbrev bg:=@decide_eq_false
abbrev cV:=@List.getD_eq_getElem?_getD
abbrev br:=@List.mem_append
abbrev bJ:=@Bool.false_ne_true
abbrev bK:=@List.length_append
abbrev cA:=@PySem.Heap.get?_update_other
abbrev bD:=@List.take_length
abbrev aC:=@Ne.symm
abbrev bE:=@PySem.PassesOwn.never
abbrev bI:=@List.length_take
abbrev bV:=@List.size_toArray
abbrev aW:=@Nat.ne_of_lt
abbrev cT:=@List.mem_append_left
abbrev c7:=@PySem.Heap.get?_update_self
abbrev cD:=@Option.some.inj
abbrev e7:=@Decidable.byContradiction
abbrev fM:=@Array.getElem?_eq_some_iff
abbrev cL:=@List.mem_filter
abbrev dG:=@Nat.lt_of_lt_of_le
abbrev e8:=@List.mem_append_right
abbrev e9:=@List.mem_iff_getElem?
abbrev cy:=@Nat.le_trans
abbrev gY:=@Array.getElem?_eq_getElem
abbrev fO:=@List.length_filter_le
abbrev dg:=@List.append_nil
abbrev gw:=@PyProof.Rows.boot_list
abbrev fP:=@beq_eq_false_iff_ne
abbrev fQ:=@List.map_congr_left
abbrev b7:=@PySem.wpAny_mono
abbrev jf:=@List.getElem?_zip_eq_some
abbrev dH:=@List.mem_range
abbrev fR:=@List.mem_cons_self
abbrev fh:=@List.length_cons
abbrev fS:=@List.nodup_append
abbrev dJ:=@List.map_cons
abbrev dO:=@PySem.wpAny_holding
abbrev gx:=@decide_eq_true_iff
abbrev dj:=@List.map_map
abbrev dS:=@Nat.lt_irrefl
abbrev c6:=@Nat.zero_le
abbrev iB:=@PySem.Around.under_plainId
abbrev fT:=@List.not_mem_nil
abbrev fU:=@PySem.F.plain_max_loop
abbrev kP:=@List.getElem?_append_right
abbrev gZ:=@Nat.lt_of_le_of_lt
abbrev g7:=@List.pairwise_cons
abbrev iC:=@List.length_pos_iff
abbrev kT:=@List.pairwise_iff_getElem
abbrev fV:=@List.nodup_cons
abbrev fW:=@PySem.wpAny_updateSeq
abbrev bX:=@congrArg
abbrev g8:=@PySem.wpAny_newObj_type
abbrev jg:=@List.mem_of_mem_take
abbrev jO:=@PySem.Obj.isFreed_of_fields
abbrev jh:=@Array.length_toList
abbrev g9:=@Bool.and_eq_true
abbrev fj:=@PySem.plainId_quiet
abbrev lW:=@List.getElem?_append_left
abbrev ji:=@List.mem_singleton
abbrev jj:=@PySem.Obj.data_mapFields
abbrev gy:=@List.lt_irrefl
abbrev ia:=@List.length_zip
abbrev ic:=@PySem.codeAny_builtin
abbrev gz:=@PySem.wpAny_tryCatch
abbrev iD:=@List.all_eq_true
abbrev jk:=@List.append_assoc
abbrev kU:=@PySem.Heap.get?_none_of_le
abbrev jP:=@Bool.false_eq_true
abbrev ie:=@PySem.wpAny_seqItems
abbrev kX:=@PySem.codeAny_call_builtin
abbrev iE:=@List.of_mem_zip
abbrev lX:=@PySem.wpAny_pyNext_list_item
abbrev jl:=@List.getElem_mem
abbrev jm:=@decide_eq_decide
abbrev jQ:=@PySem.wpAny_truthy_bool
abbrev iF:=@PySem.Heap.size_push
abbrev pI:=@PySem.F.slot_dict_keyiterator_next
abbrev kY:=@of_decide_eq_false
abbrev lY:=@List.mem_iff_getElem
abbrev jR:=@PySem.wpAny_call_entry
abbrev gI:=@List.any_eq_true
abbrev iG:=@List.length_range
abbrev ki:=@List.take_of_length_le
abbrev iH:=@PySem.wpAny_loadPart_at
abbrev dW:=@PySem.sizeLine_eq
abbrev dX:=@PySem.wpAny_letGo
abbrev jx:=@Int.emod_lt_of_pos
abbrev jy:=@List.filter_append
abbrev fk:=@PySem.codeAny_mono
abbrev oq:=@PySem.wpAny_typeNameOfWhole_keyiter
abbrev jz:=@Nat.lt_succ_of_lt
abbrev lZ:=@List.length_eq_zero_iff
abbrev kj:=@List.filterMap_cons
abbrev ko:=@List.filter_sublist
abbrev ou:=@PyProof.Rows.callWith_type1
abbrev l5:=@Array.getElem?_eq_none
abbrev oz:=@Array.getD_eq_getD_getElem?
abbrev fB:=@Nat.le_succ
abbrev gJ:=@List.any_cons
abbrev jA:=@Nat.lt_succ_self
abbrev jB:=@PySem.F.plain_min_loop
abbrev eE:=@PySem.wpAny_call
abbrev kq:=@PySem.wpAny_Call_Name_kw
abbrev iI:=@PySem.wpAny_setField
abbrev l6:=@PySem.wpAny_pyNext_list_end
abbrev l7:=@List.take_append_drop
abbrev oA:=@Classical.byContradiction
abbrev jC:=@PySem.wpAny_passesOwn
abbrev jD:=@Bool.eq_iff_iff
abbrev jE:=@Int.emod_nonneg
abbrev kr:=@PySem.wpAny_pyIter_list
abbrev l8:=@PySem.Calls.evalArgs_plain
abbrev iJ:=@PySem.wpAny_standAt
abbrev fC:=@beq_iff_eq
abbrev oB:=@List.length_erase_of_mem
abbrev l9:=@List.length_reverse
abbrev ku:=@Nat.le_of_not_lt
abbrev oE:=@PySem.wpAny_getItem_str_slice
abbrev oF:=@PySem.wpAny_callSpecial?_slot
abbrev kB:=@PySem.wpAny_isInstance
abbrev jF:=@PySem.isSubtype_type
abbrev kC:=@PySem.F.entry_max_loop
abbrev dQ:=@PySem.boot_len
abbrev gK:=@Int.le_refl
abbrev gM:=@PySem.wpAny_field
abbrev oG:=@List.getElem?_set_self
abbrev gc:=@PySem.wpAny_rule
abbrev oH:=@PySem.Calls.callWith_builtin
abbrev dY:=@if_false
abbrev kD:=@List.find?_cons
abbrev kF:=@List.forIn_cons
abbrev oJ:=@Array.getElem?_toList
abbrev mh:=@Nat.lt_trichotomy
abbrev oK:=@List.getElem?_set_ne
abbrev oM:=@PySem.F.slot_list_reversed
abbrev mj:=@PySem.wpAny_eqBool_str
abbrev jG:=@Nat.ne_of_gt
abbrev mq:=@Nat.not_lt_of_le
abbrev mw:=@List.cons_append
abbrev oN:=@Nat.add_le_add_left
abbrev oO:=@List.getElem?_range
abbrev oQ:=@Int.toNat_of_nonneg
abbrev oR:=@PySem.wpAny_isSubtype_exc
abbrev qz:=@PyProof.Rows.boot_sorted
abbrev mz:=@PySem.wpAny_execs_nil
abbrev mC:=@PySem.W.KasT.kasWp_bind
abbrev mD:=@List.nil_append
abbrev oS:=@PySem.tupleKind_room_in1
abbrev oU:=@PySem.wpAny_tupleItemsOf
abbrev jH:=@Sum.inr.inj
abbrev kG:=@Nat.le_of_lt
abbrev oV:=@PySem.wpAny_dictEntries
abbrev qA:=@List.length_pos_of_mem
abbrev qB:=@List.filter_eq_nil_iff
abbrev oW:=@List.ext_getElem?
abbrev qC:=@List.getElem?_eq_none
abbrev qD:=@PySem.builtinLookup_eq_fast
abbrev qE:=@List.eraseIdx_sublist
abbrev qF:=@PyProof.Rows.boot_min
abbrev oX:=@List.lookup_cons
abbrev oY:=@Option.getD_some
abbrev oZ:=@beq_self_eq_true
abbrev o5:=@Nat.succ_le_succ
abbrev mE:=@PySem.wpAny_attempt
abbrev mF:=@List.lt_trans
abbrev kH:=@PySem.wpAny_of_eq
abbrev gO:=@or_false
abbrev o6:=@PySem.post_val_or_str
abbrev o7:=@PySem.wpAny_dictEpoch
abbrev mG:=@PySem.wpAny_typeOf
set_option Elab.async false
set_option linter.all false
set_option maxRecDepth 100000
set_option maxHeartbeats 16000000
def PySem.W.Fast.tw12512055581626913687:Unit:=()
def PySem.W.Fast.tw6480669279641364383:Unit:=()
def PySem.W.Fast.tw10941120742406179933:Unit:=()
def PySem.W.Fast.tw5927866536098556978:Unit:=()
def PySem.W.Fast.tw2634799466880622166:Unit:=()
def PySem.W.Fast.tw14808468572840563652:Unit:=()
def PySem.W.Fast.tw17450447707444102116:Unit:=()
def PySem.W.Fast.tw7463897458755353494:Unit:=()
def PySem.W.Fast.tw4366703255135946828:Unit:=()
def PySem.W.Fast.tw9703268555512043860:Unit:=()
def PySem.W.Fast.tw12862764459480855779:Unit:=()
def PySem.W.Fast.tw5971048453808595454:Unit:=()
def PySem.W.Fast.tw15927867249664011179:Unit:=()
def PySem.W.Fast.tw1905076990054864858:Unit:=()
def PySem.W.Fast.tw7897052539998230730:Unit:=()
def PySem.W.Fast.tw10897272669499521253:Unit:=()
def PySem.W.Fast.tw2253985229071662866:Unit:=()
def PySem.W.Fast.tw3993893445393848782:Unit:=()
namespace L2
open PySem PySem.Spec PyProof.Rows
abbrev Key:=Sum Int Str
def yZ:Key->ai->Bool
  | .inl k,v=>Value.isInt k v
  | .inr x,v=>Value.isStrOf x v
def HD (w:World):Key->Int
  | .inl k=>hashInt k
  | .inr x=>hashStr w x
theorem vS:∀{k:Key}{v:ai},yZ k v=true->(∃i t,k=Sum.inl i/\v=Value.int i t)\/(∃x t,k=Sum.inr x/\v=Value.str x t)
  | .inl i,v,h=>by
    obtain⟨t,e⟩:=Value.isInt_shape (k:=i) (v:=v) h;exact .inl ⟨i,t,rfl,e⟩
  | .inr x,v,h=>by
    obtain⟨t,e⟩:=Value.isStrOf_shape (x:=x) (v:=v) h;exact .inr ⟨x,t,rfl,e⟩
theorem Si (i:Int) (t:Tok):yZ (.inl i) (.int i t)=true:=by simp[yZ,Value.isInt]
theorem Sj (x:Str) (t:Tok):yZ (.inr x) (.str x t)=true:=by simp[yZ,Value.isStrOf]
theorem Sk (a b:Int):decide ((Sum.inl a:Key)=Sum.inl b)=(a == b):=by
  by_cases e:a=b
  · subst e;simp
  · have h:¬(Sum.inl a:Key)=Sum.inl b:=fun q=>e (Sum.inl.inj q)
    rw[bg h];exact (fP.mpr e).symm
theorem Sl (a b:Str):decide ((Sum.inr a:Key)=Sum.inr b)=decide (a=b):=by
  by_cases e:a=b
  · subst e;simp
  · have h:¬(Sum.inr a:Key)=Sum.inr b:=fun q=>e (jH q)
    rw[bg h,bg e]
theorem Sm (a:Int) (b:Str):decide ((Sum.inl a:Key)=Sum.inr b)=false:=bg (fun q=>nomatch q)
theorem Sn (a:Str) (b:Int):decide ((Sum.inr a:Key)=Sum.inl b)=false:=bg (fun q=>nomatch q)
def qj (prog:aP) (w:World):PySem.KeyKind prog w Key where
  is:=yZ
  hash:=HD w
  inj:=fun v a b ha hb=>by
    rcases vS ha with ⟨i,t,rfl,rfl⟩ | ⟨x,t,rfl,rfl⟩
    · rcases vS hb with ⟨j,u,rfl,e⟩ | ⟨y,u,rfl,e⟩
      · injection e with e1 _;rw[e1]
      · exact nomatch e
    · rcases vS hb with ⟨j,u,rfl,e⟩ | ⟨y,u,rfl,e⟩
      · exact nomatch e
      · injection e with e1 _;rw[e1]
  byValue:=fun k v h=>by
    rcases vS h with ⟨i,t,rfl,rfl⟩ | ⟨x,t,rfl,rfl⟩<;>rfl
  pyHash:=fun hv h=>by
    rcases vS hv with ⟨i,t,rfl,rfl⟩ | ⟨x,t,rfl,rfl⟩
    · exact wpAny_pyHash_int h
    · exact wpAny_pyHash_str h
  eqBool:=fun hu hv h=>by
    rcases vS hu with ⟨i,t,rfl,rfl⟩ | ⟨x,t,rfl,rfl⟩
    · rcases vS hv with ⟨j,u,rfl,rfl⟩ | ⟨y,u,rfl,rfl⟩
      · rw[Sk] at h;exact wpAny_eqBool_int h
      · rw[Sm] at h;exact SeqAt.EqAt.int_str i t y u _ _ _ _ h
    · rcases vS hv with ⟨j,u,rfl,rfl⟩ | ⟨y,u,rfl,rfl⟩
      · rw[Sn] at h;exact SeqAt.EqAt.str_int x t j u _ _ _ _ h
      · rw[Sl] at h;exact mj h
  «strs»:=fun k x t v h=>by
    rcases vS h with ⟨i,u,rfl,e⟩ | ⟨y,u,rfl,e⟩
    · exact nomatch e
    · injection e with e1 _
      subst e1;cases v<;>rfl
theorem So (prog:aP) (w:World) (i:Int) (t:Tok):(qj prog w).is (.inl i) (.int i t)=true:=Si i t
theorem Sq (prog:aP) (w:World) (x:Str) (t:Tok):(qj prog w).is (.inr x) (.str x t)=true:=Sj x t
inductive V where
  | cQ | bl (b:Bool) | int (i:Int) | str (x:Str) | sJ (b:Array UInt8) | yk (b:UInt64) | ref (a:ah) | ty (n:String)
  deriving DecidableEq
def RelV:V->ai->Prop
  | .cQ,u=>u=Value.none
  | .bl b,u=>u=Value.bool b
  | .int i,u=>∃t,u=Value.int i t
  | .str x,u=>∃t,u=Value.str x t
  | .sJ b,u=>∃t,u=Value.bytes b t
  | .yk b,u=>∃t,u=Value.float b t
  | .ref a,u=>u=Value.ref a
  | .ty n,u=>u=Value.type n
abbrev Vals:List V->List ai->Prop:=Paired RelV
theorem Vals.length {xs:List V}{us:List ai}(r:Vals xs us):xs.length=us.length:=Paired.length r
theorem Vals.get:∀{xs:List V}{us:List ai}{i:Nat}{x:V},Vals xs us->xs[i]? = some x->∃u,us[i]? = some u/\RelV x u
  | _,_,_,_,.nil,e=>by simp at e
  | _,_,0,_,.cons r _,e=>by simp at e;subst e;exact⟨_,rfl,r⟩
  | _,_,i+1,x,.cons _ t,e=>by
    obtain⟨u,h1,h2⟩:=Vals.get (i:=i) (x:=x) t (by simpa using e);exact⟨u,by simpa using h1,h2⟩
theorem Vals.append:∀{xs ys:List V}{us ws:List ai},Vals xs us->Vals ys ws->Vals (xs++ys) (us++ws)
  | _,_,_,_,.nil,s=>s
  | _,_,_,_,.cons r t,s=>.cons r (Vals.append t s)
theorem Vals.take:∀{xs:List V}{us:List ai}(n:Nat),Vals xs us->Vals (xs.take n) (us.take n)
  | _,_,0,_=>.nil
  | _,_,_+1,.nil=>.nil
  | _,_,n+1,.cons r t=>.cons r (Vals.take n t)
theorem Vals.drop:∀{xs:List V}{us:List ai}(n:Nat),Vals xs us->Vals (xs.drop n) (us.drop n)
  | _,_,0,r=>r
  | _,_,_+1,.nil=>.nil
  | _,_,n+1,.cons _ t=>Vals.drop n t
def gg:Option V->Option ai->Prop
  | some v,some u=>RelV v u
  | none,none=>True
  | _,_=>False
def KV {κ:Type}:List (κ×V)->List (κ×ai)->Prop:=Paired fun (p:κ×V) (q:κ×ai)=>p.1=q.1/\RelV p.2 q.2
def kV:Key->V
  | .inl i=>.int i
  | .inr x=>.str x
inductive HO where
    | lst (xs:List V)
    | tup (xs:List V)
    | dK (kvs:List (Key×V)) | dT (kvs:List (List Key×V))
    | set (S:Int->Bool) (n:Nat)
    | ins (C dx:ah) (fs:List (Str×V))
    | own (x:ah)
    | xd (fs:List (Str×V))
    | met (f x:ah)
    | HE (lo hi:Int)
    | gp (o:Obj) (u:HO)
    | y9 (ps:Array ai)
    | ext (φ:Heap->Prop)
abbrev Hp:=ah->Option HO
def upd (H:Hp) (a:ah) (o:HO):Hp:=fun b=>if b=a then some o else H b
theorem zd {H:Hp}{a:ah}{o:HO}:upd H a o a=some o:=by unfold upd;rw[av rfl]
theorem zg {H:Hp}{a b:ah}{o:HO}(h:b≠a):upd H a o b=H b:=by unfold upd;rw[aq h]
theorem Ss {H:Hp}{a:ah}{o u:HO}:upd (upd H a o) a u=upd H a u:=by
  funext b;unfold upd;split<;>rfl
theorem lO {H:Hp}{a b:ah}{o u:HO}(h:H a=some o) (h':H b=some u) (d:o≠u):a≠b:=by
  intro e;subst e;rw[h] at h';exact d (cD h')
theorem zh {H:Hp}{a b:ah}{o:HO}(h:H a=some o) (h':H b=none):a≠b:=by
  intro e;subst e;rw[h] at h';cases h'
section
variable (P:aP) (w:World)
def bG (H:Hp) (h:Heap) (a:ah):HO->Prop
  | .lst xs=>xs.length<=sizeLine/\∃(its:List ai) (n:Nat),Vals xs its/\h.get? a=some { cls:=.type "list",data:=.seq its.toArray n }
  | .tup xs=>xs.length<=sizeLine/\∃its:List ai,Vals xs its/\IsTup h a its.toArray
  | .dK kvs=>kvs.length<=sizeLine/\(a == sysModules)=false/\∃vs,KV kvs vs/\h.DictOf (qj P w) a vs
  | .dT kvs=>kvs.length<=sizeLine/\(a == sysModules)=false/\∃xs:List (List Key×ah×ai),
      Paired (fun (p:List Key×V) (q:List Key×ah×ai)=>p.1=q.1/\H q.2.1=some (.tup (p.1.map kV))/\RelV p.2 q.2.2) kvs xs/\
      ∃o es ep,h.get? a=some o/\o.ExactDict/\o.data = .dict es ep/\es.toList=xs.map (entryOfKey (tupleKind (qj P w)))/\(xs.map (·.1)).Nodup
  | .set S n=>h.SetOf (intKind P w) a S n
  | .ins C dx fs=>H dx=some (.own a)/\fs.length<=1000/\dx≠a/\h.get? a=some (PySem.W.instObj C dx)/\
      ∃mA,h.Ns1 dx mA/\(∀f,gg (fs.lookup f) (mA f))/\PySem.Within mA (fs.map (·.1))
  | .own _=>∃o,h.get? a=some o
  | .xd fs=>∃mA,h.Ns1 a mA/\∀f,gg (fs.lookup f) (mA f)
  | .HE lo hi=>∃t u v,h.get? a=some { cls:=.type "range",data:=.fields #[.int lo t,.int hi u,.int 1 v] }
  | .gp o u=>h.get? a=some o/\bG H h a u
  | .y9 ps=>h.get? a=some { cls:=.none,data:=.fields ps }
  | .met f x=>h.get? a=some (PySem.W.methodObj (.ref f) (.ref x))
  | .ext φ=>φ h/\(∃o,h.get? a=some o)/\∀h1 h2:Heap,φ h1->(∀o,h1.get? a=some o->h2.get? a=some o)->φ h2
def jo (H:Hp) (h:Heap):Prop:=∀a o,H a=some o->bG P w H h a o
end
section
variable {P:aP}{w:World}{H H':Hp}{h h':Heap}{a:ah}{o:HO}
theorem bG.lt (x:bG P w H h a o):a<h.objs.size:=by
  cases o with
  | lst xs=>obtain⟨_,_,_,_,e⟩:=x;exact aK e
  | tup xs=>obtain⟨_,_,_,p⟩:=x;exact p.lt
  | dK kvs=>obtain⟨_,_,_,_,o,_,_,e,_⟩:=x;exact aK e
  | dT kvs=>obtain⟨_,_,_,_,o,_,_,e,_⟩:=x;exact aK e
  | set S n=>obtain⟨o,_,_,_,e,_⟩:=x;exact aK e
  | ins C dx fs=>obtain⟨_,_,_,e,_⟩:=x;exact aK e
  | own y=>obtain⟨_,e⟩:=x;exact aK e
  | xd fs=>obtain⟨_,⟨_,_,_,e,_⟩,_⟩:=x;exact aK e
  | HE lo hi=>obtain⟨_,_,_,e⟩:=x;exact aK e
  | gp ob u=>obtain⟨e,_⟩:=x;exact aK e
  | y9 ps=>exact aK (show h.get? a=some _ from x)
  | met f y=>exact aK (show h.get? a=some _ from x)
  | ext φ=>obtain⟨_,⟨_,e⟩,_⟩:=x;exact aK e
theorem Paired.gP {α β:Type}{F G:α->β->Prop}:∀{l₁:List α}{l₂:List β},Paired F l₁ l₂->(∀a b,F a b->G a b)->Paired G l₁ l₂
  | _,_,.nil,_=>.nil
  | _,_,.cons r t,f=>.cons (f _ _ r) (Paired.gP t f)
theorem bG.dR (x:bG P w H h a o) (k:∀b u,(b=a\/H b=some (.own a))->h.get? b=some u->h'.get? b=some u)
    (ho:∀b,H b=some (.own a)->H' b=some (.own a)) (ht:∀b xs,H b=some (.tup xs)->H' b=some (.tup xs)):bG P w H' h' a o:=by
  induction o with
  | lst xs=>obtain⟨z,its,n,r,e⟩:=x;exact⟨z,its,n,r,k _ _ (.inl rfl) e⟩
  | tup xs=>obtain⟨z,its,r,ob,e,c⟩:=x;exact⟨z,its,r,ob,k _ _ (.inl rfl) e,c⟩
  | dK kvs=>obtain⟨z,y,vs,r,ob,es,ep,e,c⟩:=x;exact⟨z,y,vs,r,ob,es,ep,k _ _ (.inl rfl) e,c⟩
  | dT kvs=>
    obtain⟨z,y,xs,r,ob,es,ep,e,c⟩:=x;exact⟨z,y,xs,Paired.gP r fun p q z=>⟨z.1,ht _ _ z.2.1,z.2.2⟩,ob,es,ep,k _ _ (.inl rfl) e,c⟩
  | set S n=>obtain⟨ob,es,ep,t,e,c⟩:=x;exact⟨ob,es,ep,t,k _ _ (.inl rfl) e,c⟩
  | ins C dx fs=>
    obtain⟨d,z,ne,e,mA,⟨od,es,ep,e2,c⟩,r⟩:=x;exact⟨ho _ d,z,ne,k _ _ (.inl rfl) e,mA,⟨od,es,ep,k _ _ (.inr d) e2,c⟩,r⟩
  | own y=>obtain⟨ob,e⟩:=x;exact⟨ob,k _ _ (.inl rfl) e⟩
  | xd fs=>obtain⟨mA,⟨od,es,ep,e,c⟩,r⟩:=x;exact⟨mA,⟨od,es,ep,k _ _ (.inl rfl) e,c⟩,r⟩
  | HE lo hi=>obtain⟨t,u,v,e⟩:=x;exact⟨t,u,v,k _ _ (.inl rfl) e⟩
  | gp ob u ih=>obtain⟨e,q⟩:=x;exact⟨k _ _ (.inl rfl) e,ih q⟩
  | y9 ps=>
    have e:h.get? a=some { cls:=.none,data:=.fields ps }:=x;show h'.get? a=some { cls:=.none,data:=.fields ps };exact k a _ (.inl rfl) e
  | met f y=>
    have e:h.get? a=some (PySem.W.methodObj (.ref f) (.ref y)):=x;show h'.get? a=some (PySem.W.methodObj (.ref f) (.ref y));exact k a _ (.inl rfl) e
  | ext φ=>obtain⟨p,⟨o,e⟩,st⟩:=x;exact⟨st _ _ p fun o q=>k _ _ (.inl rfl) q,⟨o,k _ _ (.inl rfl) e⟩,st⟩
theorem jo.lt (x:jo P w H h) (e:H a=some o):a<h.objs.size:=(x a o e).lt
theorem jo.fresh (x:jo P w H h) (e:h.objs.size<=a):H a=none:=by
  cases q:H a with
  | none=>rfl
  | some u=>exact absurd (dG (x.lt q) e) (dS _)
theorem jo.kept (x:jo P w H h) (k:∀b u,h.get? b=some u->h'.get? b=some u):jo P w H h':=fun a o e=>
  (x a o e).dR (fun b u _ q=>k b u q) (fun _ q=>q) fun _ _ q=>q
theorem jo.laid (x:jo P w H h) (k:∀b u,h.get? b=some u->h'.get? b=some u) (hp:h.objs.size<=a) (new:bG P w (upd H a o) h' a o):jo P w (upd H a o) h':=fun b u e=>by
  have hn:=x.fresh hp
  by_cases hb:b=a
  · subst hb;rw[zd] at e;cases e;exact new
  · rw[zg hb] at e;exact (x b u e).dR (fun c v _ q=>k c v q) (fun c q=>by rw[zg (zh q hn)];exact q) fun c xs q=>by rw[zg (zh q hn)];exact q
end
def Rd (H:Hp) (a:ah) (u:HO):Prop:=H a=some u\/∃o,H a=some (.gp o u)
theorem Rd.ok {P:aP}{w:World}{H:Hp}{h:Heap}{a:ah}{u:HO}(r:Rd H a u) (x:jo P w H h):bG P w H h a u:=by
  rcases r with r | ⟨o,r⟩
  · exact x a u r
  · obtain⟨_,q⟩:=x a _ r;exact q
def B8:Option HO->Prop
  | some (.lst _)=>True
  | some (.dK _)=>True
  | some (.dT _)=>True
  | some (.set _ _)=>True
  | some (.ins _ _ _)=>True
  | some (.ext _)=>True
  | _=>False
section
variable {P:aP}{w:World}{H:Hp}{h h':Heap}{x e:ah}{o':HO}
theorem jo.write (ok:jo P w H h) (mu:B8 (H x)) (he:e=x\/H e=some (.own x)) (k:∀b u,b≠e->h.get? b=some u->h'.get? b=some u) (Ba:∃u,h'.get? e=some u)
    (new:bG P w (upd H x o') h' x o'):jo P w (upd H x o') h':=fun b u q=>by
  have B9:∀c y,H c=some (.own y)->c≠x:=fun c y r z=>by subst z;rw[r] at mu;exact mu
  have wU:∀c xs,H c=some (.tup xs)->c≠x:=fun c xs r z=>by subst z;rw[r] at mu;exact mu
  by_cases hb:b=x
  · subst hb;rw[zd] at q;cases q;exact new
  · rw[zg hb] at q
    by_cases zA:b=e
    · have q':H b=some (.own x):=by
        rcases he with z | z
        · exact absurd (zA.trans z) hb
        · rw[zA];exact z
      rw[q] at q';cases q';obtain⟨v,hv⟩:=Ba;exact⟨v,by rw[zA];exact hv⟩
    · refine (ok b u q).dR (fun c v hc r=>k c v ?_ r) (fun c r=>by rw[zg (B9 c b r)];exact r) fun c xs r=>by rw[zg (wU c xs r)];exact r
      rcases hc with rfl | hc
      · exact zA
      · rintro rfl;rcases he with z | z
        · exact B9 c b hc z
        · rw[hc] at z;cases z;exact hb rfl
end
structure Un (fs ex:List ah) (H H':Hp) (h h':Heap):Prop where
  keep:∀b o,h.get? b=some o->H b=none->b ∉ fs->b ∉ ex->h'.get? b=some o
  slot:∀b o,h.get? b=some o->H b=none->b∈fs->b ∉ ex->∃sl,h'.get? b=some { o with slots:=sl }
  free:∀b o,h.get? b=some o->H b=none->b ∉ ex->H' b=none
  there:∀b o,h.get? b=some o->b ∉ ex->∃o',h'.get? b=some o'
  eF:∀b xs,H b=some (.tup xs)->H' b=some (.tup xs)
  kI:∀b o u,H b=some (.gp o u)->H' b=some (.gp o u)
  lC:∀b ps,H b=some (.y9 ps)->∃more,H' b=some (.y9 (ps++more))
section
variable {fs gG ex HF:List ah}{H H1 H2:Hp}{h h1 h2 h':Heap}{a x e:ah}{o:HO}
theorem Un.any (u:Un fs ex H H1 h h1) {b:ah}{ob:Obj}(q:h.get? b=some ob) (n:H b=none) (hx:b ∉ ex):∃sl,h1.get? b=some { ob with slots:=sl }:=by
  by_cases hb:b∈fs
  · exact u.slot b ob q n hb hx
  · exact⟨ob.slots,u.keep b ob q n hb hx⟩
theorem Un.kept (k:∀b u,h.get? b=some u->h'.get? b=some u):Un fs ex H H h h':=
  ⟨fun b ob q _ _ _=>k b ob q,fun b ob q _ _ _=>⟨ob.slots,k b ob q⟩,fun _ _ _ n _=>n,fun b ob q _=>⟨ob,k b ob q⟩,fun _ _ q=>q,fun _ _ _ q=>q,fun _ ps q=>⟨#[],by rw[q];simp⟩⟩
theorem Un.refl:Un fs ex H H h h:=Un.kept fun _ _ q=>q
theorem Un.laid (k:∀b u,h.get? b=some u->h'.get? b=some u) (hp:h.objs.size<=a) (hn:H a=none):Un fs ex H (upd H a o) h h' where
  keep:=fun b u q _ _ _=>k b u q
  slot:=fun b u q _ _ _=>⟨u.slots,k b u q⟩
  free:=fun b u q n _=>by rw[zg (aW (dG (aK q) hp))];exact n
  there:=fun b u q _=>⟨u,k b u q⟩
  eF:=fun b xs q=>by rw[zg (zh q hn)];exact q
  kI:=fun b u xs q=>by rw[zg (zh q hn)];exact q
  lC:=fun b ps q=>⟨#[],by rw[zg (zh q hn),q];simp⟩
theorem Un.write (mu:B8 (H x)) (he:e=x\/H e=some (.own x)) (k:∀b u,b≠e->h.get? b=some u->h'.get? b=some u) (Ba:∃u,h'.get? e=some u):Un fs ex H (upd H x o) h h':=by
  have hx:∀b,H b=none->b≠x:=fun b n z=>by subst z;rw[n] at mu;exact mu
  have hb:∀b,H b=none->b≠e:=fun b n z=>by
    subst z;rcases he with r | r
    · exact hx b n r
    · rw[n] at r;cases r
  have hm:∀b u,H b=some u->¬B8 (some u)->b≠x:=fun b u q nm z=>by subst z;rw[q] at mu;exact nm mu
  refine⟨fun b u q n _ _=>k b u (hb b n) q,fun b u q n _ _=>⟨u.slots,k b u (hb b n) q⟩,fun b u q n _=>by rw[zg (hx b n)];exact n,fun b u q _=>?_,
    fun b xs q=>by rw[zg (hm b _ q fun z=>z)];exact q,fun b u xs q=>by rw[zg (hm b _ q fun z=>z)];exact q,fun b ps q=>⟨#[],by rw[zg (hm b _ q fun z=>z),q];simp⟩⟩
  by_cases zA:b=e
  · subst zA;exact Ba
  · exact⟨u,k b u zA q⟩
end
def Fe (h:Heap) (H:Hp):List ah:=(List.range h.objs.size).filter fun a=>(H a).isSome
def o8 (h:Heap) (H:Hp):Heap:=PySem.W.hideAll h (Fe h H)
theorem Su (h:Heap) (H:Hp):(o8 h H).objs.size=h.objs.size:=PySem.W.hideAll_size _ _
theorem Sv {h:Heap}{H:Hp}{b:ah}{o:Obj}(e:h.get? b=some o) (n:H b=none):(o8 h H).get? b=some o:=
  PySem.W.hideAll_get _ e fun hm=>by
    have q:(H b).isSome=true:=(cL.mp hm).2;rw[n] at q;simp at q
theorem Sw {h:Heap}{H:Hp}{b:ah}{o:Obj}(e:(o8 h H).get? b=some o):h.get? b=some o/\H b=none:=by
  have e':h.get? b=some o:=PySem.W.of_hideAll (Fe h H) e;refine⟨e',?_⟩;cases q:H b with
  | none=>rfl
  | some x=>
    have hm:b∈Fe h H:=cL.mpr ⟨dH.mpr (aK e'),by simp[q]⟩;have z:(o8 h H).get? b=none:=PySem.W.hideAll_none (Fe h H) hm;rw[z] at e;cases e
def Sx (g h:Heap) (L:ah):aG:=(List.range h.objs.size).filterMap fun a=>if a=L\/(g.get? a).isSome=true then none else (h.get? a).map fun o=>(a,o)
def rest (g h:Heap) (L d:ah):aG:=(Sx g h L).filter fun p=>decide (p.1≠d)
structure Mod (K:aE) (mg:Str->Option ai) (base:Heap):Prop where
  Bb:K.In base
  glob:base.Ns mainGlobals mg
  blt:∃mb,base.Ns builtinsNs mb/\∀x:Str,x≠"__name__"->mb x=bootBuiltins x
  nolimit:base.NoLimit
structure Cx where
  prog:aP
  w:World
  K:aE
  mg:Str->Option ai
  base:Heap
  A:Around
  N:List Str
  cW:au
  pJ:Hp
  env:Env
  outer:List Env
  stack:List Env
  ex:List ah
  fn:Str->Bool
  calm:Bool
  pn:aG
  xe:aA
def i0 (l:List Env):List ah:=l.filterMap (·.frame)
abbrev Cx.fs (X:Cx):List ah:=i0 X.outer
def HG (sc:Scope) (x:Str):Prop:=sc.names.lookup x=some .local\/sc.names.lookup x=some .cell\/sc.names.lookup x=some .free
def Loc (sc:Scope) (x:Str):Prop:=sc.names.lookup x=some .local\/sc.names.lookup x=some .cell
def Look (env:Env) (h:Heap) (m:Str->Option ai) (x:Str) (u:ai):Prop:=
  (env.kindOf x=some .local/\m x=some u)\/((env.kindOf x=some .cell\/env.kindOf x=some .free)/\∃c,env.cells.lookup x=some c/\h.IsCell c (some u))
structure Cx.Ok (X:Cx):Prop where
  mod:Mod X.K X.mg X.base
  kind:X.env.scope.kind = .function
  glob:X.env.globals=mainGlobals
  blt:X.env.builtins=builtinsNs
  above:X.cW.heap.objs.size<=X.env.locals
  inj:∀x y c,X.env.cells.lookup x=some c->X.env.cells.lookup y=some c->x=y
  has:∀x,(X.env.kindOf x=some .cell\/X.env.kindOf x=some .free)->∃c,X.env.cells.lookup x=some c
  zB:∀x c,X.fn x=true->X.env.cells.lookup x=some c->X.cW.heap.objs.size<=c
  hd:X.calm=true->X.A.handled=none
  frames:X.A.frames=some X.stack
  Bc:X.stack=X.outer\/(X.stack=X.env::X.outer/\X.env.frame=some X.env.locals)
  Ff:∀b∈X.ex,b≠X.env.locals/\∀x c,X.env.cells.lookup x=some c->c≠b
  bs:∀b o,X.base.get? b=some o->X.cW.heap.get? b=some o/\X.pJ b=none
  uH:X.base.objs.size<=X.cW.heap.objs.size
  qG:∀b o,X.base.get? b=some o->b ∉ X.ex
  sL:∀b∈X.ex,b ∉ X.fs
  jS:X.cW.heap.FunFrames X.base X.outer
  wV:∀b∈X.fs,X.pJ b=none
structure Inv (X:Cx) (pins:aG) (σ:List (Option V)) (H:Hp) (s:au):Prop where
  ok:X.Ok
  os:s.os=X.cW.os
  bare:AllBare s.gens
  base:Un X.fs X.ex X.pJ H X.cW.heap s.heap
  loc:∃m,s.heap.Ns X.env.locals m/\∀(i:Nat) (x:Str) (v:V),X.N[i]? = some x->σ[i]? = some (some v)->HG X.env.scope x->∃u,RelV v u/\Look X.env s.heap m x u
  cell:∀x c,X.env.cells.lookup x=some c->∃v,s.heap.IsCell c v
  free:H X.env.locals=none
  eS:∀x c,X.env.cells.lookup x=some c->H c=none
  pin:∀p∈X.pn++pins,s.heap.get? p.1=some p.2/\H p.1=none/\p.1≠X.env.locals/\p.1 ∉ X.fs/\∀v,p.2.data≠.cell v
  bu:jo X.prog X.w H s.heap
  len:σ.length=X.N.length
section
variable {X:Cx}{pins:aG}{σ:List (Option V)}{H H':Hp}{s:au}{h':Heap}
theorem Cx.Ok.HH (ok:X.Ok) {b:ah}{o:Obj}(e:X.base.get? b=some o):b ∉ X.fs:=fun hb=>by
  have:=(ok.jS.mem hb).1;rw[e] at this;cases this
theorem Inv.bs (I:Inv X pins σ H s):∀b o,X.base.get? b=some o->s.heap.get? b=some o/\H b=none:=fun b o e=>
  ⟨I.base.keep b o (I.ok.bs b o e).1 (I.ok.bs b o e).2 (I.ok.HH e) (I.ok.qG b o e),I.base.free b o (I.ok.bs b o e).1 (I.ok.bs b o e).2 (I.ok.qG b o e)⟩
theorem Inv.bk (I:Inv X pins σ H s):∀b o,X.base.get? b=some o->s.heap.get? b=some o:=fun b o e=>(I.bs b o e).1
theorem Inv.mod (I:Inv X pins σ H s):Mod X.K X.mg X.base:=I.ok.mod
theorem Inv.fX (I:Inv X pins σ H s):X.K.In s.heap:=I.ok.mod.Bb.keeps I.bk
theorem Inv.lt (I:Inv X pins σ H s):X.env.locals<s.heap.objs.size:=let ⟨_,hn,_⟩:=I.loc;hn.lt
theorem Inv.sz (I:Inv X pins σ H s):X.cW.heap.objs.size<=s.heap.objs.size:=cy I.ok.above (kG I.lt)
theorem Inv.HJ (I:Inv X pins σ H s) {a:ah}(h:s.heap.objs.size<=a):a ∉ X.fs:=fun hb=>by
  obtain⟨_,o,ho,_⟩:=I.ok.jS.mem hb;exact absurd (dG (aK ho) (cy I.sz h)) (dS _)
theorem Inv.uI (I:Inv X pins σ H s):∀x c,X.env.cells.lookup x=some c->c≠X.env.locals:=fun x c e z=>by
  obtain⟨v,o,ho,hd⟩:=I.cell x c e;obtain⟨m,⟨o',es,ep,zC,vU,_⟩,_⟩:=I.loc;rw[z,zC] at ho;cases ho;rw[vU] at hd;cases hd
theorem Inv.jS (I:Inv X pins σ H s):s.heap.FunFrames X.base X.outer:=by
  have all:∀(l:List Env),(∀b∈i0 l,b∈X.fs)->X.cW.heap.FunFrames X.base l->s.heap.FunFrames X.base l:=by
    intro l
    induction l with
    | nil=>intro _ _;trivial
    | cons env r ih=>
      intro hs hl;obtain⟨hk,⟨L,o,hf,hn,ho,hd⟩,hr⟩:=hl;have hL:L∈X.fs:=hs L (by unfold i0;rw[kj,hf];exact fR);obtain⟨sl,e⟩:=I.base.slot L o ho (I.ok.wV L hL) hL fun z=>I.ok.sL L z hL
      exact⟨hk,⟨L,_,hf,hn,e,hd⟩,ih (fun b hb=>hs b (by unfold i0;rw[kj,hf];exact bz _ hb)) hr⟩
  exact all X.outer (fun _ hb=>hb) I.ok.jS
theorem Inv.stack (I:Inv X pins σ H s):s.heap.FunFrames X.base X.stack:=by
  rcases I.ok.Bc with e | ⟨e,hf⟩
  · rw[e];exact I.jS
  · rw[e];obtain⟨m,hn,_⟩:=I.loc;refine .cons (by rw[I.ok.kind];decide) hf hn ?_ I.jS;exact kU (cy I.ok.uH I.ok.above)
theorem Inv.o9 (I:Inv X pins σ H s):∀b∈i0 X.stack,b∈X.env.locals::X.fs:=fun b hb=>by
  rcases I.ok.Bc with e | ⟨e,hf⟩
  · rw[e] at hb;exact bz _ hb
  · rw[e] at hb;unfold i0 at hb;rw[kj,hf] at hb;exact hb
theorem Inv.lP (I:Inv X pins σ H s):∀b∈i0 X.stack,H b=none:=fun b hb=>by
  rcases aJ.mp (I.o9 b hb) with e | hb
  · rw[e];exact I.free
  · obtain⟨_,o,ho,_⟩:=I.ok.jS.mem hb;exact I.base.free b o ho (I.ok.wV b hb) fun z=>I.ok.sL b z hb
theorem Inv.step {g':Array GenState}{t':Nat}{d':Drawn}{ch:List ah}(I:Inv X pins σ H s)
    (vV:∀b∈ch,(b∈X.ex\/X.cW.heap.objs.size<=b)/\b≠X.env.locals/\(∀x c,X.env.cells.lookup x=some c->c≠b)/\∀p∈X.pn++pins,p.1≠b)
    (keep:∀b o,b≠X.env.locals->b ∉ X.fs->b ∉ ch->s.heap.get? b=some o->H b=none->h'.get? b=some o)
    (slot:∀b o,b≠X.env.locals->b∈X.fs->b ∉ ch->s.heap.get? b=some o->H b=none->∃sl,h'.get? b=some { o with slots:=sl }) (free:∀b o,b ∉ ch->s.heap.get? b=some o->H b=none->H' b=none)
    (there:∀b o,b ∉ ch->s.heap.get? b=some o->∃o',h'.get? b=some o')
    (eF:∀b xs,H b=some (.tup xs)->H' b=some (.tup xs)) (kI:∀b o u,H b=some (.gp o u)->H' b=some (.gp o u)) (lC:∀b ps,H b=some (.y9 ps)->∃more,H' b=some (.y9 (ps++more)))
    (ns:∀m,s.heap.Ns X.env.locals m->h'.Ns X.env.locals m) (bu:jo X.prog X.w H' h') (hg:AllBare g') :
    Inv X pins σ H' { s with heap:=h',gens:=g',drawn:=d',toks:=t' }:=by
  have Mc:∀b o,X.cW.heap.get? b=some o->b≠X.env.locals:=fun b o e=>aW (dG (aK e) I.ok.above)
  have Fg:∀b o,X.cW.heap.get? b=some o->b ∉ X.ex->b ∉ ch:=fun b o e hx hb=>by
    rcases (vV b hb).1 with z | z
    · exact hx z
    · exact absurd (dG (aK e) z) (dS _)
  have cellK:∀x c,X.env.cells.lookup x=some c->∀v,s.heap.IsCell c v->h'.IsCell c v:=fun x c e v ⟨o,ho,hd⟩=>by
    have Ca:c ∉ ch:=fun z=>(vV c z).2.2.1 x c e rfl
    by_cases hc:c∈X.fs
    · obtain⟨sl,q⟩:=slot c o (I.uI x c e) hc Ca ho (I.eS x c e);exact⟨_,q,hd⟩
    · exact⟨o,keep c o (I.uI x c e) hc Ca ho (I.eS x c e),hd⟩
  refine⟨I.ok,I.os,hg,⟨fun b o e n hb hx=>?_,fun b o e n hb hx=>?_,fun b o e n hx=>?_,fun b o e hx=>?_,fun b xs e=>eF b xs (I.base.eF b xs e),fun b o xs e=>kI b o xs (I.base.kI b o xs e),fun b ps e=>?_⟩,?_,fun x c e=>?_,?_,fun x c e=>?_,fun p hp=>?_,bu,I.len⟩
  · exact keep b o (Mc b o e) hb (Fg b o e hx) (I.base.keep b o e n hb hx) (I.base.free b o e n hx)
  · obtain⟨sl,e1⟩:=I.base.slot b o e n hb hx;obtain⟨HK,e2⟩:=slot b _ (Mc b o e) hb (Fg b o e hx) e1 (I.base.free b o e n hx);exact⟨HK,e2⟩
  · obtain⟨o',e1⟩:=I.base.there b o e hx;exact free b o' (Fg b o e hx) e1 (I.base.free b o e n hx)
  · obtain⟨o',e1⟩:=I.base.there b o e hx;exact there b o' (Fg b o e hx) e1
  · obtain⟨m1,e1⟩:=I.base.lC b ps e;obtain⟨m2,e2⟩:=lC b _ e1;exact⟨m1++m2,by rw[e2,Array.append_assoc]⟩
  · obtain⟨m,hn,hl⟩:=I.loc;refine⟨m,ns m hn,fun i x v e1 e2 e3=>?_⟩;obtain⟨u,r,l⟩:=hl i x v e1 e2 e3;refine⟨u,r,?_⟩;rcases l with l | ⟨k,c,e,z⟩
    · exact .inl l
    · exact .inr ⟨k,c,e,cellK x c e _ z⟩
  · obtain⟨v,z⟩:=I.cell x c e;exact⟨v,cellK x c e v z⟩
  · obtain⟨m,⟨o,_,_,ho,_⟩,_⟩:=I.loc;exact free _ o (fun z=>(vV _ z).2.1 rfl) ho I.free
  · obtain⟨v,o,ho,hd⟩:=I.cell x c e;exact free c o (fun z=>(vV c z).2.2.1 x c e rfl) ho (I.eS x c e)
  · obtain⟨e,n,ne,nf,d⟩:=I.pin p hp;have Ca:p.1 ∉ ch:=fun z=>(vV p.1 z).2.2.2 p hp rfl
    exact⟨keep p.1 p.2 ne nf Ca e n,free p.1 p.2 Ca e n,ne,nf,d⟩
theorem Inv.un {t':Nat}(I:Inv X pins σ H s) (u:Un X.fs [] H H' s.heap h') (bu:jo X.prog X.w H' h'):Inv X pins σ H' { s with heap:=h',toks:=t' }:=by
  obtain⟨m,⟨o,es,ep,ho,r⟩,_⟩:=id I.loc;obtain⟨sl,hL⟩:=u.any ho I.free (by simp);exact I.step (g':=s.gens) (d':=s.drawn) (ch:=[]) (fun _ z=>nomatch z) (fun b o _ hb _ e n=>u.keep b o e n hb (by simp)) (fun b o _ hb _ e n=>u.slot b o e n hb (by simp)) (fun b o _ e n=>u.free b o e n (by simp)) (fun b o _ e=>u.there b o e (by simp)) u.eF u.kI u.lC (fun m' hm=>by
    obtain⟨o',yl,wW,zC,r'⟩:=hm;rw[ho] at zC;cases zC;exact⟨_,yl,wW,hL,r'⟩) bu I.bare
theorem Inv.call {g':Array GenState}{t':Nat}{d':Drawn}{ch:List ah}(I:Inv X pins σ H s) (u:Un (i0 X.stack) ch H H' s.heap h') (bu:jo X.prog X.w H' h') (hg:AllBare g')
    (vV:∀b∈ch,(b∈X.ex\/X.cW.heap.objs.size<=b)/\b≠X.env.locals/\(∀x c,X.env.cells.lookup x=some c->c≠b)/\∀p∈X.pn++pins,p.1≠b) :
    Inv X pins σ H' { s with heap:=h',gens:=g',drawn:=d',toks:=t' }:=by
  obtain⟨m,⟨o,es,ep,ho,r⟩,_⟩:=id I.loc;obtain⟨sl,hL⟩:=u.any ho I.free fun z=>(vV _ z).2.1 rfl
  exact I.step (ch:=ch) vV (fun b o hL hb hc e n=>u.keep b o e n (fun z=>(aJ.mp (I.o9 b z)).elim hL hb) hc) (fun b o _ _ hc e n=>u.any e n hc) (fun b o hc e n=>u.free b o e n hc) (fun b o hc e=>u.there b o e hc) u.eF u.kI u.lC (fun m' hm=>by
    obtain⟨o',yl,wW,zC,r'⟩:=hm;rw[ho] at zC;cases zC;exact⟨_,yl,wW,hL,r'⟩) bu hg
theorem Inv.turned {t':Nat}{it:ah}(I:Inv X pins σ H s) (k:∀b o,b≠it->s.heap.get? b=some o->h'.get? b=some o) (hn:H it=none) (hL:it≠X.env.locals)
    (h1:it∈X.ex\/X.cW.heap.objs.size<=it) (h2:∀x c,X.env.cells.lookup x=some c->c≠it) (h3:∀p∈X.pn++pins,p.1≠it):Inv X pins σ H { s with heap:=h',toks:=t' }:=by
  have Cb:∀b u,H b=some u->b≠it:=fun b u e z=>by rw[z,hn] at e;cases e
  refine I.step (g':=s.gens) (d':=s.drawn) (ch:=[it]) (fun b hb=>?_) (fun b o _ _ hc e _=>k b o (fun z=>hc (by simp[z])) e) (fun b o _ _ hc e _=>⟨o.slots,k b o (fun z=>hc (by simp[z])) e⟩) (fun _ _ _ _ n=>n)
    (fun b o hc e=>⟨o,k b o (fun z=>hc (by simp[z])) e⟩) (fun _ _ e=>e) (fun _ _ _ e=>e) (fun b ps e=>⟨#[],by rw[e];simp⟩) (fun m hm=>?_) (fun b u e=>?_) I.bare
  · have e:b=it:=by simpa using hb
    subst e;exact⟨h1,hL,h2,h3⟩
  · obtain⟨o,es,ep,ho,r⟩:=hm;exact⟨o,es,ep,k _ o (aC hL) ho,r⟩
  · refine (I.bu b u e).dR (fun c v hc q=>k c v ?_ q) (fun _ q=>q) fun _ _ q=>q
    rcases hc with z | z
    · rw[z];exact Cb b u e
    · exact Cb c _ z
theorem Inv.tok (I:Inv X pins σ H s) (t:Nat):Inv X pins σ H { s with toks:=t }:=I.un (h':=s.heap) (t':=t) Un.refl I.bu
theorem Inv.kept {t':Nat}(I:Inv X pins σ H s) (k:∀b u,s.heap.get? b=some u->h'.get? b=some u):Inv X pins σ H { s with heap:=h',toks:=t' }:=I.un (Un.kept k) (I.bu.kept k)
theorem Inv.laid {a:ah}{o:HO}{t':Nat}(I:Inv X pins σ H s) (k:∀b u,s.heap.get? b=some u->h'.get? b=some u) (hp:s.heap.objs.size<=a) (new:bG X.prog X.w (upd H a o) h' a o) :
    Inv X pins σ (upd H a o) { s with heap:=h',toks:=t' }:=I.un (Un.laid k hp (I.bu.fresh hp)) (I.bu.laid k hp new)
theorem Inv.write {x e:ah}{o:HO}{t':Nat}(I:Inv X pins σ H s) (mu:B8 (H x)) (he:e=x\/H e=some (.own x)) (k:∀b u,b≠e->s.heap.get? b=some u->h'.get? b=some u) (Ba:∃u,h'.get? e=some u)
    (new:bG X.prog X.w (upd H x o) h' x o):Inv X pins σ (upd H x o) { s with heap:=h',toks:=t' }:=I.un (Un.write mu he k Ba) (I.bu.write mu he k Ba new)
theorem Inv.rM {pK:aG}(I:Inv X pins σ H s) (h:∀p∈pK,s.heap.get? p.1=some p.2/\H p.1=none/\p.1≠X.env.locals/\p.1 ∉ X.fs/\∀v,p.2.data≠.cell v):Inv X pK σ H s:=
  ⟨I.ok,I.os,I.bare,I.base,I.loc,I.cell,I.free,I.eS,fun p hp=>(br.mp hp).elim (fun z=>I.pin p (cT _ z)) (h p),I.bu,I.len⟩
theorem HL {N:List Str}(hN:N.Nodup) {i j:Nat}{x:Str}(a:N[i]? = some x) (b:N[j]? = some x):i=j:=by
  obtain⟨h1,e1⟩:=bU.mp a;obtain⟨h2,e2⟩:=bU.mp b;exact (List.getElem_inj hN).mp (e1.trans e2.symm)
theorem Me {M:Model}{A:Around}{E:aA}{i:Nat}{x:Str}{v:V}{u:ai}{Q:Unit->au->Prop}(I:Inv X pins σ H s) (hN:X.N.Nodup) (hi:X.N[i]? = some x) (hx:Loc X.env.scope x) (r:RelV v u)
    (h:∀s',Inv X pins (σ.set i (some v)) H s'->(∃a,Heap.SameBut a s.heap s'.heap/\(a=X.env.locals\/X.env.cells.lookup x=some a))->Q () s') (hf:X.fn x=true\/X.env.scope.names.lookup x=some .local:=by first | exact .inl rfl | exact .inr rfl | assumption):wpAny M A (storeName X.env x u) Q E s:=by
  obtain⟨m,hn,hl⟩:=id I.loc;have zD:(X.env.scope.kind == .class||(X.env.scope.kind == .module&&X.env.locals != X.env.globals))=false:=by rw[I.ok.kind];rfl
  have Cc:i<σ.length:=by rw[I.len];exact (bU.mp hi).1
  have uI:=I.uI;have tracked:∀{a:ah}{h':Heap},(∃o,s.heap.get? a=some o/\H a=none)->Heap.SameBut a s.heap h'->jo X.prog X.w H h':=fun {a h'} ha hs b ob e=>by
    obtain⟨_,_,ym⟩:=ha;refine (I.bu b ob e).dR (fun c w' hc q=>(hs.2 c ?_).trans q) (fun _ q=>q) fun _ _ q=>q
    rintro rfl;rcases hc with rfl | hc
    · rw[ym] at e;cases e
    · rw[ym] at hc;cases hc
  rcases hx with hk | hk
  · refine wpAny_storeName_local hk hn (fun h' Be hs=>?_) zD;obtain⟨oL,_,_,Mf,_⟩:=id hn;refine h _ ⟨I.ok,I.os,I.bare,⟨fun b o e n hb hx=>?_,fun b o e n hb hx=>?_,I.base.free,fun b o e hx=>?_,I.base.eF,I.base.kI,I.base.lC⟩,⟨_,Be,fun j y v' e1 e2 e3=>?_⟩,fun y c e=>?_,I.free,I.eS,fun p hp=>?_,tracked ⟨oL,Mf,I.free⟩ hs,by simpa using I.len⟩ ⟨_,hs,.inl rfl⟩
    · exact (hs.2 b (aW (dG (aK e) I.ok.above))).trans (I.base.keep b o e n hb hx)
    · obtain⟨sl,e1⟩:=I.base.slot b o e n hb hx;exact⟨sl,(hs.2 b (aW (dG (aK e) I.ok.above))).trans e1⟩
    · obtain⟨o',e1⟩:=I.base.there b o e hx;exact⟨o',(hs.2 b (aW (dG (aK e) I.ok.above))).trans e1⟩
    · by_cases hj:j=i
      · subst hj;rw[hi] at e1;cases e1;rw[oG Cc] at e2;cases e2;exact⟨u,r,.inl ⟨hk,by simp⟩⟩
      · rw[oK (aC hj)] at e2;obtain⟨u',r',q⟩:=hl j y v' e1 e2 e3;refine⟨u',r',?_⟩;rcases q with ⟨k,e⟩ | ⟨k,c,e,z⟩
        · refine .inl ⟨k,?_⟩;have:y≠x:=fun e=>hj (HL hN e1 (e▸hi))
          simp[this,e]
        · exact .inr ⟨k,c,e,z.sameBut hs (uI y c e)⟩
    · obtain⟨w',z⟩:=I.cell y c e;exact⟨w',z.sameBut hs (uI y c e)⟩
    · obtain⟨e,n,ne,nf,d⟩:=I.pin p hp;exact⟨(hs.2 p.1 ne).trans e,n,ne,nf,d⟩
  · have HM:X.fn x=true:=by
      rcases hf with z | z
      · exact z
      · rw[z] at hk;cases hk
    obtain⟨c,hc⟩:=I.ok.has x (.inl hk);obtain⟨w',z⟩:=I.cell x c hc;refine wpAny_storeName_cell I.ok.kind hk hc z (fun h' Fi hs=>?_);obtain⟨oc,Mg,HN⟩:=id z;refine h { s with heap:=h' } ⟨I.ok,I.os,I.bare,⟨fun b o e n hb hx=>?_,fun b o e n hb hx=>?_,I.base.free,fun b o e hx=>?_,I.base.eF,I.base.kI,I.base.lC⟩,⟨m,hn.sameBut hs (aC (uI x c hc)),fun j y v' e1 e2 e3=>?_⟩,fun y c' e=>?_,I.free,I.eS,fun p hp=>?_,tracked ⟨oc,Mg,I.eS x c hc⟩ hs,by simpa using I.len⟩ ⟨c,hs,.inr hc⟩
    · exact (hs.2 b (aW (dG (aK e) (I.ok.zB x c HM hc)))).trans (I.base.keep b o e n hb hx)
    · obtain⟨sl,e1⟩:=I.base.slot b o e n hb hx;exact⟨sl,(hs.2 b (aW (dG (aK e) (I.ok.zB x c HM hc)))).trans e1⟩
    · obtain⟨o',e1⟩:=I.base.there b o e hx;exact⟨o',(hs.2 b (aW (dG (aK e) (I.ok.zB x c HM hc)))).trans e1⟩
    · by_cases hj:j=i
      · subst hj;rw[hi] at e1;cases e1;rw[oG Cc] at e2;cases e2;exact⟨u,r,.inr ⟨.inl hk,c,hc,Fi⟩⟩
      · rw[oK (aC hj)] at e2;obtain⟨u',r',q⟩:=hl j y v' e1 e2 e3;refine⟨u',r',?_⟩;rcases q with q | ⟨k,c',e,z'⟩
        · exact .inl q
        · refine .inr ⟨k,c',e,z'.sameBut hs ?_⟩;rintro rfl;exact hj (HL hN e1 (I.ok.inj _ _ _ e hc▸hi))
    · by_cases Mh:c'=c
      · subst Mh;exact⟨_,Fi⟩
      · obtain⟨w2,z2⟩:=I.cell y c' e;exact⟨w2,z2.sameBut hs Mh⟩
    · obtain⟨e,n,ne,nf,d⟩:=I.pin p hp;refine⟨(hs.2 p.1 ?_).trans e,n,ne,nf,d⟩;intro q;rw[q,Mg] at e;have q':oc=p.2:=cD e;exact d w' (by rw[←q'];exact HN)
theorem Bg {M:Model}{A:Around}{E:aA}{i:Nat}{x:Str}{v:V}{u:ai}{Q:Unit->au->Prop}(I:Inv X pins σ H s) (hN:X.N.Nodup) (hi:X.N[i]? = some x) (hx:Loc X.env.scope x) (r:RelV v u)
    (h:∀s',Inv X pins (σ.set i (some v)) H s'->Q () s') (hf:X.fn x=true\/X.env.scope.names.lookup x=some .local:=by first | exact .inl rfl | exact .inr rfl | assumption):wpAny M A (storeName X.env x u) Q E s:=
  Me I hN hi hx r (fun s' I' _=>h s' I') hf
theorem Inv.rN {s':au}{ch:List ah}(I:Inv X pins σ H s) (ho:s'.os=s.os) (u:Un (i0 X.stack) ch H H' s.heap s'.heap) (bu:jo X.prog X.w H' s'.heap) (hg:AllBare s'.gens)
    (vV:∀b∈ch,(b∈X.ex\/X.cW.heap.objs.size<=b)/\b≠X.env.locals/\(∀x c,X.env.cells.lookup x=some c->c≠b)/\∀p∈X.pn++pins,p.1≠b):Inv X pins σ H' s':=by
  obtain⟨h',g',d',t',o'⟩:=s';have e:o'=s.os:=ho;subst e;exact I.call (g':=g') (t':=t') (d':=d') u bu hg vV
end
abbrev XK:=ai->Option ah->Hp->Prop
abbrev St:=List (Option V)
abbrev VK:=V->Hp->Prop
abbrev TE:=St->Hp->VK->Prop
abbrev TT:=St->Hp->(Bool->Hp->Prop)->Prop
abbrev TA:=St->Hp->(List V->Hp->Prop)->Prop
structure Ends where
  nx:St->Hp->Prop
  rt:VK
  bk:St->Hp->Prop:=fun _ _=>False
  ct:St->Hp->Prop:=fun _ _=>False
abbrev TS:=Ends->St->Hp->Prop
def EP (X:Cx) (pins:aG) (σ:St) (Q:VK) (u:ai) (s':au):Prop:=∃v H',Inv X pins σ H' s'/\RelV v u/\Q v H'
def TP (X:Cx) (pins:aG) (σ:St) (Q:Bool->Hp->Prop) (b:Bool) (s':au):Prop:=∃H',Inv X pins σ H' s'/\Q b H'
def AP (X:Cx) (pins:aG) (σ:St) (Q:List V->Hp->Prop) (us:List ai) (s':au):Prop:=∃vs H',Inv X pins σ H' s'/\Vals vs us/\Q vs H'
def SP (X:Cx) (pins:aG) (D:Ends) (f:Flow) (s':au):Prop:=
  match f with
  | .next=>∃aN H',Inv X pins aN H' s'/\D.nx aN H'
  | .brk=>∃aN H',Inv X pins aN H' s'/\D.bk aN H'
  | .cont=>∃aN H',Inv X pins aN H' s'/\D.ct aN H'
  | .ret u=>∃v aN H',Inv X pins aN H' s'/\RelV v u/\D.rt v H'
def PE (X:Cx) (e:Expr) (t:TE):Prop:=
  ∀(pins:aG) (s:au) (σ:St) (H:Hp) (Q:VK),Inv X pins σ H s->t σ H Q->wpAny (model X.prog X.w) X.A (eval e X.env) (EP X pins σ Q) X.xe s
def PT (X:Cx) (e:Expr) (t:TT):Prop:=
  ∀(pins:aG) (s:au) (σ:St) (H:Hp) (Q:Bool->Hp->Prop),Inv X pins σ H s->t σ H Q->wpAny (model X.prog X.w) X.A (isTrue e X.env (eval e X.env)) (TP X pins σ Q) X.xe s
def PW (X:Cx) (e:Expr) (t:TT):Prop:=
  ∀(whole:Sem ai) (pins:aG) (s:au) (σ:St) (H:Hp) (Q:Bool->Hp->Prop),Inv X pins σ H s->t σ H Q->wpAny (model X.prog X.w) X.A (isTrue e X.env whole) (TP X pins σ Q) X.xe s
theorem PW.pt {X:Cx}{e:Expr}{t:TT}(h:PW X e t):PT X e t:=h _
def PA (X:Cx) (es:List Expr) (t:TA):Prop:=
  ∀(pos:Pos) (pins:aG) (s:au) (σ:St) (H:Hp) (Q:List V->Hp->Prop),Inv X pins σ H s->t σ H Q->wpAny (model X.prog X.w) X.A (spliced (backTo pos (starEach es X.env))) (AP X pins σ Q) X.xe s
def PS (X:Cx) (st:Stmt) (t:TS):Prop:=
  ∀(pins:aG) (s:au) (σ:St) (H:Hp) (D:Ends),Inv X pins σ H s->t D σ H->wpAny (model X.prog X.w) X.A (exec st X.env) (SP X pins D) X.xe s
def nN (X:Cx) (st:List Stmt) (t:TS):Prop:=
  ∀(pins:aG) (s:au) (σ:St) (H:Hp) (D:Ends),Inv X pins σ H s->t D σ H->wpAny (model X.prog X.w) X.A (execs st X.env) (SP X pins D) X.xe s
theorem bR {α:Type}{t:Sem α}{Q Q':α->au->Prop}{M:Model}{A:Around}{E:aA}{s:au}(h:wpAny M A t Q E s) (hQ:∀a s,Q a s->Q' a s):wpAny M A t Q' E s:=b7 h hQ fun _ _ x=>x
section
variable {X:Cx}
theorem bin {a b:Expr}{ta tb:TE}(ha:PE X a ta) (hb:PE X b tb) {pins:aG}{s:au}{σ:St}{H:Hp}{R:V->V->Hp->Prop}(I:Inv X pins σ H s) (h:ta σ H fun x H1=>tb σ H1 fun y H2=>R x y H2)
    {α:Type}{Q:α->au->Prop}{f:ai->ai->Sem α}
    (hf:∀v u s2 x y H2,Inv X pins σ H2 s2->RelV x v->RelV y u->R x y H2->wpAny (model X.prog X.w) X.A (f v u) Q X.xe s2) :
    wpAny (model X.prog X.w) X.A (eval a X.env) (fun v bA=>wpAny (model X.prog X.w) X.A (eval b X.env) (fun u iK=>wpAny (model X.prog X.w) X.A (f v u) Q X.xe iK) X.xe bA) X.xe s:=by
  refine bR (ha pins s σ H _ I h) fun v s1 aT=>?_
  obtain⟨x,H1,I1,r1,q1⟩:=aT;refine bR (hb pins s1 σ H1 _ I1 q1) fun u s2 aT=>?_
  obtain⟨y,H2,I2,r2,q2⟩:=aT;exact hf v u s2 x y H2 I2 r1 r2 q2
inductive Cd (i:Nat) (σ:St) (H:Hp) (Q:VK):Prop
  | mk (v:V) (_:σ[i]? = some (some v)) (_:Q v H)
def Ce (i:Nat):TE:=fun σ H Q=>Cd i σ H Q
def tC (v:V):TE:=fun _ H Q=>Q v H
theorem Sy {i:Nat}{x:Str}{pos:Pos}(hN:X.N[i]? = some x) (hv:HG X.env.scope x) (hd:(x == ("__debug__" : Str))=false:=by decide) (pL:(x == ("__classdict__" : Str))=false:=by decide):PE X (.Name x pos) (Ce i):=by
  intro pins s σ H Q I h;obtain⟨v,e,h⟩:=h;obtain⟨m,hn,hl⟩:=I.loc;obtain⟨u,r,l⟩:=hl i x v hN e hv;have fin:EP X pins σ Q u s:=⟨v,H,I,r,h⟩;rcases l with ⟨hk,hm⟩ | ⟨hk,c,hc,yo⟩
  · exact wpAny_Name (wpAny_loadName_local I.ok.kind hk hn hm fin) hd
  · rcases hk with hk | hk
    · exact wpAny_Name (wpAny_loadName_cell I.ok.kind hk hc yo fin) hd
    · exact wpAny_Name (wpAny_loadName_free I.ok.kind hk hc yo fin pL) hd
theorem zm {i j pos}:PE X (.Constant (.int i) j pos) (tC (.int i)):=fun _ _ _ H _ I h=>wpAny_Constant_int ⟨.int i,H,I.tok _,⟨_,rfl⟩,h⟩
theorem wX {b j pos}:PE X (.Constant (.bool b) j pos) (tC (.bl b)):=fun _ _ _ H _ I h=>Constant_bool ⟨.bl b,H,I,rfl,h⟩
theorem Sz {j pos}:PE X (.Constant .none j pos) (tC .cQ):=fun _ _ _ H _ I h=>Constant_none ⟨.cQ,H,I,rfl,h⟩
theorem jI {x j pos}:PE X (.Constant (.str x) j pos) (tC (.str x)):=fun _ _ _ H _ I h=>Calls.Constant_str ⟨.str x,H,I.tok _,⟨_,rfl⟩,h⟩
def Gl (X:Cx) (x:Str):Prop:=X.env.kindOf x=some .globalImplicit
theorem yp {E:aA}{pins:aG}{s:au}{σ:St}{H:Hp}{x:Str}{u:ai}{pos:Pos}{Q:aA}(I:Inv X pins σ H s) (hg:Gl X x) (hm:X.mg x=some u) (h:Q u s)
    (hd:(x == ("__debug__" : Str))=false:=by decide):wpAny (model X.prog X.w) X.A (eval (.Name x pos) X.env) Q E s:=
  Calls.Name_function_global I.ok.kind hg (Calls.loadGlobal_global (by rw[I.ok.glob];exact I.mod.glob.keeps I.bk) hm h) hd
theorem zE {E:aA}{pins:aG}{s:au}{σ:St}{H:Hp}{x:Str}{u:ai}{pos:Pos}{Q:aA}(I:Inv X pins σ H s) (hg:Gl X x) (hm:X.mg x=none) (hv:bootBuiltins x=some u) (h:Q u s)
    (hn:x≠"__name__":=by decide) (hd:(x == ("__debug__" : Str))=false:=by decide):wpAny (model X.prog X.w) X.A (eval (.Name x pos) X.env) Q E s:=by
  obtain⟨mb,h1,h2⟩:=I.mod.blt;exact Calls.Name_function_global I.ok.kind hg (Calls.loadGlobal_builtin (by rw[I.ok.glob];exact I.mod.glob.keeps I.bk) hm (by rw[I.ok.blt];exact h1.keeps I.bk) ((h2 x hn).trans hv) h) hd
theorem Mi {x:Str}{v:V}{u:ai}{pos:Pos}(hg:Gl X x) (hm:X.mg x=none) (hv:bootBuiltins x=some u) (r:RelV v u) (hn:x≠"__name__":=by decide) (hd:(x == ("__debug__" : Str))=false:=by decide):PE X (.Name x pos) (tC v):=
  fun _ _ _ H _ I h=>zE I hg hm hv ⟨v,H,I,r,h⟩ hn hd
variable {a b:Expr}{ta tb:TE}{pos:Pos}
def PC (X:Cx) (op:CmpOp) (a b:Expr) (t:TE):Prop:=
  ∀(pins:aG) (s:au) (σ:St) (H:Hp) (Q:VK),Inv X pins σ H s->t σ H Q->
    wpAny (model X.prog X.w) X.A (eval a X.env) (fun v bA=>wpAny (model X.prog X.w) X.A (eval b X.env) (fun u iK=>wpAny (model X.prog X.w) X.A (compareOp op v u) (EP X pins σ Q) X.xe iK) X.xe bA) X.xe s
theorem Mj (b:Expr) {op:CmpOp}(h:op≠.In) (h2:op≠.NotIn):behindInMarks op b=false:=by
  have e1:(op == CmpOp.In)=false:=by cases op<;>first | rfl | exact absurd rfl h
  have e2:(op == CmpOp.NotIn)=false:=by cases op<;>first | rfl | exact absurd rfl h2
  cases b<;>simp[behindInMarks,e1,e2]
def SA (ta:TE):TE:=fun σ H Q=>ta σ H fun x H1=>Q (.bl (!decide (x = .cQ))) H1
theorem RelV.uJ {x:V}{v:ai}(r:RelV x v):(v == Value.none)=decide (x = .cQ):=by
  cases x with
  | cQ=>cases r;rfl
  | bl _=>cases r;rfl
  | int _=>obtain⟨t,rfl⟩:=r;rfl
  | str _=>obtain⟨t,rfl⟩:=r;rfl
  | sJ _=>obtain⟨t,rfl⟩:=r;rfl
  | yk _=>obtain⟨t,rfl⟩:=r;rfl
  | ref _=>cases r;rfl
  | ty _=>cases r;rfl
theorem SE {j pos'}(ha:PE X a ta):PC X .IsNot a (.Constant .none j pos') (SA ta):=by
  intro pins s σ H Q I h;refine bR (ha pins s σ H _ I h) fun v s1 aT=>?_
  obtain⟨x,H1,I1,r1,q1⟩:=aT;exact Constant_none (isnot_none_gen ⟨.bl _,H1,I1,by rw[r1.uJ];rfl,q1⟩)
def tB (t:TE):TT:=fun σ H Q=>t σ H fun x H1=>∃c,x = .bl c/\Q c H1
theorem Ml {op:CmpOp}{t:TE}(h:PC X op a b t) (h1:behindInMarks op b=false:=by first | exact Mj _ (by decide) (by decide) | rfl):PE X (.Compare a [op] [b] pos) t:=fun pins s σ H Q I hw=>wpAny_Compare1 (h pins s σ H Q I hw) h1
theorem wY {op:CmpOp}{t:TE}(h:PC X op a b t) (h1:behindInMarks op b=false:=by first | exact Mj _ (by decide) (by decide) | rfl):PT X (.Compare a [op] [b] pos) (tB t):=by
  intro pins s σ H Q I hw;refine wpAny_isTrue_Compare1 (bR (h pins s σ H _ I hw) fun v s1 h1=>bR h1 fun u s2 h2=>bR h2 fun c s3 aT=>?_) h1;obtain⟨x,H1,I1,r1,q1⟩:=aT;obtain⟨d,rfl,q⟩:=q1;cases r1;exact jQ ⟨H1,I1,q⟩
theorem Cf {e:Expr}{t:TE}(h:PE X e t) (he:∀whole,isTrue e X.env whole=(do let v ←whole;standAt e.pos;holding [v] (truthy v)):=by intro _;rfl):PT X e (tB t):=by
  intro pins s σ H Q I hw;refine isTrue_plain (bR (h pins s σ H _ I hw) fun v s1 aT=>?_) (he _);obtain⟨x,H1,I1,r1,q1⟩:=aT;obtain⟨d,rfl,q⟩:=q1;cases r1;exact jQ ⟨H1,I1,q⟩
variable {tA Fj:TT}{rest:List Expr}
def HP (t u:TT):TT:=fun σ H Q=>t σ H fun c H1=>if c=true then u σ H1 Q else Q false H1
def SH (t u:TT):TT:=fun σ H Q=>t σ H fun c H1=>if c=true then Q true H1 else u σ H1 Q
def HQ (t:TT):TT:=fun σ H Q=>t σ H fun c H1=>Q (!c) H1
theorem Cg (ha:PT X a tA):PW X (.BoolOp .And [a] pos) tA:=by
  intro wh pins s σ H Q I h;refine isTrue_and (bR (ha pins s σ H Q I h) fun c s1 e=>?_);cases c with
  | true=>exact isTrue_and_nil e
  | false=>exact e
theorem Mp (ha:PT X a tA):PW X (.BoolOp .Or [a] pos) tA:=by
  intro wh pins s σ H Q I h;refine isTrue_or (bR (ha pins s σ H Q I h) fun c s1 e=>?_);cases c with
  | false=>exact isTrue_or_nil e
  | true=>exact e
theorem Ci (ha:PT X a tA) (hb:PW X (.BoolOp .And (b::rest) pos) Fj):PW X (.BoolOp .And (a::b::rest) pos) (HP tA Fj):=by
  intro wh pins s σ H Q I h;refine isTrue_and (bR (ha pins s σ H _ I h) fun c s1 aT=>?_);obtain⟨H1,I1,q1⟩:=aT;cases c with
  | true=>exact hb wh pins s1 σ H1 Q I1 q1
  | false=>exact⟨H1,I1,q1⟩
theorem Mq (ha:PT X a tA) (hb:PW X (.BoolOp .Or (b::rest) pos) Fj):PW X (.BoolOp .Or (a::b::rest) pos) (SH tA Fj):=by
  intro wh pins s σ H Q I h;refine isTrue_or (bR (ha pins s σ H _ I h) fun c s1 aT=>?_);obtain⟨H1,I1,q1⟩:=aT;cases c with
  | true=>exact⟨H1,I1,q1⟩
  | false=>exact hb wh pins s1 σ H1 Q I1 q1
theorem Mr (ha:PT X a tA):PT X (.UnaryOp .Not a pos) (HQ tA):=by
  intro pins s σ H Q I h;exact isTrue_not (ha pins s σ H (fun c H1=>Q (!c) H1) I h)
def SJ (ta tb:TE):TE:=fun σ H Q=>ta σ H fun x H1=>∃c,x = .bl c/\if c=true then tb σ H1 Q else Q (.bl false) H1
theorem Ms {op}{t:TE}(h:PE X a t):PE X (.BoolOp op [a] pos) t:=fun pins s σ H Q I hw=>BoolOp_one (h pins s σ H Q I hw)
theorem HR (ha:PE X a ta) (hb:PE X (.BoolOp .And (b::rest) pos) tb):PE X (.BoolOp .And (a::b::rest) pos) (SJ ta tb):=by
  intro pins s σ H Q I h;refine BoolOp_and (bR (ha pins s σ H _ I h) fun v s1 aT=>?_);obtain⟨x,H1,I1,r1,q1⟩:=aT;obtain⟨c,rfl,q1⟩:=q1;cases r1;refine jQ ?_;cases c with
  | true=>exact hb pins s1 σ H1 Q I1 q1
  | false=>exact⟨.bl false,H1,I1,rfl,q1⟩
def SK (t:TT) (ta tb:TE):TE:=fun σ H Q=>t σ H fun c H1=>if c=true then ta σ H1 Q else tb σ H1 Q
theorem SM {c:Expr}(hc:PT X c tA) (ha:PE X a ta) (hb:PE X b tb):PE X (.IfExp c a b pos) (SK tA ta tb):=by
  intro pins s σ H Q I h;refine wpAny_IfExp (bR (hc pins s σ H _ I h) fun d s1 aT=>?_);obtain⟨H1,I1,q1⟩:=aT;cases d with
  | true=>exact ha pins s1 σ H1 Q I1 q1
  | false=>exact hb pins s1 σ H1 Q I1 q1
end
def aI (K:aE) (H:Hp) (a:ah) (xs:List V):Prop:=
  Rd H a (.lst xs)\/
    ∃(o:Obj) (its:Array ai) (n:Nat),K.lookup a=some o/\o.cls = .type "list"/\o.dict=none/\o.data = .seq its n/\its.size<=sizeLine/\Vals xs its.toList
def bF (K:aE) (H:Hp) (a:ah) (xs:List V):Prop:=
  Rd H a (.tup xs)\/
    ∃(o:Obj) (its:Array ai) (n:Nat),K.lookup a=some o/\o.cls = .type "tuple"/\o.data = .seq its n/\its.size<=sizeLine/\Vals xs its.toList
def Cj:ai->Option V
  | .none=>some .cQ
  | .bool b=>some (.bl b)
  | .int i _=>some (.int i)
  | .str x _=>some (.str x)
  | .bytes b _=>some (.sJ b)
  | .float b _=>some (.yk b)
  | .ref a=>some (.ref a)
  | .type n=>some (.ty n)
  | _=>none
theorem RelV.abs {x:V}{u:ai}(r:RelV x u):Cj u=some x:=by
  cases x with
  | cQ=>cases r;rfl
  | bl _=>cases r;rfl
  | int _=>obtain⟨t,rfl⟩:=r;rfl
  | str _=>obtain⟨t,rfl⟩:=r;rfl
  | sJ _=>obtain⟨t,rfl⟩:=r;rfl
  | yk _=>obtain⟨t,rfl⟩:=r;rfl
  | ref _=>cases r;rfl
  | ty _=>cases r;rfl
theorem RelV.inj {x y:V}{u:ai}(r:RelV x u) (q:RelV y u):x=y:=cD (r.abs.symm.trans q.abs)
theorem Vals.inj:∀{xs ys:List V}{us:List ai},Vals xs us->Vals ys us->xs=ys
  | _,_,_,.nil,.nil=>rfl
  | _,_,_,.cons r t,.cons r' t'=>by rw[r.inj r',Vals.inj t t']
section
variable {X:Cx}{pins:aG}{σ:St}{H:Hp}{s:au}{a:ah}{xs ys:List V}
theorem aI.of {K:aE}(h:H a=some (.lst xs)):aI K H a xs:=.inl (.inl h)
theorem bF.of {K:aE}(h:H a=some (.tup xs)):bF K H a xs:=.inl (.inl h)
theorem Inv.list (I:Inv X pins σ H s) (h:aI X.K H a xs):∃its:List ai,Vals xs its/\PlainL s.heap a its.toArray/\xs.length<=sizeLine:=by
  rcases h with h | ⟨o,its,n,hk,hc,hd,hs,hz,r⟩
  · obtain⟨z,its,n,r,e⟩:=h.ok I.bu;exact⟨its,r,⟨_,n,e,rfl,rfl,rfl⟩,z⟩
  · refine⟨its.toList,r,⟨o,n,I.fX a o hk,hc,hd,by simpa using hs⟩,?_⟩;have e:=r.length;simp only [jh] at e;lia
theorem Inv.tuple (I:Inv X pins σ H s) (h:bF X.K H a xs):∃its:List ai,Vals xs its/\IsTup s.heap a its.toArray/\xs.length<=sizeLine:=by
  rcases h with h | ⟨o,its,n,hk,hc,hs,hz,r⟩
  · obtain⟨z,its,r,p⟩:=h.ok I.bu;exact⟨its,r,p,z⟩
  · refine⟨its.toList,r,⟨o,I.fX a o hk,hc,n,by simpa using hs⟩,?_⟩;have e:=r.length;simp only [jh] at e;lia
theorem Inv.jT (I:Inv X pins σ H s) (h:aI X.K H a xs) (h':aI X.K H a ys):xs=ys:=by
  obtain⟨its,r,⟨o,n,e,_,_,d⟩,_⟩:=I.list h;obtain⟨its',r',⟨o',n',e',_,_,d'⟩,_⟩:=I.list h';rw[e] at e';cases e';rw[d] at d';injection d' with d1 _
  have:its=its':=by simpa using bX Array.toList d1
  subst this;exact r.inj r'
theorem Inv.sM (I:Inv X pins σ H s) (h:bF X.K H a xs) (h':bF X.K H a ys):xs=ys:=by
  obtain⟨its,r,⟨o,e,_,n,d⟩,_⟩:=I.tuple h;obtain⟨its',r',⟨o',e',_,n',d'⟩,_⟩:=I.tuple h';rw[e] at e';cases e';rw[d] at d';injection d' with d1 _
  have:its=its':=by simpa using bX Array.toList d1
  subst this;exact r.inj r'
end
abbrev Cx.ng (X:Cx) (E:aA):Cx:={ X with xe:=E }
abbrev Cx.zF (X:Cx):Cx:=X.ng fun _ _=>False
theorem Cx.Ok.ng {X:Cx}(ok:X.Ok) (E:aA):(X.ng E).Ok:=
  ⟨ok.mod,ok.kind,ok.glob,ok.blt,ok.above,ok.inj,ok.has,ok.zB,ok.hd,ok.frames,ok.Bc,ok.Ff,ok.bs,ok.uH,ok.qG,ok.sL,ok.jS,ok.wV⟩
theorem Cx.Ok.iL {X:Cx}{E:aA}(ok:(X.ng E).Ok):X.Ok:=
  ⟨ok.mod,ok.kind,ok.glob,ok.blt,ok.above,ok.inj,ok.has,ok.zB,ok.hd,ok.frames,ok.Bc,ok.Ff,ok.bs,ok.uH,ok.qG,ok.sL,ok.jS,ok.wV⟩
section
variable {X:Cx}{pins:aG}{σ:St}{H:Hp}{s:au}{E:aA}
theorem Inv.ng (I:Inv X pins σ H s) (E:aA):Inv (X.ng E) pins σ H s:=⟨I.ok.ng E,I.os,I.bare,I.base,I.loc,I.cell,I.free,I.eS,I.pin,I.bu,I.len⟩
theorem Inv.iL (I:Inv (X.ng E) pins σ H s):Inv X pins σ H s:=⟨I.ok.iL,I.os,I.bare,I.base,I.loc,I.cell,I.free,I.eS,I.pin,I.bu,I.len⟩
theorem SP.iL {D:Ends}{f:Flow}{s':au}(h:SP (X.ng E) pins D f s'):SP X pins D f s':=by
  cases f with
  | next=>obtain⟨aN,H',I,q⟩:=h;exact⟨aN,H',I.iL,q⟩
  | brk=>obtain⟨aN,H',I,q⟩:=h;exact⟨aN,H',I.iL,q⟩
  | cont=>obtain⟨aN,H',I,q⟩:=h;exact⟨aN,H',I.iL,q⟩
  | ret u=>obtain⟨v,aN,H',I,r,q⟩:=h;exact⟨v,aN,H',I.iL,r,q⟩
theorem nN.zF {st:List Stmt}{t:TS}(h:nN X.zF st t):nN X st t:=fun pins s σ H D I hw=>
  b7 (h pins s σ H D (I.ng _) hw) (fun _ _ q=>q.iL) fun _ _ z=>False.elim z
end
section
variable {X:Cx}{st:Stmt}{rest:List Stmt}{t u:TS}{e:Expr}{te:TE}{pos:Pos}
def wZ:TS:=fun D σ H=>D.nx σ H
def zG (t u:TS):TS:=fun D σ H=>t { D with nx:=u D } σ H
theorem i6:nN X [] wZ:=fun _ _ σ H _ I h=>mz ⟨σ,H,I,h⟩
theorem ze (h1:PS X st t) (h2:nN X rest u):nN X (st::rest) (zG t u):=by
  intro pins s σ H D I h;refine wpAny_execs_cons (bR (h1 pins s σ H { D with nx:=u D } I h) fun f s1 q=>?_);cases f with
  | next=>
    obtain⟨aN,H',I',q⟩:=q;exact h2 pins s1 aN H' D I' q
  | ret v=>exact q
  | brk=>exact q
  | cont=>exact q
theorem zj (h1:PS X st t):nN X [st] t:=by
  intro pins s σ H D I h;refine wpAny_execs_cons (bR (h1 pins s σ H D I h) fun f s1 q=>?_);cases f with
  | next=>exact mz q
  | ret v=>exact q
  | brk=>exact q
  | cont=>exact q
theorem Inv.quiet {pins:aG}{σ:St}{H:Hp}{s:au}(I:Inv X pins σ H s):interactive X.env=false:=by simp[interactive,I.ok.kind]
def SN (te:TE):TS:=fun D σ H=>te σ H fun _ H1=>D.nx σ H1
theorem i7 (he:PE X e te) (hs:swapsWith e none pos.line X.env=pure false:=by rfl):PS X (.Expr e pos) (SN te):=by
  intro pins s σ H D I h;exact wpAny_Expr_any (bR (he pins s σ H _ I h) fun v s1 ⟨x,H1,I1,r1,q1⟩=>⟨σ,H1,I1,q1⟩) I.quiet hs
def HS (te:TE):TS:=fun D σ H=>te σ H D.rt
theorem fG (he:PE X e te):PS X (.Return (some e) pos) (HS te):=by
  intro pins s σ H D I h;exact wpAny_Return_some (bR (he pins s σ H _ I h) fun v s1 ⟨x,H1,I1,r1,q1⟩=>⟨x,σ,H1,I1,r1,q1⟩)
def uK (c:TT) (t u:TS):TS:=fun D σ H=>c σ H fun b H1=>if b=true then t D σ H1 else u D σ H1
theorem iM {c:Expr}{a b:List Stmt}{tc:TT}(hc:PT X c tc) (ha:nN X a t) (hb:nN X b u):PS X (.If c a b pos) (uK tc t u):=by
  intro pins s σ H D I h;refine wpAny_If (bR (hc pins s σ H _ I h) fun d s1 aT=>?_);obtain⟨H1,I1,q1⟩:=aT;cases d with
  | true=>exact ha pins s1 σ H1 D I1 q1
  | false=>exact hb pins s1 σ H1 D I1 q1
def SO:TS:=fun _ _ _=>False
theorem Ck:PS X st SO:=fun _ _ _ _ _ _ h=>h.elim
end
abbrev TG:=V->St->Hp->(St->Hp->Prop)->Prop
abbrev yq:=List V->St->Hp->(St->Hp->Prop)->Prop
def PG (X:Cx) (target:Expr) (t:TG):Prop:=
  ∀(pins:aG) (s:au) (σ:St) (H:Hp) (v:V) (u:ai) (Q:St->Hp->Prop),Inv X pins σ H s->RelV v u->t v σ H Q->
    wpAny (model X.prog X.w) X.A (assign target X.env u) (fun _ s'=>∃aN H',Inv X pins aN H' s'/\Q aN H') X.xe s
def Cm (X:Cx) (ts:List Expr) (t:yq):Prop:=
  ∀(pins:aG) (s:au) (σ:St) (H:Hp) (vs:List V) (us:List ai) (Q:St->Hp->Prop),Inv X pins σ H s->Vals vs us->t vs σ H Q->
    wpAny (model X.prog X.w) X.A (assignInOrder ((assignEach ts X.env).map (·.2)) us) (fun _ s'=>∃aN H',Inv X pins aN H' s'/\Q aN H') X.xe s
section
variable {X:Cx}{pos:Pos}
def zw (i:Nat):TG:=fun v σ H Q=>Q (σ.set i (some v)) H
theorem sN {i:Nat}{x:Str}(hN:X.N.Nodup) (hi:X.N[i]? = some x) (hx:Loc X.env.scope x) (hf:X.fn x=true\/X.env.scope.names.lookup x=some .local:=by first | exact .inl rfl | exact .inr rfl | assumption):PG X (.Name x pos) (zw i):=by
  intro pins s σ H v u Q I r h;exact wpAny_assign_Name (Bg I hN hi hx r (fun s' I'=>⟨_,H,I',h⟩) hf)
def HU:yq:=fun vs σ H Q=>vs = []/\Q σ H
def SQ (t:TG) (u:yq):yq:=fun vs σ H Q=>∃v r,vs=v::r/\t v σ H fun aN H'=>u r aN H' Q
theorem vW:Cm X [] HU:=by
  intro pins s σ H vs us Q I r h;obtain⟨e,h⟩:=h;subst e;cases r;exact assignInOrder_nil ⟨σ,H,I,h⟩
theorem nO {e:Expr}{es:List Expr}{t:TG}{u:yq}(h1:PG X e t) (h2:Cm X es u)
    (hs:(assignEach (e::es) X.env).map (·.2)=assign e X.env::(assignEach es X.env).map (·.2):=by rfl):Cm X (e::es) (SQ t u):=by
  intro pins s σ H vs us Q I r h;obtain⟨v,vr,e1,h⟩:=h;subst e1;cases r with
  | cons r rr=>
    rw[hs];refine assignInOrder_cons (bR (h1 pins s σ H _ _ _ I r h) fun _ s1 aT=>?_);obtain⟨vX,H1,I1,q1⟩:=aT;exact h2 pins s1 vX H1 _ _ Q I1 rr q1
def Co (K:aE) (n:Nat) (t:yq):TG:=fun v σ H Q=>∃a xs,v = .ref a/\bF K H a xs/\xs.length=n/\t xs σ H Q
theorem SR {es:List Expr}{k:Nat}{t:yq}{n:Nat}(hc:X.calm=true) (h:Cm X es t)
    (hn:(assignEach es X.env).length=n:=by rfl) (nh:(assignEach es X.env).findIdx? (·.1)=none:=by rfl):PG X (.Tuple es k pos) (Co X.K n t):=by
  intro pins s σ H v u Q I r hw;obtain⟨a,xs,e1,hq,hl,hw⟩:=hw;subst e1;cases r;obtain⟨its,rv,ht,hz⟩:=I.tuple hq;refine assign_Tuple_tuple (I.ok.hd hc) ht (by simp[hn,←hl,rv.length]) nh fun h' hx=>?_
  have I1:Inv X pins σ H { s with heap:=h' }:=I.kept (t':=s.toks) fun b o e=>hx b o (aW (aK e)) e
  exact h pins _ σ H xs _ Q I1 (by simpa using rv) hw
def w4 (te:TE) (g:TG):TS:=fun D σ H=>te σ H fun x H1=>g x σ H1 D.nx
theorem SV {tg e:Expr}{te:TE}{g:TG}(he:PE X e te) (hg:PG X tg g) (hs:swapsWithSole [tg] e pos.line X.env=pure false:=by rfl) (hw:swappedStores [tg] e X.env=pure none:=by rfl)
    (h1:(assignEach [tg] X.env).map (·.2) = [assign tg X.env]:=by rfl):PS X (.Assign [tg] e pos) (w4 te g):=by
  intro pins s σ H D I h;refine wpAny_Assign_stores (bR (he pins s σ H _ I h) fun v s1 aT=>?_) hs hw;obtain⟨x,H1,I1,r1,q1⟩:=aT;rw[h1];exact bR (hg pins s1 σ H1 x v _ I1 r1 q1) fun _ s2 q=>q
theorem SW {i:Nat}{x:Str}{e:Expr}{te:TE}{pos':Pos}(hN:X.N.Nodup) (hi:X.N[i]? = some x) (hx:Loc X.env.scope x) (he:PE X e te) (hs:swapsWith e (some (.Name x pos')) pos.line X.env=pure false:=by rfl) (hf:X.fn x=true\/X.env.scope.names.lookup x=some .local:=by first | exact .inl rfl | exact .inr rfl | assumption) :
    PS X (.Assign [.Name x pos'] e pos) (w4 te (zw i)):=by
  intro pins s σ H D I h;refine wpAny_Assign_Name (bR (he pins s σ H _ I h) fun v s1 aT=>?_) hs;obtain⟨y,H1,I1,r1,q1⟩:=aT;exact Bg I1 hN hi hx r1 (fun s2 I2=>⟨_,H1,I2,q1⟩) hf
def HV (i j:Nat) (ta:TA):TS:=fun D σ H=>ta σ H fun vs H1=>∃v w,vs = [v,w]/\D.nx ((σ.set i (some v)).set j (some w)) H1
theorem SX {i j:Nat}{x y:Str}{a b:Expr}{ta:TA}{px py pt:Pos} {kt k2 HW}(hc:X.calm=true) (hN:X.N.Nodup) (hi:X.N[i]? = some x) (hj:X.N[j]? = some y) (qk:i≠j)
    (hx:X.env.scope.names.lookup x=some .local) (hy:X.env.scope.names.lookup y=some .local) (ha:PA X [a,b] ta)
    (hw:swappedStores [.Tuple [.Name x px,.Name y py] kt pt] (.Tuple [a,b] k2 HW) X.env=pure (some [x,y]))
    (hs:swapsWithSole [.Tuple [.Name x px,.Name y py] kt pt] (.Tuple [a,b] k2 HW) pos.line X.env=pure false:=by rfl) :
    PS X (.Assign [.Tuple [.Name x px,.Name y py] kt pt] (.Tuple [a,b] k2 HW) pos) (HV i j ta):=by
  intro pins s σ H D I h;rw[exec_Assign_arm];refine aj (iJ ?_);rw[hs];refine aj (aD ?_);rw[aq (by decide)];refine aj (Tuple_ (bR (ha _ pins s σ H _ I h) fun us s1 aT=>?_));obtain⟨vs,H1,I1,r1,q1⟩:=aT;obtain⟨v,w,e1,q1⟩:=q1;subst e1;obtain⟨u1,u2,rfl,rv,kZ⟩:∃u1 u2,us = [u1,u2]/\RelV v u1/\RelV w u2:=by
    cases r1 with
    | cons p q=>
      cases q with
      | cons p' q'=>
        cases q';exact⟨_,_,rfl,p,p'⟩
  refine g8 ?_ (by show 2<=sizeLine;decide);have I2:Inv X pins σ H1 { s1 with heap:=s1.heap.push { cls:=.type "tuple",data:=.seq [u1,u2].toArray } }:=I1.kept (t':=s1.toks) fun b o e=>bq _ e
  rw[hw];refine aj (aD ?_);show wpAny (model X.prog X.w) X.A (do rule "assign.swapped-stores";let items ←unpackItems (.ref s1.heap.objs.size) 2 none;assignInOrder [fun v=>bindName X.env y v,fun v=>bindName X.env x v] items.reverse;pure Flow.next) _ _ _;refine aj (gc (aj (unpackItems_tuple (items:=#[u1,u2]) (I.ok.hd hc) (IsTup.new s1.heap _) fun h' sO=>?_)));have I3:=I2.kept (h':=h') (t':=s1.toks) fun b o e=>sO b o (aW (aK e)) e
  show wpAny _ _ (assignInOrder [fun v=>bindName X.env y v,fun v=>bindName X.env x v] [u2,u1] >>= fun _=>pure Flow.next) _ _ _;refine aj (assignInOrder_cons (wpAny_bindName (Bg I3 hN hj (.inl hy) kZ (fun s2 I4=>?_) (.inr hy))));refine assignInOrder_cons (wpAny_bindName (Bg I4 hN hi (.inl hx) rv (fun s3 I5=>assignInOrder_nil (aD ?_)) (.inr hx)));rw[List.set_comm _ _ (aC qk)] at I5;exact⟨_,H1,I5,q1⟩
end
section
variable {X:Cx}{pos:Pos}
def SY (c:TT) (tb:TS):TS:=fun D σ H=>∃W:Nat->St->Hp->Prop,(∃m,W m σ H)/\∀m σ H,W m σ H->
  c σ H fun b H1=>if b=true then ∃N:St->Hp->Prop,(∀aN H',N aN H'->∃m',m'<m/\W m' aN H')/\tb { D with nx:=N,ct:=N,bk:=D.nx } σ H1 else D.nx σ H1
theorem Fl {c:Expr}{body:List Stmt}{tc:TT}{tb:TS}(hp:PassesOwn (model X.prog X.w) X.A X.env X.xe) (hc:PT X c tc) (hb:nN X body tb):PS X (.While c body [] pos) (SY tc tb):=by
  intro pins s σ H D I h;obtain⟨W,⟨m0,w0⟩,turn⟩:=h;refine wpAny_While (codeAny_whileLoop (fun n s'=>∃aN H',Inv X pins aN H' s'/\W n aN H') ?_ m0 ⟨σ,H,I,w0⟩);rintro n s1 ⟨vX,H1,I1,w1⟩;refine jC hp (bR (hc pins s1 vX H1 _ I1 (turn n vX H1 w1)) fun b s2 aT=>?_);obtain⟨H2,I2,q2⟩:=aT;cases b with
  | true=>
    obtain⟨N,hN,q2⟩:=q2;rw[av rfl];refine jC hp (bR (hb pins s2 vX H2 _ I2 q2) fun f s3 q3=>?_);cases f with
    | next=>
      obtain⟨ni,H3,I3,n3⟩:=q3;obtain⟨m',hm,w3⟩:=hN ni H3 n3;exact⟨m',hm,ni,H3,I3,w3⟩
    | cont=>
      obtain⟨ni,H3,I3,n3⟩:=q3;obtain⟨m',hm,w3⟩:=hN ni H3 n3;exact⟨m',hm,ni,H3,I3,w3⟩
    | brk=>exact q3
    | ret v=>exact q3
  | false=>
    rw[aq bJ];exact mz ⟨vX,H2,I2,q2⟩
end
structure It where
  go:Nat->Hp->Prop
  uL:Nat->Hp->V->Hp->Prop
  stop:Nat->Hp->Prop
def iw (X:Cx) (pins:aG) (H:Hp) (b:ah):Prop:=
  H b=none/\b≠X.env.locals/\b ∉ X.fs/\(b∈X.ex\/X.cW.heap.objs.size<=b)/\(∀x c,X.env.cells.lookup x=some c->c≠b)/\∀p∈X.pn++pins,p.1≠b
theorem Inv.pM {X:Cx}{pins:aG}{σ:St}{H H':Hp}{s:au}{b:ah}(I:Inv X pins σ H s) (hb:s.heap.objs.size<=b) (hn:H' b=none):iw X pins H' b:=by
  refine⟨hn,jG (dG I.lt hb),I.HJ hb,.inr (cy I.sz hb),fun x c e z=>?_,fun p hp z=>?_⟩
  · obtain⟨v,q⟩:=I.cell x c e;exact absurd (dG q.lt (by rw[z];exact hb)) (dS _)
  · exact absurd (dG (aK (I.pin p hp).1) (by rw[z];exact hb)) (dS _)
structure Turn (P:aP) (w:World) (K:aE) (tg:Expr) (J:It) (fp:List ah) (it:ah) (tn:Nat->Heap->Prop):Prop where
  mem:it∈fp
  obj:∀i h,tn i h->∀b∈fp,∃o,h.get? b=some o/\∀v,o.data≠.cell v
  keep:∀i h h',tn i h->(∀b∈fp,∀o,h.get? b=some o->h'.get? b=some o)->tn i h'
  item:∀(X:Cx),X.prog=P->X.w=w->X.K=K->X.calm=true->∀(i:Nat) (pins:aG) (s:au) (σ:St) (H:Hp) (E:aA),Inv X pins σ H s->(∀b∈fp,iw X pins H b)->tn i s.heap->J.go i H->
    wpAny (model P w) X.A (pyNext (.ref it)) (fun r s1=>∃u,r=some u/\
      wpAny (model P w) X.A (letOwnedTupleGo tg (.ref it) u) (fun _ s2=>∃x H',Inv X pins σ H' s2/\RelV x u/\J.uL i H x H'/\tn (i+1) s2.heap/\∀b∈fp,H' b=none) E s1) E s
  done:∀(X:Cx),X.prog=P->X.w=w->X.K=K->X.calm=true->∀(i:Nat) (pins:aG) (s:au) (σ:St) (H:Hp) (E:aA),Inv X pins σ H s->(∀b∈fp,iw X pins H b)->tn i s.heap->J.stop i H->
    wpAny (model P w) X.A (pyNext (.ref it)) (fun r s1=>r=none/\Inv X pins σ H s1) E s
  self:∀(A:Around) (i:Nat) (s:au) (Q:aA) (E:aA),tn i s.heap->Q (.ref it) s->wpAny (model P w) A (pyIter (.ref it)) Q E s
abbrev TI:=St->Hp->(It->Hp->Prop)->Prop
def HX (X:Cx) (pins:aG) (σ:St) (tg:Expr) (R:It->Hp->Prop) (zH:ai) (s2:au):Prop:=
  ∃(it:ah) (fp:List ah) (tn:Nat->Heap->Prop) (J:It) (H':Hp),zH = .ref it/\Inv X pins σ H' s2/\Turn X.prog X.w X.K tg J fp it tn/\tn 0 s2.heap/\(∀b∈fp,iw X pins H' b)/\R J H'
def PI (X:Cx) (tg iter:Expr) (wi:TI):Prop:=
  ∀(pins:aG) (s:au) (σ:St) (H:Hp) (R:It->Hp->Prop),Inv X pins σ H s->wi σ H R->
    wpAny (model X.prog X.w) X.A (eval iter X.env) (fun v s1=>wpAny (model X.prog X.w) X.A (pyIter v) (HX X pins σ tg R) X.xe s1) X.xe s
theorem Fo {M:Model}{A:Around}{E:aA}{s:au}{tg:Expr}{it:ah}{u:ai}{o:Obj}{n:String}{vs:Array ai}{Q:Unit->au->Prop}(ho:s.heap.get? it=some o) (hc:o.cls = .type n) (hd:o.data = .fields vs)
    (hn : ["enumerate","zip","dict_itemiterator","dict_reverseitemiterator","odict_iterator","itertools.zip_longest","itertools.pairwise"].contains n=false) (hQ:Q () s):wpAny M A (letOwnedTupleGo tg (.ref it) u) Q E s:=by
  unfold letOwnedTupleGo;cases tg<;>first
    | exact aD hQ
    | (cases u<;>first
        | exact aD hQ
        | (refine aj (wpAny_load ho ?_)
           rw[hc,hd];show wpAny M A (if (["enumerate","zip","dict_itemiterator","dict_reverseitemiterator","odict_iterator","itertools.zip_longest","itertools.pairwise"].contains n&&vs[0]? == some (rawInt _))=true then _ else _) Q E s;rw[aq (by intro h;rw[hn,Bool.false_and] at h;cases h)];exact aD hQ))
def Bh (K:aE) (a:ah):It:=
  ⟨fun i H=>∃xs x,aI K H a xs/\xs[i]? = some x,fun i H x H'=>H'=H/\∀xs,aI K H a xs->xs[i]? = some x,fun i H=>∃xs,aI K H a xs/\xs.length<=i⟩
def yr (lo:Int) (n:Nat):It:=⟨fun i _=>i<n,fun i H x H'=>H'=H/\x = .int (lo+i),fun i _=>n<=i⟩
theorem S0 {P:aP}{w:World}{K:aE}{tg:Expr}(a it:ah):Turn P w K tg (Bh K a) [it] it (fun i h=>h.IsListIter it a i) where
  mem:=by simp
  obj:=fun i h st b hb=>by
    have e:b=it:=by simpa using hb
    subst e;obtain⟨o,e,c,d⟩:=st;exact⟨o,e,fun v z=>by rw[d] at z;cases z⟩
  keep:=fun i h h' st k=>st.at fun o e=>k it (by simp) o e
  item:=by
    intro X hP hw hK hc i pins s σ H E I hf st hg;subst hP hw hK;obtain⟨xs,x,hq,hx⟩:=hg;obtain⟨its,rv,p,hz⟩:=I.list hq;obtain⟨u,hu,ru⟩:=rv.get hx;obtain⟨f0,f1,f2,f3,f4,f5⟩:=hf it (by simp);refine lX st p.isList (x:=u) (by simpa using hu) fun h' pN sb=>?_
    have I1:Inv X pins σ H { s with heap:=h' }:=I.turned (t':=s.toks) (fun b o hb e=>(sb.2 b hb).trans e) f0 f1 f3 f4 f5;obtain⟨o,e,c,d⟩:=id pN;exact⟨u,rfl,Fo (s:={ s with heap:=h' }) e c d (by decide) ⟨x,H,I1,ru,⟨rfl,fun ys hy=>by rw[I.jT hy hq];exact hx⟩,pN,fun b hb=>(hf b hb).1⟩⟩
  done:=by
    intro X hP hw hK hc i pins s σ H E I hf st hg;subst hP hw hK;obtain⟨xs,hq,hx⟩:=hg;obtain⟨its,rv,p,hz⟩:=I.list hq;obtain⟨f0,f1,f2,f3,f4,f5⟩:=hf it (by simp);have hl:=rv.length;exact l6 (I.ok.hd hc) st p.isList (by simp;lia) fun h' eb=>⟨rfl,I.turned (t':=s.toks) (fun b o hb e=>eb b o hb e) f0 f1 f3 f4 f5⟩
  self:=fun _ _ _ _ _ st h=>wpAny_pyIter_listiter st h
theorem S1 {P:aP}{w:World}{K:aE}{tg:Expr}(it:ah) (lo:Int) (n:Nat):Turn P w K tg (yr lo n) [it] it (fun i h=>IsRangeIter h it (lo+(i:Nat) * 1) ((n:Int)-(i:Nat)) 1) where
  mem:=by simp
  obj:=fun i h st b hb=>by
    have e:b=it:=by simpa using hb
    subst e;exact⟨_,st,fun v z=>by
      have z':Data.fields _=Data.cell v:=z;cases z'⟩
  keep:=fun i h h' st k=>k it (by simp) _ st
  item:=by
    intro X hP hw hK hc i pins s σ H E I hf st hg;subst hP hw hK;obtain⟨f0,f1,f2,f3,f4,f5⟩:=hf it (by simp);have W:=Walks.range (prog:=X.prog) (w:=X.w) (I.ok.hd hc) it lo 1 n;refine W.item i s _ _ hg st fun v h' tk hv pN kk=>?_
    obtain⟨t,rfl⟩:=hv;have I1:Inv X pins σ H { s with heap:=h',toks:=tk }:=I.turned (fun b o hb e=>kk b o (by simpa using hb) e) f0 f1 f3 f4 f5;refine⟨_,rfl,Fo (s:={ s with heap:=h',toks:=tk }) (n:="range_iterator") pN rfl rfl (by decide) ⟨.int (lo+i),H,I1,⟨t,?_⟩,⟨rfl,rfl⟩,pN,fun b hb=>(hf b hb).1⟩⟩;rw[Int.mul_one]
  done:=by
    intro X hP hw hK hc i pins s σ H E I hf st hg;subst hP hw hK;obtain⟨f0,f1,f2,f3,f4,f5⟩:=hf it (by simp);exact wpAny_pyNext_range_end (I.ok.hd hc) st (by have:n<=i:=hg;lia) fun h' eb=>⟨rfl,I.turned (t':=s.toks) (fun b o hb e=>eb b o hb e) f0 f1 f3 f4 f5⟩
  self:=fun _ _ _ _ _ st h=>wpAny_pyIter_rangeiter st h
section
variable {X:Cx}{tg:Expr}
def Mt (K:aE) (tl:TE):TI:=fun σ H R=>tl σ H fun x H1=>∃a,x = .ref a/\(∃xs,aI K H1 a xs)/\R (Bh K a) H1
theorem S3 {l:Expr}{tl:TE}(hl:PE X l tl):PI X tg l (Mt X.K tl):=by
  intro pins s σ H R I h;refine bR (hl pins s σ H _ I h) fun v s1 aT=>?_
  obtain⟨x,H1,I1,r1,q1⟩:=aT;obtain⟨a,e,⟨xs,hq⟩,q⟩:=q1;subst e;cases r1;obtain⟨its,rv,p,hz⟩:=I1.list hq;refine kr p.isList ?_;refine⟨s1.heap.objs.size,[s1.heap.objs.size],_,_,H1,rfl,I1.kept (t':=s1.toks) fun b o e=>bq _ e,S0 a _,⟨_,bH _ rfl,rfl,rfl⟩,fun b hb=>?_,q⟩;have e:b=s1.heap.objs.size:=by simpa using hb
  subst e;exact I1.pM (aH _) (I1.bu.fresh (aH _))
theorem Mu {pins:aG}{σ:St}{H:Hp}{s:au}{R:It->Hp->Prop}{E:aA}{lo hi:Int}{t u v:Tok}{tk:Nat}(I:Inv X pins σ H s) (h1 : -(2 ^ 62)<=lo) (h2:lo<2 ^ 62) (h3 : -(2 ^ 62)<=hi) (h4:hi<2 ^ 62)
    (q:R (yr lo (hi-lo).toNat) H):wpAny (model X.prog X.w) X.A (pyIter (.ref s.heap.objs.size)) (HX X pins σ tg R) E { s with heap:=s.heap.push { cls:=.type "range",data:=.fields #[.int lo t,.int hi u,.int 1 v] },toks:=tk }:=by
  refine wpAny_pyIter_range (IsRange.new ..) (small_one h1 h2 h3 h4) ?_;have I1:Inv X pins σ H { s with heap:=s.heap.push { cls:=.type "range",data:=.fields #[.int lo t,.int hi u,.int 1 v] },toks:=tk }:=I.kept fun b o e=>bq _ e
  refine⟨(s.heap.push { cls:=.type "range",data:=.fields #[.int lo t,.int hi u,.int 1 v] }).objs.size,[(s.heap.push { cls:=.type "range",data:=.fields #[.int lo t,.int hi u,.int 1 v] }).objs.size],_,_,H,rfl,
    I1.kept (t':=tk) fun b o e=>bq _ e,S1 _ lo (hi-lo).toNat,?_,fun b hb=>?_,q⟩
  · have e1:lo+((0:Nat):Int) * 1=lo:=by simp
    have e2:(((hi-lo).toNat:Nat):Int)-((0:Nat):Int)=Builtin.Range.rangeSize lo hi 1:=by rw[rangeSize_one];split<;>lia
    show IsRangeIter _ _ (lo+((0:Nat):Int) * 1) ((((hi-lo).toNat:Nat):Int)-((0:Nat):Int)) 1;rw[e1,e2];exact bH _ rfl
  · have e:b=(s.heap.push { cls:=.type "range",data:=.fields #[.int lo t,.int hi u,.int 1 v] }).objs.size:=by simpa using hb
    subst e;exact I1.pM (aH _) (I1.bu.fresh (aH _))
def S4 (ta:TA):TI:=fun σ H R=>ta σ H fun vs H1=>∃j:Int,vs = [.int j]/\-(2 ^ 62)<=j/\j<2 ^ 62/\R (yr 0 j.toNat) H1
def S6 (ta:TA):TI:=fun σ H R=>ta σ H fun vs H1=>∃i j:Int,vs = [.int i,.int j]/\(-(2 ^ 62)<=i/\i<2 ^ 62/\-(2 ^ 62)<=j/\j<2 ^ 62)/\R (yr i (j-i).toNat) H1
theorem HY {a:Expr}{ta:TA}{p pos:Pos}(hg:Gl X "range") (hm:X.mg "range" = none) (ha:PA X [a] ta) (hs:starEach [a] X.env = [(false,eval a X.env)]:=by rfl):PI X tg (.Call (.Name "range" p) [a] [] pos) (S4 ta):=by
  intro pins s σ H R I h;refine Call_ (zE I hg hm boot_range (ou (bR (ha pos pins s σ H _ I h) fun us s1 aT=>?_) hs rfl));obtain⟨vs,H1,I1,r1,q1⟩:=aT;obtain⟨j,e,q1,q2,q⟩:=q1;subst e;cases r1 with
  | cons r rr=>
    cases rr;obtain⟨t,rfl⟩:=r;exact call_range_1 (Mu I1 (by lia) (by lia) q1 q2 (by simpa using q))
theorem Mv {a b:Expr}{ta:TA}{p pos:Pos}(hg:Gl X "range") (hm:X.mg "range" = none) (ha:PA X [a,b] ta) (hs:starEach [a,b] X.env = [(false,eval a X.env),(false,eval b X.env)]:=by rfl) (sP:starEach [b] X.env = [(false,eval b X.env)]:=by rfl) :
    PI X tg (.Call (.Name "range" p) [a,b] [] pos) (S6 ta):=by
  intro pins s σ H R I h;refine Call_ (zE I hg hm boot_range (ou (bR (ha pos pins s σ H _ I h) fun us s1 aT=>?_) (by rw[hs,sP]) (by rw[sP];rfl)));obtain⟨vs,H1,I1,r1,q1⟩:=aT;obtain⟨i,j,e,⟨q1,q2,q3,q4⟩,q⟩:=q1;subst e;cases r1 with
  | cons r rr=>
    cases rr with
    | cons r' rr=>
      cases rr;obtain⟨t,rfl⟩:=r;obtain⟨t',rfl⟩:=r';exact call_range_2 (Mu I1 q1 q2 q3 q4 q)
def HZ (wi:TI) (g:TG) (tb:TS):TS:=fun D σ H=>wi σ H fun J H1=>∃W:Nat->Nat->St->Hp->Prop,(∃m,W 0 m σ H1)/\∀i m σ H,W i m σ H->
  (J.stop i H/\D.nx σ H)\/(J.go i H/\∃N:St->Hp->Prop,(∀aN H',N aN H'->∃m',m'<m/\W (i+1) m' aN H')/\∀x H',J.uL i H x H'->g x σ H' fun nj H2=>tb { D with nx:=N,ct:=N,bk:=D.nx } nj H2)
def Cq (fp:List ah) (h:Heap):aG:=fp.filterMap fun b=>(h.get? b).map fun o=>(b,o)
theorem Fp {fp:List ah}{h:Heap}{b:ah}{o:Obj}(hb:b∈fp) (e:h.get? b=some o):(b,o)∈Cq fp h:=List.mem_filterMap.mpr ⟨b,hb,by rw[e];rfl⟩
theorem S7 {fp:List ah}{h:Heap}{p:ah×Obj}(hp:p∈Cq fp h):p.1∈fp/\h.get? p.1=some p.2:=by
  obtain⟨b,hb,e⟩:=List.mem_filterMap.mp hp;cases q:h.get? b with
  | none=>rw[q] at e;cases e
  | some o=>
    rw[q] at e;have e':(b,o)=p:=cD e;subst e';exact⟨hb,q⟩
theorem Inv.pinned {pins:aG}{σ:St}{H:Hp}{s:au}{fp:List ah}(I:Inv X pins σ H s) (hf:∀b∈fp,iw X pins H b) (ho:∀b∈fp,∃o,s.heap.get? b=some o/\∀v,o.data≠.cell v):Inv X (pins++Cq fp s.heap) σ H s:=
  I.rM fun p hp=>(br.mp hp).elim (fun z=>I.pin p (e8 _ z)) fun z=>by
    obtain⟨hb,e⟩:=S7 z;obtain⟨f0,f1,f2,_⟩:=hf p.1 hb;obtain⟨o,e',d⟩:=ho p.1 hb;rw[e] at e';cases e';exact⟨e,f0,f1,f2,d⟩
theorem Inv.jU {pins pl:aG}{σ:St}{H:Hp}{s:au}(I:Inv X (pins++pl) σ H s):Inv X pins σ H s:=I.rM fun p hp=>I.pin p (e8 _ (cT _ hp))
theorem iN {iter:Expr}{body:List Stmt}{wi:TI}{g:TG}{tb:TS}{pos:Pos}(hp:PassesOwn (model X.prog X.w) X.A X.env X.xe) (hc:X.calm=true) (hi:PI X tg iter wi) (hg:PG X tg g) (hb:nN X body tb)
    (hs:∀x,foldedSetIterable iter X.env x=pure x:=by intro _;rfl):PS X (.For tg iter body [] pos) (HZ wi g tb):=by
  intro pins s σ H D I h;refine wpAny_For (bR (hi pins s σ H _ I h) fun v s1 h1=>bR h1 fun zH s2 h2=>?_) hs;obtain⟨it,fp,tn,J,H2,e,I2,T,Fq,f2,W,⟨m0,w0⟩,turn⟩:=h2;subst e;have qH:∀{H':Hp},(∀b∈fp,H' b=none)->∀b∈fp,iw X pins H' b:=fun hn b hb=>⟨hn b hb,(f2 b hb).2⟩
  refine codeAny_forLoop_any (fun n s'=>∃i aN H',Inv X pins aN H' s'/\tn i s'.heap/\(∀b∈fp,H' b=none)/\W i n aN H') ?_ m0 ⟨0,σ,H2,I2,Fq,fun b hb=>(f2 b hb).1,w0⟩;rintro n s3 ⟨i,ni,H3,I3,Mw,Mx,w3⟩;rcases turn i n ni H3 w3 with ⟨stop,qn⟩ | ⟨go,N,hN,step⟩
  · refine jC hp (bR (T.done X rfl rfl rfl hc i pins s3 ni H3 X.xe I3 (qH Mx) Mw stop) fun r s4 aT=>?_);obtain⟨hr,I4⟩:=aT;subst hr;exact mz ⟨ni,H3,I4,qn⟩
  · refine jC hp (bR (T.item X rfl rfl rfl hc i pins s3 ni H3 X.xe I3 (qH Mx) Mw go) fun r s4 aT=>?_);obtain⟨u,hr,h4⟩:=aT;subst hr;refine jC hp (bR h4 fun _ s5 aT=>?_);obtain⟨x,H5,I5,r5,y5,Bj,Ft⟩:=aT;have S8:=I5.pinned (qH Ft) (T.obj _ _ Bj);refine jC hp (bR (hg _ s5 ni H5 x u _ S8 r5 (step x H5 y5)) fun _ s6 aT=>?_);obtain⟨Tc,H6,I6,q6⟩:=aT;refine jC hp (bR (hb _ s6 Tc H6 _ I6 q6) fun f s7 q7=>?_);have again:∀{uM:St}{H7:Hp},Inv X (pins++Cq fp s5.heap) uM H7 s7->N uM H7->∃m,m<n/\∃i aN H',Inv X pins aN H' s7/\tn i s7.heap/\(∀b∈fp,H' b=none)/\W i m aN H':=fun {uM H7} I7 n7=>by
      obtain⟨m',hm,w7⟩:=hN uM H7 n7;refine⟨m',hm,i+1,uM,H7,I7.jU,T.keep _ _ _ Bj fun b hb o e=>(I7.pin (b,o) (e8 _ (e8 _ (Fp hb e)))).1,fun b hb=>?_,w7⟩;obtain⟨o,e,d⟩:=T.obj _ _ Bj b hb;exact (I7.pin (b,o) (e8 _ (e8 _ (Fp hb e)))).2.1
    cases f with
    | next=>obtain⟨uM,H7,I7,n7⟩:=q7;exact again I7 n7
    | cont=>obtain⟨uM,H7,I7,n7⟩:=q7;exact again I7 n7
    | brk=>obtain⟨uM,H7,I7,q7⟩:=q7;exact⟨uM,H7,I7.jU,q7⟩
    | ret v=>obtain⟨x7,uM,H7,I7,r7,q7⟩:=q7;exact⟨x7,uM,H7,I7.jU,r7,q7⟩
end
theorem lQ {K:aE}{a:ah}{xs:List V}{g:TG}{tb:TS}{D:Ends}{σ:St}{H:Hp}(Pv:Nat->St->Hp->Prop) (h0:Pv 0 σ H) (hl:∀i σ H,i<=xs.length->Pv i σ H->aI K H a xs)
    (hs:∀i x σ H,xs[i]? = some x->Pv i σ H->g x σ H fun nj H2=>tb { D with nx:=Pv (i+1),ct:=Pv (i+1),bk:=D.nx } nj H2) (hd:∀σ H,Pv xs.length σ H->D.nx σ H) :
    ∃W:Nat->Nat->St->Hp->Prop,(∃m,W 0 m σ H)/\∀i m σ H,W i m σ H->
      ((Bh K a).stop i H/\D.nx σ H)\/((Bh K a).go i H/\∃N:St->Hp->Prop,(∀aN H',N aN H'->∃m',m'<m/\W (i+1) m' aN H')/\∀x H',(Bh K a).uL i H x H'->g x σ H' fun nj H2=>tb { D with nx:=N,ct:=N,bk:=D.nx } nj H2):=by
  refine⟨fun i m σ H=>m=xs.length-i/\i<=xs.length/\Pv i σ H,⟨xs.length,by simp,c6 _,h0⟩,?_⟩;rintro i m σ H ⟨rfl,hi,p⟩;have q:=hl i σ H hi p
  by_cases dz:i<xs.length
  · refine .inr ⟨⟨xs,xs[i],q,by simp[dz]⟩,Pv (i+1),fun aN H' p'=>⟨xs.length-(i+1),by lia,rfl,dz,p'⟩,fun x H' y=>?_⟩;obtain⟨e,y⟩:=y;subst e;exact hs i x σ _ (y xs q) p
  · have e:i=xs.length:=by lia
    subst e;exact .inl ⟨⟨xs,q,aH _⟩,hd σ H p⟩
theorem Ia {lo:Int}{n:Nat}{g:TG}{tb:TS}{D:Ends}{σ:St}{H:Hp}(Pv:Nat->St->Hp->Prop) (h0:Pv 0 σ H)
    (hs:∀i σ H,i<n->Pv i σ H->g (.int (lo+i)) σ H fun nj H2=>tb { D with nx:=Pv (i+1),ct:=Pv (i+1),bk:=D.nx } nj H2) (hd:∀σ H,Pv n σ H->D.nx σ H) :
    ∃W:Nat->Nat->St->Hp->Prop,(∃m,W 0 m σ H)/\∀i m σ H,W i m σ H->
      ((yr lo n).stop i H/\D.nx σ H)\/((yr lo n).go i H/\∃N:St->Hp->Prop,(∀aN H',N aN H'->∃m',m'<m/\W (i+1) m' aN H')/\∀x H',(yr lo n).uL i H x H'->g x σ H' fun nj H2=>tb { D with nx:=N,ct:=N,bk:=D.nx } nj H2):=by
  refine⟨fun i m σ H=>m=n-i/\i<=n/\Pv i σ H,⟨n,by simp,c6 _,h0⟩,?_⟩;rintro i m σ H ⟨rfl,hi,p⟩
  by_cases dz:i<n
  · refine .inr ⟨dz,Pv (i+1),fun aN H' p'=>⟨n-(i+1),by lia,rfl,dz,p'⟩,fun x H' y=>?_⟩;obtain⟨e,y⟩:=y;subst e y;exact hs i σ _ dz p
  · have e:i=n:=by lia
    subst e;exact .inl ⟨aH _,hd σ H p⟩
abbrev R2:=V->V->Hp->VK->Prop
def jJ (X:Cx) (f:ai->ai->Sem ai) (r:R2):Prop:=
  ∀(pins:aG) (s:au) (σ:St) (H:Hp) (x y:V) (v u:ai) (Q:VK),Inv X pins σ H s->RelV x v->RelV y u->r x y H Q->
    wpAny (model X.prog X.w) X.A (f v u) (EP X pins σ Q) X.xe s
def Ib (X:Cx) (f:ai->Sem ai) (r:V->Hp->VK->Prop):Prop:=
  ∀(pins:aG) (s:au) (σ:St) (H:Hp) (x:V) (v:ai) (Q:VK),Inv X pins σ H s->RelV x v->r x H Q->
    wpAny (model X.prog X.w) X.A (f v) (EP X pins σ Q) X.xe s
def mH (X:Cx) (f:ai) (r:List V->Hp->VK->Prop):Prop:=
  ∀(pins:aG) (s:au) (σ:St) (H:Hp) (xs:List V) (us:List ai) (Q:VK),Inv X pins σ H s->Vals xs us->r xs H Q->
    wpAny (model X.prog X.w) X.A (call f us) (EP X pins σ Q) X.xe s
def Cr (r:R2) (ta tb:TE):TE:=fun σ H Q=>ta σ H fun x H1=>tb σ H1 fun y H2=>r x y H2 Q
def Td (r:V->Hp->VK->Prop) (ta:TE):TE:=fun σ H Q=>ta σ H fun x H1=>r x H1 Q
def rI (C:Int->Int->Prop) (g:Int->Int->V):R2:=fun x y H Q=>∃i j,x = .int i/\y = .int j/\C i j/\Q (g i j) H
inductive Ic (g:Int->Int->V) (x y:V) (H:Hp) (Q:VK):Prop
  | mk (i j:Int) (_:x = .int i) (_:y = .int j) (_:Q (g i j) H)
def zI (g:Int->Int->V):R2:=fun x y H Q=>Ic g x y H Q
def rU (g:Int->V):V->Hp->VK->Prop:=fun x H Q=>∃i,x = .int i/\Q (g i) H
section
variable {X:Cx}{a b c:Expr}{ta tb tc:TE}{pos:Pos}
theorem zJ (ha:PE X a ta) (hb:PE X b tb) {pins:aG}{s:au}{σ:St}{H:Hp}{R:V->V->Hp->Prop}(I:Inv X pins σ H s)
    (h:ta σ H fun x H1=>tb σ H1 fun y H2=>R x y H2) {Q:aA}{f:ai->ai->Sem ai}
    (hf:∀v u s2 x y H2,Inv X pins σ H2 s2->RelV x v->RelV y u->R x y H2->wpAny (model X.prog X.w) X.A (f v u) Q X.xe s2) :
    wpAny (model X.prog X.w) X.A (eval a X.env) (fun v bA=>wpAny (model X.prog X.w) X.A (eval b X.env) (fun u iK=>wpAny (model X.prog X.w) X.A (f v u) Q X.xe iK) X.xe bA) X.xe s:=by
  refine bR (ha pins s σ H _ I h) fun v s1 aT=>?_
  obtain⟨x,H1,I1,r1,q1⟩:=aT;refine bR (hb pins s1 σ H1 _ I1 q1) fun u s2 aT=>?_
  obtain⟨y,H2,I2,r2,q2⟩:=aT;exact hf v u s2 x y H2 I2 r1 r2 q2
theorem fJ {op:Operator}{r:R2}(ho:jJ X (binaryOp op) r) (ha:PE X a ta) (hb:PE X b tb):PE X (.BinOp a op b pos) (Cr r ta tb):=by
  intro pins s σ H Q I h;exact wpAny_BinOp (zJ ha hb I h fun v u s2 x y H2 I2 rx ry q=>ho pins s2 σ H2 x y v u Q I2 rx ry q)
theorem yt {op:UnaryOp}{r:V->Hp->VK->Prop}(ho:Ib X (unaryOp op) r) (ha:PE X a ta):PE X (.UnaryOp op a pos) (Td r ta):=by
  intro pins s σ H Q I h;exact UnaryOp_ (bR (ha pins s σ H _ I h) fun v s1 ⟨x,H1,I1,r1,q1⟩=>ho pins s1 σ H1 x v Q I1 r1 q1)
theorem Fv {f:ai->ai->Sem ai}{C:Int->Int->Prop}{g:Int->Int->Int}
    (rule:∀(i j:Int) (t u:Tok) (s:au) (Q:aA) (E:aA),C i j->Q (.int (g i j) s.toks) { s with toks:=s.toks+1 }->wpAny (model X.prog X.w) X.A (f (.int i t) (.int j u)) Q E s) :
    jJ X f (rI C fun i j=>.int (g i j)):=by
  intro pins s σ H x y v u Q I rx ry h;obtain⟨i,j,rfl,rfl,hc,q⟩:=h;obtain⟨t,rfl⟩:=rx;obtain⟨t',rfl⟩:=ry;exact rule i j t t' s _ _ hc ⟨.int (g i j),H,I.tok _,⟨_,rfl⟩,q⟩
theorem Cs {f:ai->ai->Sem ai}{g:Int->Int->Int}
    (rule:∀(i j:Int) (t u:Tok) (s:au) (Q:aA) (E:aA),Q (.int (g i j) s.toks) { s with toks:=s.toks+1 }->wpAny (model X.prog X.w) X.A (f (.int i t) (.int j u)) Q E s) :
    jJ X f (zI fun i j=>.int (g i j)):=by
  intro pins s σ H x y v u Q I rx ry h;obtain⟨i,j,rfl,rfl,q⟩:=h;obtain⟨t,rfl⟩:=rx;obtain⟨t',rfl⟩:=ry;exact rule i j t t' s _ _ ⟨.int (g i j),H,I.tok _,⟨_,rfl⟩,q⟩
theorem zK {f:ai->ai->Sem ai}{g:Int->Int->Bool}
    (rule:∀(i j:Int) (t u:Tok) (s:au) (Q:aA) (E:aA),Q (.bool (g i j)) s->wpAny (model X.prog X.w) X.A (f (.int i t) (.int j u)) Q E s) :
    jJ X f (zI fun i j=>.bl (g i j)):=by
  intro pins s σ H x y v u Q I rx ry h;obtain⟨i,j,rfl,rfl,q⟩:=h;obtain⟨t,rfl⟩:=rx;obtain⟨t',rfl⟩:=ry;exact rule i j t t' s _ _ ⟨.bl (g i j),H,I,rfl,q⟩
def Ie (i j:Int):Prop:=0<j/\j<1073741824
def zL (i j:Int):Prop:=0<=j/\j<=1000000/\i.natAbs<2 ^ 64
def zM (i j:Int):Prop:=(-(2 ^ 64)<i/\i<2 ^ 64)\/(-(2 ^ 64)<j/\j<2 ^ 64)
theorem zM.ok {i j:Int}(h:zM i j):IntMulOk i j:=by
  rcases h with ⟨h1,h2⟩ | ⟨h1,h2⟩
  · exact .of_left (intBits_le_64 h1 h2)
  · exact .of_right (intBits_le_64 h1 h2)
theorem um:jJ X (binaryOp .Add) (zI fun i j=>.int (i+j)):=Cs fun _ _ _ _ _ _ _ q=>add_int q
theorem My:jJ X (binaryOp .Sub) (zI fun i j=>.int (i-j)):=Cs fun _ _ _ _ _ _ _ q=>sub_int q
theorem Ct:jJ X (binaryOp .Mult) (rI zM fun i j=>.int (i * j)):=Fv fun _ _ _ _ _ _ _ hc q=>mul_int q hc.ok
theorem Tf:jJ X (binaryOp .FloorDiv) (rI Ie fun i j=>.int (i / j)):=Fv fun i j _ _ _ _ _ hc q=>by
  have h1:(0:Int)<j:=hc.1;have h2:j<1073741824:=hc.2;exact floordiv_int (by lia) (by rw[Int.fdiv_eq_ediv_of_nonneg i (by lia)];exact q) (.inl (PyProof.noPylong_small (by lia)))
theorem w6:jJ X (binaryOp .Mod) (rI (fun _ j=>0<j) fun i j=>.int (i%j)):=Fv fun i j _ _ _ _ _ hc q=>by
  have h1:(0:Int)<j:=hc;exact mod_int' (by lia) (by rw[Int.fmod_eq_emod_of_nonneg i (by lia)];exact q)
theorem Cu:jJ X (binaryOp .Pow) (rI zL fun i j=>.int (i ^ j.toNat)):=Fv fun _ _ _ _ _ _ _ hc q=>pow_int_small hc.1 hc.2.1 hc.2.2 q
theorem Tg {f:ai->Sem ai}{g:Int->Int}
    (rule:∀(i:Int) (t:Tok) (s:au) (Q:aA) (E:aA),Q (.int (g i) s.toks) { s with toks:=s.toks+1 }->wpAny (model X.prog X.w) X.A (f (.int i t)) Q E s) :
    Ib X f (rU fun i=>.int (g i)):=by
  intro pins s σ H x v Q I rx h;obtain⟨i,rfl,q⟩:=h;obtain⟨t,rfl⟩:=rx;exact rule i t s _ _ ⟨.int (g i),H,I.tok _,⟨_,rfl⟩,q⟩
theorem yu:Ib X (unaryOp .USub) (rU fun i=>.int (-i)):=Tg fun _ _ _ _ _ q=>neg_int q
end
def Cv:V->V->Bool
  | .cQ,.cQ=>true | .cQ,.int _=>true | .int _,.cQ=>true | .cQ,.bl _=>true | .bl _,.cQ=>true | .cQ,.str _=>true | .str _,.cQ=>true
  | .int _,.int _=>true | .bl _,.bl _=>true | .str _,.str _=>true | .sJ _,.sJ _=>true
  | .int _,.str _=>true | .str _,.int _=>true | .bl _,.str _=>true | .str _,.bl _=>true
  | _,_=>false
def Th:R2:=fun x y H Q=>Cv x y=true/\Q (.bl (decide (x=y))) H
def Ti:R2:=fun x y H Q=>Cv x y=true/\Q (.bl (!decide (x=y))) H
theorem Mz {i j:Int}:decide (V.int i=V.int j)=(i == j):=by
  rw[jD];simp
theorem MA {i j:Bool}:decide (V.bl i=V.bl j)=(i == j):=by
  rw[jD];simp
theorem MB {i j:Str}:decide (V.str i=V.str j)=(i == j):=by
  rw[jD];simp
theorem MC {i j:Array UInt8}:decide (V.sJ i=V.sJ j)=(i.toList == j.toList):=by
  rw[jD];cases i;cases j;simp
section
variable {X:Cx}{a b c:Expr}{ta tb tc:TE}{pos:Pos}
theorem jN {pins:aG}{σ:St}{H:Hp}{s:au}{Q:VK}{k k':Bool}(I:Inv X pins σ H s) (q:Q (.bl k) H) (e:k=k'):EP X pins σ Q (.bool k') s:=by
  subst e;exact⟨.bl k,H,I,rfl,q⟩
theorem vY:jJ X (compareOp .Eq) Th:=by
  intro pins s σ H x y v u Q I rx ry h;obtain⟨hs,q⟩:=h;cases x with
  | cQ=>
    cases rx;cases y with
    | cQ=>cases ry;exact PySem.EqNone.eq_none_none (jN I q (by simp))
    | bl j=>cases ry;exact PySem.EqNone.eq_none_bool (jN I q (by simp))
    | int j=>obtain⟨t',rfl⟩:=ry;exact PySem.EqNone.eq_none_int (jN I q (by simp))
    | str j=>obtain⟨t',rfl⟩:=ry;exact PySem.EqNone.eq_none_str (jN I q (by simp))
    | _=>exact absurd (show false=true from hs) bJ
  | bl i=>
    cases rx;cases y with
    | cQ=>cases ry;exact PySem.EqNone.eq_bool_none (jN I q (by simp))
    | bl j=>cases ry;exact eq_bool (jN I q MA)
    | str j=>obtain⟨t',rfl⟩:=ry;exact PySem.EqMixed.eq_bool_str (jN I q (by simp))
    | _=>exact absurd (show false=true from hs) bJ
  | int i=>
    obtain⟨t,rfl⟩:=rx;cases y with
    | cQ=>cases ry;exact PySem.EqNone.eq_int_none (jN I q (by simp))
    | int j=>obtain⟨t',rfl⟩:=ry;exact eq_int (jN I q Mz)
    | str j=>obtain⟨t',rfl⟩:=ry;exact PySem.EqMixed.eq_int_str (jN I q (by simp))
    | _=>exact absurd (show false=true from hs) bJ
  | str i=>
    obtain⟨t,rfl⟩:=rx;cases y with
    | cQ=>cases ry;exact PySem.EqNone.eq_str_none (jN I q (by simp))
    | bl j=>cases ry;exact PySem.EqMixed.eq_str_bool (jN I q (by simp))
    | int j=>obtain⟨t',rfl⟩:=ry;exact PySem.EqMixed.eq_str_int (jN I q (by simp))
    | str j=>obtain⟨t',rfl⟩:=ry;exact eq_str (jN I q MB)
    | _=>exact absurd (show false=true from hs) bJ
  | sJ i=>
    obtain⟨t,rfl⟩:=rx;cases y with
    | sJ j=>obtain⟨t',rfl⟩:=ry;exact PySem.W.eq_bytes (jN I q MC)
    | _=>exact absurd (show false=true from hs) bJ
  | _=>cases y<;>exact absurd (show false=true from hs) bJ
theorem Tj:jJ X (compareOp .NotEq) Ti:=by
  intro pins s σ H x y v u Q I rx ry h;obtain⟨hs,q⟩:=h;cases x with
  | cQ=>
    cases rx;cases y with
    | cQ=>cases ry;exact PySem.EqNone.ne_none_none (jN I q (by simp))
    | bl j=>cases ry;exact PySem.EqNone.ne_none_bool (jN I q (by simp))
    | int j=>obtain⟨t',rfl⟩:=ry;exact PySem.EqNone.ne_none_int (jN I q (by simp))
    | str j=>obtain⟨t',rfl⟩:=ry;exact PySem.EqNone.ne_none_str (jN I q (by simp))
    | _=>exact absurd (show false=true from hs) bJ
  | bl i=>
    cases rx;cases y with
    | cQ=>cases ry;exact PySem.EqNone.ne_bool_none (jN I q (by simp))
    | bl j=>cases ry;exact ne_bool (jN I q (bX not MA))
    | str j=>obtain⟨t',rfl⟩:=ry;exact PySem.EqMixed.ne_bool_str (jN I q (by simp))
    | _=>exact absurd (show false=true from hs) bJ
  | int i=>
    obtain⟨t,rfl⟩:=rx;cases y with
    | cQ=>cases ry;exact PySem.EqNone.ne_int_none (jN I q (by simp))
    | int j=>obtain⟨t',rfl⟩:=ry;exact ne_int (jN I q (bX not Mz))
    | str j=>obtain⟨t',rfl⟩:=ry;exact PySem.EqMixed.ne_int_str (jN I q (by simp))
    | _=>exact absurd (show false=true from hs) bJ
  | str i=>
    obtain⟨t,rfl⟩:=rx;cases y with
    | cQ=>cases ry;exact PySem.EqNone.ne_str_none (jN I q (by simp))
    | bl j=>cases ry;exact PySem.EqMixed.ne_str_bool (jN I q (by simp))
    | int j=>obtain⟨t',rfl⟩:=ry;exact PySem.EqMixed.ne_str_int (jN I q (by simp))
    | str j=>obtain⟨t',rfl⟩:=ry;exact ne_str (jN I q (bX not MB))
    | _=>exact absurd (show false=true from hs) bJ
  | sJ i=>
    obtain⟨t,rfl⟩:=rx;cases y with
    | sJ j=>obtain⟨t',rfl⟩:=ry;exact PySem.W.ne_bytes (jN I q (bX not MC))
    | _=>exact absurd (show false=true from hs) bJ
  | _=>cases y<;>exact absurd (show false=true from hs) bJ
theorem Bl:jJ X (compareOp .Lt) (zI fun i j=>.bl (decide (i<j))):=zK fun _ _ _ _ _ _ _ q=>lt_int q
theorem Cw:jJ X (compareOp .Gt) (zI fun i j=>.bl (decide (j<i))):=zK fun _ _ _ _ _ _ _ q=>gt_int q
theorem Tn:jJ X (compareOp .GtE) (zI fun i j=>.bl (decide (j<=i))):=zK fun _ _ _ _ _ _ _ q=>ge_int q
theorem iy (b:Expr) {op:CmpOp}(h:op≠.In:=by decide) (h2:op≠.NotIn:=by decide):behindInMarks op b=false:=by
  have e1:(op == CmpOp.In)=false:=by cases op<;>first | rfl | exact absurd rfl h
  have e2:(op == CmpOp.NotIn)=false:=by cases op<;>first | rfl | exact absurd rfl h2
  cases b<;>simp[behindInMarks,e1,e2]
theorem Cy {op:CmpOp}{r:R2}(ho:jJ X (compareOp op) r) (ha:PE X a ta) (hb:PE X b tb) (hm:behindInMarks op b=false):PE X (.Compare a [op] [b] pos) (Cr r ta tb):=by
  intro pins s σ H Q I h;exact wpAny_Compare1 (zJ ha hb I h fun v u s2 x y H2 I2 rx ry q=>ho pins s2 σ H2 x y v u Q I2 rx ry q) hm
def To (t:TE):TT:=fun σ H Q=>t σ H fun x H'=>∃k,x = .bl k/\Q k H'
theorem iU {op:CmpOp}{r:R2}(ho:jJ X (compareOp op) r) (ha:PE X a ta) (hb:PE X b tb) (hm:behindInMarks op b=false):PT X (.Compare a [op] [b] pos) (To (Cr r ta tb)):=by
  intro pins s σ H Q I h;refine wpAny_isTrue_Compare1 (bR (ha pins s σ H _ I h) fun v s1 ⟨x,H1,I1,r1,q1⟩=>bR (hb pins s1 σ H1 _ I1 q1) fun u s2 ⟨y,H2,I2,r2,q2⟩=>
    bR (ho pins s2 σ H2 x y v u _ I2 r1 r2 q2) fun c s3 ⟨z,H3,I3,r3,k,e,q3⟩=>?_) hm
  subst e;cases r3;exact jQ ⟨H3,I3,q3⟩
theorem Fx:(sizeLine:Nat)<2 ^ 63:=by rw[dW];decide
theorem Tp:jJ X (binaryOp .Add) (fun x y H Q=>∃i j,x = .str i/\y = .str j/\i.length+j.length<=sizeLine/\Q (.str (i++j)) H):=by
  intro pins s σ H x y v u Q I rx ry h;obtain⟨i,j,rfl,rfl,hz,q⟩:=h;obtain⟨t,rfl⟩:=rx;obtain⟨t',rfl⟩:=ry;exact add_str (fun t' tk=>⟨.str (i++j),H,I.tok _,⟨_,rfl⟩,q⟩) hz
theorem pO {x:V}{us:List ai}(r:Vals [x] us):∃u,us = [u]/\RelV x u:=by
  cases r with
  | cons r1 r2=>cases r2;exact⟨_,rfl,r1⟩
theorem zN {x y:V}{us:List ai}(r:Vals [x,y] us):∃u w',us = [u,w']/\RelV x u/\RelV y w':=by
  cases r with
  | cons r1 r2=>
    cases r2 with
    | cons r3 r4=>cases r4;exact⟨_,_,rfl,r1,r3⟩
theorem Tq (hc:X.calm=true):mH X (.builtin "max") (fun xs H Q=>∃i j,xs = [.int i,.int j]/\Q (.int (if j > i then j else i)) H):=by
  intro pins s σ H xs us Q I r h;obtain⟨i,j,rfl,q⟩:=h;obtain⟨u,w',rfl,⟨t,rfl⟩,⟨t',rfl⟩⟩:=zN r;refine max_two_ints (I.ok.hd hc) fun h' tk k=>⟨_,H,I.kept k,?_,q⟩
  by_cases hj:j > i
  · rw[av hj,av hj];exact⟨_,rfl⟩
  · rw[aq hj,aq hj];exact⟨_,rfl⟩
theorem Tt (hc:X.calm=true):mH X (.builtin "min") (fun xs H Q=>∃i j,xs = [.int i,.int j]/\Q (.int (if j<i then j else i)) H):=by
  intro pins s σ H xs us Q I r h;obtain⟨i,j,rfl,q⟩:=h;obtain⟨u,w',rfl,⟨t,rfl⟩,⟨t',rfl⟩⟩:=zN r;refine min_two_ints (I.ok.hd hc) fun h' tk k=>⟨_,H,I.kept k,?_,q⟩
  by_cases hj:j<i
  · rw[av hj,av hj];exact⟨_,rfl⟩
  · rw[aq hj,aq hj];exact⟨_,rfl⟩
end
structure qI (h:Heap) (x dx C:ah) (mA:Str->Option ai):Prop where
  obj:h.get? x=some (PySem.W.instObj C dx)
  ns:h.Ns1 dx mA
  ne:dx≠x
theorem Ig {h:Heap}{dx:ah}{mA:Str->Option ai}(n:h.Ns1 dx mA):∃od,h.get? dx=some od/\∀name,PySem.W.lookIn name od=some (mA name):=by
  obtain⟨o,es,ep,ho,hd,hk,_,hm⟩:=n;refine⟨o,ho,fun name=>?_⟩;have e:=hm name;unfold nsFind findBy at e;rw[←Array.find?_toList] at e;unfold PySem.W.lookIn;rw[hd];dsimp only;split
  · rename_i y q;rw[q] at e;exact bX some e
  · rename_i q;rw[q] at e;have a:es.toList.any (·.refKey)=false:=by
      rw[List.any_eq_false];intro y hy;obtain⟨z,t,Ih⟩:=hk y (Array.mem_toList_iff.mp hy);simp[DictEntry.refKey,Ih]
    have a':¬es.toList.any (·.refKey)=true:=by rw[a];exact bJ
    rw[aq a'];exact bX some e
theorem qI.look {h:Heap}{x dx C:ah}{mA:Str->Option ai}(I:qI h x dx C mA):∃od,PySem.W.InstAt h x (PySem.W.instObj C dx) C (some od)/\∀name,PySem.W.lookIn name od=some (mA name):=
  let ⟨od,ho,hl⟩:=Ig I.ns
  ⟨od,⟨I.obj,rfl,rfl,ho⟩,hl⟩
section
variable {prog:aP}{w:World}{A:Around}{E:aA}{s:au}{K:aE}{x dx C f:ah}{mA:Str->Option ai}{name:Str}{v:ai}
theorem Tu {expr:Bool}{Q:aA}(X:K.In s.heap) (I:qI s.heap x dx C mA) (hg:PySem.W.plainGet K C name=true) (hh:PySem.W.hasDictIn K C=true)
    (ha:PySem.W.findIn K (.ref C) name=some none) (hv:mA name=some v) (Cz:PySem.W.handedIn v=true) (h:Q v { s with toks:=s.toks+1 }) :
    wpAny (model prog w) A (getAttr (.ref x) name expr) Q E s:=by
  obtain⟨od,J,hl⟩:=I.look;exact PySem.W.get_value X J (PySem.W.plainGet_of hg).1 (PySem.W.findObj_own hh ha rfl (by rw[hl,hv])) Cz h
theorem Tv {pl:Sem Bool}{Q:ai×List ai->au->Prop}(X:K.In s.heap) (I:qI s.heap x dx C mA) (hg:PySem.W.plainGet K C name=true)
    (hf:PySem.W.findIn K (.ref C) name=some (some (.ref f))) (ht:PySem.W.isFn K (.ref f)=true) (hv:mA name=none) (h:Q (.ref f,[.ref x]) s) :
    wpAny (model prog w) A (getMethod (.ref x) name pl) Q E s:=by
  obtain⟨od,J,hl⟩:=I.look;exact PySem.W.method_fn X J (PySem.W.plainGet_of hg).1 (PySem.W.plainGet_of hg).2 hf (fC.mp ht) (by show (PySem.W.lookIn name od).map (·.isSome)=some false;rw[hl,hv];rfl) h
theorem Tw {ns:List Str}{Q:Unit->au->Prop}(X:K.In s.heap) (I:qI s.heap x dx C mA)
    (hs:PySem.W.findIn K (.ref C) "__setattr__" = some (some (.builtin "object.__setattr__"))) (hp:PySem.W.plainOver K C=true) (ht:PySem.W.takerIn K C name=some none) (hh:PySem.W.hasDictIn K C=true)
    (hw:PySem.Within mA ns) (hsz:ns.length<=sizeLine)
    (h:∀h',qI h' x dx C (fun y=>if y=name then some v else mA y)->Heap.SameBut dx s.heap h'->Q () { s with heap:=h',toks:=s.toks+2 }) :
    wpAny (model prog w) A (setAttr (.ref x) name v) Q E s:=by
  obtain⟨od,J,hl⟩:=I.look;refine PySem.W.set_plain X J hs (PySem.W.osa_open (s:={ s with toks:=s.toks+1 }) (r:=none) X J hp ht fun b=>?_);obtain⟨cd,hc,vU⟩:=PySem.W.any_some hh;have hx:s.heap.get? x=some ⟨.ref C,some dx,.plain,#[]⟩:=I.obj;refine aj (aD (aj (aj (wpAny_loadPart hx (aj (PySem.W.Looks.here (s:={ s with toks:=s.toks+1 }) (PySem.W.looks_clsIn X hc) ?_))))));rw[vU];refine aD (a:=some dx) (aj (aD (aj ?_)));refine wpAny_nsSet1 (s:={ s with toks:=s.toks+1 }) I.ns fun h' rO sP=>?_
  obtain⟨oD,Tz,TF,Ii,Ij,Ik⟩:=rO.count (PySem.Within.cons name v hw);refine aj (wpAny_lookBehind Ii (by rw[Ij];exact pastItsLine_dict (cy Ik (by rw[fh];lia))) ?_);exact aD (h _ ⟨(sP.2 _ (aC I.ne)).trans I.obj,rO,I.ne⟩ sP)
theorem TJ {R:Result->au->Prop}{vs:List ai}{kw:List (Str×ai)}(X:K.In s.heap) (hm:PySem.W.makesIn K C=true)
    (hi:PySem.W.findIn K (.ref C) "__init__" = some (some (.ref f))) (hf:PySem.W.typeIn K (.ref f)=some (.type "function"))
    (h:codeAny (model prog w) (A.under (.builtin "type.__call__" ⟨.ref C::vs,kw⟩)) (.call (.ref f) ⟨.ref (s.heap.objs.size+1)::vs,kw⟩) (PySem.W.InitBack (s.heap.objs.size+1) R)
      { s with heap:=(s.heap.push PySem.W.emptyDict).push (PySem.W.instObj C s.heap.objs.size) }) :
    codeAny (model prog w) A (.call (.ref C) ⟨vs,kw⟩) R s:=by
  obtain⟨hh,g,d,t,os⟩:=s;exact PySem.W.make_core (PySem.W.makes_of X hm) (PySem.W.looks_findIn X hi) (fun self=>PySem.W.bind_fn X self hf) (.inl rfl) h
end
def bS (f:Str) (v:V):List (Str×V)->List (Str×V)
  | []=>[(f,v)]
  | (g,x)::r=>if g=f then (g,v)::r else (g,x)::bS f v r
theorem MD (f g:Str) (v:V):∀fs:List (Str×V),(bS f v fs).lookup g=if g=f then some v else fs.lookup g
  | []=>by
    show List.lookup g [(f,v)]=_
    by_cases h:g=f
    · have hb:(g == f)=true:=fC.mpr h;simp only [List.lookup,hb,av h]
    · have hb:(g == f)=false:=fP.mpr h;simp only [List.lookup,hb,aq h]
  | (k,x)::r=>by
    have ih:=MD f g v r;rw[show bS f v ((k,x)::r)=(if k=f then (k,v)::r else (k,x)::bS f v r) from rfl]
    by_cases hk:k=f
    · rw[av hk]
      by_cases h:g=k
      · have hb:(g == k)=true:=fC.mpr h;simp only [List.lookup,hb,av (h.trans hk)]
      · have hb:(g == k)=false:=fP.mpr h;simp only [List.lookup,hb,aq (fun e:g=f=>h (e.trans hk.symm))]
    · rw[aq hk]
      by_cases h:g=k
      · have hb:(g == k)=true:=fC.mpr h;simp only [List.lookup,hb,aq (fun e:g=f=>hk (h.symm.trans e))]
      · have hb:(g == k)=false:=fP.mpr h;simp only [List.lookup,hb];exact ih
theorem Il (f:Str) (v:V):∀fs:List (Str×V),f∈(bS f v fs).map (·.1)/\∀g,g∈fs.map (·.1)->g∈(bS f v fs).map (·.1)
  | []=>⟨by simp[bS],fun g h=>by simp at h⟩
  | (k,x)::r=>by
    obtain⟨i1,i2⟩:=Il f v r;rw[show bS f v ((k,x)::r)=(if k=f then (k,v)::r else (k,x)::bS f v r) from rfl]
    by_cases hk:k=f
    · rw[av hk];subst hk;exact⟨by simp,fun g h=>by simpa using h⟩
    · rw[aq hk];refine⟨?_,fun g h=>?_⟩
      · rw[dJ];exact bz _ i1
      · rw[dJ] at h ⊢;rcases aJ.mp h with e | e
        · exact aJ.mpr (.inl e)
        · exact bz _ (i2 g e)
theorem CA (f:Str) (v:V):∀fs:List (Str×V),(bS f v fs).length<=fs.length+1
  | []=>by simp[bS]
  | (k,x)::r=>by
    have ih:=CA f v r;rw[show bS f v ((k,x)::r)=(if k=f then (k,v)::r else (k,x)::bS f v r) from rfl]
    by_cases hk:k=f
    · rw[av hk,fh,fh];lia
    · rw[aq hk,fh,fh];lia
theorem gg.some_of {v:V}{o:Option ai}(r:gg (some v) o):∃u,o=some u/\RelV v u:=by
  cases o with
  | none=>exact (show False from r).elim
  | some u=>exact⟨u,rfl,r⟩
theorem gg.none_of {o:Option ai}(r:gg none o):o=none:=by
  cases o with
  | none=>rfl
  | some u=>exact (show False from r).elim
theorem Im {v:V}{u:ai}(r:RelV v u):PySem.W.handedIn u=true:=by
  cases v with
  | cQ=>cases (show u=Value.none from r);rfl
  | bl b=>cases (show u=Value.bool b from r);rfl
  | int i=>obtain⟨t,e⟩:=(show ∃t,u=Value.int i t from r);cases e;rfl
  | str x=>obtain⟨t,e⟩:=(show ∃t,u=Value.str x t from r);cases e;rfl
  | sJ b=>obtain⟨t,e⟩:=(show ∃t,u=Value.bytes b t from r);cases e;rfl
  | yk b=>obtain⟨t,e⟩:=(show ∃t,u=Value.float b t from r);cases e;rfl
  | ref a=>cases (show u=Value.ref a from r);rfl
  | ty n=>cases (show u=Value.type n from r);rfl
section
variable {P:aP}{w:World}{H H':Hp}{h h':Heap}{a C dx:ah}{fs gG:List (Str×V)}
theorem Fy (bu:jo P w H h) (e:H a=some (.ins C dx fs)):∃mA,qI h a dx C mA/\(∀f,gg (fs.lookup f) (mA f))/\PySem.Within mA (fs.map (·.1))/\fs.length<=1000/\H dx=some (.own a):=by
  obtain⟨d,z,ne,ob,mA,n,r,q⟩:=(show bG P w H h a (.ins C dx fs) from bu a _ e);exact⟨mA,⟨ob,n,ne⟩,r,q,z,d⟩
end
structure rP (K:aE) (C:ah):Prop where
  pg:PySem.W.plainGet K C Str.empty=true
  hd:PySem.W.hasDictIn K C=true
  po:PySem.W.plainOver K C=true
  sa:PySem.W.findIn K (.ref C) "__setattr__" = some (some (.builtin "object.__setattr__"))
theorem rP.get {K:aE}{C:ah}(c:rP K C) (f:Str):PySem.W.plainGet K C f=true:=c.pg
def bQ (K:aE) (C:ah) (f:Str):Prop:=PySem.W.findIn K (.ref C) f=some none
theorem bQ.yv {K:aE}{C:ah}{f:Str}(n:bQ K C f):PySem.W.takerIn K C f=some none:=by
  unfold PySem.W.takerIn;rw[show PySem.W.findIn K (.ref C) f=some none from n];rfl
structure Meth (K:aE) (C:ah) (m:Str) (f:ah):Prop where
  at_:PySem.W.findIn K (.ref C) m=some (some (.ref f))
  fn:PySem.W.isFn K (.ref f)=true
  kp:PySem.W.keepIn K (.ref f)=true
section
variable {X:Cx}{pins:aG}{σ:St}{H:Hp}{s:au}{a C dx:ah}{fs:List (Str×V)}{f:Str}{v:V}{A:Around}{E:aA}
theorem TL {b:Bool}{Q:aA}(I:Inv X pins σ H s) (e:H a=some (.ins C dx fs)) (c:rP X.K C) (n:bQ X.K C f) (l:fs.lookup f=some v)
    (h:∀u s',Inv X pins σ H s'->RelV v u->Q u s'):wpAny (model X.prog X.w) A (getAttr (.ref a) f b) Q E s:=by
  obtain⟨mA,O,r,_,_,_⟩:=Fy I.bu e;obtain⟨u,hu,ru⟩:=gg.some_of (v:=v) (o:=mA f) (by rw[←l];exact r f);exact Tu I.fX O (c.get f) c.hd n hu (Im ru) (h u _ (I.tok _) ru)
theorem Io {m:Str}{g:ah}{pl:Sem Bool}{Q:ai×List ai->au->Prop}(I:Inv X pins σ H s) (e:H a=some (.ins C dx fs)) (c:rP X.K C) (k:Meth X.K C m g) (l:fs.lookup m=none)
    (h:Q (.ref g,[.ref a]) s):wpAny (model X.prog X.w) A (getMethod (.ref a) m pl) Q E s:=by
  obtain⟨mA,O,r,_,_,_⟩:=Fy I.bu e;have hn:mA m=none:=gg.none_of (by rw[←l];exact r m);exact Tv I.fX O (c.get m) k.at_ k.fn hn h
theorem TM {y:V}{u:ai}{Q:Unit->au->Prop}(I:Inv X pins σ H s) (e:H a=some (.ins C dx fs)) (c:rP X.K C) (n:bQ X.K C f) (hl:fs.length<1000) (ry:RelV y u)
    (h:∀s',Inv X pins σ (upd H a (.ins C dx (bS f y fs))) s'->Q () s'):wpAny (model X.prog X.w) A (setAttr (.ref a) f u) Q E s:=by
  obtain⟨mA,O,r,wi,_,ho⟩:=Fy I.bu e;have hz:(fs.map (·.1)).length<=sizeLine:=by rw[ay,dW];lia
  refine Tw I.fX O c.sa c.po n.yv c.hd wi hz fun h' O' sb=>h _ ?_
  have hd:∃o,h'.get? dx=some o:=let ⟨o,_,_,e',_⟩:=O'.ns;⟨o,e'⟩
  refine I.write (x:=a) (e:=dx) (by rw[e];exact True.intro) (.inr ho) (fun b q hb z=>(sb.2 b hb).trans z) hd ?_;refine⟨by rw[zg O.ne];exact ho,?_,O.ne,O'.obj,_,O'.ns,fun g=>?_,fun g hg=>?_⟩
  · have:=CA f y fs;lia
  · show gg ((bS f y fs).lookup g) (if g=f then some u else mA g);rw[MD]
    by_cases q:g=f
    · rw[av q,av q];exact ry
    · rw[aq q,aq q];exact r g
  · by_cases q:g=f
    · rw[q];exact (Il f y fs).1
    · refine (Il f y fs).2 g (wi g fun z=>hg ?_);show (if g=f then some u else mA g)=none;rw[aq q];exact z
theorem Inv.made (I:Inv X pins σ H s):Inv X pins σ (upd (upd H s.heap.objs.size (.own (s.heap.objs.size+1))) (s.heap.objs.size+1) (.ins C s.heap.objs.size []))
    { s with heap:=(s.heap.push PySem.W.emptyDict).push (PySem.W.instObj C s.heap.objs.size) }:=by
  have e1:(s.heap.push PySem.W.emptyDict).get? s.heap.objs.size=some PySem.W.emptyDict:=bH s.heap rfl;have e2:((s.heap.push PySem.W.emptyDict).push (PySem.W.instObj C s.heap.objs.size)).get? (s.heap.objs.size+1)=some (PySem.W.instObj C s.heap.objs.size):=by
    have:=bH (s.heap.push PySem.W.emptyDict) (o:=PySem.W.instObj C s.heap.objs.size) rfl
    rwa [iF] at this
  have e3:(s.heap.push PySem.W.emptyDict).Ns s.heap.objs.size (fun _=>none):=⟨PySem.W.emptyDict,#[],_,e1,rfl,(fun e he=>absurd he (by simp)),fun _=>rfl⟩;have I1:=I.laid (a:=s.heap.objs.size) (o:=.own (s.heap.objs.size+1)) (h':=s.heap.push PySem.W.emptyDict) (t':=s.toks) (fun b u q=>bq _ q) (aH _) ⟨_,e1⟩;refine I1.laid (a:=s.heap.objs.size+1) (o:=.ins C s.heap.objs.size []) (t':=s.toks) (fun b u q=>bq _ q) (Nat.le_of_eq (iF _ _)) ?_;have ne:s.heap.objs.size≠s.heap.objs.size+1:=aW (jA _);refine⟨by rw[zg ne,zd],c6 _,ne,e2,fun _=>none,(Heap.Ns1.of_empty e3).at fun o q=>bq _ q,fun _=>True.intro,fun y hy=>absurd rfl hy⟩
theorem Ip {prog:aP}{w:World}{env:Env}{e:Expr}{f:Str}{pos:Pos}{s:au}{Q:aA}(hb:attributeBase e f env (eval e env)=eval e env)
    (h:wpAny (model prog w) A (eval e env) (fun o bA=>wpAny (model prog w) A (getAttr o f true) Q E bA) E s):wpAny (model prog w) A (eval (.Attribute e f pos) env) Q E s:=
  Attribute_any_ h (by rw[arm_eval_Attribute,hb])
end
def Iq (K:aE) (ta:TE) (f:Str):TE:=fun σ H Q=>ta σ H fun x H1=>∃a C dx fs v,x = .ref a/\H1 a=some (.ins C dx fs)/\rP K C/\bQ K C f/\fs.lookup f=some v/\Q v H1
def Ir (K:aE) (ta tv:TE) (f:Str):TS:=fun D σ H=>tv σ H fun y H1=>ta σ H1 fun x H2=>∃a C dx fs,x = .ref a/\H2 a=some (.ins C dx fs)/\rP K C/\bQ K C f/\fs.length<1000/\
  D.nx σ (upd H2 a (.ins C dx (bS f y fs)))
section
variable {X:Cx}{o e value:Expr}{f:Str}{pos pos' Iu:Pos}{ta tv:TE}
theorem uN (he:PE X e ta) (hb:attributeBase e f X.env (eval e X.env)=eval e X.env):PE X (.Attribute e f pos) (Iq X.K ta f):=by
  intro pins s σ H Q I h;refine Ip hb (bR (he pins s σ H _ I h) fun u s1 aT=>?_);obtain⟨x,H1,I1,rx,a,C,dx,fs,v,ex,ea,c,n,l,q⟩:=aT;subst ex;obtain rfl:u=Value.ref a:=rx;exact TL I1 ea c n l fun u' s2 I2 ru=>⟨v,H1,I2,ru,q⟩
theorem FA (ha:PE X o ta) (hv:PE X value tv) (hs:swapsWith value (some (.Attribute o f pos')) pos.line X.env=pure false):PS X (.Assign [.Attribute o f pos'] value pos) (Ir X.K ta tv f):=by
  intro pins s σ H D I h;refine plainObj_wpAny_Assign_Attribute (bR (hv pins s σ H _ I h) fun u s1 ⟨y,H1,I1,ry,q⟩=>bR (ha pins s1 σ H1 _ I1 q) fun ov s2 aT=>?_) hs;obtain⟨x,H2,I2,rx,a,C,dx,fs,ex,ea,c,n,l,q2⟩:=aT;subst ex;obtain rfl:ov=Value.ref a:=rx;exact TM I2 ea c n l ry fun s3 I3=>⟨σ,_,I3,q2⟩
theorem zvm {pl:Sem Bool}{m:Str}{apos:Pos}{args:List Expr}{pins:aG}{s:au}{σ:St}{H:Hp}{Q:aA}{te:TE}(he:PE X e te) (I:Inv X pins σ H s)
    (h:te σ H fun x H1=>∃a C dx fs g,x = .ref a/\H1 a=some (.ins C dx fs)/\rP X.K C/\Meth X.K C m g/\fs.lookup m=none/\
      ∀s1,Inv X pins σ H1 s1->wpAny (model X.prog X.w) X.A (callWith pos (.ref g) [.ref a] (backTo pos (starEach args X.env)) (backToKw pos (keywordEach [] X.env))) Q X.xe s1)
    (ht:eval (.Call (.Attribute e m apos) args [] pos) X.env=(do
      let ov ←eval e X.env
      standAt apos.atName
      let (f,first) ←holding [ov] (getMethod ov m pl)
      callWith pos f first (backTo pos (starEach args X.env)) (backToKw pos (keywordEach [] X.env)))) :
    wpAny (model X.prog X.w) X.A (eval (.Call (.Attribute e m apos) args [] pos) X.env) Q X.xe s:=by
  refine PySem.W.methodCall_KW (pl:=pl) (bR (he pins s σ H _ I h) fun u s1 aT=>?_) ht;obtain⟨x,H1,I1,rx,a,C,dx,fs,g,ex,ea,c,k,l,q⟩:=aT;subst ex;obtain rfl:u=Value.ref a:=rx;exact Io I1 ea c k l (q s1 I1)
end
section
variable {X:Cx}{pins:aG}{σ:St}{H:Hp}{s:au}{A:Around}{E:aA}{Q:aA}{c:ai}{b:Bool}
inductive jV (K:aE) (H:Hp):V->ai->Prop where
  | cQ:jV K H .cQ (.type "NoneType")
  | bl (x:Bool):jV K H (.bl x) (.type "bool")
  | int (i:Int):jV K H (.int i) (.type "int")
  | str (x:Str):jV K H (.str x) (.type "str")
  | yk (x:UInt64):jV K H (.yk x) (.type "float")
  | lst {a:ah}{xs:List V}(e:H a=some (.lst xs)):jV K H (.ref a) (.type "list")
  | gp {a:ah}{o:Obj}{xs:List V}(e:H a=some (.gp o (.lst xs))):jV K H (.ref a) (.type "list")
  | tup {a:ah}{xs:List V}(e:H a=some (.tup xs)):jV K H (.ref a) (.type "tuple")
  | dK {a:ah}{kvs:List (Key×V)}(e:H a=some (.dK kvs)):jV K H (.ref a) (.type "dict")
  | dT {a:ah}{kvs:List (List Key×V)}(e:H a=some (.dT kvs)):jV K H (.ref a) (.type "dict")
  | ins {a C dx:ah}{fs:List (Str×V)}(e:H a=some (.ins C dx fs)) (cl:rP K C) (ha:PySem.W.findIn K (.ref C) "__class__" = some (some (.builtin "object.__class__")))
      (hn:PySem.W.specialIn K (.builtin "object.__class__") "__get__" = some (some (.builtin "getset_descriptor.__get__"))) (ME:PySem.W.takesIn K (.builtin "object.__class__")=some true)
      (hm:PySem.W.mroIn K C (.type "object")=some true):jV K H (.ref a) (.ref C)
theorem TN {x:V}{u t:ai}(I:Inv X pins σ H s) (rx:RelV x u) (ty:jV X.K H x t) (e:PySem.W.kitOne X.K t c=some b) (h:∀tk,Q (.bool b) { s with toks:=tk }) :
    wpAny (model X.prog X.w) A (call (.builtin "isinstance") [u,c]) Q E s:=by
  cases ty with
  | cQ=>cases (show u=Value.none from rx);exact PySem.W.kia_one PySem.W.kitx_none I.fX True.intro e (fun z=>nomatch z) h
  | bl y=>cases (show u=Value.bool y from rx);exact PySem.W.kia_one PySem.W.kitx_bool I.fX True.intro e (fun z=>nomatch z) h
  | int i=>obtain⟨t,q⟩:=(show ∃t,u=Value.int i t from rx);cases q;exact PySem.W.kia_one PySem.W.kitx_int I.fX True.intro e (fun z=>nomatch z) h
  | str y=>obtain⟨t,q⟩:=(show ∃t,u=Value.str y t from rx);cases q;exact PySem.W.kia_one PySem.W.kitx_str I.fX True.intro e (fun z=>nomatch z) h
  | yk y=>obtain⟨t,q⟩:=(show ∃t,u=Value.float y t from rx);cases q;exact PySem.W.kia_one PySem.W.kitx_float I.fX True.intro e (fun z=>nomatch z) h
  | @lst a xs ea=>
    cases (show u=Value.ref a from rx);obtain⟨_,_,n,_,h1⟩:=(show bG X.prog X.w H s.heap a (.lst xs) from I.bu a _ ea);exact PySem.W.kia_one PySem.W.kitx_list I.fX ⟨_,h1,rfl⟩ e (fun z=>nomatch z) h
  | @gp a ob xs ea=>
    cases (show u=Value.ref a from rx);obtain⟨_,_,_,n,_,h1⟩:=(show bG X.prog X.w H s.heap a (.gp ob (.lst xs)) from I.bu a _ ea);exact PySem.W.kia_one PySem.W.kitx_list I.fX ⟨_,h1,rfl⟩ e (fun z=>nomatch z) h
  | @tup a xs ea=>
    cases (show u=Value.ref a from rx);obtain⟨_,_,_,p⟩:=(show bG X.prog X.w H s.heap a (.tup xs) from I.bu a _ ea);obtain⟨o,h1,h2,_⟩:=p;exact PySem.W.kia_one PySem.W.kitx_tuple I.fX ⟨o,h1,h2⟩ e (fun z=>nomatch z) h
  | @dK a kvs ea=>
    cases (show u=Value.ref a from rx);obtain⟨_,_,vs,_,p⟩:=(show bG X.prog X.w H s.heap a (.dK kvs) from I.bu a _ ea);obtain⟨o,es,ep,h1,h2,_⟩:=p;exact PySem.W.kia_one PySem.W.kitx_dict I.fX ⟨o,h1,h2.1⟩ e (fun z=>nomatch z) h
  | @dT a kvs ea=>
    cases (show u=Value.ref a from rx);obtain⟨_,_,xs,_,o,es,ep,h1,h2,_⟩:=(show bG X.prog X.w H s.heap a (.dT kvs) from I.bu a _ ea);exact PySem.W.kia_one PySem.W.kitx_dict I.fX ⟨o,h1,h2.1⟩ e (fun z=>nomatch z) h
  | @ins a C dx fs ea cl ha hn ME hm=>
    cases (show u=Value.ref a from rx);obtain⟨mA,O,_⟩:=Fy I.bu ea;obtain⟨od,J,_⟩:=O.look;exact PySem.W.kia_one (PySem.W.kitx_own (cl.get _) cl.hd ha hn ME hm) I.fX J e (fun z=>nomatch z) h
end
structure b8 (k:Nat) (A:Around):Prop where
  hd:A.handled=none
  dp:A.depth+3 * k+5<recursionLimit
  un:A.units+16 * k+200<cLine
theorem b8.mono {j k:Nat}{A:Around}(r:b8 k A) (h:j<=k):b8 j A:=⟨r.hd,by have:=r.dp;lia,by have:=r.un;lia⟩
theorem b8.deeper {k:Nat}{A:Around}(r:b8 (k+1) A) (env:Env):b8 k (A.deeper env):=
  ⟨r.hd,by have:=r.dp;show A.depth+1+3 * k+5<_;lia,by have:=r.un;show A.units+3+16 * k+200<_;lia⟩
theorem TQ {A:Around}{C:ah}{us:List ai}{kw:List (Str×ai)}:(A.under (.builtin "type.__call__" ⟨.ref C::us,kw⟩)).depth=A.depth+1:=by
  first | rfl | simp[Around.under,Code.weight,Code.isCreation,Code.isGuard,Code.isCaller,Code.frames,Code.isFrame,guardIds]
theorem TR {A:Around}{C:ah}{us:List ai}{kw:List (Str×ai)}:(A.under (.builtin "type.__call__" ⟨.ref C::us,kw⟩)).units=A.units+1:=by
  first | rfl | simp[Around.under,Code.cUnits,Code.frames,Code.isFrame]
theorem b8.make {k:Nat}{A:Around}(r:b8 (k+1) A) (C:ah) (us:List ai) (kw:List (Str×ai)):b8 k (A.under (.builtin "type.__call__" ⟨.ref C::us,kw⟩)):=
  ⟨r.hd,by have:=r.dp;rw[TQ];lia,by have:=r.un;rw[TR];lia⟩
theorem b8.depth {k:Nat}{A:Around}(r:b8 k A):A.depth<recursionLimit:=by have:=r.dp;lia
theorem b8.units {k:Nat}{A:Around}(r:b8 k A):A.units+64<cLine:=by have:=r.un;lia
def w9:TA:=fun _ H Q=>Q [] H
def MF (ta:TE) (tr:TA):TA:=fun σ H Q=>ta σ H fun x H1=>tr σ H1 fun xs H2=>Q (x::xs) H2
section
variable {X:Cx}{e:Expr}{es:List Expr}{te:TE}{t:TA}{pos:Pos}
theorem zf:PA X [] w9:=fun _ _ _ _ H Q I h=>Calls.spliced_nil ⟨[],H,I,.nil,h⟩
theorem zc (ha:PE X e te) (hr:PA X es t) (hs:starEach (e::es) X.env=(false,eval e X.env)::starEach es X.env:=by rfl):PA X (e::es) (MF te t):=by
  intro pos pins s σ H Q I h;rw[hs];show wpAny _ _ (spliced ((false,eval e X.env)::backTo pos (starEach es X.env))) _ _ s;refine Calls.spliced_cons (bR (ha pins s σ H _ I h) fun u s1 aT=>?_);obtain⟨x,H1,I1,r1,q1⟩:=aT;exact bR (hr pos pins s1 σ H1 _ I1 q1) fun us s2 ⟨xs,H2,I2,r2,q2⟩=>⟨x::xs,H2,I2,.cons r1 r2,q2⟩
def Iv (t:TA):TE:=fun σ H Q=>t σ H fun xs H1=>xs.length<=sizeLine/\∀p,H1 p=none->Q (.ref p) (upd H1 p (.tup xs))
def Iw (t:TA):TE:=fun σ H Q=>t σ H fun xs H1=>xs.length<=sizeLine/\∀p,H1 p=none->Q (.ref p) (upd H1 p (.lst xs))
theorem jq {x1}(h:PA X es t):PE X (.Tuple es x1 pos) (Iv t):=by
  intro pins s σ H Q I hq;refine wpAny_Tuple_spliced (bR (h pos pins s σ H _ I hq) fun us s1 ⟨xs,H1,I1,r,z,q⟩=>⟨by rw[←r.length];exact z,?_⟩);have hf:H1 s1.heap.objs.size=none:=I1.bu.fresh (aH _);refine⟨.ref s1.heap.objs.size,upd H1 s1.heap.objs.size (.tup xs),I1.laid (t':=s1.toks) (fun b u e=>bq _ e) (aH _) ?_,rfl,q _ hf⟩;exact⟨z,us,r,⟨_,bH _ rfl,rfl,_,rfl⟩⟩
theorem iz (h:PA X es t):PE X (.List es pos) (Iw t):=by
  intro pins s σ H Q I hq;refine wpAny_List_spliced (bR (h pos pins s σ H _ I hq) fun us s1 ⟨xs,H1,I1,r,z,q⟩=>⟨by rw[←r.length];exact z,?_⟩);have hf:H1 s1.heap.objs.size=none:=I1.bu.fresh (aH _);refine⟨.ref s1.heap.objs.size,upd H1 s1.heap.objs.size (.lst xs),I1.laid (t':=s1.toks) (fun b u e=>bq _ e) (aH _) ?_,rfl,q _ hf⟩;exact⟨z,us,0,r,bH _ rfl⟩
end
abbrev Sp:=List V->Hp->VK->XK->Prop
abbrev ql:=List Env->Hp->au->XK->aA
structure qJ (P:aP) (w:World) (K:aE) (mg:Str->Option ai) (base:Heap) (A:Around) (outer:List Env) (s:au) (H:Hp):Prop where
  frames:A.frames=some outer
  mod:Mod K mg base
  bs:∀b o,base.get? b=some o->s.heap.get? b=some o/\H b=none
  uH:base.objs.size<=s.heap.objs.size
  jS:s.heap.FunFrames base outer
  wV:∀b∈i0 outer,H b=none
  bu:jo P w H s.heap
  bare:AllBare s.gens
def CE (outer:List Env) (P:aP) (w:World) (H:Hp) (s:au) (Q:VK) (u:ai) (s':au):Prop:=
  ∃v H',s'.os=s.os/\AllBare s'.gens/\Un (i0 outer) [] H H' s.heap s'.heap/\jo P w H' s'.heap/\RelV v u/\Q v H'
def CR (CX:ql) (outer:List Env) (P:aP) (w:World) (H:Hp) (s:au) (Q:VK) (E:XK) (r:Result) (s':au):Prop:=
  match r with
  | .ok (.ret u)=>CE outer P w H s Q u s'
  | .ok _=>False
  | .error e=>CX outer H s E e s'
structure i8 (P:aP) (w:World) (K:aE) (mg:Str->Option ai) (base:Heap) (CX:ql) (k:Nat) (f:ah) (fd:FuncData) (ps:List Str) (sp:Sp):Prop where
  len:∀vs H Q E,sp vs H Q E->vs.length=ps.length
  run:∀(A:Around) (outer:List Env) (s:au) (H:Hp) (args:Args) (us:List ai) (vs:List V) (Q:VK) (E:XK),b8 k A->qJ P w K mg base A outer s H->BindsTo s fd args (ps.zip us)->Vals vs us->sp vs H Q E->
    codeAny (model P w) A (.call (.ref f) args) (CR CX outer P w H s Q E) s
theorem qJ.make {P:aP}{w:World}{K:aE}{mg:Str->Option ai}{base:Heap}{A:Around}{outer:List Env}{s:au}{H:Hp}(e:qJ P w K mg base A outer s H) (C:ah) (us:List ai) (kw:List (Str×ai)) :
    qJ P w K mg base (A.under (.builtin "type.__call__" ⟨.ref C::us,kw⟩)) outer s H:=⟨by first | exact e.frames | (simpa[Around.under,Code.envs,Code.isFrame,pushEnvs] using e.frames),e.mod,e.bs,e.uH,e.jS,e.wV,e.bu,e.bare⟩
section
variable {X:Cx}{pins:aG}{σ:St}{H:Hp}{s s':au}
theorem Inv.uO (I:Inv X pins σ H s):qJ X.prog X.w X.K X.mg X.base X.A X.stack s H:=
  ⟨I.ok.frames,I.ok.mod,I.bs,cy I.ok.uH I.sz,I.stack,I.lP,I.bu,I.bare⟩
theorem Inv.after {Q:VK}{u:ai}(I:Inv X pins σ H s) (h:CE X.stack X.prog X.w H s Q u s'):EP X pins σ Q u s':=by
  obtain⟨v,H',os,bare,un,bu,r,q⟩:=h;obtain⟨hh,g,d,t,xg⟩:=s';obtain rfl:xg=s.os:=os;exact⟨v,H',I.call (h':=hh) (g':=g) (d':=d) (t':=t) (ch:=[]) un bu bare (fun b z=>absurd z (by simp)),r,q⟩
end
def FD (sp:Sp) (jW:List V) (E:XK) (t:TA):TE:=fun σ H Q=>t σ H fun vs H1=>sp (vs++jW) H1 Q E
def FE (C:ah) (m:Str) (sp:Sp) (jW:List V) (E:XK) (ta:TE) (t:TA):TE:=fun σ H Q=>ta σ H fun x H1=>∃a dx fs,x = .ref a/\H1 a=some (.ins C dx fs)/\fs.lookup m=none/\
  t σ H1 fun vs H2=>sp (x::(vs++jW)) H2 Q E
def MG (C:ah) (sp:Sp) (jW:List V) (E:XK) (t:TA):TE:=fun σ H Q=>t σ H fun vs H1=>∀x dx,H1 x=none->H1 dx=none->dx≠x->
  sp (.ref x::(vs++jW)) (upd (upd H1 dx (.own x)) x (.ins C dx [])) (fun v H2=>v = .cQ/\Q (.ref x) H2) E
def Binds (K:aE) (fd:FuncData) (ps:List Str) (ds:List ai):Prop:=
  ∀(s:au) (us:List ai),K.In s.heap->(us++ds).length=ps.length->BindsTo s fd ⟨us,[]⟩ (ps.zip (us++ds))
theorem Binds.all {K:aE}{fd:FuncData}{ps:List Str}(h:∀us:List ai,us.length=ps.length->bindArgs fd ⟨us,[]⟩=pure (ps.zip us)):Binds K fd ps []:=fun s us _ hl=>by
  rw[dg] at hl ⊢;exact .of_eq (h us hl)
def xh (CX:ql) (X:Cx) (E:XK):Prop:=∀(pins:aG) (σ:St) (H:Hp) (s:au) (e:ai) (s':au),Inv X pins σ H s->CX X.stack H s E e s'->X.xe e s'
section
variable {X:Cx}{CX:ql}{k:Nat}{f C:ah}{fd:FuncData}{ps:List Str}{sp:Sp}{jW:List V}{ds:List ai}{E:XK}{x m:Str}{p pos apos:Pos}{e o:Expr}{es:List Expr}{ta:TE}{t:TA}
theorem Iz {pins:aG}{σ:St}{H:Hp}{s:au}{Q:VK}{us:List ai}{vs:List V}(F:i8 X.prog X.w X.K X.mg X.base CX k f fd ps sp) (hr:b8 k X.A) (hb:Binds X.K fd ps ds) (hd:Vals jW ds) (hx:xh CX X E)
    (I:Inv X pins σ H s) (r:Vals vs us) (h:sp (vs++jW) H Q E):wpAny (model X.prog X.w) X.A (call (.ref f) us) (EP X pins σ Q) X.xe s:=by
  have r2:Vals (vs++jW) (us++ds):=r.append hd;have hl:(us++ds).length=ps.length:=by rw[←r2.length];exact F.len _ _ _ _ h
  refine eE (fk (F.run X.A X.stack s H ⟨us,[]⟩ (us++ds) (vs++jW) Q E hr I.uO (hb s us I.fX hl) r2 h) fun r s' hq=>?_);cases r with
  | error e=>exact hx pins σ H s e s' I hq
  | ok fl=>
    cases fl with
    | ret u=>exact I.after hq
    | next=>exact False.elim hq
    | brk=>exact False.elim hq
    | cont=>exact False.elim hq
theorem MH (F:i8 X.prog X.w X.K X.mg X.base CX k f fd ps sp) (hr:b8 k X.A) (hg:Gl X x) (hm:X.mg x=some (.ref f)) (hk:PySem.W.keepIn X.K (.ref f)=true) (hb:Binds X.K fd ps ds) (hd:Vals jW ds) (hx:xh CX X E)
    (ha:PA X (e::es) t) (iO:(x == ("__debug__" : Str))=false:=by decide) (he:starEach (e::es) X.env=(false,eval e X.env)::starEach es X.env:=by rfl) (gH:(backTo pos (starEach es X.env)).any (·.1)=false:=by rfl) :
    PE X (.Call (.Name x p) (e::es) [] pos) (FD sp jW E t):=by
  intro pins s σ H Q I h;refine kq (yp I hg hm ?_ iO);refine PySem.W.callWith_K (h₀:=X.base) I.ok.mod.Bb hk (bR (ha pos pins s σ H _ I h) fun us s1 ⟨vs,H1,I1,r,q⟩=>⟨I1.fX,?_⟩) he gH;exact Iz F hr hb hd hx I1 r q
theorem TU {pl:Sem Bool}(he:PE X o ta) (c:rP X.K C) (hm:Meth X.K C m f) (F:i8 X.prog X.w X.K X.mg X.base CX k f fd ps sp) (hr:b8 k X.A) (hb:Binds X.K fd ps ds) (hd:Vals jW ds) (hx:xh CX X E) (ha:PA X (e::es) t)
    (nh:starEach (e::es) X.env=(false,eval e X.env)::starEach es X.env:=by rfl) (gH:(backTo pos (starEach es X.env)).any (·.1)=false:=by rfl)
    (ht:eval (.Call (.Attribute o m apos) (e::es) [] pos) X.env=(do
      let ov ←eval o X.env
      standAt apos.atName
      let (f,first) ←holding [ov] (getMethod ov m pl)
      callWith pos f first (backTo pos (starEach (e::es) X.env)) (backToKw pos (keywordEach [] X.env))):=by rfl) :
    PE X (.Call (.Attribute o m apos) (e::es) [] pos) (FE C m sp jW E ta t):=by
  intro pins s σ H Q I h;refine PySem.W.methodCall_KW (pl:=pl) (bR (he pins s σ H _ I h) fun u s1 aT=>?_) ht;obtain⟨x,H1,I1,rx,a,dx,fs,ex,ea,l,q⟩:=aT;subst ex;obtain rfl:u=Value.ref a:=rx;refine Io I1 ea c hm l ?_;refine PySem.W.callWith_K (first:=[.ref a]) (h₀:=X.base) I.ok.mod.Bb hm.kp (bR (ha pos pins s1 σ H1 _ I1 q) fun us s2 ⟨vs,H2,I2,r,q2⟩=>⟨I2.fX,?_⟩) nh gH;exact Iz (us:=.ref a::us) (vs:=.ref a::vs) F hr hb hd hx I2 (.cons rfl r) q2
theorem TV {pl:Sem Bool}(he:PE X o ta) (c:rP X.K C) (hm:Meth X.K C m f) (F:i8 X.prog X.w X.K X.mg X.base CX k f fd ps sp) (hr:b8 k X.A) (hb:Binds X.K fd ps ds) (hd:Vals jW ds) (hx:xh CX X E)
    (ht:eval (.Call (.Attribute o m apos) [] [] pos) X.env=(do
      let ov ←eval o X.env
      standAt apos.atName
      let (f,first) ←holding [ov] (getMethod ov m pl)
      callWith pos f first (backTo pos (starEach [] X.env)) (backToKw pos (keywordEach [] X.env))):=by rfl) :
    PE X (.Call (.Attribute o m apos) [] [] pos) (FE C m sp jW E ta w9):=by
  intro pins s σ H Q I h;refine PySem.W.methodCall_KW (pl:=pl) (bR (he pins s σ H _ I h) fun u s1 aT=>?_) ht;obtain⟨x,H1,I1,rx,a,dx,fs,ex,ea,l,q⟩:=aT;subst ex;obtain rfl:u=Value.ref a:=rx;refine Io I1 ea c hm l ?_;exact PySem.W.callWith_K0 (first:=[.ref a]) I1.fX hm.kp (Iz (us:=[.ref a]) (vs:=[.ref a]) F hr hb hd hx I1 (.cons rfl .nil) q)
structure Mk (K:aE) (C f:ah):Prop where
  makes:PySem.W.makesIn K C=true
  init:PySem.W.findIn K (.ref C) "__init__" = some (some (.ref f))
  fn:PySem.W.isFn K (.ref f)=true
  kp:PySem.W.keepIn K (.ref C)=true
theorem TX {pins:aG}{σ:St}{H:Hp}{s:au}{Q:VK}{us:List ai}{vs:List V}(M:Mk X.K C f) (F:i8 X.prog X.w X.K X.mg X.base CX k f fd ps sp) (hr:b8 (k+1) X.A) (hb:Binds X.K fd ps ds) (hd:Vals jW ds)
    (hx:xh CX X E) (I:Inv X pins σ H s) (r:Vals vs us)
    (h:∀x dx,H x=none->H dx=none->dx≠x->sp (.ref x::(vs++jW)) (upd (upd H dx (.own x)) x (.ins C dx [])) (fun v H2=>v = .cQ/\Q (.ref x) H2) E) :
    wpAny (model X.prog X.w) X.A (call (.ref C) us) (EP X pins σ Q) X.xe s:=by
  have hq:=h (s.heap.objs.size+1) s.heap.objs.size (I.bu.fresh (fB _)) (I.bu.fresh (aH _)) (aW (jA _));have I2:=Inv.made (C:=C) I;have r2:Vals (V.ref (s.heap.objs.size+1)::(vs++jW)) (Value.ref (s.heap.objs.size+1)::(us++ds)):=.cons rfl (r.append hd);have hl:(Value.ref (s.heap.objs.size+1)::us++ds).length=ps.length:=by
    have e:=r2.length;rw[F.len _ _ _ _ hq] at e;exact e.symm
  refine eE (TJ (f:=f) I.fX M.makes M.init (fC.mp M.fn) (fk (F.run _ X.stack _ _ ⟨Value.ref (s.heap.objs.size+1)::us,[]⟩ (Value.ref (s.heap.objs.size+1)::(us++ds)) _ _ E (hr.make C us [])
    (I2.uO.make C us []) (hb _ (Value.ref (s.heap.objs.size+1)::us) I2.fX hl) r2 hq) fun r s' nP=>?_))
  cases r with
  | error e=>exact hx pins σ _ _ e s' I2 nP
  | ok fl=>
    cases fl with
    | ret u=>
      obtain⟨v,H',I3,rv,ev,q3⟩:=I2.after nP;subst ev;exact⟨rv,⟨V.ref (s.heap.objs.size+1),H',I3,rfl,q3⟩⟩
    | next=>exact False.elim nP
    | brk=>exact False.elim nP
    | cont=>exact False.elim nP
theorem TY (M:Mk X.K C f) (F:i8 X.prog X.w X.K X.mg X.base CX k f fd ps sp) (hr:b8 (k+1) X.A) (hg:Gl X x) (hm:X.mg x=some (.ref C)) (hb:Binds X.K fd ps ds) (hd:Vals jW ds) (hx:xh CX X E)
    (ha:PA X (e::es) t) (iO:(x == ("__debug__" : Str))=false:=by decide) (he:starEach (e::es) X.env=(false,eval e X.env)::starEach es X.env:=by rfl) (gH:(backTo pos (starEach es X.env)).any (·.1)=false:=by rfl) :
    PE X (.Call (.Name x p) (e::es) [] pos) (MG C sp jW E t):=by
  intro pins s σ H Q I h;refine kq (yp I hg hm ?_ iO);refine PySem.W.callWith_K (h₀:=X.base) I.ok.mod.Bb M.kp (bR (ha pos pins s σ H _ I h) fun us s1 ⟨vs,H1,I1,r,q⟩=>⟨I1.fX,?_⟩) he gH;exact TX M F hr hb hd hx I1 r q
end
def PK (X:Cx) (CB:List Keyword) (t:TA):Prop:=
  ∀(pos:Pos) (pins:aG) (s:au) (σ:St) (H:Hp) (Q:List V->Hp->Prop),Inv X pins σ H s->t σ H Q->wpAny (model X.prog X.w) X.A (evalAll ((backToKw pos (keywordEach CB X.env)).map (·.2))) (AP X pins σ Q) X.xe s
section
variable {X:Cx}{CX:ql}{k:Nat}{f C:ah}{fd:FuncData}{ps ks:List Str}{sp:Sp}{E:XK}{x m:Str}{p pos apos kpos:Pos}{e o:Expr}{es:List Expr}{CB:List Keyword}{te ta:TE}{t tk:TA}{nm:Option Str}
theorem TZ:PK X [] w9:=fun _ _ _ _ H Q I h=>wpAny_evalAll_nil ⟨[],H,I,.nil,h⟩
theorem T4 (ha:PE X e te) (hr:PK X CB t):PK X (⟨nm,e,kpos⟩::CB) (MF te t):=by
  intro pos pins s σ H Q I h;show wpAny _ _ (evalAll ((do let v ←eval e X.env;standAt pos;pure v)::(backToKw pos (keywordEach CB X.env)).map (·.2))) _ _ s;refine wpAny_evalAll_cons (aj (bR (ha pins s σ H _ I h) fun u s1 ⟨x,H1,I1,r1,q1⟩=>aj (iJ (aD ?_))));exact bR (hr pos pins s1 σ H1 _ I1 q1) fun us s2 ⟨xs,H2,I2,r2,q2⟩=>⟨x::xs,H2,I2,.cons r1 r2,q2⟩
variable {g:List ai->List ai->List ai}{gV:List V->List V->List V}
end
structure aF (N P:List Str) (sc:Scope):Prop where
  kind:sc.kind = .function
  co:sc.isCoroutine=false
  gen:sc.isGenerator=false
  nd:N.Nodup
  pre:N.take P.length=P
  par:∀x∈P,sc.names.lookup x=some .local\/sc.names.lookup x=some .cell
  zO:∀y∈sc.names,y.2≠.free
theorem MI {kindOf:Str->Option NameKind}{x:Str}:∀{binds:List (Str×ai)}{m:Str->Option ai},(∀v,(x,v) ∉ binds)->bindL kindOf binds m x=m x
  | [],_,_=>rfl
  | (n,v)::r,m,h=>by
    unfold bindL;rw[MI fun w hw=>h w (bz _ hw)];split
    · have:x≠n:=by rintro rfl;exact h v fR
      simp[this]
    · rfl
theorem MJ {kindOf:Str->Option NameKind}{x:Str}:∀{binds:List (Str×ai)}{m:Str->Option ai},(∀v,(x,v) ∉ binds)->bindC kindOf binds m x=m x
  | [],_,_=>rfl
  | (n,v)::r,m,h=>by
    unfold bindC;rw[MJ fun w hw=>h w (bz _ hw)];split
    · rfl
    · have:x≠n:=by rintro rfl;exact h v fR
      simp[this]
theorem MK {kindOf:Str->Option NameKind}{x:Str}{v:ai}:∀{P:List Str}{vs:List ai}{i:Nat}{m:Str->Option ai},P.Nodup->P[i]? = some x->vs[i]? = some v->kindOf x=some .local->
    bindL kindOf (P.zip vs) m x=some v
  | [],_,_,_,_,h,_,_=>by simp at h
  | _::_,[],_,_,_,_,h,_=>by simp at h
  | p::P,w::vs,0,m,nd,h1,h2,hk=>by
    simp at h1 h2;subst h1;subst h2;show bindL kindOf ((p,w)::P.zip vs) m p=_;unfold bindL;rw[MI fun v hv=>(fV.mp nd).1 (iE hv).1,av hk];simp
  | p::P,w::vs,i+1,m,nd,h1,h2,hk=>by
    show bindL kindOf ((p,w)::P.zip vs) m x=_;unfold bindL;exact MK (i:=i) (fV.mp nd).2 (by simpa using h1) (by simpa using h2) hk
theorem ML {kindOf:Str->Option NameKind}{x:Str}{v:ai}:∀{P:List Str}{vs:List ai}{i:Nat}{m:Str->Option ai},P.Nodup->P[i]? = some x->vs[i]? = some v->kindOf x≠some .local->
    bindC kindOf (P.zip vs) m x=some v
  | [],_,_,_,_,h,_,_=>by simp at h
  | _::_,[],_,_,_,_,h,_=>by simp at h
  | p::P,w::vs,0,m,nd,h1,h2,hk=>by
    simp at h1 h2;subst h1;subst h2;show bindC kindOf ((p,w)::P.zip vs) m p=_;unfold bindC;rw[MJ fun v hv=>(fV.mp nd).1 (iE hv).1,aq hk];simp
  | p::P,w::vs,i+1,m,nd,h1,h2,hk=>by
    show bindC kindOf ((p,w)::P.zip vs) m x=_;unfold bindC;exact ML (i:=i) (fV.mp nd).2 (by simpa using h1) (by simpa using h2) hk
def start (N:List Str) (vs:List V):St:=vs.map some++List.replicate (N.length-vs.length) none
def mJ (CX:ql) (P:aP) (w:World) (K:aE) (mg:Str->Option ai) (base:Heap) (N:List Str) (qual:Str) (scope:Scope) (f:ah) (cd:ai) (A:Around) (outer:List Env) (s:au) (H:Hp) (E:XK):Cx where
  prog:=P
  w:=w
  K:=K
  mg:=mg
  base:=base
  A:=A.deeper (envOfC qual scope s.heap.objs.size f cd)
  N:=N
  cW:=s
  pJ:=H
  env:=envOfC qual scope s.heap.objs.size f cd
  outer:=outer
  stack:=envOfC qual scope s.heap.objs.size f cd::outer
  ex:=[]
  calm:=true
  fn:=fun _=>true
  pn:=[]
  xe:=fun e s'=>wpAny (model P w) (A.deeper (envOfC qual scope s.heap.objs.size f cd)) (leaving (envOfC qual scope s.heap.objs.size f cd) e) (fun _ vZ=>CX outer H s E e vZ) (fun e' vZ=>CX outer H s E e' vZ) s'
theorem MM {sc:Scope}{n:Nat}{x:Str}(h:sc.names.lookup x=some .cell):∃c,(cellsFrom n sc.names []).lookup x=some c:=by
  have q:=PySem.W.cellsFrom_some sc.names n [] (.inl h);exact Option.isSome_iff_exists.mp q
theorem T5 {CX:ql}{P:aP}{w:World}{K:aE}{mg:Str->Option ai}{base:Heap}{N ps:List Str}{qual:Str}{scope:Scope}{f:ah}{cd:ai}{A:Around}{outer:List Env}{s s1:au}{H:Hp}{E:XK}{us:List ai}{vs:List V}
    (S:aF N ps scope) (hd:A.handled=none) (e0:qJ P w K mg base A outer s H) (hl:vs.length=ps.length) (r:Vals vs us)
    (x:InCallC s s.heap.objs.size (bindL (envOfC qual scope s.heap.objs.size f cd).kindOf (ps.zip us) fun _=>none) (cellsFrom (s.heap.objs.size+1) scope.names []) (bindC (envOfC qual scope s.heap.objs.size f cd).kindOf (ps.zip us) fun _=>none) s1) :
    Inv (mJ CX P w K mg base N qual scope f cd A outer s H E) [] (start N vs) H s1:=by
  have gH:ps.length<=N.length:=by have:=bX List.length S.pre;rw[bI] at this;lia
  obtain⟨h1,tk,rfl,hk⟩:=x.done;have CC:∀b:ah,b ∉ (mJ CX P w K mg base N qual scope f cd A outer s H E).ex:=fun b z=>absurd (show b∈([]:List ah) from z) (by simp)
  refine⟨⟨e0.mod,S.kind,rfl,rfl,aH _,fun y z c h1 h2=>?_,fun y hy=>?_,fun y c _ h=>?_,fun _=>hd,Around.frames_deeper e0.frames,.inr ⟨rfl,rfl⟩,fun b z=>absurd z (CC b),e0.bs,e0.uH,fun b _ _=>CC b,fun b z=>absurd z (CC b),e0.jS,e0.wV⟩,
    rfl,e0.bare,Un.kept hk,⟨_,x.toInCall.ns,fun i y v h1 h2 h3=>?_⟩,fun y c h=>⟨_,x.cell y c h⟩,e0.bu.fresh (aH _),fun y c h=>?_,fun p hp=>absurd (show p∈([]:aG) from hp) (by simp),e0.bu.kept hk,?_⟩
  · exact name_of_addr x.apart (PySem.mem_of_lookup h1) (PySem.mem_of_lookup h2)
  · have hy:scope.names.lookup y=some .cell\/scope.names.lookup y=some .free:=hy;rcases hy with hy | hy
    · exact MM hy
    · exact absurd rfl (S.zO _ (PySem.mem_of_lookup hy))
  · exact kG (x.above y c (PySem.mem_of_lookup h))
  · have hi:i<vs.length:=by
      unfold start at h2
      by_cases hi:i<vs.length
      · exact hi
      · rw[kP (by simpa using hi)] at h2;rw[List.getElem?_replicate] at h2;split at h2<;>cases h2
    have ha:vs[i]? = some v:=by
      unfold start at h2;rw[lW (by simpa using hi),aX] at h2;cases e:vs[i]? with
      | none=>rw[e] at h2;cases h2
      | some a=>rw[e] at h2;cases h2;rfl
    obtain⟨u,hu,rv⟩:=r.get ha;have hp:ps[i]? = some y:=by
      rw[←S.pre,List.getElem?_take_of_lt (by lia)];exact h1
    have MN:ps.Nodup:=by rw[←S.pre];exact S.nd.sublist (List.take_sublist _ _)
    refine⟨u,rv,?_⟩;rcases S.par y (aZ hp) with k | k
    · exact .inl ⟨k,MK MN hp hu k⟩
    · obtain⟨c,e⟩:=MM (n:=s.heap.objs.size+1) k;refine .inr ⟨.inl k,c,e,?_⟩;have q:=x.cell y c e;rw[ML MN hp hu (by show scope.names.lookup y≠_;rw[k];decide)] at q;exact q
  · exact e0.bu.fresh (kG (x.above y c (PySem.mem_of_lookup h)))
  · unfold start;show _=N.length;rw[bK,ay,List.length_replicate];lia
theorem MO {CX:ql}{P:aP}{w:World}{K:aE}{mg:Str->Option ai}{base:Heap}{k:Nat}{f:ah}{name qual:Str}{params:Arguments}{body:List Stmt}{scope:Scope}{dV kV doc pm bY ct oc:ai}{an od:Option ah}
    {lE:Array (Option ai)}{N ps:List Str}{sp:Sp}(lk:K.lookup f=some ⟨oc,od,.func (PySem.W.fnOf name qual params body scope dV kV doc pm an bY ct),lE⟩) (pL:PySem.W.codeIn K bY qual=true) (S:aF N ps scope)
    (len:∀vs H Q E,sp vs H Q E->vs.length=ps.length)
    (jX:∀(A:Around) (outer:List Env) (s:au) (H:Hp) (vs:List V) (Q:VK) (E:XK),b8 k (A.deeper (envOfC qual scope s.heap.objs.size f bY))->sp vs H Q E->
      ∃t,nN (mJ CX P w K mg base N qual scope f bY A outer s H E) body t/\t { nx:=fun _ H'=>Q .cQ H',rt:=Q } (start N vs) H) :
    i8 P w K mg base CX (k+1) f (PySem.W.fnOf name qual params body scope dV kV doc pm an bY ct) ps sp:=by
  refine⟨len,fun A outer s H args us vs Q E hr e0 hb r uo=>?_⟩;have hl:=len _ _ _ _ uo;have KX:K.In s.heap:=e0.mod.Bb.keeps fun b o e=>(e0.bs b o e).1
  have lim:s.heap.NoLimit:=e0.mod.nolimit.keeps fun b o e=>(e0.bs b o e).1
  have CD:∀y∈ps.zip us,scope.names.lookup y.1=some .local\/(scope.names.lookup y.1=some .cell/\((cellsFrom (s.heap.objs.size+1) scope.names []).lookup y.1).isSome=true):=fun ⟨n,v⟩ hy=>by
    rcases S.par n (iE hy).1 with q | q
    · exact .inl q
    · exact .inr ⟨q,PySem.W.cellsFrom_some _ _ _ (.inl q)⟩
  refine codeAny_call_function hr.depth (KX _ _ lk) rfl S.co S.gen rfl (PySem.W.codeRec_of KX pL) (hb _ _ _ _ ?_);refine wpAny_newFunctionEnv_cells S.kind CD fun env he s1 x=>?_
  subst he;refine⟨lim.keeps x.toInCall.keep,codeAny_func ?_⟩;obtain⟨t,ht,hq⟩:=jX A outer s H vs Q E (hr.deeper _) uo;have I:Inv (mJ CX P w K mg base N qual scope f bY A outer s H E) [] (start N vs) H s1:=T5 S hr.hd e0 hl r x;refine b7 (ht [] s1 (start N vs) H _ I hq) (fun fl s' hs=>?_) fun e s' hs=>hs
  have fin:∀{aN:St}{H':Hp}{v:V}{u:ai},Inv (mJ CX P w K mg base N qual scope f bY A outer s H E) [] aN H' s'->RelV v u->Q v H'->CE outer P w H s Q u s':=
    fun {aN H' v u} J rv q=>⟨v,H',J.os,J.bare,J.base,J.bu,rv,q⟩
  cases fl with
  | ret u=>
    obtain⟨v,aN,H',J,rv,q⟩:=hs;exact fin J rv q
  | next=>
    obtain⟨aN,H',J,q⟩:=hs;exact fin (v:=V.cQ) (u:=Value.none) J rfl q
  | brk=>
    obtain⟨_,_,_,q⟩:=hs;exact False.elim q
  | cont=>
    obtain⟨_,_,_,q⟩:=hs;exact False.elim q
section
variable {X:Cx}{x:Str}{p pos:Pos}{e:Expr}{es:List Expr}{t:TA}{id T:String}{r:List V->Hp->VK->Prop}
def MP (r:List V->Hp->VK->Prop) (t:TA):TE:=fun σ H Q=>t σ H fun vs H1=>r vs H1 Q
theorem k6 (hc:mH X (.builtin id) r) (hg:Gl X x) (hm:X.mg x=none) (hv:bootBuiltins x=some (.builtin id)) (ha:PA X (e::es) t) (hn:x≠"__name__":=by decide) (iO:(x == ("__debug__" : Str))=false:=by decide)
    (he:starEach (e::es) X.env=(false,eval e X.env)::starEach es X.env:=by rfl) (gH:(backTo pos (starEach es X.env)).any (·.1)=false:=by rfl):PE X (.Call (.Name x p) (e::es) [] pos) (MP r t):=by
  intro pins s σ H Q I h;refine kq (zE I hg hm hv ?_ hn iO);exact PyProof.Rows.callWith_builtin1 (bR (ha pos pins s σ H _ I h) fun us s1 ⟨vs,H1,I1,r1,q1⟩=>hc pins s1 σ H1 vs us Q I1 r1 q1) he gH
theorem uP (hc:mH X (.type T) r) (hg:Gl X x) (hm:X.mg x=none) (hv:bootBuiltins x=some (.type T)) (ha:PA X (e::es) t) (hn:x≠"__name__":=by decide) (iO:(x == ("__debug__" : Str))=false:=by decide)
    (he:starEach (e::es) X.env=(false,eval e X.env)::starEach es X.env:=by rfl) (gH:(backTo pos (starEach es X.env)).any (·.1)=false:=by rfl):PE X (.Call (.Name x p) (e::es) [] pos) (MP r t):=by
  intro pins s σ H Q I h;refine kq (zE I hg hm hv ?_ hn iO);exact ou (bR (ha pos pins s σ H _ I h) fun us s1 ⟨vs,H1,I1,r1,q1⟩=>hc pins s1 σ H1 vs us Q I1 r1 q1) he gH
end
end L2
namespace HT
open PySem PyProof.Rows
section
open PySem.SeqAt
open PySem.AutoSeq1 (wpAny_loadPart')
open PySem.MeetsSeq PySem.MeetsSeq2 PySem.MeetsSeq3
end
section
variable {prog:aP}{w:World}{A:Around}{E:aA}{s:au}
theorem xj {t b:ah}{vs ws:List ai}{Q:aA}(ht:IsTup s.heap t vs.toArray) (hb:IsTup s.heap b ws.toArray) (hv:vs≠[])
    (h1:ws = []->Q (.ref t) s) (h2:ws≠[]->Q (.ref s.heap.objs.size) { s with heap:=s.heap.push { cls:=.type "tuple",data:=.seq (vs++ws).toArray } })
    (hsz:vs.length+ws.length<=sizeLine):wpAny (model prog w) A (binaryOp .Add (.ref t) (.ref b)) Q E s:=by
  obtain⟨⟨cls,dd,data,sl⟩,ho,hc,n,hd⟩:=id ht;obtain⟨⟨IA,FF,data2,FG⟩,zP,yw,n2,hd2⟩:=id hb;simp only at hc hd yw hd2;subst hc hd yw hd2;have e:vs.toArray++ws.toArray=(vs++ws).toArray:=by simp
  by_cases hw:ws = []
  · exact concat_meets ⟨_,ho,rfl⟩ ⟨_,zP,rfl⟩ noFill_tuple_add seq_tuple_add PySem.F.slot_tuple_add PySem.F.entry_tuple_add (PySem.F.args_tuple_add_2 _ _)
      (tuple_addW1 t b vs.toArray ws.toArray n n2 dd FF sl FG (by simpa using hv) (by simp[hw])) ⟨ho,zP,h1 hw⟩
  · refine concat_meets ⟨_,ho,rfl⟩ ⟨_,zP,rfl⟩ noFill_tuple_add seq_tuple_add PySem.F.slot_tuple_add PySem.F.entry_tuple_add (PySem.F.args_tuple_add_2 _ _)
      (tuple_addW2 t b vs.toArray ws.toArray n n2 dd FF sl FG (by simpa using hv) (by simpa using hw) (by rw[bV,bV];exact hsz)) ⟨ho,zP,?_⟩
    rw[e];exact h2 hw
def nv (n d:Nat):Option Int->Nat
  | none=>d
  | some v=>if v<0 then (v+(n:Int)).toNat else min v.toNat n
end
end HT
namespace L2
open PySem PySem.Spec PyProof.Rows
abbrev TO:=St->Hp->(Option Int->Hp->Prop)->Prop
def PO (X:Cx) (e:Option Expr) (t:TO):Prop:=
  ∀(pins:aG) (s:au) (σ:St) (H:Hp) (Q:Option Int->Hp->Prop),Inv X pins σ H s->t σ H Q->
    wpAny (model X.prog X.w) X.A (evalPart e X.env) (fun u s'=>∃o H',Inv X pins σ H' s'/\IsPart u o/\Q o H') X.xe s
def T6:TO:=fun _ H Q=>Q none H
def T7 (t:TE):TO:=fun σ H Q=>t σ H fun x H1=>∃i,x = .int i/\Q (some i) H1
section
variable {X:Cx}{e:Expr}{te:TE}{lo hi:Option Expr}{tl th:TO}{pos p2:Pos}
theorem FH:PO X none T6:=by
  intro pins s σ H Q I h;rw[evalPart_none];exact aD ⟨none,H,I,.none,h⟩
theorem Bm (h:PE X e te):PO X (some e) (T7 te):=by
  intro pins s σ H Q I hw;rw[evalPart_some];refine bR (h pins s σ H _ I hw) fun u s1 aT=>?_
  obtain⟨x,H1,I1,r1,q1⟩:=aT;obtain⟨i,rfl,q⟩:=q1;obtain⟨t,rfl⟩:=r1;exact⟨some i,H1,I1,.int i t,q⟩
def FI (X:Cx) (r:V->Option Int->Option Int->Hp->VK->Prop):Prop:=
  ∀(pins:aG) (s:au) (σ:St) (H:Hp) (x:V) (v vl vu:ai) (lo hi:Option Int) (sl:ah) (Q:VK),Inv X pins σ H s->RelV x v->s.heap.IsSliceOf sl vl vu .none->IsPart vl lo->IsPart vu hi->r x lo hi H Q->
    ∃T id,typeLookup (.type T) "__getitem__" = pure (some (.builtin id))/\s.TypeIs v T/\wpAny (model X.prog X.w) X.A (getItem v (.ref sl)) (EP X pins σ Q) X.xe s
def T8 (r:V->Option Int->Option Int->Hp->VK->Prop) (te:TE) (tl th:TO):TE:=fun σ H Q=>te σ H fun x H1=>tl σ H1 fun l H2=>th σ H2 fun u H3=>r x l u H3 Q
theorem CF {r:V->Option Int->Option Int->Hp->VK->Prop}(hr:FI X r) (he:PE X e te) (hl:PO X lo tl) (hu:PO X hi th):PE X (.Subscript e (.Slice lo hi none p2) pos) (T8 r te tl th):=by
  intro pins s σ H Q I h;refine Subscript_ (bR (he pins s σ H _ I h) fun v s1 aT=>?_);obtain⟨x,H1,I1,r1,q1⟩:=aT;refine wpAny_Slice (bR (hl pins s1 σ H1 _ I1 q1) fun vl s2 ⟨l,H2,I2,pl,q2⟩=>bR (hu pins s2 σ H2 _ I2 q2) fun vu s3 aT=>?_);obtain⟨u,H3,I3,pu,q3⟩:=aT;rw[evalPart_none];refine aD ?_;have I4:Inv X pins σ H3 { s3 with heap:=s3.heap.push { cls:=.type "slice",data:=.fields #[vl,vu,.none] } }:=I3.kept (t':=s3.toks) fun b ob q=>bq _ q
  obtain⟨T,id,hT,ht,hg⟩:=hr pins { s3 with heap:=s3.heap.push { cls:=.type "slice",data:=.fields #[vl,vu,.none] } } σ H3 x v vl vu l u s3.heap.objs.size Q I4 r1 (Heap.IsSliceOf.new ..) pl pu q3;show wpAny (model X.prog X.w) X.A (subscriptTail e (.Slice lo hi none p2) v (.ref s3.heap.objs.size)) (EP X pins σ Q) X.xe { s3 with heap:=s3.heap.push { cls:=.type "slice",data:=.fields #[vl,vu,.none] } };exact tail_any (ops:=[.ref s3.heap.objs.size,v]) ht hT hg (by with_unfolding_all rfl)
def kJ (xs:List V) (lo hi:Option Int):List V:=(xs.drop (HT.nv xs.length 0 lo)).take (HT.nv xs.length xs.length hi-HT.nv xs.length 0 lo)
theorem T9 (xs:List V) (lo hi:Option Int):(kJ xs lo hi).length<=xs.length:=by
  unfold kJ;rw[bI,List.length_drop];lia
def MQ (K:aE):R2:=fun x y H Q=>∃a b xs ys,x = .ref a/\y = .ref b/\bF K H a xs/\bF K H b ys/\xs≠[]/\xs.length+ys.length<=sizeLine/\
  (ys = []->Q (.ref a) H)/\(ys≠[]->∀p,H p=none->Q (.ref p) (upd H p (.tup (xs++ys))))
theorem Vals.gQ {xs:List V}{us:List ai}(r:Vals xs us):us = []↔xs = []:=by
  cases r with
  | nil=>simp
  | cons _ _=>simp
theorem Ua:jJ X (binaryOp .Add) (MQ X.K):=by
  intro pins s σ H x y v u Q I rx ry h;obtain⟨a,b,xs,ys,rfl,rfl,ha,hb,hx,hz,q1,q2⟩:=h;cases rx;cases ry;obtain⟨its,r1,p1,_⟩:=I.tuple ha;obtain⟨dB,r2,p2,_⟩:=I.tuple hb;refine HT.xj p1 p2 (fun z=>hx (r1.gQ.mp z)) (fun z=>⟨.ref a,H,I,rfl,q1 (r2.gQ.mp z)⟩) (fun z=>?_) (by rw[←r1.length,←r2.length];exact hz);refine⟨.ref s.heap.objs.size,_,I.laid (t':=s.toks) (o:=.tup (xs++ys)) (fun b ob q=>bq _ q) (aH _) ?_,rfl,q2 (fun w=>z (r2.gQ.mpr w)) _ (I.bu.fresh (aH _))⟩;exact⟨by rw[bK];exact hz,_,r1.append r2,IsTup.new _ _⟩
end
def yx (n:Nat) (i:Int):Option Nat:=if 0<=i then (if i<n then some i.toNat else none) else if -(n:Int)<=i then some (i+n).toNat else none
def jY {α:Type}(xs:List α) (i:Int):Option α:=(yx xs.length i).bind fun j=>xs[j]?
theorem Ub {n:Nat}{i:Int}{j:Nat}(h:yx n i=some j):seqIndex? i n=some j/\j<n/\-(n:Int)<=i/\i<n:=by
  unfold yx at h
  by_cases h0:0<=i
  · rw[av h0] at h
    by_cases h1:i<n
    · rw[av h1] at h;have e:i.toNat=j:=cD h;exact⟨by rw[seqIndex_of h0 h1,e],by lia,by lia,h1⟩
    · rw[aq h1] at h;cases h
  · rw[aq h0] at h
    by_cases h1 : -(n:Int)<=i
    · rw[av h1] at h;have e:(i+n).toNat=j:=cD h;exact⟨by rw[seqIndex_neg (by lia) h1,e],by lia,h1,by lia⟩
    · rw[aq h1] at h;cases h
theorem IB {α:Type}{xs:List α}{i:Int}{v:α}(h:jY xs i=some v):∃j,seqIndex? i xs.length=some j/\xs[j]? = some v/\j<xs.length/\-(xs.length:Int)<=i/\i<xs.length:=by
  unfold jY at h;cases e:yx xs.length i with
  | none=>rw[e] at h;cases h
  | some j=>
    rw[e] at h;obtain⟨h1,h2,h3,h4⟩:=Ub e;exact⟨j,h1,h,h2,h3,h4⟩
theorem pP {α:Type}{xs:List α}{j:Nat}{v:α}(h:xs[j]? = some v):jY xs (j:Int)=some v:=by
  have hj:j<xs.length:=(bU.mp h).1;have e:yx xs.length (j:Int)=some j:=by
    unfold yx;rw[av (by lia),av (by lia)];simp
  unfold jY;rw[e];exact h
theorem MR {α:Type}(xs:List α) (v:α):jY (xs++[v]) (-1)=some v:=by
  have hl:(xs++[v]).length=xs.length+1:=by simp
  have e:yx (xs++[v]).length (-1)=some xs.length:=by
    unfold yx;rw[hl,aq (by decide),av (by lia)]
    congr 1
    lia
  unfold jY;rw[e];show (xs++[v])[xs.length]? = some v;simp
def MS (b:Expr):Prop:=∀o i,subscripted b false o i=operate [o,i] (getItem o i)
def zQ (X:Cx) (r:R2):Prop:=
  ∀(value slice:Expr) (pins:aG) (s:au) (σ:St) (H:Hp) (x y:V) (v u:ai) (Q:VK),Inv X pins σ H s->RelV x v->RelV y u->r x y H Q->
    subscripted slice false v u=operate [v,u] (getItem v u)->wpAny (model X.prog X.w) X.A (subscriptTail value slice v u) (EP X pins σ Q) X.xe s
def CG (X:Cx) (id:String) (r:V->List V->Hp->VK->Prop):Prop:=
  ∀(pins:aG) (s:au) (σ:St) (H:Hp) (x:V) (xs:List V) (v:ai) (us:List ai) (Q:VK),Inv X pins σ H s->RelV x v->Vals xs us->r x xs H Q->
    wpAny (model X.prog X.w) X.A (call (.builtin id) (v::us)) (EP X pins σ Q) X.xe s
section
variable {X:Cx}{a b:Expr}{ta tb:TE}{pos:Pos}
theorem Uc {r:R2}(hr:zQ X r) (ha:PE X a ta) (hb:PE X b tb) (hs:MS b):PE X (.Subscript a b pos) (Cr r ta tb):=by
  intro pins s σ H Q I h;exact Subscript_ (zJ ha hb I h fun v u s2 x y H2 I2 rx ry q=>hr a b pins s2 σ H2 x y v u Q I2 rx ry q (hs _ _))
inductive CH (K:aE) (x y:V) (H:Hp) (Q:VK):Prop
  | mk (p:ah) (xs:List V) (i:Int) (v:V) (_:x = .ref p) (_:y = .int i) (_:aI K H p xs) (_:jY xs i=some v) (_:Q v H)
def CI (K:aE):R2:=fun x y H Q=>CH K x y H Q
inductive CJ (K:aE) (x y:V) (H:Hp) (Q:VK):Prop
  | mk (p:ah) (xs:List V) (i:Int) (v:V) (_:x = .ref p) (_:y = .int i) (_:bF K H p xs) (_:jY xs i=some v) (_:Q v H)
def CK (K:aE):R2:=fun x y H Q=>CJ K x y H Q
def IC:R2:=fun x y H Q=>∃z i c,x = .str z/\y = .int i/\z.length<=sizeLine/\jY z.cps.toList i=some c/\Q (.str ⟨#[c]⟩) H
theorem Ud:zQ X (CI X.K):=by
  intro value slice pins s σ H x y v u Q I rx ry h hs;obtain⟨p,xs,i,z,rfl,rfl,hq,he,q⟩:=h;cases rx;obtain⟨t,rfl⟩:=ry;obtain⟨its,r,pl,hz⟩:=I.list hq;obtain⟨j,h1,h2,h3,h4,h5⟩:=IB he;obtain⟨w,ew,kZ⟩:=r.get h2;have hl:=r.length;have hn:=Fx;have fin:EP X pins σ Q w s:=⟨z,H,I,kZ,q⟩
  by_cases h0:0<=i
  · have hj:i.toNat=j:=by
      rw[seqIndex_of h0 h5] at h1;exact cD h1
    exact item_listR pl.isList h0 (by lia) (by rw[hj];simpa using ew) fin hs
  · have hj:(i+(its.toArray.size:Int)).toNat=j:=by
      rw[seqIndex_neg (by lia) h4] at h1;rw[bV,←hl];exact cD h1
    exact subscriptTail_builtinR (x:=w) pl.isList.typeIs slot_list_getitem.lookup
      (wpAny_getItem_list_neg (Q:=fun r s'=>r=w/\EP X pins σ Q r s') pl.isList (by lia) (by rw[bV]<;>lia) (by lia) (by rw[hj];simpa using ew) ⟨rfl,fin⟩) hs
theorem Ue:zQ X (CK X.K):=by
  intro value slice pins s σ H x y v u Q I rx ry h hs;obtain⟨p,xs,i,z,rfl,rfl,hq,he,q⟩:=h;cases rx;obtain⟨t,rfl⟩:=ry;obtain⟨its,r,pl,hz⟩:=I.tuple hq;obtain⟨j,h1,h2,h3,h4,h5⟩:=IB he;obtain⟨w,ew,kZ⟩:=r.get h2;have hl:=r.length;have hn:=Fx;have fin:EP X pins σ Q w s:=⟨z,H,I,kZ,q⟩;exact subscriptTail_builtinR (x:=w) pl.typeIs slot_tuple_getitem.lookup
    (getItem_tuple (j:=j) (Q:=fun r s'=>r=w/\EP X pins σ Q r s') pl (by lia) (by lia) (by rw[bV,←hl];exact h1) (by simpa using ew) ⟨rfl,fin⟩) hs
theorem Ug:zQ X IC:=by
  intro value slice pins s σ H x y v u Q I rx ry h hs;obtain⟨z,i,c,rfl,rfl,hz,he,q⟩:=h;obtain⟨t,rfl⟩:=rx;obtain⟨t',rfl⟩:=ry;obtain⟨j,h1,h2,h3,h4,h5⟩:=IB he;have hl:z.cps.toList.length=z.length:=by simp[Str.length]
  rw[hl] at h1 h4 h5;have hn:=Fx;exact tail_any (typeIs_str s z t) slot_str_getitem.lookup (getItem_str (c:=c) (by
    have e1:decide (i < -(2 ^ 63:Int))=false:=bg (by lia);have e2:decide (i≥2 ^ 63)=false:=bg (by lia);rw[e1,e2,Bool.or_false]) (by rw[h1];simpa using h2) ⟨.str ⟨#[c]⟩,H,I.tok _,⟨_,rfl⟩,q⟩) hs
theorem Uh (lo hi:Option Int) (n:Nat):(sliceBounds lo hi none n).1=((HT.nv n 0 lo:Nat):Int)/\(sliceBounds lo hi none n).2.1=((HT.nv n n hi:Nat):Int)/\(sliceBounds lo hi none n).2.2=1:=by
  refine⟨?_,?_,rfl⟩
  · cases lo with
    | none=>simp[sliceBounds,HT.nv]
    | some i=>
      simp only [sliceBounds,HT.nv,Option.getD_none,show (1:Int) > 0 by decide,if_true]
      by_cases h:i<0
      · simp only [h,if_true]<;>lia
      · simp only [h,dY]<;>lia
  · cases hi with
    | none=>simp[sliceBounds,HT.nv]
    | some i=>
      simp only [sliceBounds,HT.nv,Option.getD_none,show (1:Int) > 0 by decide,if_true]
      by_cases h:i<0
      · simp only [h,if_true]<;>lia
      · simp only [h,dY]<;>lia
theorem Ui (its:List ai) (lo hi:Option Int):slicePick its.toArray lo hi none=((its.drop (HT.nv its.length 0 lo)).take (HT.nv its.length its.length hi-HT.nv its.length 0 lo)).toArray:=by
  obtain⟨h1,h2,h3⟩:=Uh lo hi its.toArray.size;unfold slicePick;rw[h1,h2,h3];simp only [sliceRange_one,pick_run,bV]<;>rfl
def CL (K:aE):V->Option Int->Option Int->Hp->VK->Prop:=fun x lo hi H Q=>∃a xs,x = .ref a/\aI K H a xs/\∀p,H p=none->Q (.ref p) (upd H p (.lst (kJ xs lo hi)))
theorem Uj:FI X (CL X.K):=by
  intro pins s σ H x v vl vu lo hi sl Q I rx hs pl pu h;obtain⟨a,xs,rfl,hx,q⟩:=h;cases rx;obtain⟨its,r,ht,hz⟩:=I.list hx;have hlen:=r.length;refine⟨"list",_,slot_list_getitem.lookup,ht.isList.typeIs,?_⟩;refine wpAny_getItem_list_slice ht.isList hs pl pu .none (by simp) ?_ (by rw[bV]<;>lia);rw[Ui,←hlen];refine⟨.ref s.heap.objs.size,_,I.laid (t':=s.toks) (o:=.lst (kJ xs lo hi)) (fun b ob q=>bq _ q) (aH _) ?_,rfl,q _ (I.bu.fresh (aH _))⟩;exact⟨cy (T9 xs lo hi) hz,_,0,(r.drop (HT.nv xs.length 0 lo)).take (HT.nv xs.length xs.length hi-HT.nv xs.length 0 lo),bH _ rfl⟩
def ny:V->Bool
  | .cQ=>true
  | .bl _=>true
  | .int _=>true
  | .str _=>true
  | _=>false
def nQ:V->V->Bool
  | .cQ,.cQ=>true
  | .bl a,.bl b=>a == b
  | .bl a,.int b=>(if a then 1 else 0) == b
  | .int a,.bl b=>a == (if b then 1 else 0)
  | .int a,.int b=>a == b
  | .str a,.str b=>a == b
  | _,_=>false
theorem MT {A:Around}{s:au}{y x:V}{u v:ai}(ry:RelV y u) (rx:RelV x v) (fy:ny y=true) (fx:ny x=true):SeqAt.EqAt A s u v (nQ y x):=by
  cases y with
  | cQ=>
    cases ry;cases x with
    | cQ=>cases rx;exact SeqAt.EqAt.same _
    | bl b=>cases rx;exact SeqAt.EqAt.none_bool b
    | int b=>obtain⟨t,rfl⟩:=rx;exact SeqAt.EqAt.none_int b t
    | str b=>obtain⟨t,rfl⟩:=rx;exact SeqAt.EqAt.none_str b t
    | _=>exact absurd (show false=true from fx) bJ
  | bl a=>
    cases ry;cases x with
    | cQ=>cases rx;exact SeqAt.EqAt.bool_none a
    | bl b=>cases rx;exact SeqAt.EqAt.bool_bool a b
    | int b=>obtain⟨t,rfl⟩:=rx;exact SeqAt.EqAt.bool_int a b t
    | str b=>obtain⟨t,rfl⟩:=rx;exact SeqAt.EqAt.bool_str a b t
    | _=>exact absurd (show false=true from fx) bJ
  | int a=>
    obtain⟨t',rfl⟩:=ry;cases x with
    | cQ=>cases rx;exact SeqAt.EqAt.int_none a t'
    | bl b=>cases rx;exact SeqAt.EqAt.int_bool a t' b
    | int b=>obtain⟨t,rfl⟩:=rx;exact SeqAt.EqAt.int_int a t' b t
    | str b=>obtain⟨t,rfl⟩:=rx;exact SeqAt.EqAt.int_str a t' b t
    | _=>exact absurd (show false=true from fx) bJ
  | str a=>
    obtain⟨t',rfl⟩:=ry;cases x with
    | cQ=>cases rx;exact SeqAt.EqAt.str_none a t'
    | bl b=>cases rx;exact SeqAt.EqAt.str_bool a t' b
    | int b=>obtain⟨t,rfl⟩:=rx;exact SeqAt.EqAt.str_int a t' b t
    | str b=>obtain⟨t,rfl⟩:=rx;exact SeqAt.EqAt.str_str a t' b t
    | _=>exact absurd (show false=true from fx) bJ
  | _=>exact absurd (show false=true from fy) bJ
def xm (x:V) (u:ai):Bool:=match u with
  | .none=>nQ .cQ x
  | .bool b=>nQ (.bl b) x
  | .int i _=>nQ (.int i) x
  | .str z _=>nQ (.str z) x
  | _=>false
theorem MU {x y:V}{u:ai}(r:RelV y u) (f:ny y=true):xm x u=nQ y x:=by
  cases y with
  | cQ=>cases r;rfl
  | bl b=>cases r;rfl
  | int i=>obtain⟨t,rfl⟩:=r;rfl
  | str z=>obtain⟨t,rfl⟩:=r;rfl
  | _=>exact absurd (show false=true from f) bJ
theorem ID {x:V}:∀{xs:List V}{us:List ai},Vals xs us->xs.all ny=true->us.any (xm x)=xs.any fun y=>nQ y x
  | _,_,.nil,_=>rfl
  | y::xs,u::us,.cons r t,f=>by
    rw[List.all_cons,g9] at f;rw[gJ,gJ,MU r f.1,ID t f.2]
theorem IE {A:Around}{s:au}{x:V}{v:ai}(rx:RelV x v) (fx:ny x=true):∀{xs:List V}{us:List ai},Vals xs us->xs.all ny=true->∀u∈us,SeqAt.EqAt A s u v (xm x u)
  | _,_,.nil,_=>fun u hu=>by cases hu
  | y::xs,u::us,.cons r t,f=>fun u' hu=>by
    rw[List.all_cons,g9] at f;rcases aJ.mp hu with rfl | hu
    · rw[MU r f.1];exact MT r rx f.1 fx
    · exact IE rx fx t f.2 u' hu
def xq (x:V) (xs:List V):Bool:=xs.any fun y=>nQ y x
def MV (K:aE) (neg:Bool):R2:=fun x y H Q=>∃p xs,y = .ref p/\(aI K H p xs\/bF K H p xs)/\ny x=true/\xs.all ny=true/\Q (.bl (if neg then !xq x xs else xq x xs)) H
theorem Uk:jJ X (compareOp .In) (MV X.K false):=by
  intro pins s σ H x y v u Q I rx ry h;obtain⟨p,xs,rfl,hq,fx,fs,q⟩:=h;cases ry;rcases hq with hq | hq
  · obtain⟨its,r,pl,hz⟩:=I.list hq;refine SeqAt.in_listAt (xm x) pl.isList (fun w hw=>IE rx fx r fs w (by simpa using hw)) ⟨.bl _,H,I,rfl,?_⟩;rw[show its.toArray.any (xm x)=its.any (xm x) by simp,ID r fs];exact q
  · obtain⟨its,r,pl,hz⟩:=I.tuple hq;refine SeqAt.in_tupleAt (xm x) pl (fun w hw=>IE rx fx r fs w (by simpa using hw)) ⟨.bl _,H,I,rfl,?_⟩;rw[show its.toArray.any (xm x)=its.any (xm x) by simp,ID r fs];exact q
theorem Ul:mH X (.builtin "len") (fun xs H Q=>∃p ys,xs = [.ref p]/\(aI X.K H p ys\/bF X.K H p ys)/\Q (.int ys.length) H):=by
  intro pins s σ H xs us Q I r h;obtain⟨p,ys,rfl,hq,q⟩:=h;obtain⟨u,rfl,rx⟩:=pO r;cases rx;have hn:=Fx;rcases hq with hq | hq
  · obtain⟨its,r',pl,hz⟩:=I.list hq;have hlen:=r'.length;exact Calls.call_len_list pl.isList (by simp only [bV]<;>lia) ⟨.int ys.length,H,I.tok _,⟨s.toks+1,by rw[bV,hlen]⟩,q⟩
  · obtain⟨its,r',pl,hz⟩:=I.tuple hq;have hlen:=r'.length;exact len_tuple pl (by simp only [bV]<;>lia) ⟨.int ys.length,H,I.tok _,⟨s.toks+1,by rw[bV,hlen]⟩,q⟩
theorem Um:mH X (.type "list") (fun xs H Q=>∃p ys,xs = [.ref p]/\(aI X.K H p ys\/bF X.K H p ys)/\∀l,H l=none->Q (.ref l) (upd H l (.lst ys))):=by
  intro pins s σ H xs us Q I r h;obtain⟨p,ys,rfl,hq,q⟩:=h;obtain⟨u,rfl,rx⟩:=pO r;cases rx;have fin:∀(its:List ai),Vals ys its->ys.length<=sizeLine->∀(h':Heap) (c':Nat),(∀b o',s.heap.get? b=some o'->h'.get? b=some o')->
      h'.get? s.heap.objs.size=some { cls:=.type "list",dict:=none,data:=.seq its.toArray c',slots:=#[] }->EP X pins σ Q (.ref s.heap.objs.size) { s with heap:=h' }:=fun its r' hz h' c' kp e=>
    ⟨.ref s.heap.objs.size,_,I.laid (t':=s.toks) kp (aH _) (show bG X.prog X.w _ h' _ (.lst ys) from ⟨hz,its,c',r',e⟩),rfl,q _ (I.bu.fresh (aH _))⟩
  rcases hq with hq | hq
  · obtain⟨its,r',pl,hz⟩:=I.list hq;have hlen:=r'.length;obtain⟨o,ho,hc,n,hd⟩:=pl.isList;exact call_list_seq p (.inl rfl) ho hc hd (fun h' c' kp e=>fin its r' hz h' c' kp e) (by simp only [bV]<;>lia)
  · obtain⟨its,r',pl,hz⟩:=I.tuple hq;have hlen:=r'.length;obtain⟨o,ho,hc,n,hd⟩:=pl;exact call_list_seq p (.inr rfl) ho hc hd (fun h' c' kp e=>fin its r' hz h' c' kp e) (by simp only [bV]<;>lia)
def IF (K:aE) (T:String) (x:V) (H:Hp):Prop:=match x with
  | .str _=>T = "str"
  | .int _=>T = "int"
  | .ref p=>(T = "list"/\∃xs,aI K H p xs)\/(T = "tuple"/\∃o,K.lookup p=some o/\o.cls = .type "tuple"/\o.dict=none)\/
      (T = "dict"/\((∃kvs,H p=some (.dK kvs))\/∃kvs,H p=some (.dT kvs)))\/(T = "set"/\∃S n,H p=some (.set S n))
  | _=>False
theorem MW {pins:aG}{σ:St}{H:Hp}{s:au}{T:String}{x:V}{v:ai}(I:Inv X pins σ H s) (r:RelV x v) (ty:IF X.K T x H) :
    s.TypeIs v T/\∀a,v = .ref a->∃ob,s.heap.get? a=some ob/\ob.dict=none:=by
  cases x with
  | str z=>
    obtain⟨t,rfl⟩:=r;cases (show T = "str" from ty);exact⟨typeIs_str s z t,fun _ e=>nomatch e⟩
  | int i=>
    obtain⟨t,rfl⟩:=r;cases (show T = "int" from ty);exact⟨typeIs_int s i t,fun _ e=>nomatch e⟩
  | ref p=>
    cases r;rcases ty with ⟨rfl,xs,hq⟩ | ⟨rfl,o,hk,hc,hd⟩ | ⟨rfl,hk⟩ | ⟨rfl,S,n,hk⟩
    · obtain⟨its,_,pl,_⟩:=I.list hq;refine⟨pl.isList.typeIs,fun a e=>?_⟩;cases e;obtain⟨o,n,e,c,hd,_⟩:=pl;exact⟨o,e,hd⟩
    · refine⟨⟨o,I.fX p o hk,hc⟩,fun a e=>?_⟩;cases e;exact⟨o,I.fX _ o hk,hd⟩
    · have z:∃o,s.heap.get? p=some o/\o.ExactDict:=by
        rcases hk with ⟨kvs,hk⟩ | ⟨kvs,hk⟩
        · obtain⟨_,_,_,_,o,_,_,e,ex,_⟩:=I.bu p _ hk;exact⟨o,e,ex⟩
        · obtain⟨_,_,_,_,o,_,_,e,ex,_⟩:=I.bu p _ hk;exact⟨o,e,ex⟩
      obtain⟨o,e,ex⟩:=z;refine⟨⟨o,e,ex.1⟩,fun a e2=>?_⟩;cases e2;exact⟨o,e,ex.2.1⟩
    · obtain⟨o,_,_,_,e,ex,_⟩:=I.bu p _ hk;refine⟨⟨o,e,ex.1⟩,fun a e2=>?_⟩;cases e2;exact⟨o,e,ex.2.1⟩
  | _=>exact False.elim ty
def CM (K:aE) (T:String) (r:V->List V->Hp->VK->Prop) (to:TE):TE:=fun σ H Q=>to σ H fun x H1=>IF K T x H1/\r x [] H1 Q
def MX (K:aE) (T:String) (r:V->List V->Hp->VK->Prop) (to:TE) (t:TA):TE:=fun σ H Q=>to σ H fun x H1=>IF K T x H1/\t σ H1 fun xs H2=>r x xs H2 Q
variable {o e:Expr}{es:List Expr}{to:TE}{t:TA}{name:Str}{apos bO:Pos}{T id:String}{r:V->List V->Hp->VK->Prop}
theorem Uo (pa:PlainAttrs T) (slot:Slot T name id) (zR:typeOf (.builtin id)=pure (.type "method_descriptor")) (hm:CG X id r) (ho:PE X o to)
    (mK:attributeBase o name X.env (eval o X.env)=eval o X.env:=by rfl) (mL:(apos.endLine == bO.line)=true:=by rfl):PE X (.Call (.Attribute o name apos) [] [] bO) (CM X.K T r to):=by
  intro pins s σ H Q I h;refine wpAny_Call_method0_late mK mL (bR (ho pins s σ H _ I h) fun v s1 aT=>?_);obtain⟨x,H1,I1,r1,ty,q1⟩:=aT;obtain⟨h1,h2⟩:=MW I1 r1 ty;exact⟨T,id,pa,slot,zR,h1,h2,oH rfl (PySem.evalArgs_none (hm pins s1 σ H1 x [] v [] Q I1 r1 .nil q1))⟩
theorem Uq (pa:PlainAttrs T) (slot:Slot T name id) (zR:typeOf (.builtin id)=pure (.type "method_descriptor")) (hm:CG X id r) (ho:PE X o to) (ha:PA X (e::es) t)
    (mK:attributeBase o name X.env (eval o X.env)=eval o X.env:=by rfl)
    (zS:((backTo bO (starEach (e::es) X.env)).all (fun x=>!x.1)&&(backToKw bO (keywordEach [] X.env)).all (fun x=>x.1.isSome)
      && decide ((e::es).length+([]:List Keyword).length+(if ([]:List Keyword).isEmpty then 0 else 1)<30))=true:=by rfl)
    (mL:(apos.endLine == bO.line)=true:=by rfl) (hs:starEach (e::es) X.env=(false,eval e X.env)::starEach es X.env:=by rfl) (qK:(backTo bO (starEach es X.env)).any (·.1)=false:=by rfl) :
    PE X (.Call (.Attribute o name apos) (e::es) [] bO) (MX X.K T r to t):=by
  intro pins s σ H Q I h;refine wpAny_Call_method_late mK zS mL rfl (bR (ho pins s σ H _ I h) fun v s1 aT=>?_);obtain⟨x,H1,I1,r1,ty,q1⟩:=aT;obtain⟨h1,h2⟩:=MW I1 r1 ty;refine⟨T,id,pa,slot,zR,h1,h2,?_⟩;have hA:=ha bO pins s1 σ H1 _ I1 q1;rw[hs] at hA ⊢;refine oH (by show (false||(backTo bO (starEach es X.env)).any (·.1))=false;rw[qK]<;>rfl) (l8 ?_);exact bR hA fun us s2 ⟨vs,H2,I2,r2,q2⟩=>hm pins s2 σ H2 x vs v us Q I2 r1 r2 q2
end
def IG (X:Cx) (id:String) (r:V->List V->Hp->VK->Prop):Prop:=
  ∀(pins:aG) (s:au) (σ:St) (H:Hp) (x:V) (xs:List V) (v:ai) (us:List ai) (Q:VK),Inv X pins σ H s->RelV x v->Vals xs us->r x xs H Q->
    wpAny (model X.prog X.w) X.A (call (.builtin id) (v::us)) (EP X pins σ Q) X.xe s
theorem Vals.one:∀{x:V}{us:List ai},Vals [x] us->∃u,us = [u]/\RelV x u
  | _,_,.cons r .nil=>⟨_,rfl,r⟩
theorem Vals.zero:∀{us:List ai},Vals [] us->us = []
  | _,.nil=>rfl
theorem Vals.reverse {xs:List V}{us:List ai}(h:Vals xs us):Vals xs.reverse us.reverse:=by
  induction h with
  | nil=>exact .nil
  | cons r t ih=>rw[List.reverse_cons,List.reverse_cons];exact Vals.append ih (.cons r .nil)
section
variable {X:Cx}{pins:aG}{σ:St}{H:Hp}{s:au}{l b:ah}{xs ys zs:List V}
theorem Inv.CN {its its':List ai}{n:Nat}{f:Array ai->Array ai}{t':Nat}(I:Inv X pins σ H s) (hH:H l=some (.lst xs))
    (e:s.heap.get? l=some { cls:=.type "list",data:=.seq its.toArray n }) (hf:f its.toArray=its'.toArray) (hv:Vals ys its') (hz:ys.length<=sizeLine) :
    Inv X pins σ (upd H l (.lst ys)) { s with heap:=s.heap.update l (Obj.mapSeq f),toks:=t' }:=by
  have q:=PySem.IsL.update e f;rw[hf] at q;refine I.write (x:=l) (e:=l) (by rw[hH];exact trivial) (.inl rfl) (fun b' u hb hu=>(cA s.heap (Obj.mapSeq f) (aC hb)).trans hu) ⟨_,q⟩ ?_;exact⟨hz,its',_,hv,q⟩
theorem Inv.zT {its:List ai}{t':Nat}(I:Inv X pins σ H s) (hv:Vals ys its) (hz:ys.length<=sizeLine) :
    Inv X pins σ (upd H s.heap.objs.size (.lst ys)) { s with heap:=s.heap.push { cls:=.type "list",data:=.seq its.toArray },toks:=t' }:=
  I.laid (fun _ _ q=>bq _ q) (aH _) ⟨hz,its,0,hv,bH _ rfl⟩
theorem Inv.fresh (I:Inv X pins σ H s):H s.heap.objs.size=none:=I.bu.fresh (aH _)
theorem Inv.xr (I:Inv X pins σ H s) (hH:H l=some (.lst xs)):xs.length<=sizeLine/\∃(its:List ai) (n:Nat),Vals xs its/\xs.length=its.length/\s.heap.get? l=some { cls:=.type "list",data:=.seq its.toArray n }:=by
  obtain⟨z,its,n,r,e⟩:=I.bu l _ hH;exact⟨z,its,n,r,r.length,e⟩
theorem zz4 {n:Nat}(h:n<=sizeLine):Builtin.List.listTooLong n=false:=by
  unfold Builtin.List.listTooLong;exact bg (by lia)
end
section
variable {X:Cx}
inductive uQ (x:V) (vs:List V) (H:Hp) (Q:VK):Prop
  | mk (l:ah) (xs:List V) (y:V) (_:x = .ref l) (_:vs = [y]) (_:H l=some (.lst xs)) (_:xs.length<sizeLine) (_:Q .cQ (upd H l (.lst (xs++[y]))))
def Ur:V->List V->Hp->VK->Prop:=fun x vs H Q=>uQ x vs H Q
theorem pQ:IG X "list.append" Ur:=by
  intro pins s σ H x vs v us Q I rx rv h;obtain⟨l,xs,y,rfl,rfl,hH,hz,q⟩:=h;cases rx;obtain⟨u,rfl,ru⟩:=rv.one;obtain⟨z,its,n,r,hl,e⟩:=I.xr hH;refine call_meets F.slot_list_append ⟨_,e,rfl⟩ F.entry_list_append (F.args_list_append_2 _ _) (PySem.list_append l its.toArray n u (by rw[bV];lia)) ⟨e,?_⟩;refine⟨.cQ,_,I.CN (its':=its++[u]) hH e (by simp) (r.append (.cons ru .nil)) ?_,rfl,q⟩;rw[bK,List.length_singleton];lia
def Us:V->List V->Hp->VK->Prop:=fun x vs H Q=>∃l xs,x = .ref l/\vs = []/\H l=some (.lst xs)/\Q .cQ (upd H l (.lst xs.reverse))
theorem Ut:IG X "list.reverse" Us:=by
  intro pins s σ H x vs v us Q I rx rv h;obtain⟨l,xs,rfl,rfl,hH,q⟩:=h;cases rx;have Uu:=rv.zero;subst Uu;obtain⟨z,its,n,r,hl,e⟩:=I.xr hH;refine call_meets F.slot_list_reverse ⟨_,e,rfl⟩ F.entry_list_reverse (F.args_list_reverse_1 _) (AutoSeq1.list_reverse_list_0 l its.toArray n (by rw[bV];lia)) ⟨e,?_⟩;refine⟨.cQ,_,I.CN (its':=its.reverse) hH e (by simp) r.reverse ?_,rfl,q⟩;rw[l9];lia
def II:R2:=fun x y H Q=>∃l b xs zs,x = .ref l/\y = .ref b/\H l=some (.lst xs)/\H b=some (.lst zs)/\xs.length+zs.length<=sizeLine/\∀p,H p=none->Q (.ref p) (upd H p (.lst (xs++zs)))
theorem Bo:jJ X (binaryOp .Add) II:=by
  intro pins s σ H x y v u Q I rx ry h;obtain⟨l,b,xs,zs,rfl,rfl,hH,hB,hz,q⟩:=h;cases rx;cases ry;obtain⟨z,its,n,r,hl,e⟩:=I.xr hH;obtain⟨z2,dB,n2,r2,lF,e2⟩:=I.xr hB;refine PySem.P.add_list e e2 ?_ (by rw[bV,bV];lia);have ea:its.toArray++dB.toArray=(its++dB).toArray:=by simp
  rw[ea];exact⟨.ref _,_,I.zT (t':=s.toks) (r.append r2) (by rw[bK];lia),rfl,q _ I.fresh⟩
end
section
variable {κ:Type} [DecidableEq κ]
def dD (kvs:List (κ×V)) (k:κ):Option V:=(kvs.find? fun kv=>decide (kv.1=k)).map (·.2)
def putK (kvs:List (κ×V)) (k:κ) (v:V):List (κ×V):=
  if (kvs.any fun kv=>decide (kv.1=k))=true then kvs.map (fun kv=>if kv.1=k then (kv.1,v) else kv) else kvs++[(k,v)]
theorem CO {p:κ×V}{r:List (κ×V)}{k:κ}(e:p.1=k):dD (p::r) k=some p.2:=by simp[dD,kD,e]
theorem IJ {p:κ×V}{r:List (κ×V)}{k:κ}(e:¬p.1=k):dD (p::r) k=dD r k:=by simp[dD,kD,e]
theorem FJ (k:κ):∀kvs:List (κ×V),(kvs.any fun kv=>decide (kv.1=k))=(dD kvs k).isSome
  | []=>rfl
  | p::r=>by
    rw[gJ]
    by_cases e:p.1=k
    · simp only [CO e,aR e,Bool.true_or,Option.isSome_some]
    · rw[IJ e,bg e,Bool.false_or];exact FJ k r
theorem FL (kvs:List (κ×V)) (k:κ) (v:V):(putK kvs k v).length<=kvs.length+1:=by
  unfold putK;split
  · rw[ay];lia
  · rw[bK,fh,List.length_nil];lia
theorem IK {kvs:List (κ×V)}{k:κ}(v:V) (h:dD kvs k=none):putK kvs k v=kvs++[(k,v)]:=by
  unfold putK;rw[FJ,h];exact aq (by decide)
theorem gg.gA {o:Option V}{u:Option ai}(r:gg o u):o.isSome=u.isSome:=by
  cases o with
  | none=>cases u with
    | none=>rfl
    | some _=>exact (show False from r).elim
  | some _=>cases u with
    | none=>exact (show False from r).elim
    | some _=>rfl
theorem KV.val {kvs:List (κ×V)}{vs:List (κ×ai)}(r:KV kvs vs) (k:κ):gg (dD kvs k) (valueAt vs k):=by
  unfold KV at r
  induction r with
  | nil=>exact True.intro
  | @cons p q ps qs h t ih=>
    obtain⟨h1,h2⟩:=h
    by_cases e:p.1=k
    · have e':q.1=k:=h1.symm.trans e;have b:valueAt (q::qs) k=some q.2:=by simp[valueAt,kD,e']
      rw[CO e,b];exact h2
    · have e':¬q.1=k:=fun z=>e (h1.trans z)
      have b:valueAt (q::qs) k=valueAt qs k:=by simp[valueAt,kD,e']
      rw[IJ e,b];exact ih
theorem KV.any {kvs:List (κ×V)}{vs:List (κ×ai)}(r:KV kvs vs) (k:κ):(kvs.any fun kv=>decide (kv.1=k))=vs.any fun kv=>decide (kv.1=k):=by
  unfold KV at r
  induction r with
  | nil=>rfl
  | cons h t ih=>rw[gJ,gJ,ih,h.1]
theorem KV.zU {kvs:List (κ×V)}{vs:List (κ×ai)}(r:KV kvs vs) (k:κ) {y:V}{u:ai}(ry:RelV y u) :
    KV (kvs.map fun kv=>if kv.1=k then (kv.1,y) else kv) (vs.map fun kv=>if kv.1=k then (kv.1,u) else kv):=by
  unfold KV at r ⊢
  induction r with
  | nil=>exact .nil
  | @cons p q ps qs h t ih=>
    rw[dJ,dJ];refine .cons ?_ ih;obtain⟨h1,h2⟩:=h
    by_cases e:p.1=k
    · rw[av e,av (h1.symm.trans e)];exact⟨h1,ry⟩
    · rw[aq e,aq (fun z=>e (h1.trans z))];exact⟨h1,h2⟩
theorem KV.put {kvs:List (κ×V)}{vs:List (κ×ai)}(r:KV kvs vs) (k:κ) {y:V}{u:ai}(ry:RelV y u):KV (putK kvs k y) (stored vs k u):=by
  unfold putK stored;rw[r.any k]
  by_cases e:(vs.any fun kv=>decide (kv.1=k))=true
  · rw[av e,av e];exact r.zU k ry
  · rw[aq e,aq e];exact Paired.snoc r ⟨rfl,ry⟩
theorem KV.length {kvs:List (κ×V)}{vs:List (κ×ai)}(r:KV kvs vs):kvs.length=vs.length:=Paired.length r
end
theorem Bp {P:aP}{w:World}{k:Key}{u:ai}(r:RelV (kV k) u):(qj P w).is k u=true:=by
  cases k with
  | inl i=>obtain⟨t,e⟩:=(show ∃t,u=Value.int i t from r);subst e;exact So P w i t
  | inr x=>obtain⟨t,e⟩:=(show ∃t,u=Value.str x t from r);subst e;exact Sq P w x t
theorem MY {P:aP}{w:World}:∀{ks:List Key}{us:List ai},Vals (ks.map kV) us->ItemsAre (qj P w) ks us
  | [],_,r=>by rw[List.map_nil] at r;cases r;exact .nil
  | k::ks,_,r=>by
    rw[dJ] at r;cases r with
    | cons h t=>exact .cons (Bp h) (MY t)
abbrev KT (H:Hp):List (List Key×V)->List (List Key×ah×ai)->Prop:=Paired fun p q=>p.1=q.1/\H q.2.1=some (.tup (p.1.map kV))/\RelV p.2 q.2.2
theorem KT.val {H:Hp}{kvs:List (List Key×V)}{xs:List (List Key×ah×ai)}(r:KT H kvs xs) (k:List Key):gg (dD kvs k) ((atKey xs k).map (·.2)):=by
  induction r with
  | nil=>exact True.intro
  | @cons p q ps qs h t ih=>
    obtain⟨h1,_,h2⟩:=h
    by_cases e:p.1=k
    · have e':q.1=k:=h1.symm.trans e;have b:atKey (q::qs) k=some q.2:=by simp[atKey,kD,e']
      rw[CO e,b];exact h2
    · have e':¬q.1=k:=fun z=>e (h1.trans z)
      have b:atKey (q::qs) k=atKey qs k:=by simp[atKey,kD,e']
      rw[IJ e,b];exact ih
theorem KT.zU {H:Hp}{kvs:List (List Key×V)}{xs:List (List Key×ah×ai)}(r:KT H kvs xs) (k:List Key) {y:V}{u:ai}(ry:RelV y u) :
    KT H (kvs.map fun kv=>if kv.1=k then (kv.1,y) else kv) (xs.map (putAt k u)):=by
  induction r with
  | nil=>exact .nil
  | @cons p q ps qs h t ih=>
    rw[dJ,dJ];refine .cons ?_ ih;obtain⟨h1,h2,h3⟩:=h;unfold putAt
    by_cases e:p.1=k
    · rw[av e,av (h1.symm.trans e)];exact⟨h1,h2,ry⟩
    · rw[aq e,aq (fun z=>e (h1.trans z))];exact⟨h1,h2,h3⟩
theorem KT.put {H:Hp}{kvs:List (List Key×V)}{xs:List (List Key×ah×ai)}(r:KT H kvs xs) (k:List Key) {b:ah}{y:V}{u:ai}(hb:H b=some (.tup (k.map kV))) (ry:RelV y u) :
    KT H (putK kvs k y) (storedH xs k b u):=by
  have e:(kvs.any fun kv=>decide (kv.1=k))=(atKey xs k).isSome:=by
    rw[FJ,(r.val k).gA,Option.isSome_map]
  unfold putK storedH;rw[e]
  by_cases q:(atKey xs k).isSome=true
  · rw[av q,av q];exact r.zU k ry
  · rw[aq q,aq q];exact Paired.snoc r ⟨rfl,hb,ry⟩
theorem KT.keeps {H H':Hp}{kvs:List (List Key×V)}{xs:List (List Key×ah×ai)}(r:KT H kvs xs) (ht:∀b ys,H b=some (.tup ys)->H' b=some (.tup ys)):KT H' kvs xs:=
  Paired.gP r fun _ _ z=>⟨z.1,ht _ _ z.2.1,z.2.2⟩
section
variable {P:aP}{w:World}{H:Hp}{h:Heap}{a:ah}
theorem IL {u:HO}(ok:jo P w H h) (e:Rd H a u):bG P w H h a u:=e.ok ok
theorem wc {kvs:List (Key×V)}(ok:jo P w H h) (e:Rd H a (.dK kvs)):kvs.length<=sizeLine/\(a == sysModules)=false/\∃vs,KV kvs vs/\h.DictOf (qj P w) a vs:=
  show bG P w H h a (.dK kvs) from IL ok e
theorem IM {kvs:List (Key×V)}(ok:jo P w H h) (e:H a=some (.dK kvs)):kvs.length<=sizeLine/\(a == sysModules)=false/\∃vs,KV kvs vs/\h.DictOf (qj P w) a vs:=wc ok (.inl e)
theorem CP {ks:List Key}(ok:jo P w H h) (e:H a=some (.tup (ks.map kV))):(tupleKind (qj P w)).is h ks a:=by
  obtain⟨_,its,r,o,h1,h2,n,h3⟩:=(show bG P w H h a (.tup (ks.map kV)) from ok a _ e);exact⟨o,its.toArray,n,h1,h2,h3,by simpa using MY r⟩
theorem Bq {kvs:List (List Key×V)}(ok:jo P w H h) (e:Rd H a (.dT kvs)):kvs.length<=sizeLine/\(a == sysModules)=false/\
    ∃xs,KT H kvs xs/\h.DictOfH (tupleKind (qj P w)) a xs:=by
  obtain⟨z,y,xs,r,o,es,ep,h1,h2,h3,h4,h5⟩:=(show bG P w H h a (.dT kvs) from IL ok e);refine⟨z,y,xs,r,o,es,ep,h1,h2,h3,h4,fun x hx=>?_,h5⟩;have all:∀{l:List (List Key×V)}{m:List (List Key×ah×ai)},KT H l m->∀x∈m,(tupleKind (qj P w)).is h x.1 x.2.1:=by
    intro l m q
    induction q with
    | nil=>intro x hx;exact nomatch hx
    | @cons p q ps qs hq t ih=>
      intro x hx;rcases aJ.mp hx with e | hx
      · subst e;exact CP ok (by rw[←hq.1];exact hq.2.1)
      · exact ih x hx
  exact all r x hx
theorem Uv {kvs:List (List Key×V)}(ok:jo P w H h) (e:H a=some (.dT kvs)):kvs.length<=sizeLine/\(a == sysModules)=false/\
    ∃xs,KT H kvs xs/\h.DictOfH (tupleKind (qj P w)) a xs:=Bq ok (.inl e)
end
def cz (H:Hp) (a:ah) (y:V) (r:Option V):Prop:=
  (∃kvs k,Rd H a (.dK kvs)/\y=kV k/\r=dD kvs k)\/∃kvs k b,Rd H a (.dT kvs)/\y = .ref b/\H b=some (.tup (k.map kV))/\r=dD kvs k
def eG (H:Hp) (a:ah) (y v:V) (H':Hp):Prop:=
  (∃kvs k,H a=some (.dK kvs)/\y=kV k/\kvs.length<sizeLine/\H'=upd H a (.dK (putK kvs k v)))\/
  ∃kvs k b,H a=some (.dT kvs)/\y = .ref b/\H b=some (.tup (k.map kV))/\kvs.length<sizeLine/\H'=upd H a (.dT (putK kvs k v))
theorem cz.k {H:Hp}{a:ah}{kvs:List (Key×V)}{k:Key}(e:H a=some (.dK kvs)):cz H a (kV k) (dD kvs k):=.inl ⟨kvs,k,.inl e,rfl,rfl⟩
theorem cz.t {H:Hp}{a b:ah}{kvs:List (List Key×V)}{k:List Key}(e:H a=some (.dT kvs)) (eb:H b=some (.tup (k.map kV))):cz H a (.ref b) (dD kvs k):=.inr ⟨kvs,k,b,.inl e,rfl,eb,rfl⟩
theorem eG.k {H:Hp}{a:ah}{kvs:List (Key×V)}{k:Key}{v:V}(e:H a=some (.dK kvs)) (hl:kvs.length<sizeLine):eG H a (kV k) v (upd H a (.dK (putK kvs k v))):=.inl ⟨kvs,k,e,rfl,hl,rfl⟩
theorem eG.t {H:Hp}{a b:ah}{kvs:List (List Key×V)}{k:List Key}{v:V}(e:H a=some (.dT kvs)) (eb:H b=some (.tup (k.map kV))) (hl:kvs.length<sizeLine) :
    eG H a (.ref b) v (upd H a (.dT (putK kvs k v))):=.inr ⟨kvs,k,b,e,rfl,eb,hl,rfl⟩
section
variable {X:Cx}{pins:aG}{σ:St}{H:Hp}{s:au}{a:ah}{y v:V}{u r:ai}{o:Option V}{A:Around}{E:aA}
theorem Inv.big (I:Inv X pins σ H s):sysModules<s.heap.objs.size:=by
  have h:mainGlobals<s.heap.objs.size:=(I.mod.glob.keeps I.bk).lt;exact Nat.lt_trans (by decide) h
theorem Uw {Q:aA}(hu:A.units+1<cLine) (I:Inv X pins σ H s) (g:cz H a y (some v)) (ry:RelV y u) (h:∀w' s',Inv X pins σ H s'->RelV v w'->Q w' s') :
    wpAny (model X.prog X.w) A (getItem (.ref a) u) Q E s:=by
  rcases g with ⟨kvs,k,e,ey,l⟩ | ⟨kvs,k,b,e,ey,eb,l⟩
  · subst ey;obtain⟨z,hd,vs,rel,dd⟩:=wc I.bu e;obtain⟨w',hw,kZ⟩:=gg.some_of (v:=v) (o:=valueAt vs k) (by rw[l];exact rel.val k);exact wpAny_getItem_of (Bp ry) dd.mapOf hw (h w' _ (I.tok _) kZ)
  · subst ey;cases (show u=Value.ref b from ry);obtain⟨z,hd,xs,rel,dd⟩:=Bq I.bu e;obtain⟨w',hw,kZ⟩:=gg.some_of (v:=v) (o:=(atKey xs k).map (·.2)) (by rw[l];exact rel.val k);obtain⟨p,hp,uq⟩:=Option.map_eq_some_iff.mp hw;refine wpAny_getItem_heap (oS hu) (CP I.bu eb) dd hp ?_;rw[uq];exact h w' _ (I.tok _) kZ
theorem IP {Q:aA}(hu:A.units+1<cLine) (I:Inv X pins σ H s) (g:cz H a y o) (ry:RelV y u) (h:∀s',Inv X pins σ H s'->Q (.bool o.isSome) s') :
    wpAny (model X.prog X.w) A (compareOp .In u (.ref a)) Q E s:=by
  rcases g with ⟨kvs,k,e,ey,l⟩ | ⟨kvs,k,b,e,ey,eb,l⟩
  · subst ey;obtain⟨z,hd,vs,rel,dd⟩:=wc I.bu e;refine wpAny_in_of (Bp ry) hd dd.mapOf ?_;rw[←(rel.val k).gA,←l];exact h _ (I.tok _)
  · subst ey;cases (show u=Value.ref b from ry);obtain⟨z,hd,xs,rel,dd⟩:=Bq I.bu e;refine wpAny_in_heap (oS hu) (CP I.bu eb) hd dd ?_;have q:=(rel.val k).gA;rw[Option.isSome_map] at q;rw[←q,←l];exact h _ (I.tok _)
theorem Ux {Q:aA}(hu:A.units+1<cLine) (I:Inv X pins σ H s) (g:cz H a y o) (ry:RelV y u) (h:∀s',Inv X pins σ H s'->Q (.bool (!o.isSome)) s') :
    wpAny (model X.prog X.w) A (compareOp .NotIn u (.ref a)) Q E s:=by
  rcases g with ⟨kvs,k,e,ey,l⟩ | ⟨kvs,k,b,e,ey,eb,l⟩
  · subst ey;obtain⟨z,hd,vs,rel,dd⟩:=wc I.bu e;refine wpAny_notIn_of (Bp ry) hd dd.mapOf ?_;rw[←(rel.val k).gA,←l];exact h _ (I.tok _)
  · subst ey;cases (show u=Value.ref b from ry);obtain⟨z,hd,xs,rel,dd⟩:=Bq I.bu e;refine wpAny_notIn_heap (oS hu) (CP I.bu eb) hd dd ?_;have q:=(rel.val k).gA;rw[Option.isSome_map] at q;rw[←q,←l];exact h _ (I.tok _)
theorem FN {h':Heap}{t':Nat}{ob:HO}(I:Inv X pins σ H s) (mu:B8 (H a)) (hs:Heap.SameBut a s.heap h') (he:∃q,h'.get? a=some q) (new:bG X.prog X.w (upd H a ob) h' a ob) :
    Inv X pins σ (upd H a ob) { s with heap:=h',toks:=t' }:=
  I.write (x:=a) (e:=a) mu (.inl rfl) (fun b q hb z=>(hs.2 b hb).trans z) he new
theorem IQ {P:aP}{w:World}{H':Hp}{h':Heap}{kvs:List (Key×V)}{vs:List (Key×ai)}(z:kvs.length<=sizeLine) (hd:(a == sysModules)=false) (rel:KV kvs vs) (dd:h'.DictOf (qj P w) a vs) :
    bG P w H' h' a (.dK kvs):=⟨z,hd,vs,rel,dd⟩
theorem Uy {H':Hp}{Q:Unit->au->Prop}(hu:A.units+1<cLine) (I:Inv X pins σ H s) (g:eG H a y v H') (ry:RelV y u) (rv:RelV v r) (h:∀s',Inv X pins σ H' s'->Q () s') :
    wpAny (model X.prog X.w) A (setItem (.ref a) u r) Q E s:=by
  rcases g with ⟨kvs,k,e,ey,l,eH⟩ | ⟨kvs,k,b,e,ey,eb,l,eH⟩
  · subst ey eH;obtain⟨z,hd,vs,rel,dd⟩:=IM I.bu e;have hz:vs.length<=sizeLine:=by rw[←rel.length];exact z
    have hl:(putK kvs k v).length<=sizeLine:=by have:=FL kvs k v;lia
    refine wpAny_setItem_pairs (hsz:=hz) (Bp ry) dd fun h' we hs=>h _ ?_
    have he:∃q,h'.get? a=some q:=let ⟨q,_,_,hq,_⟩:=we;⟨q,hq⟩
    exact FN I (by rw[e];exact True.intro) hs he (IQ hl hd (rel.put k rv) we)
  · subst ey eH;cases (show u=Value.ref b from ry);obtain⟨z,hd,xs,rel,dd⟩:=Uv I.bu e;have hz:xs.length<=sizeLine:=by rw[←Paired.length rel];exact z
    have hl:(putK kvs k v).length<=sizeLine:=by have:=FL kvs k v;lia
    refine wpAny_setItem_heap (hsz:=hz) (oS hu) (CP I.bu eb) dd fun h' we hs=>h _ ?_
    obtain⟨q,es,ep,hq,h2,h3,h4,_,h5⟩:=we;refine FN I (by rw[e];exact True.intro) hs ⟨q,hq⟩ ⟨hl,hd,_,(rel.put k eb rv).keeps fun c ys ec=>?_,q,es,ep,hq,h2,h3,h4,h5⟩;rw[zg (lO ec e (fun z=>nomatch z))];exact ec
end
section
variable {X:Cx}{pins:aG}{σ:St}{H:Hp}{s:au}{a:ah}{kvs:List (Key×V)}{k:Key}{u:ai}{A:Around}{E:aA}
theorem MZ {Q:aA}(I:Inv X pins σ H s) (e:Rd H a (.dK kvs)) (h:∀t s',Inv X pins σ H s'->Q (.int kvs.length t) s'):wpAny (model X.prog X.w) A (call (.builtin "len") [.ref a]) Q E s:=by
  obtain⟨z,hd,vs,rel,dd⟩:=wc I.bu e;refine call_len_dict hd dd (by rw[←rel.length];rw[dW] at z;lia) ?_;rw[←rel.length];exact h _ _ (I.tok _)
end
def CQ (i:Expr):Prop:=∀ov iv,subscripted i false ov iv=operate [ov,iv] (getItem ov iv)
theorem Uz {prog:aP}{w:World}{A:Around}{E:aA}{s:au}{env:Env}{value slice:Expr}{pos:Pos}{T id:String}{Q:aA}
    (hl:typeLookup (.type T) "__getitem__" = pure (some (.builtin id))) (hs:CQ slice)
    (h:wpAny (model prog w) A (eval value env) (fun o bA=>wpAny (model prog w) A (eval slice env) (fun i iK=>iK.TypeIs o T/\wpAny (model prog w) A (getItem o i) Q E iK) E bA) E s) :
    wpAny (model prog w) A (eval (.Subscript value slice pos) env) Q E s:=by
  refine Subscript_ (b7 h (fun o bA iP=>b7 iP (fun i iK pA=>?_) fun _ _ x=>x) fun _ _ x=>x);obtain⟨hT,pA⟩:=pA;unfold subscriptTail;refine aj ?_;rw[getitemInPython_of_ne hT.not_modules];refine aj (wpAny_specialOf hT hl ?_);have fin:wpAny (model prog w) A (subscripted slice false o i) (fun r nA=>wpAny (model prog w) A (letTemporaryGo value o r >>= fun _=>pure r) Q E nA) E iK:=by
    rw[hs o i];exact wpAny_operating (b7 pA (fun r nA xu=>aj (wpAny_letTemporaryGo (aD xu))) fun _ _ x=>x)
  first
    | exact aD (aj fin)
    | exact aj (aD (aj fin))
    | exact aj fin
theorem UA {X:Cx}{pins:aG}{σ:St}{H:Hp}{s:au}{a:ah}{y:V}{o:Option V}(I:Inv X pins σ H s) (g:cz H a y o):s.TypeIs (.ref a) "dict":=by
  rcases g with ⟨kvs,k,e,_,_⟩ | ⟨kvs,k,b,e,_,_,_⟩
  · obtain⟨_,_,vs,_,dd⟩:=wc I.bu e;exact dd.typeIs
  · obtain⟨_,_,xs,_,dd⟩:=Bq I.bu e;exact dd.typeIs
def UB (td ty:TE):TE:=fun σ H Q=>td σ H fun x H1=>ty σ H1 fun y H2=>∃a v,x = .ref a/\cz H2 a y (some v)/\Q v H2
def IT (ty td:TE):TE:=fun σ H Q=>ty σ H fun y H1=>td σ H1 fun x H2=>∃a o,x = .ref a/\cz H2 a y o/\Q (.bl o.isSome) H2
def UC (ty td:TE):TE:=fun σ H Q=>ty σ H fun y H1=>td σ H1 fun x H2=>∃a o,x = .ref a/\cz H2 a y o/\Q (.bl (!o.isSome)) H2
def UD (td ty tv:TE):TS:=fun D σ H=>tv σ H fun v H1=>td σ H1 fun x H2=>ty σ H2 fun y H3=>∃a H4,x = .ref a/\eG H3 a y v H4/\D.nx σ H4
section
variable {X:Cx}{o i e value:Expr}{pos pos' Iu:Pos}{td ty tv:TE}
theorem zy (hu:X.A.units+1<cLine) (ho:PE X o td) (hi:PE X i ty) (hs:CQ i):PE X (.Subscript o i pos) (UB td ty):=by
  intro pins s σ H Q I h;refine Uz PySem.F.slot_dict_getitem.lookup hs (bR (ho pins s σ H _ I h) fun u s1 ⟨x,H1,I1,rx,q1⟩=>bR (hi pins s1 σ H1 _ I1 q1) fun iv s2 aT=>?_);obtain⟨y,H2,I2,ry,a,v,ex,g,q2⟩:=aT;subst ex;obtain rfl:u=Value.ref a:=rx;exact⟨UA I2 g,Uw hu I2 g ry fun w' s3 I3 kZ=>⟨v,H2,I3,kZ,q2⟩⟩
theorem Br (hu:X.A.units+1<cLine) (hi:PE X i ty) (ho:PE X o td):PC X .In i o (IT ty td):=by
  intro pins s σ H Q I h;refine bR (hi pins s σ H _ I h) fun iv s1 ⟨y,H1,I1,ry,q1⟩=>bR (ho pins s1 σ H1 _ I1 q1) fun u s2 aT=>?_
  obtain⟨x,H2,I2,rx,a,ov,ex,g,q2⟩:=aT;subst ex;obtain rfl:u=Value.ref a:=rx;exact IP hu I2 g ry fun s3 I3=>⟨.bl ov.isSome,H2,I3,rfl,q2⟩
theorem FO (hu:X.A.units+1<cLine) (hi:PE X i ty) (ho:PE X o td):PC X .NotIn i o (UC ty td):=by
  intro pins s σ H Q I h;refine bR (hi pins s σ H _ I h) fun iv s1 ⟨y,H1,I1,ry,q1⟩=>bR (ho pins s1 σ H1 _ I1 q1) fun u s2 aT=>?_
  obtain⟨x,H2,I2,rx,a,ov,ex,g,q2⟩:=aT;subst ex;obtain rfl:u=Value.ref a:=rx;exact Ux hu I2 g ry fun s3 I3=>⟨.bl (!ov.isSome),H2,I3,rfl,q2⟩
theorem nR (hu:X.A.units+1<cLine) (ho:PE X o td) (hi:PE X i ty) (hv:PE X value tv) (hs:swapsWith value (some (.Subscript o i pos')) pos.line X.env=pure false) :
    PS X (.Assign [.Subscript o i pos'] value pos) (UD td ty tv):=by
  intro pins s σ H D I h;refine wpAny_Assign_Subscript (bR (hv pins s σ H _ I h) fun r s1 ⟨v,H1,I1,rv,q1⟩=>bR (ho pins s1 σ H1 _ I1 q1) fun u s2 ⟨x,H2,I2,rx,q2⟩=>bR (hi pins s2 σ H2 _ I2 q2) fun iv s3 aT=>?_) hs;obtain⟨y,H3,I3,ry,a,H4,ex,g,q3⟩:=aT;subst ex;obtain rfl:u=Value.ref a:=rx;exact Uy hu I3 g ry rv fun s4 I4=>⟨σ,H4,I4,q3⟩
end
theorem UE {P:aP}{w:World}{H:Hp}(h:Heap) (hb:sysModules<h.objs.size):bG P w H (h.push { cls:=.type "dict",data:=.dict #[] }) h.objs.size (.dK []):=
  ⟨c6 _,fP.mpr (aC (aW hb)),[],.nil,Heap.DictOf.new h⟩
theorem UG {P:aP}{w:World}{H:Hp}(h:Heap) (hb:sysModules<h.objs.size):bG P w H (h.push { cls:=.type "dict",data:=.dict #[] }) h.objs.size (.dT []):=
  ⟨c6 _,fP.mpr (aC (aW hb)),[],.nil,_,#[],0,bH _ rfl,⟨rfl,rfl,rfl⟩,rfl,rfl,List.nodup_nil⟩
def UH:TE:=fun _ H Q=>∀p,H p=none->Q (.ref p) (upd H p (.dK []))
def UI:TE:=fun _ H Q=>∀p,H p=none->Q (.ref p) (upd H p (.dT []))
section
variable {X:Cx}{pos:Pos}
theorem pR:PE X (.Dict [] [] pos) UH:=fun pins s σ H Q I h=>
  wpAny_Dict_empty ⟨.ref s.heap.objs.size,_,I.laid (a:=s.heap.objs.size) (o:=.dK []) (t':=s.toks) (fun _ _ q=>bq _ q) (aH _) (UE s.heap I.big),rfl,h _ (I.bu.fresh (aH _))⟩
theorem M0:PE X (.Dict [] [] pos) UI:=fun pins s σ H Q I h=>
  wpAny_Dict_empty ⟨.ref s.heap.objs.size,_,I.laid (a:=s.heap.objs.size) (o:=.dT []) (t':=s.toks) (fun _ _ q=>bq _ q) (aH _) (UG s.heap I.big),rfl,h _ (I.bu.fresh (aH _))⟩
end
def Bs (kvs more:List (Key×V)):List (Key×V):=more.foldl (fun acc kv=>putK acc kv.1 kv.2) kvs
theorem KV.merge:∀{more:List (Key×V)}{rs:List (Key×ai)}{kvs:List (Key×V)}{vs:List (Key×ai)},KV more rs->KV kvs vs->KV (Bs kvs more) (merged vs rs):=by
  intro more rs kvs vs r;unfold KV at r
  induction r generalizing kvs vs with
  | nil=>intro q;exact q
  | @cons p q ps qs h t ih=>
    intro r0;have e:KV (putK kvs p.1 p.2) (stored vs q.1 q.2):=by
      have:=r0.put p.1 h.2;rw[←h.1];exact this
    exact ih e
theorem M1:∀(more kvs:List (Key×V)),(Bs kvs more).length<=kvs.length+more.length
  | [],kvs=>by show kvs.length<=kvs.length+0;lia
  | p::r,kvs=>by
    have h1:=M1 r (putK kvs p.1 p.2);have h2:=FL kvs p.1 p.2;show (Bs (putK kvs p.1 p.2) r).length<=_;rw[fh];lia
structure M2 (X:Cx) (o:Expr) (m:Str) (apos:Pos) (e f:Expr) (bO:Pos):Prop where
  base:attributeBase o m X.env (eval o X.env)=eval o X.env
  UJ:((backTo bO (starEach [e,f] X.env)).all (fun x=>!x.1)&&(backToKw bO (keywordEach [] X.env)).all (fun x=>x.1.isSome)
    && decide (([e,f]:List Expr).length+([]:List Keyword).length+(if ([]:List Keyword).isEmpty then 0 else 1)<30))=true
  line:(apos.endLine == bO.line)=true
  trees:backTo bO (starEach [e,f] X.env) = [(false,eval e X.env),(false,eval f X.env)]
def M3 (H:Hp) (a:ah):Prop:=(∃kvs,Rd H a (.dK kvs))\/∃kvs,Rd H a (.dT kvs)
theorem UK {X:Cx}{pins:aG}{σ:St}{H:Hp}{s:au}{a:ah}(I:Inv X pins σ H s) (d:M3 H a) :
    s.TypeIs (.ref a) "dict"/\(∀b,Value.ref a = .ref b->∃ob,s.heap.get? b=some ob/\ob.dict=none)/\(a == sysModules)=false:=by
  rcases d with ⟨kvs,e⟩ | ⟨kvs,e⟩
  · obtain⟨_,hd,vs,_,dd⟩:=wc I.bu e;refine⟨dd.typeIs,fun b q=>?_,hd⟩;cases q;obtain⟨ob,_,_,h1,h2,_⟩:=dd;exact⟨ob,h1,h2.2.1⟩
  · obtain⟨_,hd,xs,_,dd⟩:=Bq I.bu e;refine⟨dd.typeIs,fun b q=>?_,hd⟩;cases q;obtain⟨ob,_,_,h1,h2,_⟩:=dd;exact⟨ob,h1,h2.2.1⟩
end L2
namespace M4
open PySem PySem.W PySem.Calls PyProof.Rows
theorem UL {P:Params}{h:Heap}:∀(ns:List Int) (vs:List ai),WellAll P h vs (ns.map WData.int)->IntsAre vs ns:=by
  intro ns
  induction ns with
  | nil=>
    intro vs w;rw[List.map_nil] at w;cases w;exact .nil
  | cons n ns ih=>
    intro vs w;rw[dJ] at w;cases w with
    | cons a b=>
      cases a;exact .cons _ _ (ih _ b)
theorem UM {l:OpenLaw}{n:Nat}(hn:l.most=some n) {P:Params}{h:Heap}{args:List WData}{vals:List ai}
    (xw:l.row.toRowW.claim.pre args=true) (IU:WellAll P h vals args) :
    ∃a vs ns,vals = [Value.ref a]/\args = [WData.list (ns.map WData.int)]/\h.get? a=some { cls:=.type "list",data:=.seq vs.toArray }/\IntsAre vs ns/\ns.length<=n:=by
  have UN:WShape.hasAll [] args [.list .int]=true:=(pre_splitW xw).1;have hc:l.pre.holds [] { args:=args } = true:=(pre_splitW xw).2;obtain⟨d,r,rfl,h1,h2⟩:=hasAllW_cons UN;obtain rfl:=hasAllW_nil h2;obtain⟨xs,rfl,h3⟩:=hasW_list h1;obtain⟨ns,rfl⟩:=items_int h3;have hlen:ns.length<=n:=by
    unfold OpenLaw.pre at hc;have h4:(WTm.not (.lt (.lit (.int (n:Int))) (.len (.arg 0)))).holds [] { args:=[.list (ns.map .int)] } = true:=by
      have h4:=(holds_andW hc).1;rw[hn] at h4;exact h4
    have h5:=condW_of h4 (w_not (w_lt w_lit (w_len_list (w_arg rfl))));rw[ay] at h5;refine ku fun q=>?_
    have q':(n:Int)<((ns.length:Nat):Int):=by lia
    first
      | (rw[aR q'] at h5;exact absurd h5 (by decide))
      | (simp at h5;lia)
  cases IU with
  | cons w1 w2=>
    cases w2;cases w1 with
    | list ho IV=>exact⟨_,_,ns,rfl,rfl,ho,UL ns _ IV,hlen⟩
theorem UO (l:OpenLaw) (args:List WData):l.row.toRowW.claim.post args (.bool true) args=true:=
  postW_of (r:=l.row.toRowW) (X:=(true == true))
    (show WShape.has [] (.bool true) .bool=true by first | rfl | decide | simp[WShape.has,WShape.arms,WShape.armsAll])
    (show (WTm.eq .res (.lit (.bool true))).value [] { args:=args,res:=some (.bool true),after:=args } = some (.bool (true == true)) from w_eq_bool (w_res rfl) w_lit) rfl
theorem pS {l:OpenLaw}{n:Nat}{q:aP}{loose:List Str}{XP:(Str->Option ai)->Heap->Prop}{YP:World->Heap->Prop}{d:DefRec}
    (hn:l.most=some n) (ur:d.params.defaults = [])
    (call:∀(w:World) (cW bA:au) (mg mb:Str->Option ai) (fa:ah) (o:Obj) (pm cd doc:ai) (a:ah) (vs:List ai) (ns:List Int),
      Ground q loose [] XP w cW mg mb bA.heap->YP w bA.heap->
      bA.heap.get? fa=some o->o.data = .func (docDef d.name d.params d.body d.scope pm cd doc)->bA.heap.CodeRec cd d.name->mg d.name=some (.ref fa)->
      bA.heap.get? a=some { cls:=.type "list",data:=.seq vs.toArray }->IntsAre vs ns->ns.length<=n->bA.gens = #[]->
      codeAny (model l.prog w) callerA (.call (.ref fa) ⟨[.ref a],[]⟩) (fun r s'=>r = .ok (.ret (.bool true))/\OldK bA.heap s'.heap/\s'.os=bA.os/\AllBare s'.gens) bA) :
    WalkO q loose XP YP l.row.toRowW d [] (fun f vs=>PySem.call f vs):=by
  intro w cW bA mg mb G Y fa o pm cd doc dV kV ho hd pL hD Bt hg args vals as xw UP hrd IU hlo;obtain rfl:dV = .none:=Dflts.none hD ur;obtain rfl:kV = .none:=Dflts.noKw hD;obtain⟨a,vs,ns,rfl,rfl,zV,hints,hlen⟩:=UM hn xw IU;refine enter_call (fk (call w cW bA mg mb fa o pm cd doc a vs ns G Y ho (fd_plain hd) pL Bt zV hints hlen hg) fun r s' hq=>?_);obtain⟨rfl,h2,h3,h4⟩:=hq;exact⟨.inl ⟨.bool true,.bool true,[],rfl,fun _=>rfl,.bool true,UO l _,fun _=>⟨List.Pairwise.nil,fun _ hm=>(nomatch hm)⟩⟩,h2,h3,h4⟩
end M4
namespace L2
open PySem PySem.Spec PyProof.Rows
theorem M5:∀{vs:List ai}{ns:List Int},IntsAre vs ns->Vals (ns.map V.int) vs
  | _,_,.nil=>.nil
  | _,_,.cons n t h=>.cons ⟨t,rfl⟩ (M5 h)
def xx (H:Hp):Prop:=∀b,H b=none\/∃o xs,H b=some (.gp o (.lst xs))
theorem UQ {P:aP}{w:World}{K:aE}{mg mb:Str->Option ai}{CX:ql}{k:Nat}{fa a:ah}{fd:FuncData}{x:Str}{sp:Sp}{bA:au}{vs:List ai}{ns:List Int}
    (KX:K.In bA.heap) (FP:bA.heap.Ns mainGlobals mg) (hb:bA.heap.Ns builtinsNs mb) (UR:∀x:Str,x≠"__name__"->mb x=bootBuiltins x) (IW:bA.heap.NoLimit) (hg:bA.gens = #[])
    (ha:bA.heap.get? a=some { cls:=.type "list",data:=.seq vs.toArray }) (hi:IntsAre vs ns) (hl:ns.length<=sizeLine) (hr:b8 k callerA)
    (F:∀base:Heap,K.In base->base.Ns mainGlobals mg->i8 P w K mg base CX k fa fd [x] sp) (CS:∀(s:au) (u:ai),BindsTo s fd ⟨[u],[]⟩ [(x,u)])
    (uo:∀H:Hp,xx H->aI K H a (ns.map V.int)->sp [.ref a] H (fun v _=>v = .bl true) fun _ _ _=>False)
    (CT:∀H e s',CX [] H bA (fun _ _ _=>False) e s'->False) :
    codeAny (model P w) callerA (.call (.ref fa) ⟨[.ref a],[]⟩) (fun r s'=>r = .ok (.ret (.bool true))/\OldK bA.heap s'.heap/\s'.os=bA.os/\AllBare s'.gens) bA:=by
  have rv:=M5 hi;have IX:=hi.length;have core:∀H:Hp,xx H->aI K H a (ns.map V.int)->jo P w H bA.heap->(∀b,H b≠none->b=a)->(H a≠none->K.lookup a=none)->
      codeAny (model P w) callerA (.call (.ref fa) ⟨[.ref a],[]⟩) (fun r s'=>r = .ok (.ret (.bool true))/\OldK bA.heap s'.heap/\s'.os=bA.os/\AllBare s'.gens) bA:=by
    intro H hO hS bu hA hK;have rQ:∀{b:ah}{o:Obj},bA.heap.get? b=some o->H b=none->(o8 bA.heap H).get? b=some o:=fun e n=>Sv e n
    have CC:∀{b:ah}{o:Obj}{es:Array DictEntry}{ep:Nat},bA.heap.get? b=some o->o.data = .dict es ep->H b=none:=fun {b o es ep} e d=>by
      cases q:H b with
      | none=>rfl
      | some u=>
        have e':b=a:=hA b (by rw[q];simp);subst e';rw[ha] at e;cases e;have d':Data.seq vs.toArray _=Data.dict es ep:=d;cases d'
    have FQ:∀{b:ah}{m:Str->Option ai},bA.heap.Ns b m->(o8 bA.heap H).Ns b m:=fun {b m} ⟨o,es,ep,e,d,r⟩=>⟨o,es,ep,rQ e (CC e d),d,r⟩
    have M6:K.In (o8 bA.heap H):=fun b o e=>rQ (KX b o e) (by
      cases q:H b with
      | none=>rfl
      | some u=>
        have e':b=a:=hA b (by rw[q];simp);subst e';rw[hK (by rw[q];simp)] at e;cases e)
    have hM:Mod K mg (o8 bA.heap H):=⟨M6,FQ FP,⟨mb,FQ hb,UR⟩,let ⟨mc,h1,h2⟩:=IW;⟨mc,FQ h1,h2⟩⟩;have e0:qJ P w K mg (o8 bA.heap H) callerA [] bA H:=⟨rfl,hM,fun b o e=>Sw e,Nat.le_of_eq (Su _ _),trivial,fun b hb=>absurd (show b∈([]:List ah) from hb) (by simp),bu,.of_eq hg⟩;refine fk ((F _ M6 (FQ FP)).run callerA [] bA H ⟨[.ref a],[]⟩ [.ref a] [.ref a] _ _ hr e0 (CS bA (.ref a)) (.cons rfl .nil) (uo H hO hS)) fun r s' h=>?_
    cases r with
    | error e=>exact (CT H e s' h).elim
    | ok fl=>
      cases fl with
      | next=>exact False.elim h
      | brk=>exact False.elim h
      | cont=>exact False.elim h
      | ret u=>
        obtain⟨v,H',os,bare,un,zW,r',q⟩:=h;have q':v = .bl true:=q;subst q';obtain rfl:u=Value.bool true:=r';refine⟨rfl,OldK.of_keep fun b o e=>?_,os,bare⟩;cases q:H b with
        | none=>exact un.keep b o e q (by intro z;exact absurd (show b∈([]:List ah) from z) (by simp)) (by simp)
        | some u=>
          rcases hO b with z | ⟨ob,xs,z⟩
          · rw[q] at z;cases z
          · have z2:=un.kI b ob _ z;obtain⟨e1,_⟩:=bu b _ z;obtain⟨e2,_⟩:=zW b _ z2;rw[e] at e1;cases e1;exact e2
  cases hk:K.lookup a with
  | some o=>
    have e:=KX a o hk;rw[ha] at e;cases e;refine core (fun _=>none) (fun _=>.inl rfl) (.inr ⟨_,vs.toArray,_,hk,rfl,rfl,rfl,by rw[bV,IX];exact hl,by simpa using rv⟩) (fun b u z=>by have z':(none:Option HO)=some u:=z;cases z') (fun b z=>absurd rfl z) fun z=>absurd rfl z
  | none=>
    refine core (fun b=>if b=a then some (.gp { cls:=.type "list",data:=.seq vs.toArray } (.lst (ns.map V.int))) else none) (fun b=>?_) (.inl (.inr ⟨{ cls:=.type "list",data:=.seq vs.toArray },av rfl⟩)) (fun b u z=>?_) (fun b z=>?_) fun _=>hk
    · by_cases hb:b=a
      · exact .inr ⟨_,_,av hb⟩
      · exact .inl (aq hb)
    · by_cases hb:b=a
      · have z':=(av hb).symm.trans z;cases z';subst hb;exact⟨ha,by rw[ay];exact hl,vs,_,rv,ha⟩
      · have z':=(aq hb).symm.trans z;cases z'
    · by_cases hb:b=a
      · exact hb
      · exact absurd (aq hb) z
abbrev M7 {K:aE}{h:Heap}(_:K.In h):aE:=K
theorem US {l:PySem.W.OpenLaw}{n k:Nat}{q:aP}{loose:List Str}{XP:(Str->Option ai)->Heap->Prop}{YP:World->Heap->Prop}{d:DefRec}{K:Params->aE}{CX:World->ql}{sp:World->Sp}{x:Str}
    (hn:l.most=some n) (rO:n<=sizeLine) (ur:d.params.defaults = []) (hr:b8 k callerA)
    (hY:∀(w:World) (h:Heap),YP w h->(K w.params).In h)
    (F:∀(w:World) (mg:Str->Option ai) (fa:ah) (h:Heap),(K w.params).In h->h.Ns mainGlobals mg->mg d.name=some (.ref fa)->
      ∃fd:FuncData,(∀(s:au) (u:ai),BindsTo s fd ⟨[u],[]⟩ [(x,u)])/\
        ∀base:Heap,(K w.params).In base->base.Ns mainGlobals mg->i8 l.prog w (K w.params) mg base (CX w) k fa fd [x] (sp w))
    (uo:∀(w:World) (H:Hp) (a:ah) (ns:List Int),ns.length<=n->xx H->aI (K w.params) H a (ns.map V.int)->sp w [.ref a] H (fun v _=>v = .bl true) fun _ _ _=>False)
    (CT:∀(w:World) (H:Hp) (s:au) (e:ai) (s':au),CX w [] H s (fun _ _ _=>False) e s'->False) :
    PySem.W.WalkO q loose XP YP l.row.toRowW d [] (fun f vs=>PySem.call f vs):=by
  refine M4.pS hn ur fun w cW bA mg mb fa o pm cd doc a vs ns G Y ho hd pL Bt zV hints hlen hg=>?_
  have KX:=hY w _ Y;obtain⟨fd,hb,hF⟩:=F w mg fa _ KX G.T.g Bt;exact UQ KX G.T.g G.T.b G.T.builtins G.T.nolimit hg zV hints (cy hlen rO) hr hF hb (fun H hO hS=>uo w H a ns hlen hO hS) fun H e s'=>CT w H bA e s'
theorem uR {l:PySem.W.OpenLaw}{n k:Nat}{q:aP}{loose:List Str}{XP:(Str->Option ai)->Heap->Prop}{YP:World->Heap->Prop}{d:DefRec}{K:Params->aE}{CX:ql}{sp:aE->Sp}{x:Str}
    (hn:l.most=some n) (rO:n<=sizeLine) (ur:d.params.defaults = []) (hr:b8 k callerA)
    (hY:∀(w:World) (h:Heap),YP w h->(K w.params).In h)
    (F:∀(w:World) (mg:Str->Option ai) (fa:ah) (h:Heap),(K w.params).In h->h.Ns mainGlobals mg->mg d.name=some (.ref fa)->
      ∃fd:FuncData,(∀(s:au) (u:ai),BindsTo s fd ⟨[u],[]⟩ [(x,u)])/\
        ∀base:Heap,(K w.params).In base->base.Ns mainGlobals mg->i8 l.prog w (K w.params) mg base CX k fa fd [x] (sp (K w.params)))
    (uo:∀(K:aE) (H:Hp) (a:ah) (ns:List Int),ns.length<=n->xx H->aI K H a (ns.map V.int)->sp K [.ref a] H (fun v _=>v = .bl true) fun _ _ _=>False)
    (CT:∀(H:Hp) (s:au) (e:ai) (s':au),CX [] H s (fun _ _ _=>False) e s'->False) :
    PySem.W.WalkO q loose XP YP l.row.toRowW d [] (fun f vs=>PySem.call f vs):=
  US (K:=K) (CX:=fun _=>CX) (sp:=fun w=>sp (K w.params)) hn rO ur hr hY F (fun w H a ns h1 h2 h3=>uo (K w.params) H a ns h1 h2 h3) fun _ H s e s'=>CT H s e s'
def qo (s:Stmt) (j:Nat):Stmt:=match s with
  | .ClassDef _ _ _ body _ _ _ _ _ _ _=>body.getD j (.Pass ⟨0,0,0,0⟩)
  | _=>.Pass ⟨0,0,0,0⟩
def zX (s:Stmt):Arguments:=match s with
  | .FunctionDef _ a _ _ _ _ _ _ _ _=>a
  | _=>{ posonlyargs:=[],args:=[],vararg:=none,kwonlyargs:=[],kw_defaults:=[],kwarg:=none,defaults:=[] }
def uu (s:Stmt):List Stmt:=match s with
  | .FunctionDef _ _ b _ _ _ _ _ _ _=>b
  | _=>[]
def zo (s:Stmt):Scope:=match s with
  | .FunctionDef _ _ _ _ _ _ sc _ _ _=>sc
  | _=>{ kind:=.function,names:=[],isGenerator:=false,isCoroutine:=false }
abbrev qL:ql:=fun _ _ _ _ _ _=>False
abbrev E0:XK:=fun _ _ _=>False
theorem FT {X:Cx}:xh qL X E0:=fun _ _ _ _ _ _ _ h=>h.elim
structure CU (K:aE) (x qual:Str) (st:Stmt) (f:ah) (fd:FuncData):Prop where
  ex:∃(oc:ai) (od:Option ah) (kV doc pm:ai) (an:Option ah) (bY ct:ai) (lE:Array (Option ai)),
    fd=PySem.W.fnOf x qual (zX st) (uu st) (zo st) .none kV doc pm an bY ct/\K.lookup f=some ⟨oc,od,.func fd,lE⟩/\PySem.W.codeIn K bY qual=true
  kp:PySem.W.keepIn K (.ref f)=true
section
variable {P:aP}{w:World}{K:aE}{mg:Str->Option ai}{base:Heap}
theorem CU.ok {x qual:Str}{st:Stmt}{f:ah}{fd:FuncData}{N ps:List Str}{k:Nat}{sp:Sp}(F:CU K x qual st f fd) (S:aF N ps (zo st)) (len:∀vs H Q E,sp vs H Q E->vs.length=ps.length)
    (jX:∀(bY:ai) (A:Around) (outer:List Env) (s:au) (H:Hp) (vs:List V) (Q:VK) (E:XK),b8 k (A.deeper (envOfC qual (zo st) s.heap.objs.size f bY))->sp vs H Q E->
      ∃t,nN (mJ qL P w K mg base N qual (zo st) f bY A outer s H E).zF (uu st) t/\t { nx:=fun _ H'=>Q .cQ H',rt:=Q } (start N vs) H):i8 P w K mg base qL (k+1) f fd ps sp:=by
  obtain⟨oc,od,kV,doc,pm,an,bY,ct,lE,rfl,lk,pL⟩:=F.ex;refine MO lk pL S len fun A outer s H vs Q E hr uo=>?_
  obtain⟨t,h,q⟩:=jX bY A outer s H vs Q E hr uo;exact⟨t,h.zF,q⟩
theorem M8 {x qual:Str}{st:Stmt}{f:ah}{oc:ai}{od an:Option ah}{lE:Array (Option ai)}{kV doc pm bY ct:ai}(l:K.lookup f=some ⟨oc,od,.func (PySem.W.fnOf x qual (zX st) (uu st) (zo st) .none kV doc pm an bY ct),lE⟩)
    (c:PySem.W.codeIn K bY qual=true) (k:PySem.W.keepIn K (.ref f)=true):CU K x qual st f (PySem.W.fnOf x qual (zX st) (uu st) (zo st) .none kV doc pm an bY ct):=⟨⟨oc,od,kV,doc,pm,an,bY,ct,lE,rfl,l,c⟩,k⟩
end
theorem k7 {A:Around}{k:Nat}(hr:b8 k A):A.units+1<cLine:=gZ (oN (by decide:1<=64) _) hr.units
theorem zx {n:Nat}(h:n<=1000):n<sizeLine:=gZ h (by decide)
section
variable {X:Cx}
theorem pv (i:Nat) {x:Str}{pos:Pos}(hN:X.N[i]? = some x:=by rfl) (hv:HG X.env.scope x:=by first | exact Or.inl rfl | exact Or.inr (Or.inl rfl) | exact Or.inr (Or.inr rfl)) (hd:(x == ("__debug__" : Str))=false:=by decide)
    (pL:(x == ("__classdict__" : Str))=false:=by decide):PE X (.Name x pos) (Ce i):=Sy hN hv hd pL
end
theorem i9 {A B:Prop}(h:B):if false=true then A else B:=by
  rw[aq bJ];exact h
theorem nB {A B:Prop}(h:A):if true=true then A else B:=by
  rw[av rfl];exact h
theorem dF {c A B:Prop} [Decidable c] (h1:c->A) (h2:¬c->B):if c then A else B:=by
  by_cases h:c
  · rw[av h];exact h1 h
  · rw[aq h];exact h2 h
def ak (H H':Hp):Prop:=∀b o,H b=some o->H' b=some o
theorem ak.refl (H:Hp):ak H H:=fun _ _ h=>h
theorem ak.trans {H H1 H2:Hp}(a:ak H H1) (b:ak H1 H2):ak H H2:=fun c o h=>b c o (a c o h)
theorem ak.free {H H':Hp}(e:ak H H') {l:ah}(h:H' l=Option.none):H l=Option.none:=by
  cases q:H l with
  | none=>rfl
  | some o=>
    rw[e l o q] at h;cases h
theorem ak.seq {K:aE}{H H':Hp}{a:ah}{xs:List V}(e:ak H H') (h:aI K H a xs):aI K H' a xs:=by
  rcases h with (h | ⟨o,h⟩) | h
  · exact .inl (.inl (e _ _ h))
  · exact .inl (.inr ⟨o,e _ _ h⟩)
  · exact .inr h
section
variable {X:Cx}
theorem M9:mH X (.builtin "len") (fun xs H Q=>∃a kvs,xs = [V.ref a]/\H a=some (.dK kvs)/\Q (.int kvs.length) H):=by
  intro pins s σ H xs us Q I r h;obtain⟨a,kvs,rfl,ha,q⟩:=h;obtain⟨u,rfl,ru⟩:=pO r;cases ru;exact MZ I (.inl ha) fun t s' I'=>⟨.int kvs.length,H,I',⟨t,rfl⟩,q⟩
end
def sQ (cells:List (Str×ah)):List (Str×NameKind)->List (Str×ah)->List (Str×ah)
  | [],cs=>cs
  | (n,k)::r,cs=>sQ cells r (if (k == NameKind.free)=true then (match cells.lookup n with | some c=>(n,c)::cs | none=>cs) else cs)
theorem UT {scope:Scope}{env:Env}(h:∀x∈scope.names,x.2 = .free->∃c,env.cells.lookup x.1=some c):closureFor scope env=pure (sQ env.cells scope.names []):=by
  unfold closureFor;have go:∀(names:List (Str×NameKind)) (cs:List (Str×ah)),(∀x∈names,x.2 = .free->∃c,env.cells.lookup x.1=some c)->
      (forIn names cs (fun (x:Str×NameKind) (r:List (Str×ah))=>if (x.2 == NameKind.free)=true then (do let a ←cellOf env x.1;pure (ForInStep.yield ((x.1,a)::r))) else pure (ForInStep.yield r)):Sem (List (Str×ah)))=pure (sQ env.cells names cs):=by
    intro names
    induction names with
    | nil=>intro cs _;rfl
    | cons x r ih=>
      intro cs hc;obtain⟨n,k⟩:=x;have hr:∀y∈r,y.2 = .free->∃c,env.cells.lookup y.1=some c:=fun y hy=>hc y (bz _ hy)
      rw[kF];cases e:(k == NameKind.free) with
      | true=>
        obtain⟨c,hl⟩:=hc (n,k) fR (by simpa using e);have eT:env.cells.lookup n=some c:=hl;have ec:cellOf env n=pure c:=by unfold cellOf;rw[eT]
        show (_ >>= _)=pure (sQ env.cells r (if (k == NameKind.free)=true then _ else _));rw[e,eT];simp only [if_true,ec,pure_bind];exact ih _ hr
      | false=>
        show (_ >>= _)=pure (sQ env.cells r (if (k == NameKind.free)=true then _ else _));rw[e];simp only [jP,dY,pure_bind];exact ih _ hr
  exact (bX (· >>= fun r=>pure r) (go scope.names [] h)).trans (pure_bind _ _)
theorem Bu {α:Type}{y n:Str}{c:α}{r:List (Str×α)}(h:y=n):((n,c)::r).lookup y=some c:=by
  subst h;simp
theorem CV {α:Type}{y n:Str}{c:α}{r:List (Str×α)}(h:¬y=n):((n,c)::r).lookup y=r.lookup y:=by
  rw[oX,fP.mpr h]
theorem Na {cells:List (Str×ah)}{n:Str}{k:NameKind}{cs:List (Str×ah)}(hs:∀y d,cs.lookup y=some d->cells.lookup y=some d) :
    ∀y d,(if (k == NameKind.free)=true then (match cells.lookup n with | some c=>(n,c)::cs | none=>cs) else cs).lookup y=some d->cells.lookup y=some d:=by
  intro y d h;split at h
  · split at h
    · rename_i c hc
      by_cases hy:y=n
      · rw[Bu hy] at h;rw[hy,hc];exact h
      · rw[CV hy] at h;exact hs y d h
    · exact hs y d h
  · exact hs y d h
theorem IY (cells:List (Str×ah)):∀(names:List (Str×NameKind)) (cs:List (Str×ah)),(∀y d,cs.lookup y=some d->cells.lookup y=some d)->
    ∀y d,(sQ cells names cs).lookup y=some d->cells.lookup y=some d
  | [],_,hs,y,d,h=>hs y d h
  | (n,k)::r,cs,hs,y,d,h=>IY cells r _ (Na hs) y d h
theorem Nc (cells:List (Str×ah)) {x:Str}{c:ah}(hc:cells.lookup x=some c):∀(names:List (Str×NameKind)) (cs:List (Str×ah)),(∀y d,cs.lookup y=some d->cells.lookup y=some d)->
    ((x,NameKind.free)∈names\/cs.lookup x=some c)->(sQ cells names cs).lookup x=some c
  | [],_,_,h=>by
    rcases h with h | h
    · cases h
    · exact h
  | (n,k)::r,cs,hs,h=>by
    refine Nc cells hc r _ (Na hs) ?_
    by_cases hx:(x,NameKind.free)=(n,k)
    · cases hx
      right
      rw[av (by rfl),hc];exact Bu rfl
    · rcases h with h | h
      · rcases aJ.mp h with h | h
        · exact absurd h hx
        · exact .inl h
      · right
        split
        · split
          · rename_i c' Fi
            by_cases hn:x=n
            · rw[Bu hn];rw[hn,Fi] at hc;exact hc
            · rw[CV hn];exact h
          · exact h
        · exact h
theorem IZ (env:Env) (x:Str):∀names:List (Str×NameKind),
    (names.map fun (n,k)=>if (k == NameKind.free&&env.scope.kind == .function&&env.kindOf n == some .cell) then (n,NameKind.cell) else (n,k)).lookup x =
      (names.lookup x).map fun k=>if (k == NameKind.free&&env.scope.kind == .function&&env.kindOf x == some .cell) then NameKind.cell else k
  | []=>rfl
  | (n,k)::r=>by
    have ih:=IZ env x r;rw[dJ]
    by_cases hx:x=n
    · subst hx;rw[Bu rfl];show List.lookup x ((if (k == NameKind.free&&env.scope.kind == .function&&env.kindOf x == some .cell)=true then (x,NameKind.cell) else (x,k))::_)=some (if (k == NameKind.free&&env.scope.kind == .function&&env.kindOf x == some .cell)=true then NameKind.cell else k)
      by_cases hc:(k == NameKind.free&&env.scope.kind == .function&&env.kindOf x == some .cell)=true
      · rw[av hc,av hc];exact Bu rfl
      · rw[aq hc,aq hc];exact Bu rfl
    · rw[CV hx,←ih];show List.lookup x ((if (k == NameKind.free&&env.scope.kind == .function&&env.kindOf n == some .cell)=true then (n,NameKind.cell) else (n,k))::_)=_
      by_cases hc:(k == NameKind.free&&env.scope.kind == .function&&env.kindOf n == some .cell)=true
      · rw[av hc];exact CV hx
      · rw[aq hc];exact CV hx
theorem UU {scope:Scope}{env:Env}{x:Str}(h:scope.names.lookup x=some .free):(relabel scope env).names.lookup x=some .cell\/(relabel scope env).names.lookup x=some .free:=by
  have e:=IZ env x scope.names;rw[h] at e;have e':(relabel scope env).names.lookup x=some (if (NameKind.free == NameKind.free&&env.scope.kind == .function&&env.kindOf x == some .cell)=true then NameKind.cell else NameKind.free):=e;rw[e'];split
  · exact .inl rfl
  · exact .inr rfl
theorem UW {scope:Scope}{env:Env}{x:Str}(nc:∀y∈scope.names,y.2≠.cell) (h:(relabel scope env).names.lookup x=some .cell\/(relabel scope env).names.lookup x=some .free):(x,NameKind.free)∈scope.names:=by
  have e:=IZ env x scope.names;have e':(relabel scope env).names.lookup x=_:=e;cases q:scope.names.lookup x with
  | none=>
    rw[q] at e';rw[e'] at h;rcases h with h | h<;>cases h
  | some k=>
    rw[q] at e';have m:=PySem.mem_of_lookup q;cases k with
    | free=>exact m
    | cell=>exact absurd rfl (nc _ m)
    | _=>
      rw[e'] at h;rcases h with h | h<;>cases h
structure dZ (scope pG:Scope) (cap:List Str):Prop where
  kind:scope.kind = .function
  uS:∀y∈scope.names,y.2≠.cell
  loc:∀y∈scope.names,y.2 = .local->scope.names.lookup y.1=some .local
  free:∀y∈scope.names,y.2 = .free->pG.names.lookup y.1=some .cell\/pG.names.lookup y.1=some .free
  cap:∀x∈cap,scope.names.lookup x=some .free
def pH (X:Cx) (N:List Str) (scope:Scope) (C:ah) (s:au) (H:Hp) (ex:List ah):Cx where
  prog:=X.prog
  w:=X.w
  K:=X.K
  mg:=X.mg
  base:=X.base
  A:=X.A
  N:=N
  cW:=s
  pJ:=H
  env:=compEnvC scope (sQ X.env.cells scope.names []) C X.env
  outer:=X.stack
  stack:=X.stack
  ex:=ex
  fn:=fun _=>false
  calm:=X.calm
  pn:=[]
  xe:=fun _ _=>False
def uT (own:List Str) (ix:List Nat) (σ:St):St:=own.map (fun _=>none)++ix.map fun i=>(σ[i]?).join
theorem Nd {X:Cx}{pins:aG}{σ:St}{H:Hp}{s:au}{scope:Scope}{cap:List Str}(I:Inv X pins σ H s) (S:dZ scope X.env.scope cap) :
    closureFor scope X.env=pure (sQ X.env.cells scope.names []):=
  UT fun x hx hf=>I.ok.has x.1 (S.free x hx hf)
theorem UX {X:Cx}{pins:aG}{σ:St}{H:Hp}{s:au}{scope:Scope}{own cap:List Str}{ix:List Nat}{fp:List ah}{iP:Heap}{m:Str->Option ai}{tk:Nat}
    (I:Inv X pins σ H s) (S:dZ scope X.env.scope cap) (k8:ix.map (fun i=>X.N[i]?)=cap.map some) (hf:∀b∈fp,iw X pins H b) (dz:∀b∈fp,b<s.heap.objs.size)
    (hn:iP.Ns s.heap.objs.size m) (hk:∀b o,s.heap.get? b=some o->iP.get? b=some o) :
    Inv (pH X (own++cap) scope s.heap.objs.size s H fp) [] (uT own ix σ) H { s with heap:=iP,toks:=tk }:=by
  have sub:∀y d,(sQ X.env.cells scope.names []).lookup y=some d->X.env.cells.lookup y=some d:=IY _ _ _ (fun y d h=>by cases h);have has:∀y c,(y,NameKind.free)∈scope.names->X.env.cells.lookup y=some c->(sQ X.env.cells scope.names []).lookup y=some c:=fun y c hy hc=>Nc _ hc _ _ (fun y d h=>by cases h) (.inl hy)
  have hlen:ix.length=cap.length:=by
    have:=bX List.length k8;simpa using this
  refine⟨⟨I.mod,S.kind,I.ok.glob,I.ok.blt,aH _,fun x y c e1 e2=>I.ok.inj x y c (sub _ _ e1) (sub _ _ e2),fun x hx=>?_,fun x c z=>(by cases z),I.ok.hd,I.ok.frames,.inl rfl,fun b hb=>⟨aW (dz b hb),fun x c e=>(hf b hb).2.2.2.2.1 x c (sub _ _ e)⟩,I.bs,
      cy I.ok.uH I.sz,fun b o e hb=>?_,fun b hb z=>?_,I.stack,I.lP⟩,rfl,I.bare,Un.kept hk,⟨m,hn,fun i x v e1 e2 e3=>?_⟩,fun x c e=>?_,I.bu.fresh (aH _),fun x c e=>I.eS x c (sub _ _ e),fun p hp=>absurd (show p∈([]:aG) from hp) (by simp),I.bu.kept hk,?_⟩
  · have m':=UW (env:=X.env) S.uS hx;obtain⟨c,hc⟩:=I.ok.has x (S.free _ m' rfl);exact⟨c,has x c m' hc⟩
  · obtain⟨f0,f1,f2,f3,f4,f5⟩:=hf b hb;rcases f3 with z | z
    · exact I.ok.qG b o e z
    · exact absurd (dG (dG (aK e) I.ok.uH) z) (dS _)
  · obtain⟨f0,f1,f2,f3,f4,f5⟩:=hf b hb;rcases aJ.mp (I.o9 b z) with z | z
    · exact f1 z
    · exact f2 z
  · have e1:(own++cap)[i]? = some x:=e1;unfold uT at e2
    by_cases hi:i<own.length
    · rw[lW (by simpa using hi),aX] at e2;cases q:own[i]? with
      | none=>rw[q] at e2;cases e2
      | some y=>rw[q] at e2;cases e2
    · rw[kP (by simpa using hi)] at e1;rw[kP (by simpa using hi),ay,aX] at e2;generalize i-own.length=j at e1 e2;cases q:ix[j]? with
      | none=>rw[q] at e2;cases e2
      | some k=>
        rw[q] at e2;have e2:(σ[k]?).join=some v:=cD e2;have UY:σ[k]? = some (some v):=by
          cases q2:σ[k]? with
          | none=>rw[q2] at e2;cases e2
          | some o=>rw[q2] at e2;exact bX some e2
        have eN:X.N[k]? = some x:=by
          have:=bX (fun l=>l[j]?) k8;simp only [aX,q,e1,Option.map_some] at this;exact cD this
        have jc:=S.cap x (aZ e1);have lG:=PySem.mem_of_lookup jc;have CW:=S.free _ lG rfl;obtain⟨m0,hn0,hl⟩:=I.loc;obtain⟨u,r,l⟩:=hl k x v eN UY (.inr CW);rcases l with ⟨kd,_⟩ | ⟨kd,c,e,z⟩
        · have kd:X.env.scope.names.lookup x=some .local:=kd;rcases CW with ho | ho<;>(have ho:X.env.scope.names.lookup x=_:=ho;rw[kd] at ho;cases ho)
        · exact⟨u,r,.inr ⟨UU jc,c,has x c lG e,z.keeps hk⟩⟩
  · obtain⟨v,q⟩:=I.cell x c (sub _ _ e);exact⟨v,q.keeps hk⟩
  · show (uT own ix σ).length=(own++cap).length;unfold uT;simp[hlen]
theorem UZ {X:Cx}{pins:aG}{σ aN:St}{H H':Hp}{s s':au}{scope:Scope}{N:List Str}{fp:List ah}{h':Heap}
    (I:Inv X pins σ H s) (hf:∀b∈fp,iw X pins H b) (J:Inv (pH X N scope s.heap.objs.size s H fp) [] aN H' s') (hs:Heap.SameBut s.heap.objs.size s'.heap h'):Inv X pins σ H' { s' with heap:=h' }:=by
  have ne:∀b o,s.heap.get? b=some o->b≠s.heap.objs.size:=fun b o e=>aW (aK e)
  have B:Un (i0 X.stack) fp H H' s.heap s'.heap:=J.base;refine I.rN (s':={ s' with heap:=h' }) (ch:=fp) J.os ⟨fun b o e n hb hx=>?_,fun b o e n hb hx=>?_,B.free,fun b o e hx=>?_,B.eF,B.kI,B.lC⟩ (fun b ob e=>?_) J.bare fun b hb=>?_
  · exact (hs.2 b (ne b o e)).trans (B.keep b o e n hb hx)
  · obtain⟨sl,e1⟩:=B.slot b o e n hb hx;exact⟨sl,(hs.2 b (ne b o e)).trans e1⟩
  · obtain⟨o',e1⟩:=B.there b o e hx;exact⟨o',(hs.2 b (ne b o e)).trans e1⟩
  · have fr:H' s.heap.objs.size=none:=J.free;refine (J.bu b ob e).dR (fun c w' hc q=>(hs.2 c ?_).trans q) (fun _ q=>q) fun _ _ q=>q
    rintro rfl;rcases hc with hc | hc
    · rw[←hc,fr] at e;cases e
    · rw[fr] at hc;cases hc
  · obtain⟨f0,f1,f2,f3,f4,f5⟩:=hf b hb;exact⟨f3,f1,f4,f5⟩
def CY (X:Cx) (ifs:List Expr) (t:TT):Prop:=
  ∀(pins:aG) (s:au) (σ:St) (H:Hp) (Q:Bool->Hp->Prop),Inv X pins σ H s->t σ H Q->
    wpAny (model X.prog X.w) X.A (forIn ifs true fun c r=>if r=true then do let ok ←isTrue c X.env (eval c X.env);pure (ForInStep.yield ok) else pure (ForInStep.yield r)) (TP X pins σ Q) X.xe s
def pT:TT:=fun _ H Q=>Q true H
theorem xy {X:Cx}:CY X [] pT:=fun _ s σ H Q I h=>wpAny_tests_nil ⟨H,I,h⟩
theorem U1 {X:Cx}{c:Expr}{t:TT}(h:PT X c t):CY X [c] t:=fun pins s σ H Q I hw=>wpAny_tests_one (h pins s σ H Q I hw)
theorem U3 {prog:aP}{w:World}{A:Around}{R:Result->au->Prop}{s:au}{elt target iter:Expr}{ifs:List Expr}{scope:Scope}{pos:Pos}{it acc:ai}{env:Env}(I:Nat->au->Prop)
    (turn:∀n s,I n s->wpAny (model prog w) A (pyNext it) (fun r bA=>match r with
      | none=>R (.ok .next) bA
      | some v=>wpAny (model prog w) A (letOwnedTupleGo target it v) (fun _ yy=>wpAny (model prog w) A (assign target env v) (fun _ iK=>
          wpAny (model prog w) A (forIn ifs true fun c r=>if r=true then do let ok ←isTrue c env (eval c env);pure (ForInStep.yield ok) else pure (ForInStep.yield r)) (fun ok nA=>
            if ok=true then wpAny (model prog w) A (eval elt env) (fun x pU=>
              wpAny (model prog w) A (call (.builtin "list.append") [acc,x]) (fun _ CZ=>∃m,m<n/\I m CZ) (notedBy (model prog w) A env fun e s'=>R (.error e) s') pU) (notedBy (model prog w) A env fun e s'=>R (.error e) s') nA
            else ∃m,m<n/\I m nA) (notedBy (model prog w) A env fun e s'=>R (.error e) s') iK) (notedBy (model prog w) A env fun e s'=>R (.error e) s') yy) (notedBy (model prog w) A env fun e s'=>R (.error e) s') bA) (notedBy (model prog w) A env fun e s'=>R (.error e) s') s)
    (n:Nat) (h:I n s):codeAny (model prog w) A (.compLoop (.ListComp elt [⟨target,iter,ifs,0⟩] scope pos) 0 it acc env) R s:=by
  refine codeAny_loop rfl I (fun n s hI=>?_) n h;show wpAny _ A ((compTurn (.ListComp elt [⟨target,iter,ifs,0⟩] scope pos) 0 it acc env).onRaise (fun x=>do noteFrame x env;theTreesLotGoes x)) _ _ s;refine wpAny_noted ?_;rw[compTurn_list];refine aj (iJ (aj (b7 (turn n s hI) (fun r bA iP=>?_) fun _ _ h'=>h')));cases r with
  | none=>exact aD iP
  | some v=>
    refine aj (b7 iP (fun _ yy C0=>?_) fun _ _ h'=>h');refine aj (b7 C0 (fun _ iK pA=>aj (b7 pA (fun ok nA xu=>?_) fun _ _ h'=>h')) fun _ _ h'=>h');cases ok with
    | false=>exact aD ⟨rfl,xu⟩
    | true=>
      exact aj (aj (b7 xu (fun x pU I0=>aj (b7 I0 (fun _ CZ Ja=>aD (aD ⟨rfl,Ja⟩)) fun _ _ h'=>h')) fun _ _ h'=>h'))
def FU (own:List Str) (ix:List Nat) (J:It) (g:TG) (tc:TT) (te:TE) (σ:St) (H1:Hp) (D:ah) (Q:VK):Prop:=
  ∃W:Nat->Nat->St->List V->Hp->Prop,(∃m,W 0 m (uT own ix σ) [] (upd H1 D (.lst [])))/\∀i m aN ys H',W i m aN ys H'->H' D=some (.lst ys)/\
    ((J.stop i H'/\Q (.ref D) H')\/(J.go i H'/\ys.length<sizeLine/\∀x H2,J.uL i H' x H2->g x aN H2 fun ni H3=>tc ni H3 fun b H4=>
      if b=true then te ni H4 fun y H5=>H5 D=some (.lst ys)/\∃m',m'<m/\W (i+1) m' ni (ys++[y]) (upd H5 D (.lst (ys++[y]))) else H4 D=some (.lst ys)/\∃m',m'<m/\W (i+1) m' ni ys H4))
def Nf (own:List Str) (ix:List Nat) (wi:TI) (g:TG) (tc:TT) (te:TE):TE:=fun σ H Q=>wi σ H fun J H1=>∀D,H1 D=none->FU own ix J g tc te σ H1 D Q
section
variable {X:Cx}{tg iter elt:Expr}{ifs:List Expr}{scope:Scope}{pos:Pos}{own cap:List Str}{ix:List Nat}{wi:TI}{g:TG}{tc:TT}{te:TE}
theorem Ng {pins:aG}{σ:St}{s:au}{E:aA}{RR:ai->ah->Result->au->Prop}{Q:VK}
    (hc:X.calm=true) (S:dZ scope X.env.scope cap) (k8:ix.map (fun i=>X.N[i]?)=cap.map some)
    (hg:∀C s H ex,PG (pH X (own++cap) scope C s H ex) tg g) (ht:∀C s H ex,CY (pH X (own++cap) scope C s H ex) ifs tc) (he:∀C s H ex,PE (pH X (own++cap) scope C s H ex) elt te)
    {zH:ai}(h:HX X pins σ tg (fun J H1=>∀D,H1 D=none->FU own ix J g tc te σ H1 D Q) zH s)
    (hR:∀(D C:ah) (s':au) (H':Hp) (m:Str->Option ai),s'.heap.Ns C m->iw X pins H' C->(∀h',Heap.SameBut C s'.heap h'->Inv X pins σ H' { s' with heap:=h' })->Q (.ref D) H'->RR (.ref D) C (.ok .next) s') :
    wpAny (model X.prog X.w) X.A (newList []) (fun acc nA=>wpAny (model X.prog X.w) X.A (newFunctionEnv scope X.env.globals (sQ X.env.cells scope.names []) [] X.env.qual none .none (some X.env)) (fun C2 pU=>
      codeAny (model X.prog X.w) X.A (.compStart (.ListComp elt [⟨tg,iter,ifs,0⟩] scope pos) 0 zH acc { C2 with scope:=relabel scope X.env }) (RR acc C2.locals) pU) E nA) E s:=by
  obtain⟨it,fp,tn,J,H2,rfl,I2,T,Fq,f2,q2⟩:=h;refine g8 (wpAny_newFunctionEnv S.uS (by intro y hy;simp at hy) (fun iP qM qN=>?_) S.kind);dsimp only at qM qN ⊢;have hD:H2 s.heap.objs.size=none:=I2.bu.fresh (aH _);obtain⟨W,⟨m0,w0⟩,turn⟩:=q2 s.heap.objs.size hD;have I3:Inv X pins σ (upd H2 s.heap.objs.size (.lst [])) { s with heap:=s.heap.push { cls:=.type "list",data:=.seq ([]:List ai).toArray } }:=I2.zT (t':=s.toks) (its:=[]) .nil (c6 _);have Nh:∀b∈fp,b<s.heap.objs.size:=fun b hb=>by
    obtain⟨o,e,_⟩:=T.obj 0 _ Fq b hb;exact aK e
  have f3:∀b∈fp,iw X pins (upd H2 s.heap.objs.size (.lst [])) b:=fun b hb=>⟨by rw[zg (aW (Nh b hb))];exact (f2 b hb).1,(f2 b hb).2⟩
  generalize hH:s.heap.push { cls:=.type "list",data:=.seq ([]:List ai).toArray } = H3 at I3 qM qN ⊢;have sz:H3.objs.size=s.heap.objs.size+1:=by rw[←hH,iF]
  have up:∀b o,H3.get? b=some o->iP.get? b=some o:=fun b o e=>qN.extBut b o (aW (aK e)) (bq _ e)
  have old:∀b o,s.heap.get? b=some o->iP.get? b=some o:=fun b o e=>up b o (by rw[←hH];exact bq _ e)
  have Ni:∀b∈fp,b<({ s with heap:=H3 }:au).heap.objs.size:=fun b hb=>by show b<H3.objs.size;rw[sz];exact jz (Nh b hb)
  have Nj:tn 0 iP:=T.keep _ _ _ Fq fun b _ o e=>old b o e
  have qH:∀{H':Hp},(∀b∈fp,H' b=none)->∀b∈fp,iw (pH X (own++cap) scope H3.objs.size { s with heap:=H3 } (upd H2 s.heap.objs.size (.lst [])) fp) [] H' b:=fun hn b hb=>
    ⟨hn b hb,aW (Ni b hb),fun z=>(aJ.mp (I3.o9 b z)).elim (f2 b hb).2.1 (f2 b hb).2.2.1,.inl hb,fun x c e=>(f2 b hb).2.2.2.2.1 x c (IY _ _ _ (fun y d h=>by cases h) _ _ e),fun p hp=>absurd (show p∈([]:aG) from hp) (by simp)⟩
  have loop:∀pU:au,pU = { s with heap:=iP,toks:=s.toks+([]:List (Str×ai)).length }->
      codeAny (model X.prog X.w) X.A (.compLoop (.ListComp elt [⟨tg,iter,ifs,0⟩] scope pos) 0 (.ref it) (.ref s.heap.objs.size) (compEnvC scope (sQ X.env.cells scope.names []) H3.objs.size X.env))
        (RR (.ref s.heap.objs.size) H3.objs.size) pU:=by
    rintro pU rfl;have I4:=UX (own:=own) (fp:=fp) (tk:=s.toks+([]:List (Str×ai)).length) I3 S k8 f3 Ni qM up;refine U3 (fun n s'=>∃i aN ys H',Inv (pH X (own++cap) scope H3.objs.size { s with heap:=H3 } (upd H2 s.heap.objs.size (.lst [])) fp) [] aN H' s'/\tn i s'.heap/\(∀b∈fp,H' b=none)/\W i n aN ys H') ?_ m0
      ⟨0,_,[],_,I4,Nj,fun b hb=>(f3 b hb).1,w0⟩
    rintro n s5 ⟨i,FW,ys,H5,I5,Bj,Ft,w5⟩;obtain⟨hD5,C3⟩:=turn i n FW ys H5 w5;rcases C3 with ⟨stop,q⟩ | ⟨go,hz,step⟩
    · refine bR (T.done (pH X (own++cap) scope H3.objs.size { s with heap:=H3 } (upd H2 s.heap.objs.size (.lst [])) fp) rfl rfl rfl hc i [] s5 FW H5 _ I5 (qH Ft) Bj stop) fun r s6 aT=>?_
      obtain⟨hr,I6⟩:=aT;subst hr;obtain⟨m6,Jb,_⟩:=I6.loc;exact hR _ _ s6 H5 m6 Jb (I3.pM (aH _) I6.free) (fun h' hs=>UZ I3 f3 I6 hs) q
    · refine bR (T.item (pH X (own++cap) scope H3.objs.size { s with heap:=H3 } (upd H2 s.heap.objs.size (.lst [])) fp) rfl rfl rfl hc i [] s5 FW H5 _ I5 (qH Ft) Bj go) fun r s6 aT=>?_
      obtain⟨u,hr,h6⟩:=aT;subst hr;refine bR h6 fun _ s7 aT=>?_
      obtain⟨x,H7,I7,r7,y7,Jc,U4⟩:=aT;have U7:=I7.pinned (qH U4) (T.obj _ _ Jc);refine b7 (hg _ _ _ _ _ s7 FW H7 x u _ U7 r7 (step x H7 y7)) (fun _ s8 aT=>?_) fun _ _ z=>False.elim z
      obtain⟨Jd,H8,I8,q8⟩:=aT;refine b7 (ht _ _ _ _ _ s8 Jd H8 _ I8 q8) (fun ok s9 aT=>?_) fun _ _ z=>False.elim z
      obtain⟨H9,I9,q9⟩:=aT;have again:∀{s':au}{aN:St}{H':Hp}{Je:List V}{m':Nat},Inv (pH X (own++cap) scope H3.objs.size { s with heap:=H3 } (upd H2 s.heap.objs.size (.lst [])) fp) ([]++Cq fp s7.heap) aN H' s'->m'<n->W (i+1) m' aN Je H'->
          ∃m,m<n/\∃i aN ys H',Inv (pH X (own++cap) scope H3.objs.size { s with heap:=H3 } (upd H2 s.heap.objs.size (.lst [])) fp) [] aN H' s'/\tn i s'.heap/\(∀b∈fp,H' b=none)/\W i m aN ys H':=fun {s' aN H' Je m'} I' hm w'=>by
        refine⟨m',hm,i+1,aN,Je,H',I'.jU,T.keep _ _ _ Jc fun b hb o e=>(I'.pin (b,o) (e8 _ (e8 _ (Fp hb e)))).1,fun b hb=>?_,w'⟩;obtain⟨o,e,d⟩:=T.obj _ _ Jc b hb;exact (I'.pin (b,o) (e8 _ (e8 _ (Fp hb e)))).2.1
      cases ok with
      | false=>
        rw[aq bJ] at q9 ⊢;obtain⟨_,m',hm,w'⟩:=q9;exact again I9 hm w'
      | true=>
        rw[av rfl] at q9 ⊢;refine b7 (he _ _ _ _ _ s9 Jd H9 _ I9 q9) (fun v qO aT=>?_) fun _ _ z=>False.elim z
        obtain⟨y,Bv,U8,U9,Jf,m',hm,w'⟩:=aT;refine b7 (pQ (X:=pH X (own++cap) scope H3.objs.size { s with heap:=H3 } (upd H2 s.heap.objs.size (.lst [])) fp) _ qO Jd Bv (.ref s.heap.objs.size) [y] (.ref s.heap.objs.size) [v] (fun _ H'=>H'=upd Bv s.heap.objs.size (.lst (ys++[y]))) U8 rfl (.cons U9 .nil) ⟨_,ys,y,rfl,rfl,Jf,hz,rfl⟩)
          (fun _ nC ⟨_,H11,Va,_,Vb⟩=>?_) fun _ _ z=>False.elim z
        subst Vb;exact again Va hm w'
  exact codeAny_compStart_list (loop _ rfl) (T.self _ 0 _ _ _ Nj (loop _ rfl))
theorem yz {pG:Scope}(hc:X.calm=true) (S':dZ scope pG cap) (k8:ix.map (fun i=>X.N[i]?)=cap.map some) (hi:PI X tg iter wi)
    (hg:∀C s H ex,PG (pH X (own++cap) scope C s H ex) tg g) (ht:∀C s H ex,CY (pH X (own++cap) scope C s H ex) ifs tc) (he:∀C s H ex,PE (pH X (own++cap) scope C s H ex) elt te)
    (hs:∀x,foldedSetIterable iter X.env x=pure x:=by intro _;rfl) (ho:X.env.scope=pG:=by rfl):PE X (.ListComp elt [⟨tg,iter,ifs,0⟩] scope pos) (Nf own ix wi g tc te):=by
  have S:dZ scope X.env.scope cap:=ho▸S';intro pins s σ H Q I h;rw[eval_ListComp];refine wpAny_comprehension_free (use:=none) rfl hs (Nd I S) S.kind S.loc (bR (hi pins s σ H _ I h) fun xv bA iP=>bR iP fun zH iK pA=>?_);refine Ng (RR:=fun acc C=>compPost (model X.prog X.w) X.A X.xe none (EP X pins σ Q) acc C) hc S k8 hg ht he pA fun D C s' H' m hn _ hI q=>?_
  exact⟨m,hn,fun h' C4=>⟨.ref D,H',hI h' C4,rfl,q⟩⟩
theorem Nk {pG:Scope}{i:Nat}{y:Str}{py C5:Pos}(hc:X.calm=true) (hN:X.N.Nodup) (uv:X.N[i]? = some y) (hy:X.env.scope.names.lookup y=some .local)
    (Vc:swapsWith (.ListComp elt [⟨tg,iter,ifs,0⟩] scope pos) (some (.Name y py)) C5.line X.env=pure true) (S':dZ scope pG cap) (k8:ix.map (fun i=>X.N[i]?)=cap.map some) (hi:PI X tg iter wi)
    (hg:∀C s H ex,PG (pH X (own++cap) scope C s H ex) tg g) (ht:∀C s H ex,CY (pH X (own++cap) scope C s H ex) ifs tc) (he:∀C s H ex,PE (pH X (own++cap) scope C s H ex) elt te)
    (hs:∀x,foldedSetIterable iter X.env x=pure x:=by intro _;rfl) (ho:X.env.scope=pG:=by rfl):PS X (.Assign [.Name y py] (.ListComp elt [⟨tg,iter,ifs,0⟩] scope pos) C5) (w4 (Nf own ix wi g tc te) (zw i)):=by
  have S:dZ scope X.env.scope cap:=ho▸S';intro pins s σ H D I h;rw[exec_Assign_Name_used _ _ _ _ Vc];refine aj (iJ (aj ?_));show wpAny _ X.A (do let _ ←comprehension (.ListComp elt [⟨tg,iter,ifs,0⟩] scope pos) scope X.env _ (newList []) false (eval iter X.env) (some (assign (.Name y py) X.env))) _ _ s;refine aj (b7 (wpAny_comprehension_free (use:=some (assign (.Name y py) X.env)) (Q:=fun _ s'=>SP X pins D .next s') rfl hs (Nd I S) S.kind S.loc
    (bR (hi pins s σ H _ I h) fun xv bA iP=>bR iP fun zH iK pA=>?_)) (fun _ s' hq=>aD (aD hq)) fun _ _ e=>e)
  refine Ng (RR:=fun acc C=>compPost (model X.prog X.w) X.A X.xe (some (assign (.Name y py) X.env)) (fun _ s'=>SP X pins D .next s') acc C) hc S k8 hg ht he pA fun D' C s' H' m hn hF hI q=>?_
  show wpAny _ X.A (assign (.Name y py) X.env (.ref D')) _ _ _;have I':Inv X pins σ H' s':=hI s'.heap (Heap.SameBut.refl ..);refine wpAny_assign_Name (Me I' hN uv (.inl hy) (v:=.ref D') rfl (fun vZ Vd aT=>?_) (.inr hy));obtain⟨a,Jg,ha⟩:=aT;obtain⟨f0,f1,f2,f3,f4,f5⟩:=hF;have Ve:C≠a:=by
    rcases ha with ha | ha
    · rw[ha];exact f1
    · exact fun z=>f4 _ _ ha z.symm
  exact⟨m,hn.sameBut Jg Ve,fun h' C4=>⟨_,H',Vd.turned (t':=vZ.toks) (fun b o hb e=>(C4.2 b hb).trans e) f0 f1 f3 f4 f5,q⟩⟩
end
structure Fix (J:It) (xs:List V) (P:Hp->Prop):Prop where
  go:∀i H,P H->i<xs.length->J.go i H
  uL:∀i H x H',P H->J.uL i H x H'->H'=H/\(i<xs.length->xs[i]? = some x)
  stop:∀i H,P H->xs.length<=i->J.stop i H
theorem C6 {K:aE}{a:ah}{xs:List V}:Fix (Bh K a) xs (fun H=>aI K H a xs):=
  ⟨fun i H h hi=>⟨xs,xs[i],h,by simp[hi]⟩,fun i H x H' h y=>⟨y.1,fun _=>y.2 xs h⟩,fun i H h hi=>⟨xs,h,hi⟩⟩
theorem Nl {lo:Int}{n:Nat}:Fix (yr lo n) ((List.range n).map fun i=>V.int (lo+(i:Nat))) (fun _=>True):=
  ⟨fun i H h hi=>by show i<n;simpa using hi,fun i H x H' h y=>⟨y.1,fun hi=>by
    have uv:i<n:=by simpa using hi
    rw[aX,oO uv,y.2];rfl⟩,fun i H h hi=>by show n<=i;simpa using hi⟩
theorem Nm {J:It}{xs:List V}{P:Hp->Prop}{own:List Str}{ix:List Nat}{tc:TT}{te:TE}{σ:St}{H1:Hp}{D:ah}{Q:VK}(F:Fix J xs P) (p:V->Bool) (f:V->V)
    (hP:∀ys,P (upd H1 D (.lst ys))) (hz:xs.length<=sizeLine)
    (ht:∀x∈xs,∀ys (Q':Bool->Hp->Prop),Q' (p x) (upd H1 D (.lst ys))->tc ((uT own ix σ).set 0 (some x)) (upd H1 D (.lst ys)) Q')
    (he:∀x∈xs,p x=true->∀ys (Q':VK),Q' (f x) (upd H1 D (.lst ys))->te ((uT own ix σ).set 0 (some x)) (upd H1 D (.lst ys)) Q')
    (hQ:Q (.ref D) (upd H1 D (.lst ((xs.filter p).map f)))):FU own ix J (zw 0) tc te σ H1 D Q:=by
  refine⟨fun i m aN ys H'=>m=xs.length-i/\i<=xs.length/\(∀z,aN.set 0 z=(uT own ix σ).set 0 z)/\ys=((xs.take i).filter p).map f/\H'=upd H1 D (.lst ys),
    ⟨xs.length,by simp,c6 _,fun _=>rfl,by simp,rfl⟩,?_⟩
  rintro i m aN ys H' ⟨rfl,hi,Vf,rfl,rfl⟩;refine⟨zd,?_⟩
  by_cases dz:i<xs.length
  · refine .inr ⟨F.go i _ (hP _) dz,?_,fun x H2 y=>?_⟩
    · rw[ay];have h1:((xs.take i).filter p).length<=(xs.take i).length:=fO _ _;rw[bI] at h1;lia
    · obtain⟨e,y'⟩:=F.uL i _ x H2 (hP _) y;subst e;have hx:=y' dz;have hm:x∈xs:=aZ hx;have tk:=take_succ_filter p xs i x hx;show tc (aN.set 0 (some x)) _ _;rw[Vf];refine ht x hm _ _ ?_;have C7:∀z,((uT own ix σ).set 0 (some x)).set 0 z=(uT own ix σ).set 0 z:=fun z=>List.set_set ..
      cases hp:p x with
      | true=>
        rw[av rfl];refine he x hm hp _ _ ⟨zd,xs.length-(i+1),by lia,rfl,dz,C7,?_,?_⟩
        · rw[tk,hp];simp
        · rw[Ss]
      | false=>
        rw[aq bJ];refine⟨zd,xs.length-(i+1),by lia,rfl,dz,C7,?_,?_⟩
        · rw[tk,hp];simp
        · rfl
  · have e:i=xs.length:=by lia
    subst e;refine .inl ⟨F.stop _ _ (hP _) (aH _),?_⟩;rw[bD];exact hQ
def sg (c:Nat):V:=.str ⟨#[c]⟩
section
variable {X:Cx}
theorem Jh:∀{bs:List Bool}{us:List ai},Vals (bs.map V.bl) us->us=bs.map Value.bool
  | [],_,r=>by cases r;rfl
  | b::bs,_,r=>by
    cases r with
    | cons r1 r2=>rw[show _=Value.bool b from r1,Jh r2];rfl
theorem Vg (bs:List Bool):((List.range bs.length).all fun i=>(bs[i]?).getD true)=bs.all id:=by
  rw[jD,iD,iD];constructor
  · intro h b hb;obtain⟨i,hi,e⟩:=lY.mp hb;have:=h i (dH.mpr hi);rw[aU hi,oY,e] at this;exact this
  · intro h i hi;have uv:=dH.mp hi;rw[aU uv,oY];exact h _ (jl uv)
theorem Vh (hc:X.calm=true):mH X (.builtin "all") (fun xs H Q=>∃(a:ah) (bs:List Bool),xs = [V.ref a]/\aI X.K H a (bs.map V.bl)/\Q (.bl (bs.all id)) H):=by
  intro pins s σ H xs us Q I r h;obtain⟨a,bs,rfl,ha,q⟩:=h;obtain⟨u,rfl,ru⟩:=pO r;cases ru;obtain⟨its,rv,pl,hz⟩:=I.list ha;have e:its=bs.map Value.bool:=Jh rv;subst e;have hl:=pl.isList;have dz:a<s.heap.objs.size:=by obtain⟨_,e,_⟩:=hl;exact aK e
  refine call_all_walk (kr hl ?_);refine⟨s.heap.objs.size,[s.heap.objs.size,a],[s.heap.objs.size],(bs.map Value.bool).toArray.size,_,_,fun i=>(bs[i]?).getD true,rfl,Walks.list (A:=X.A.in1) (I.ok.hd hc) _ a (aW dz) (bs.map Value.bool).toArray,
    ⟨⟨_,bH _ rfl,rfl,rfl⟩,hl.push _⟩,fun i v s' Q' E' hP hQ=>?_,fun h' tk hk=>?_⟩
  · have qp:(bs.map Value.bool)[i]? = some v:=by simpa using hP
    rw[aX] at qp;cases e:bs[i]? with
    | none=>rw[e] at qp;cases qp
    | some b=>
      rw[e] at qp;cases qp;simp only [e,oY] at hQ;exact jQ hQ
  · have e:((List.range (bs.map Value.bool).toArray.size).all fun i=>(bs[i]?).getD true)=bs.all id:=by
      rw[bV,ay];exact Vg bs
    rw[e];refine⟨.bl (bs.all id),H,?_,rfl,q⟩;exact I.kept fun b o eb=>hk b o (fun z=>by rw[ji.mp z] at eb;exact absurd (aK eb) (dS _)) (bq _ eb)
theorem Nn:∀{ys:List Str}{us:List ai},Vals (ys.map V.str) us->StrsAre us ys
  | [],_,r=>by cases r;exact .nil
  | y::ys,_,r=>by
    cases r with
    | cons r1 r2=>
      obtain⟨t,rfl⟩:=r1;exact .cons y t (Nn r2)
def Ji:V->Option Int->Option Int->Hp->VK->Prop:=fun x lo hi H Q=>∃z,x = .str z/\z.length<=sizeLine/\Q (.str (Txt.slice z lo hi)) H
theorem Vi:FI X Ji:=by
  intro pins s σ H x v vl vu lo hi sl Q I rx hs pl pu h;obtain⟨z,rfl,hz,q⟩:=h;obtain⟨t,rfl⟩:=rx;refine⟨"str",_,F.slot_str_getitem.lookup,typeIs_str _ _ _,?_⟩;have fin:∀(t':Tok) (k:Nat),EP X pins σ Q (.str (Txt.slice z lo hi) t') { s with toks:=k }:=fun t' k=>⟨.str _,H,I.tok k,⟨_,rfl⟩,q⟩
  obtain⟨o,ho,yC,hd⟩:=hs;cases pl<;>cases pu
  · exact oE (l:=none) (u:=none) (st:=none) ⟨o,ho,yC,hd⟩ rfl (o6 ⟨cy (Txt.slice_le z _ _) hz,fin⟩)
  · exact oE (l:=none) (u:=some (_,_)) (st:=none) ⟨o,ho,yC,hd⟩ rfl (o6 ⟨cy (Txt.slice_le z _ _) hz,fin⟩)
  · exact oE (l:=some (_,_)) (u:=none) (st:=none) ⟨o,ho,yC,hd⟩ rfl (o6 ⟨cy (Txt.slice_le z _ _) hz,fin⟩)
  · exact oE (l:=some (_,_)) (u:=some (_,_)) (st:=none) ⟨o,ho,yC,hd⟩ rfl (o6 ⟨cy (Txt.slice_le z _ _) hz,fin⟩)
theorem Vj:mH X (.builtin "isinstance") (fun xs H Q=>∃x t n b,xs = [x,V.ty n]/\jV X.K H x t/\PySem.W.kitOne X.K t (.type n)=some b/\Q (.bl b) H):=by
  intro pins s σ H xs us Q I r h;obtain⟨x,t,n,b,rfl,ty,e,q⟩:=h;obtain⟨u,w',rfl,ru,kZ⟩:=zN r;cases kZ;exact TN I ru ty e fun tk=>⟨.bl b,H,I.tok tk,rfl,q⟩
end
theorem uU {Pl:List ai->Prop}{n:Nat}(h:∀a r,r.length=n->Pl (a::r)):∀us:List ai,us.length=n+1->Pl us:=fun us e=>by
  cases us with
  | nil=>cases e
  | cons a r=>exact h a r (Nat.succ.inj e)
theorem ee {Pl:List ai->Prop}(h:∀a,Pl [a]):∀us:List ai,us.length=1->Pl us:=uU fun a r e=>by
  cases r with
  | nil=>exact h a
  | cons=>cases e
theorem jd {Pl:List ai->Prop}(h:∀a b,Pl [a,b]):∀us:List ai,us.length=2->Pl us:=uU fun a=>ee (h a)
theorem sR {Pl:List ai->Prop}(h:∀a b c,Pl [a,b,c]):∀us:List ai,us.length=3->Pl us:=uU fun a=>jd (h a)
theorem zY {Pl:List ai->Prop}(h:∀a b c d,Pl [a,b,c,d]):∀us:List ai,us.length=4->Pl us:=uU fun a=>sR (h a)
theorem Jj {Pl:List ai->Prop}(h:∀a b c d e,Pl [a,b,c,d,e]):∀us:List ai,us.length=5->Pl us:=uU fun a=>zY (h a)
def Df (K:aE) (mg:Str->Option ai) (x:Str) (st:Stmt) (ps:List Str):Prop:=
  ∃(f:ah) (fd:FuncData),CU K x x st f fd/\mg x=some (.ref f)/\∀us:List ai,us.length=ps.length->bindArgs fd ⟨us,[]⟩=pure (ps.zip us)
theorem bw {K:aE}{h:Heap}{mg:Str->Option ai}(X:K.In h) (G:h.Ns mainGlobals mg) {x:Str}{st:Stmt}{ps:List Str}{f:ah}{oc kV dc pm cd ct:ai}{od an:Option ah}{sl:Array (Option ai)}
    (hb:∀(kV doc pm:ai) (an:Option ah) (bY ct:ai) (us:List ai),us.length=ps.length->bindArgs (PySem.W.fnOf x x (zX st) (uu st) (zo st) .none kV doc pm an bY ct) ⟨us,[]⟩=pure (ps.zip us))
    (a:PySem.W.nsIn K mainGlobals x=some (some (.ref f))) (l:K.lookup f=some ⟨oc,od,.func (PySem.W.fnOf x x (zX st) (uu st) (zo st) .none kV dc pm an cd ct),sl⟩) (c:PySem.W.codeIn K cd x=true) (k:PySem.W.keepIn K (.ref f)=true):Df K mg x st ps:=
  ⟨f,_,M8 l c k,PySem.W.mg_of X G a,fun us hl=>hb kV dc pm an cd ct us hl⟩
theorem gB {K:aE}{h:Heap}{mg:Str->Option ai}(X:K.In h) (G:h.Ns mainGlobals mg) {x:Str}{u:ai}(a:PySem.W.nsIn K mainGlobals x=some (some u)):mg x=some u:=PySem.W.mg_of X G a
theorem gh {K:aE}{h:Heap}{mg:Str->Option ai}(X:K.In h) (G:h.Ns mainGlobals mg) {x:Str}(a:PySem.W.nsIn K mainGlobals x=some none):mg x=none:=PySem.W.mg_none_of X G a
def fH (P:aP) (w:World) (K:aE) (mg:Str->Option ai) (base:Heap) (x:Str) (ps:List Str) (k:Nat) (sp:Sp):Prop:=
  ∃(f:ah) (fd:FuncData),mg x=some (.ref f)/\PySem.W.keepIn K (.ref f)=true/\(∃oc od lE,K.lookup f=some ⟨oc,od,.func fd,lE⟩)/\(∀us:List ai,us.length=ps.length->bindArgs fd ⟨us,[]⟩=pure (ps.zip us))/\i8 P w K mg base qL k f fd ps sp
section
variable {P:aP}{w:World}{K:aE}{mg:Str->Option ai}{base:Heap}
theorem Df.has {x:Str}{st:Stmt}{N ps:List Str}{k:Nat}{sp:Sp}(D:Df K mg x st ps) (S:aF N ps (zo st)) (len:∀vs H Q E,sp vs H Q E->vs.length=ps.length)
    (jX:∀(f:ah) (bY:ai) (A:Around) (outer:List Env) (s:au) (H:Hp) (vs:List V) (Q:VK) (E:XK),b8 k (A.deeper (envOfC x (zo st) s.heap.objs.size f bY))->sp vs H Q E->
      ∃t,nN (mJ qL P w K mg base N x (zo st) f bY A outer s H E).zF (uu st) t/\t { nx:=fun _ H'=>Q .cQ H',rt:=Q } (start N vs) H):fH P w K mg base x ps (k+1) sp:=by
  obtain⟨f,fd,F,a,b⟩:=D;obtain⟨oc,od,kV,doc,pm,an,bY,ct,lE,e,lk,pL⟩:=id F.ex;exact⟨f,fd,a,F.kp,⟨oc,od,lE,lk⟩,b,F.ok S len (jX f)⟩
end
section
variable {X:Cx}{k:Nat}{ps:List Str}{sp:Sp}{x:Str}{p pos:Pos}{e:Expr}{es:List Expr}{t:TA}
theorem Vk (F:fH X.prog X.w X.K X.mg X.base x ps k sp) (hr:b8 k X.A) (hg:Gl X x) (ha:PA X (e::es) t) (iO:(x == ("__debug__" : Str))=false:=by decide)
    (he:starEach (e::es) X.env=(false,eval e X.env)::starEach es X.env:=by rfl) (gH:(backTo pos (starEach es X.env)).any (·.1)=false:=by rfl):PE X (.Call (.Name x p) (e::es) [] pos) (FD sp [] E0 t):=by
  obtain⟨f,fd,a,kp,lk,b,G⟩:=F;exact MH G hr hg a kp (.all b) .nil FT ha iO he gH
end
theorem uV {l:PySem.W.OpenLaw}{q:aP}{loose:List Str}{XP:(Str->Option ai)->Heap->Prop}{YP:World->Heap->Prop}{d:DefRec}{K:Params->aE}{k:Nat}{x:Str}{sp:aE->Sp}
    (hn:l.most=some 63) (ur:d.params.defaults = []) (hr:b8 k callerA) (hY:∀(w:World) (h:Heap),YP w h->(K w.params).In h)
    (uo:∀(K:aE) (H:Hp) (a:ah) (ns:List Int),ns.length<=63->aI K H a (ns.map V.int)->sp K [.ref a] H (fun v _=>v = .bl true) fun _ _ _=>False)
    (F:∀(w:World) (mg:Str->Option ai) (h:Heap),(K w.params).In h->h.Ns mainGlobals mg->∀base:Heap,(K w.params).In base->base.Ns mainGlobals mg->fH l.prog w (K w.params) mg base d.name [x] k (sp (K w.params))) :
    PySem.W.WalkO q loose XP YP l.row.toRowW d [] (fun f vs=>PySem.call f vs):=by
  refine L2.uR (n:=63) (k:=k) (x:=x) (CX:=qL) (sp:=sp) hn (by decide) ur hr hY (fun w mg fa h KX G Bt=>?_) (fun K H a ns hl _ hS=>uo K H a ns hl hS) fun _ _ _ _ z=>z
  obtain⟨f,fd,a,kp,⟨oc,od,lE,lk⟩,b,_⟩:=F w mg h KX G h KX G;have ef:fa=f:=by
    rw[Bt] at a;cases a;rfl
  subst ef;refine⟨fd,fun s u=>.of_eq (b [u] rfl),fun base kb nb=>?_⟩;obtain⟨f',Vl,a',C8,⟨Vm,Vn,Jk,FY⟩,b',G'⟩:=F w mg h KX G base kb nb;have ef:f'=fa:=by
    rw[Bt] at a';cases a';rfl
  subst ef;rw[lk] at FY;cases FY;exact G'
inductive cU (K:aE) (H:Hp):Nat->V->V->Bool->Prop where
  | flat {n:Nat}{x y:V}(fx:ny x=true) (fy:ny y=true):cU K H n x y (nQ x y)
  | lst {n:Nat}{a b:ah}{xs ys:List V}(e:Nat->Bool) (hx:aI K H a xs) (hy:aI K H b ys) (hl:xs.length=ys.length) (he:∀(i:Nat) x y,xs[i]? = some x->ys[i]? = some y->cU K H n x y (e i)) :
      cU K H (n+1) (.ref a) (.ref b) ((List.range xs.length).all e)
  | xA {n:Nat}{a b:ah}{xs ys:List V}(hx:aI K H a xs) (hy:aI K H b ys) (hl:xs.length≠ys.length):cU K H (n+1) (.ref a) (.ref b) false
  | tup {n:Nat}{a b:ah}{xs ys:List V}(e:Nat->Bool) (hx:bF K H a xs) (hy:bF K H b ys) (he:∀(i:Nat) x y,xs[i]? = some x->ys[i]? = some y->cU K H n x y (e i)) :
      cU K H (n+1) (.ref a) (.ref b) ((List.range (min xs.length ys.length)).all e&&xs.length == ys.length)
  | lt {n:Nat}{a b:ah}{xs ys:List V}(hx:aI K H a xs) (hy:bF K H b ys):cU K H (n+1) (.ref a) (.ref b) false
  | tl {n:Nat}{a b:ah}{xs ys:List V}(hx:bF K H a xs) (hy:aI K H b ys):cU K H (n+1) (.ref a) (.ref b) false
theorem FZ {x:V}(h:ny x=true):nQ x x=true:=by
  cases x<;>first | rfl | (simp[ny] at h;done) | (simp[nQ];done)
section
variable {X:Cx}{pins:aG}{σ:St}{H:Hp}{s:au}
theorem Np (I:Inv X pins σ H s) {a:ah}{xs ys:List V}(hx:aI X.K H a xs) (hy:bF X.K H a ys):False:=by
  obtain⟨its,_,⟨o,n,e,c,_,_⟩,_⟩:=I.list hx;obtain⟨its',_,⟨o',e',c',_⟩,_⟩:=I.tuple hy;rw[e] at e';cases e';rw[c] at c';injection c' with c'
  exact absurd c' (by decide)
theorem cU.refl (I:Inv X pins σ H s) {n:Nat}{x y:V}{b:Bool}(h:cU X.K H n x y b):x=y->b=true:=by
  induction h with
  | flat fx fy=>intro e;subst e;exact FZ fx
  | lst e hx hy hl he ih=>
    intro q;cases q;have:=I.jT hx hy;subst this;rw[iD];intro i hi;have hi:=dH.mp hi;exact ih i _ _ (aU hi) (aU hi) rfl
  | xA hx hy hl=>
    intro q;cases q;exact absurd (bX List.length (I.jT hx hy)) hl
  | tup e hx hy he ih=>
    intro q;cases q;have:=I.sM hx hy;subst this;rw[Nat.min_self,oZ,Bool.and_true,iD];intro i hi;have hi:=dH.mp hi;exact ih i _ _ (aU hi) (aU hi) rfl
  | lt hx hy=>intro q;cases q;exact (Np I hx hy).elim
  | tl hx hy=>intro q;cases q;exact (Np I hy hx).elim
theorem F0 (A:Around):A.in1.units<=A.units+1:=by
  first
    | exact aH _
    | exact fB _
    | (unfold Around.in1;simp)
theorem cU.at (I:Inv X pins σ H s) {n:Nat}{x y:V}{b:Bool}(h:cU X.K H n x y b):∀{u v:ai}{A:Around},RelV x u->RelV y v->A.units+n<cLine->
    SeqAt.EqAt A s u v b/\((∃p q,x = .ref p/\y = .ref q)->SeqAt.RcAt A s u v b):=by
  induction h with
  | flat fx fy=>
    intro u v A ru rv hu;refine⟨MT ru rv fx fy,fun aT=>?_⟩;obtain⟨p,q,e,_⟩:=aT;subst e;cases fx
  | @lst n a b xs ys e hx hy hl he ih=>
    intro u v A ru rv hu;cases ru;cases rv;obtain⟨its,r1,p1,_⟩:=I.list hx;obtain⟨dB,r2,p2,_⟩:=I.list hy;have l1:=r1.length;have l2:=r2.length;have h1:=F0 A;have rc:SeqAt.RcAt A s (.ref a) (.ref b) ((List.range xs.length).all e):=by
      have:=SeqAt.RcAt.lists (A:=A) (e:=e) p1.isList p2.isList (by simp;lia) (by lia) (fun j j1 j2=>by
        have g1:xs[j]? = some (xs[j]'(by simp at j1;lia)):=aU _;have g2:ys[j]? = some (ys[j]'(by simp at j2;lia)):=aU _;obtain⟨w1,q1,t1⟩:=r1.get g1;obtain⟨w2,q2,t2⟩:=r2.get g2;have:=(ih j _ _ g1 g2 t1 t2 (A:=A.in1) (by lia)).1;have z1:its.toArray[j]=w1:=by
          have:=bU.mp q1;obtain⟨_,z⟩:=this;simpa using z
        have z2:dB.toArray[j]=w2:=by
          have:=bU.mp q2;obtain⟨_,z⟩:=this;simpa using z
        rw[z1,z2];exact this)
      have es:its.toArray.size=xs.length:=by simp;lia
      rw[es] at this;exact this
    refine⟨?_,fun _=>rc⟩
    by_cases nE:a=b
    · subst nE;have:=(cU.lst e hx hy hl he).refl I rfl;rw[this];exact .same _
    · exact .of_refs nE rc
  | @xA n a b xs ys hx hy hl=>
    intro u v A ru rv hu;cases ru;cases rv;obtain⟨its,r1,p1,_⟩:=I.list hx;obtain⟨dB,r2,p2,_⟩:=I.list hy;have l1:=r1.length;have l2:=r2.length;have rc:SeqAt.RcAt A s (.ref a) (.ref b) false:=SeqAt.RcAt.lists_lengths p1.isList p2.isList (by simp;lia) (by lia);refine⟨?_,fun _=>rc⟩
    by_cases nE:a=b
    · subst nE;exact absurd (bX List.length (I.jT hx hy)) hl
    · exact .of_refs nE rc
  | @tup n a b xs ys e hx hy he ih=>
    intro u v A ru rv hu;cases ru;cases rv;obtain⟨its,r1,p1,_⟩:=I.tuple hx;obtain⟨dB,r2,p2,_⟩:=I.tuple hy;have l1:=r1.length;have l2:=r2.length;have h1:=F0 A;have rc:SeqAt.RcAt A s (.ref a) (.ref b) ((List.range (min xs.length ys.length)).all e&&xs.length == ys.length):=by
      have:=SeqAt.RcAt.tuples (A:=A) (e:=e) (show s.heap.IsTuple a its.toArray from p1) (show s.heap.IsTuple b dB.toArray from p2) (by lia) (fun j j1 j2=>by
        have g1:xs[j]? = some (xs[j]'(by simp at j1;lia)):=aU _;have g2:ys[j]? = some (ys[j]'(by simp at j2;lia)):=aU _;obtain⟨w1,q1,t1⟩:=r1.get g1;obtain⟨w2,q2,t2⟩:=r2.get g2;have:=(ih j _ _ g1 g2 t1 t2 (A:=A.in1) (by lia)).1;have z1:its.toArray[j]=w1:=by
          have:=bU.mp q1;obtain⟨_,z⟩:=this;simpa using z
        have z2:dB.toArray[j]=w2:=by
          have:=bU.mp q2;obtain⟨_,z⟩:=this;simpa using z
        rw[z1,z2];exact this)
      have es:its.toArray.size=xs.length:=by simp;lia
      have Vo:dB.toArray.size=ys.length:=by simp;lia
      rw[es,Vo] at this;exact this
    refine⟨?_,fun _=>rc⟩
    by_cases nE:a=b
    · subst nE;have:=(cU.tup e hx hy he).refl I rfl;rw[this];exact .same _
    · exact .of_refs nE rc
  | @lt n a b xs ys hx hy=>
    intro u v A ru rv hu;cases ru;cases rv;obtain⟨its,r1,p1,_⟩:=I.list hx;obtain⟨dB,r2,p2,_⟩:=I.tuple hy;exact⟨SeqAt.EqAt.list_tuple p1.isList (show s.heap.IsTuple b dB.toArray from p2) (by lia),fun _=>SeqAt.RcAt.list_tuple p1.isList (show s.heap.IsTuple b dB.toArray from p2) (by lia)⟩
  | @tl n a b xs ys hx hy=>
    intro u v A ru rv hu;cases ru;cases rv;obtain⟨its,r1,p1,_⟩:=I.tuple hx;obtain⟨dB,r2,p2,_⟩:=I.list hy;exact⟨SeqAt.EqAt.tuple_list (show s.heap.IsTuple a its.toArray from p1) p2.isList (by lia),fun _=>SeqAt.RcAt.tuple_list (show s.heap.IsTuple a its.toArray from p1) p2.isList (by lia)⟩
end
section
variable {X:Cx}{pins:aG}{σ:St}{H:Hp}{s:au}
theorem Nq (I:Inv X pins σ H s) {n:Nat}{xs ys:List V}{its dB:List ai}{e:Nat->Bool}(r1:Vals xs its) (r2:Vals ys dB) (he:∀(i:Nat) x y,xs[i]? = some x->ys[i]? = some y->cU X.K H n x y (e i)) {A:Around}(hu:A.units+n<cLine) :
    ∀(j:Nat) (h1:j<its.toArray.size) (h2:j<dB.toArray.size),SeqAt.EqAt A s its.toArray[j] dB.toArray[j] (e j):=fun j j1 j2=>by
  have l1:=r1.length;have l2:=r2.length;have g1:xs[j]? = some (xs[j]'(by simp at j1;lia)):=aU _;have g2:ys[j]? = some (ys[j]'(by simp at j2;lia)):=aU _;obtain⟨w1,q1,t1⟩:=r1.get g1;obtain⟨w2,q2,t2⟩:=r2.get g2;have:=((he j _ _ g1 g2).at I t1 t2 (A:=A) hu).1;have z1:its.toArray[j]=w1:=by
    obtain⟨_,z⟩:=bU.mp q1;simpa using z
  have z2:dB.toArray[j]=w2:=by
    obtain⟨_,z⟩:=bU.mp q2;simpa using z
  rw[z1,z2];exact this
theorem cU.ne (I:Inv X pins σ H s) {n:Nat}{p q:ah}{b:Bool}(h:cU X.K H n (.ref p) (.ref q) b) {A:Around}(hu:A.units+n<cLine):SeqAt.RcNeAt A s (.ref p) (.ref q) (!b):=by
  have h1:=F0 A;cases h with
  | flat fx fy=>cases fx
  | lst e hx hy hl he=>
    obtain⟨its,r1,p1,_⟩:=I.list hx;obtain⟨dB,r2,p2,_⟩:=I.list hy;have l1:=r1.length;have l2:=r2.length;have:=SeqAt.RcNeAt.lists (A:=A) (e:=e) p1.isList p2.isList (by simp;lia) (by lia) (Nq I r1 r2 he (A:=A.in1) (by lia));rw[bV,←l1] at this;exact this
  | xA hx hy hl=>
    obtain⟨its,r1,p1,_⟩:=I.list hx;obtain⟨dB,r2,p2,_⟩:=I.list hy;have l1:=r1.length;have l2:=r2.length;exact SeqAt.RcNeAt.lists_lengths p1.isList p2.isList (by simp;lia) (by lia)
  | tup e hx hy he=>
    obtain⟨its,r1,p1,_⟩:=I.tuple hx;obtain⟨dB,r2,p2,_⟩:=I.tuple hy;have l1:=r1.length;have l2:=r2.length;have:=SeqAt.RcNeAt.tuples (A:=A) (e:=e) (show s.heap.IsTuple p its.toArray from p1) (show s.heap.IsTuple q dB.toArray from p2) (by lia) (Nq I r1 r2 he (A:=A.in1) (by lia));rw[bV,bV,←l1,←l2] at this;exact this
  | lt hx hy=>
    obtain⟨its,r1,p1,_⟩:=I.list hx;obtain⟨dB,r2,p2,_⟩:=I.tuple hy;exact SeqAt.RcNeAt.list_tuple p1.isList (show s.heap.IsTuple q dB.toArray from p2) (by lia)
  | tl hx hy=>
    obtain⟨its,r1,p1,_⟩:=I.tuple hx;obtain⟨dB,r2,p2,_⟩:=I.list hy;exact SeqAt.RcNeAt.tuple_list (show s.heap.IsTuple p its.toArray from p1) p2.isList (by lia)
end
section
variable {X:Cx}
def C9 (K:aE):R2:=fun x y H Q=>∃p q b,x = .ref p/\y = .ref q/\cU K H 8 x y b/\Q (.bl b) H
theorem Vp (hu:X.A.units+9<cLine):jJ X (compareOp .Eq) (C9 X.K):=by
  intro pins s σ H x y v u Q I rx ry h;obtain⟨p,q,b,rfl,rfl,d,hq⟩:=h;exact (d.at I rx ry (A:=X.A) (by lia)).2 ⟨p,q,rfl,rfl⟩ X.prog X.w _ _ ⟨.bl b,H,I,rfl,hq⟩
def Dd (K:aE):R2:=fun x y H Q=>∃p q b,x = .ref p/\y = .ref q/\cU K H 8 x y b/\Q (.bl (!b)) H
theorem Vq (hu:X.A.units+9<cLine):jJ X (compareOp .NotEq) (Dd X.K):=by
  intro pins s σ H x y v u Q I rx ry h;obtain⟨p,q,b,rfl,rfl,d,hq⟩:=h;cases rx;cases ry;exact d.ne I (A:=X.A) (by lia) X.prog X.w _ _ ⟨.bl (!b),H,I,rfl,hq⟩
def De (K:aE) (neg:Bool):R2:=fun x y H Q=>∃(p:ah) (xs:List V) (e:V->Bool),y = .ref p/\(aI K H p xs\/bF K H p xs)/\(∀z∈xs,cU K H 8 z x (e z))/\Q (.bl (if neg then !xs.any e else xs.any e)) H
theorem Nr:∀{xs:List V}{us:List ai}{u:ai},Vals xs us->u∈us->∃x∈xs,RelV x u
  | _,_,_,.cons r t,h=>by
    rcases aJ.mp h with h | h
    · subst h;exact⟨_,fR ..,r⟩
    · obtain⟨x,hx,q⟩:=Nr t h;exact⟨x,bz _ hx,q⟩
def nF (e:V->Bool) (u:ai):Bool:=match Cj u with
  | some x=>e x
  | none=>false
theorem Nt {e:V->Bool}{x:V}{u:ai}(r:RelV x u):nF e u=e x:=by unfold nF;rw[r.abs]
theorem Jl {e:V->Bool}:∀{xs:List V}{us:List ai},Vals xs us->us.any (nF e)=xs.any e
  | _,_,.nil=>rfl
  | _,_,.cons r t=>by rw[gJ,gJ,Nt r,Jl t]
theorem Vr (hu:X.A.units+10<cLine):jJ X (compareOp .NotIn) (De X.K true):=by
  intro pins s σ H x y v u Q I rx ry h;obtain⟨p,xs,e,rfl,hq,hd,q⟩:=h;cases ry;have h1:=F0 X.A;have items:∀{its:List ai},Vals xs its->∀z,z∈its.toArray->SeqAt.EqAt X.A.in1 s z v (nF e z):=fun {its} r z hz=>by
    obtain⟨x',sO,rz⟩:=Nr r (by simpa using hz);rw[Nt rz];exact ((hd x' sO).at I rz rx (A:=X.A.in1) (by lia)).1
  rcases hq with hq | hq
  · obtain⟨its,r,pl,hz⟩:=I.list hq;refine SeqAt.notIn_listAt (nF e) pl.isList (items r) ⟨.bl _,H,I,rfl,?_⟩;rw[show its.toArray.any (nF e)=its.any (nF e) by simp,Jl r];exact q
  · obtain⟨its,r,pl,hz⟩:=I.tuple hq;refine SeqAt.notIn_tupleAt (nF e) pl (items r) ⟨.bl _,H,I,rfl,?_⟩;rw[show its.toArray.any (nF e)=its.any (nF e) by simp,Jl r];exact q
end
def Wd (v:V):Prop:=(∃x,v = .str x/\x.length<=100)\/∃i:Int,v = .int i/\i.natAbs<10 ^ 60
theorem Wd.flat {v:V}(h:Wd v):ny v=true:=by
  rcases h with ⟨x,rfl,_⟩ | ⟨i,rfl,_⟩<;>rfl
def Dg (xs ys:List V):Bool:=(List.range (min xs.length ys.length)).all (fun i=>match xs[i]?,ys[i]? with | some x,some y=>nQ x y | _,_=>true)&&xs.length == ys.length
theorem cU.uW {K:aE}{H:Hp}{n:Nat}{a b:ah}{xs ys:List V}(hx:bF K H a xs) (hy:bF K H b ys) (fx:∀x∈xs,ny x=true) (fy:∀x∈ys,ny x=true):cU K H (n+1) (.ref a) (.ref b) (Dg xs ys):=by
  refine cU.tup _ hx hy fun i x y e1 e2=>?_
  rw[e1,e2];exact cU.flat (fx x (aZ e1)) (fy y (aZ e2))
theorem Jm {xs:List V}(h:∀x∈xs,ny x=true):Dg xs xs=true:=by
  unfold Dg;rw[oZ,Bool.and_true,iD];intro i hi;rw[Nat.min_self] at hi;have hi:=dH.mp hi;rw[aU hi];exact FZ (h _ (jl hi))
theorem cU.uX {K:aE}{H:Hp}{n:Nat}{a b:ah}{xs:List V}(hx:aI K H a xs) (hy:aI K H b xs) (h:∀x∈xs,cU K H n x x true):cU K H (n+1) (.ref a) (.ref b) true:=by
  have:=cU.lst (n:=n) (fun _=>true) hx hy rfl fun i x y e1 e2=>by
    rw[e1] at e2;cases e2;exact h x (aZ e1)
  rw[show (List.range xs.length).all (fun _=>true)=true from iD.mpr fun _ _=>rfl] at this;exact this
theorem cU.yD {K:aE}{H:Hp}{n:Nat}{a b:ah}{xs ys:List V}(hx:bF K H a xs) (hy:bF K H b ys) (hl:xs.length=ys.length) (h:∀(i:Nat) x y,xs[i]? = some x->ys[i]? = some y->cU K H n x y true):cU K H (n+1) (.ref a) (.ref b) true:=by
  have:=cU.tup (n:=n) (fun _=>true) hx hy h;rw[show (List.range (min xs.length ys.length)).all (fun _=>true)=true from iD.mpr fun _ _=>rfl,hl,oZ] at this;exact this
theorem ak.tup {K:aE}{H H':Hp}{a:ah}{xs:List V}(e:ak H H') (h:bF K H a xs):bF K H' a xs:=by
  rcases h with (h | ⟨o,h⟩) | h
  · exact .inl (.inl (e _ _ h))
  · exact .inl (.inr ⟨o,e _ _ h⟩)
  · exact .inr h
theorem ak.new {H:Hp}{D:ah}{o:HO}(h:H D=none):ak H (upd H D o):=fun b u e=>by rw[zg (zh e h)];exact e
theorem ak.upd {H H':Hp}{D:ah}{o:HO}(e:ak H H') (h:H D=none):ak H (upd H' D o):=fun b u q=>by
  rw[zg (zh q h)];exact e b u q
section
variable {X:Cx}(K:aE) (h:X.K=K)
include h
theorem mO:zQ X (CI K):=h▸Ud
theorem zv:zQ X (CK K):=h▸Ue
theorem F4:FI X (CL K):=h▸Uj
theorem Vs:jJ X (binaryOp .Add) (MQ K):=h▸Ua
theorem Vt:jJ X (compareOp .In) (MV K false):=h▸Uk
theorem yE (hu:X.A.units+9<cLine):jJ X (compareOp .Eq) (C9 K):=h▸Vp hu
theorem Dh (hu:X.A.units+9<cLine):jJ X (compareOp .NotEq) (Dd K):=h▸Vq hu
theorem Vu (hu:X.A.units+10<cLine):jJ X (compareOp .NotIn) (De K true):=h▸Vr hu
theorem wg:mH X (.builtin "len") (fun xs H Q=>∃p ys,xs = [.ref p]/\(aI K H p ys\/bF K H p ys)/\Q (.int ys.length) H):=h▸Ul
theorem Ga:mH X (.type "list") (fun xs H Q=>∃p ys,xs = [.ref p]/\(aI K H p ys\/bF K H p ys)/\∀l,H l=none->Q (.ref l) (upd H l (.lst ys))):=h▸Um
theorem Nu:mH X (.builtin "isinstance") (fun xs H Q=>∃x t n b,xs = [x,V.ty n]/\jV K H x t/\PySem.W.kitOne K t (.type n)=some b/\Q (.bl b) H):=h▸Vj
theorem Vv (hc:X.calm=true):mH X (.builtin "all") (fun xs H Q=>∃(a:ah) (bs:List Bool),xs = [V.ref a]/\aI K H a (bs.map V.bl)/\Q (.bl (bs.all id)) H):=h▸Vh hc
variable {o e:Expr}{es:List Expr}{to:TE}{t:TA}{name:Str}{apos bO:Pos}{T id:String}{r:V->List V->Hp->VK->Prop}
theorem Jo (pa:PlainAttrs T) (slot:Slot T name id) (zR:typeOf (.builtin id)=pure (.type "method_descriptor")) (hm:CG X id r) (ho:PE X o to)
    (mK:attributeBase o name X.env (eval o X.env)=eval o X.env:=by rfl) (mL:(apos.endLine == bO.line)=true:=by rfl):PE X (.Call (.Attribute o name apos) [] [] bO) (CM K T r to):=h▸Uo pa slot zR hm ho mK mL
theorem pV (pa:PlainAttrs T) (slot:Slot T name id) (zR:typeOf (.builtin id)=pure (.type "method_descriptor")) (hm:CG X id r) (ho:PE X o to) (ha:PA X (e::es) t)
    (mK:attributeBase o name X.env (eval o X.env)=eval o X.env:=by rfl)
    (zS:((backTo bO (starEach (e::es) X.env)).all (fun x=>!x.1)&&(backToKw bO (keywordEach [] X.env)).all (fun x=>x.1.isSome)
      && decide ((e::es).length+([]:List Keyword).length+(if ([]:List Keyword).isEmpty then 0 else 1)<30))=true:=by rfl)
    (mL:(apos.endLine == bO.line)=true:=by rfl) (hs:starEach (e::es) X.env=(false,eval e X.env)::starEach es X.env:=by rfl) (qK:(backTo bO (starEach es X.env)).any (·.1)=false:=by rfl) :
    PE X (.Call (.Attribute o name apos) (e::es) [] bO) (MX K T r to t):=h▸Uq pa slot zR hm ho ha mK zS mL hs qK
end
section
variable {X:Cx}{tg:Expr}(K:aE) (h:X.K=K)
include h
theorem zz {l:Expr}{tl:TE}(hl:PE X l tl):PI X tg l (Mt K tl):=h▸S3 hl
theorem wj {es:List Expr}{k:Nat}{t:yq}{n:Nat}{pos:Pos}(hc:X.calm=true) (h':Cm X es t)
    (hn:(assignEach es X.env).length=n:=by rfl) (nh:(assignEach es X.env).findIdx? (·.1)=none:=by rfl):PG X (.Tuple es k pos) (Co K n t):=h▸SR hc h' hn nh
end
theorem jZ {A:Around}{k:Nat}(hr:b8 k A):A.units+9<cLine:=gZ (oN (by decide:9<=64) _) hr.units
theorem Jp {A:Around}{k:Nat}(hr:b8 k A):A.units+10<cLine:=gZ (oN (by decide:10<=64) _) hr.units
theorem zZ {c:TT}{t u:TS}{D:Ends}{σ:St}{H:Hp}(b:Bool) (ht:∀Q':Bool->Hp->Prop,(∀H',ak H H'->Q' b H')->c σ H Q') (hs:∀H',ak H H'->if b=true then t D σ H' else u D σ H'):uK c t u D σ H:=ht _ hs
theorem xB {c:TT}{t u:TS}{D:Ends}{σ:St}{H:Hp}(b:Bool) (ht:∀Q':Bool->Hp->Prop,Q' b H->c σ H Q') (hs:if b=true then t D σ H else u D σ H):uK c t u D σ H:=ht _ hs
theorem cU.qP {K:aE}{H:Hp}{n:Nat}{a b:ah}{xs:List V}(hx:aI K H a xs) (hy:aI K H b []):cU K H (n+1) (.ref a) (.ref b) (decide (xs = [])):=by
  by_cases h:xs = []
  · subst h;exact cU.lst (fun _=>true) hx hy rfl fun i x y e _=>by simp at e
  · rw[bg h];exact cU.xA hx hy fun z=>h (lZ.mp z)
theorem Gb {α:Type}{x:α}{xs:List α}:jY (x::xs) 0=some x:=by
  have:=pP (xs:=x::xs) (j:=0) (v:=x) rfl;exact this
theorem qQ {n:Nat}(h:n<=1000):n<=sizeLine:=kG (zx h)
open Builtin Builtin.Str
section
variable {X:Cx}{pins:aG}{σ:St}{H:Hp}{s:au}{h':Heap}
theorem Inv.rR {t':Nat}{ch:List ah}(I:Inv X pins σ H s) (k:∀b o,b ∉ ch->s.heap.get? b=some o->h'.get? b=some o) (hf:∀b∈ch,iw X pins H b):Inv X pins σ H { s with heap:=h',toks:=t' }:=by
  have Cb:∀b u,H b=some u->b ∉ ch:=fun b u e z=>by rw[(hf b z).1] at e;cases e
  refine I.step (g':=s.gens) (d':=s.drawn) (ch:=ch) (fun b hb=>⟨(hf b hb).2.2.2.1,(hf b hb).2.1,(hf b hb).2.2.2.2.1,(hf b hb).2.2.2.2.2⟩) (fun b o _ _ hc e _=>k b o hc e) (fun b o _ _ hc e _=>⟨o.slots,k b o hc e⟩) (fun _ _ _ _ n=>n)
    (fun b o hc e=>⟨o,k b o hc e⟩) (fun _ _ e=>e) (fun _ _ _ e=>e) (fun b ps e=>⟨#[],by rw[e];simp⟩) (fun m hm=>?_) (fun b u e=>?_) I.bare
  · obtain⟨o,es,ep,ho,r⟩:=hm;exact⟨o,es,ep,k _ o (fun z=>(hf _ z).2.1 rfl) ho,r⟩
  · refine (I.bu b u e).dR (fun c v hc q=>k c v ?_ q) (fun _ q=>q) fun _ _ q=>q
    rcases hc with z | z
    · rw[z];exact Cb b u e
    · exact Cb c _ z
end
open Sem (wp)
open Sem (wp)
def j0 (h:Heap) (d:ah) (es:Array DictEntry) (ep:Nat):Prop:=∃o,h.get? d=some o/\o.ExactDict/\o.data = .dict es ep
theorem j0.at {h h':Heap}{d:ah}{es:Array DictEntry}{ep:Nat}(q:j0 h d es ep) (k:∀o,h.get? d=some o->h'.get? d=some o):j0 h' d es ep:=let ⟨o,ho,r⟩:=q;⟨o,k o ho,r⟩
theorem j0.typeIs {s:au}{d:ah}{es:Array DictEntry}{ep:Nat}(q:j0 s.heap d es ep):s.TypeIs (.ref d) "dict":=let ⟨o,ho,c,_⟩:=q;⟨o,ho,c.1⟩
section
variable {prog:aP}{w:World}{A:Around}{E:aA}{s:au}
theorem Jq {d:ah}{es:Array DictEntry}{ep:Nat}{Q:aA}(hd:(d == sysModules)=false) (hm:j0 s.heap d es ep)
    (hQ:Q (.ref s.heap.objs.size) { s with heap:=s.heap.push { cls:=.type "dict_keyiterator",data:=.fields #[.ref d,.int 0 0,.int es.size 0,.int ep 0] } }):wpAny (model prog w) A (pyIter (.ref d)) Q E s:=by
  obtain⟨o,ho,hc,Di⟩:=id hm;have T:s.TypeIs (.ref d) "dict":=hm.typeIs;refine wpAny_pyIter_slot T F.slot_dict_iter (jR F.slot_dict_iter T F.entry_dict_iter ?_ (F.args_dict_iter_1 _));unfold Builtin.«dict.__iter__»;refine aj ?_;unfold Builtin.Dict.dictSlotNone;refine aj (wpAny_notOrdered_dict T ?_);show wpAny (model prog w) _ (pure (Value.ref d)) _ _ s;refine aD ?_;show wpAny (model prog w) _ (Builtin.Dict.showsAll d >>= _) _ _ s;unfold Builtin.Dict.showsAll;rw[aq (by rw[hd];exact bJ)];refine aj (aD (aj (oV ho Di (aj (o7 ho Di ?_)))));exact aj (g8 (aD ⟨_,rfl,"dict_keyiterator",_,⟨_,bH _ rfl,rfl⟩,pI.lookup,hQ⟩))
theorem Nv {it d:ah}{i ep:Nat}{es:Array DictEntry}{e:DictEntry}{Q:Option ai->au->Prop}(hit:s.heap.IsKeyIter it d i es.size ep) (hm:j0 s.heap d es ep) (hx:es[i]? = some e)
    (hQ:∀h1,h1.IsKeyIter it d (i+1) es.size ep->Heap.SameBut it s.heap h1->Q (some e.key) { s with heap:=h1 }):wpAny (model prog w) A (pyNext (.ref it)) Q E s:=by
  obtain⟨o,ho,hc,hd⟩:=id hit;obtain⟨od,Dj,pL,Dk⟩:=id hm;obtain⟨dz,he⟩:=fM.mp hx;subst he;unfold pyNext;refine aj (mE (oF (name:=Str.ofString "__next__") hit.typeIs pI (jR pI hit.typeIs F.entry_dict_keyiterator_next ?_ (F.args_dict_keyiterator_next_1 _))));refine aj (aD (aj (aj ?_)));refine aj (oq hit.typeIs (aD (aj (wpAny_fieldsOf ho hd ?_))));have own:Builtin.Dict_items.ownsTuple "dict_keyiterator" = false:=by decide
  simp only [own,jP,dY];show wpAny (model prog w) _ (if (Value.ref d == Value.none)=true then _ else _) _ _ s;rw[aq (show ¬((Value.ref d == Value.none)=true) from bJ)];refine aj (aD (aj (oV Dj Dk ?_)));rw[aq (by simp)];refine aj (aD (aj (o7 Dj Dk ?_)));rw[aq (by simp)];refine aD ?_;simp only [show ¬((i:Int)<0) from by lia,dY,Int.toNat_natCast,gY dz];refine aj (aj (oq hit.typeIs (aD (aj (wpAny_isOneOf_keyiter hit.typeIs ?_)))));show wpAny (model prog w) _ (setField (.ref it) 1 (rawInt ((i:Int)+1)) >>= _) _ _ s;refine aj (iI ho hd (by simp) ?_);have nx:(s.heap.update it (Obj.mapFields (·.setIfInBounds 1 (rawInt ((i:Int)+1))))).IsKeyIter it d (i+1) es.size ep:=
    ⟨_,c7 _ ho (jO (jj hd _)),(Obj.cls_mapFields ..).trans hc,by rw[jj hd];simp[rawInt]⟩
  refine aj (dO (aj (wpAny_isOneOf_keyiter (s:={ s with heap:=s.heap.update it (Obj.mapFields (·.setIfInBounds 1 (rawInt ((i:Int)+1)))) }) nx.typeIs ?_)));show wpAny (model prog w) _ (pure es[i].key) _ _ _;exact aD (aD ⟨_,rfl,aD (hQ _ nx (Heap.SameBut.update ..))⟩)
theorem Nx {it d:ah}{i ep:Nat}{es:Array DictEntry}{Q:Option ai->au->Prop}(hh:A.handled=none) (hit:s.heap.IsKeyIter it d i es.size ep) (hm:j0 s.heap d es ep) (hx:es.size<=i)
    (hQ:∀h1,Heap.ExtBut it s.heap h1->Q none { s with heap:=h1 }):wpAny (model prog w) A (pyNext (.ref it)) Q E s:=by
  obtain⟨o,ho,hc,hd⟩:=id hit;obtain⟨od,Dj,pL,Dk⟩:=id hm;unfold pyNext;refine aj (mE (oF (name:=Str.ofString "__next__") hit.typeIs pI (jR pI hit.typeIs F.entry_dict_keyiterator_next ?_ (F.args_dict_keyiterator_next_1 _))));refine aj (aD (aj (aj ?_)));refine aj (oq hit.typeIs (aD (aj (wpAny_fieldsOf ho hd ?_))));have own:Builtin.Dict_items.ownsTuple "dict_keyiterator" = false:=by decide
  simp only [own,jP,dY];show wpAny (model prog w) _ (if (Value.ref d == Value.none)=true then _ else _) _ _ s;rw[aq (show ¬((Value.ref d == Value.none)=true) from bJ)];refine aj (aD (aj (oV Dj Dk ?_)));rw[aq (by simp)];refine aj (aD (aj (o7 Dj Dk ?_)));rw[aq (by simp)];refine aD ?_;simp only [show ¬((i:Int)<0) from by lia,dY,Int.toNat_natCast,l5 hx];refine aj (aj (oq hit.typeIs (aD ?_)));show wpAny (model prog w) _ (setField (.ref it) 0 .none >>= _) _ _ s;refine aj (iI ho hd (by simp) ?_);show wpAny (model prog w) _ (newExc (.type "StopIteration") [] >>= _) _ _ _;refine aj ?_;simp only [newExc,newTuple];refine aj (g8 (aj (m:=firstArgMember _ _) (kH (a:=Value.none) (by first | rfl | (simp only [firstArgMember];rfl)) (g8 ?_ (by size_fits)))) (by size_fits));simp only [raiseNew];refine aj (wpAny_handled ?_);rw[show A.in1.handled=none from hh];refine aj (aD (wpAny_throw ?_));exact aj (kB (T:="StopIteration") (b:=true) ⟨_,bH _ rfl,rfl⟩ isSubtype_stop (aD (hQ _ (((Heap.SameBut.update ..).extBut.push _).push _))))
theorem Ny (hh:A.handled=none) (I d:ah) (mP:d≠I) (es:Array DictEntry) (ep:Nat) :
    Walks prog w A I [I,d] [I] es.size (fun i v=>∃e,es[i]? = some e/\v=e.key) (fun i h=>h.IsKeyIter I d i es.size ep/\j0 h d es ep) where
  sub:=fun b hb=>by simp at hb;simp[hb]
  frame:=fun _ _ _ st hk=>⟨st.1.at fun o e=>hk I (by simp) o e,st.2.at fun o e=>hk d (by simp) o e⟩
  item:=fun i s Q E hi st hQ=>by
    have hx:es[i]? = some es[i]:=gY hi;exact Nv st.1 st.2 hx fun h1 qq hs=>hQ _ h1 s.toks ⟨_,hx,rfl⟩ ⟨qq,st.2.at fun o e=>(hs.2 d mP).trans e⟩ fun b o hb e=>(hs.2 b (fun h=>hb (by simp[h]))).trans e
  done:=fun s Q E st hQ=>Nx hh st.1 st.2 (aH _) fun h1 he=>hQ h1 s.toks fun b o hb e=>he b o (fun h=>hb (by simp[h])) e
  self:=fun _ _ _ _ st hQ=>wpAny_pyIter_keyiter st.1 hQ
theorem Nz {d:ah}{Q:Bool->au->Prop}(T:s.TypeIs (.ref d) "dict") (hq:Q false s):wpAny (model prog w) A (Builtin.List.listLengthHint (.ref d)) Q E s:=by
  unfold Builtin.List.listLengthHint;refine aj (wpAny_specialOf T F.slot_dict_len.lookup ?_);have e:splitId "dict.__len__" = some ("dict","__len__"):=by kernel_rfl
  simp only [e];have sub:isSubtype (.type "dict") (.type "dict")=pure true:=by rw[jF];kernel_rfl
  exact aj (kB (T:="dict") (b:=true) T sub (aj (mG T (aD hq))))
theorem Vw {d:ah}{Q:Bool->au->Prop}(T:s.TypeIs (.ref d) "dict_values") (hq:Q false s):wpAny (model prog w) A (Builtin.List.listLengthHint (.ref d)) Q E s:=by
  unfold Builtin.List.listLengthHint;refine aj (wpAny_specialOf T F.slot_dict_values_len.lookup ?_);have e:splitId "dict_values.__len__" = some ("dict_values","__len__"):=by kernel_rfl
  simp only [e];have sub:isSubtype (.type "dict_values") (.type "dict_values")=pure true:=by rw[jF];kernel_rfl
  exact aj (kB (T:="dict_values") (b:=true) T sub (aj (mG T (aD hq))))
end
section
variable {prog:aP}{w:World}{A:Around}{s:au}{R:Result->au->Prop}{I:ah}{fp wr:List ah}{n:Nat}{P:Nat->ai->Prop}{St:Nat->Heap->Prop}
theorem NB (W:Walks prog w A.in1 I fp wr n P St) (hn:n<=sizeLine) (S:ah) (c:Nat) (nh:St 0 s.heap) (hS:S ∉ fp) (hl:s.heap.get? S=some { cls:=.type "list",data:=.seq #[] c })
    (hR:∀s1 acc c1,Moved (S::wr) (fun a b=>b=a) s s1->s1.heap.get? S=some { cls:=.type "list",dict:=none,data:=.seq acc c1,slots:=#[] }->ItemsOf P acc n->R (.ok (.ret .none)) s1) :
    wpAny (model prog w) A.in1 (rule "list.extend.makes-room" >>= fun _=>Builtin.List.listTouch (.ref S) >>= fun _=>again (.builtin "list.extend.loop" ⟨[.ref S,.ref I,.none],[]⟩))
      (fun fin s1=>match fin with | .done f=>R (.ok f) s1 | .again c1=>c1.quiet=true/\codeAny (model prog w) A c1 R s1) (fun e s1=>R (.error e) s1) s:=by
  refine aj (gc (aj ?_));show wpAny (model prog w) A.in1 (updateSeq S (·.push .none) >>= fun _=>updateSeq S (·.pop)) _ _ _;refine aj (fW hl rfl ?_);have l2:=c7 (Obj.mapSeq (·.push Value.none)) hl rfl;refine fW (hz:=by seq_fits) l2 rfl ?_;have l3:=c7 (Obj.mapSeq (·.pop)) l2 rfl;have mQ:∀b o,b≠S->s.heap.get? b=some o->((s.heap.update S (Obj.mapSeq (·.push Value.none))).update S (Obj.mapSeq (·.pop))).get? b=some o:=fun b o hb e=>(cA _ _ (aC hb)).trans ((cA _ _ (aC hb)).trans e)
  refine aD ⟨fj F.plain_extend_loop _,codeAny_extend_loopS W.toS hn _ hS _ n 0 _ _ _ rfl (c6 _) (W.toS.frame 0 s _ s.toks nh (aH _) fun b hb o e=>mQ b o (fun h=>hS (h▸hb)) e) l3 (ItemsOf.nil P) fun s1 acc c1 hm h1 h2=>?_⟩;have m0:Moved (S::wr) (fun (a b:Array GenState)=>b=a) s { s with heap:=(s.heap.update S (Obj.mapSeq (·.push Value.none))).update S (Obj.mapSeq (·.pop)) }:=⟨fun b o hb e=>mQ b o (fun h=>hb (by simp[h])) e,rfl,rfl,rfl,aH _⟩;exact hR s1 acc c1 (Moved.trans (fun _ _ _ h1 h2=>h2.trans h1) m0 hm) h1 h2
end
section
variable {prog:aP}{w:World}{A:Around}{s:au}{R:Result->au->Prop}
theorem NC {S:ah}{x:ai}(hl:s.heap.get? S=some { cls:=.type "list",data:=.seq #[] })
    (h:wpAny (model prog w) A.in1 (Builtin.List.listExtendWith (.ref S) x .none) (fun fin s1=>match fin with | .done f=>R (.ok f) s1 | .again c1=>c1.quiet=true/\codeAny (model prog w) A c1 R s1) (fun e s1=>R (.error e) s1)
      { s with heap:=s.heap.update S (Obj.mapSeq (fun _=>(#[]:Array ai))) }) :
    wpAny (model prog w) A.in1 (Builtin.«list.__init__» ⟨[.ref S,x],[]⟩) (fun fin s1=>match fin with | .done f=>R (.ok f) s1 | .again c1=>c1.quiet=true/\codeAny (model prog w) A c1 R s1) (fun e s1=>R (.error e) s1) s:=by
  show wpAny (model prog w) A.in1 (do let Vx ←Builtin.List.listItems (.ref S);Builtin.List.listUpdate (.ref S) (fun _=>#[]);letGo Vx.toList.reverse;Builtin.List.listExtendWith (.ref S) x .none) _ _ s;refine aj ?_;unfold Builtin.List.listItems;refine aj (ie hl rfl (aD ?_));show wpAny (model prog w) A.in1 (updateSeq S (fun _=>#[]) >>= fun _=>letGo (#[]:Array ai).toList.reverse >>= fun _=>Builtin.List.listExtendWith (.ref S) x .none) _ _ s;exact aj (fW hl rfl (aj (dX h)))
end
section
variable {prog:aP}{w:World}{A:Around}{E:aA}{s:au}
theorem ND {d:ah}{es:Array DictEntry}{ep:Nat}{Q:aA}(hh:A.handled=none) (hd:(d == sysModules)=false) (hm:j0 s.heap d es ep) (hn:es.size<=sizeLine)
    (hQ:∀h1 acc c tk,(∀b o,s.heap.get? b=some o->h1.get? b=some o)->h1.get? s.heap.objs.size=some { cls:=.type "list",dict:=none,data:=.seq acc c,slots:=#[] }->ItemsOf (fun i v=>∃e,es[i]? = some e/\v=e.key) acc es.size->
      Q (.ref s.heap.objs.size) { s with heap:=h1,toks:=tk }):wpAny (model prog w) A (call (.type "list") [.ref d]) Q E s:=by
  have dl:d<s.heap.objs.size:=by obtain⟨o,ho,_⟩:=hm;exact aK ho
  refine callType_codes (Q₁:=fun obj s1=>obj = .ref s.heap.objs.size/\s1 = { s with heap:=s.heap.push { cls:=.type "list",data:=.seq #[] } }) F.called_list (F.typeCall_list_1 _) F.entry_list_init (code_list_new _ ⟨rfl,rfl⟩) fun obj s1 h1=>?_
  obtain⟨rfl,rfl⟩:=h1;have hS:(s.heap.push { cls:=.type "list",data:=.seq #[] }).get? s.heap.objs.size=some { cls:=.type "list",data:=.seq #[] }:=bH _ rfl;refine⟨⟨_,hS,rfl⟩,F.args_list_init_2 _ _,NC hS ?_⟩;have l2:=c7 (Obj.mapSeq (fun _=>(#[]:Array ai))) hS rfl;have old:∀b o,s.heap.get? b=some o->((s.heap.push { cls:=.type "list",data:=.seq #[] }).update s.heap.objs.size (Obj.mapSeq (fun _=>(#[]:Array ai)))).get? b=some o:=fun b o e=>
    (cA _ _ (fun z=>dS _ (z▸aK e))).trans (bq _ e)
  have wm:=hm.at (h':=(s.heap.push { cls:=.type "list",data:=.seq #[] }).update s.heap.objs.size (Obj.mapSeq (fun _=>(#[]:Array ai)))) fun o e=>old d o e
  have zu:((s.heap.push { cls:=.type "list",data:=.seq #[] }).update s.heap.objs.size (Obj.mapSeq (fun _=>(#[]:Array ai)))).objs.size=s.heap.objs.size+1:=by rw[Heap.size_update,iF]
  generalize (s.heap.push { cls:=.type "list",data:=.seq #[] }).update s.heap.objs.size (Obj.mapSeq (fun _=>(#[]:Array ai)))=g at l2 old wm zu;have T:({ s with heap:=g }:au).TypeIs (.ref d) "dict":=wm.typeIs;unfold Builtin.List.listExtendWith;refine aj (mG T ?_);have sr:Builtin.List.listSameRef (.ref s.heap.objs.size) (.ref d)=false:=by
    have:s.heap.objs.size≠d:=aC (aW dl);simp[Builtin.List.listSameRef,this]
  have t1:(Value.type "dict" == Value.type "list")=false:=by decide
  have t2:(Value.type "dict" == Value.type "tuple")=false:=by decide
  simp only [sr,t1,t2,Bool.or_false,jP,dY];refine aj (Jq (s:={ s with heap:=g }) hd wm ?_);have wo:=wm.at (h':=g.push { cls:=.type "dict_keyiterator",data:=.fields #[.ref d,.int 0 0,.int es.size 0,.int ep 0] }) fun o e=>bq _ e
  refine aj (dO (Nz (s:={ s with heap:=g.push { cls:=.type "dict_keyiterator",data:=.fields #[.ref d,.int 0 0,.int es.size 0,.int ep 0] } }) wo.typeIs ?_));have dI:d≠g.objs.size:=by rw[zu];exact aW (jz dl)
  have SI:s.heap.objs.size ∉ [g.objs.size,d]:=by
    rw[zu];intro z;simp only [aJ,fT,gO] at z;rcases z with z | z
    · exact absurd z (aW (jA _))
    · exact absurd z (aC (aW dl))
  refine NB (A:=A.in1) (s:={ s with heap:=g.push { cls:=.type "dict_keyiterator",data:=.fields #[.ref d,.int 0 0,.int es.size 0,.int ep 0] } }) (Ny (A:=A.in1.in1) hh g.objs.size d dI es ep) hn _ _ ⟨⟨_,bH _ rfl,rfl,rfl⟩,wo⟩ SI (bq _ l2) fun s2 acc c Dl h2 h3=>?_
  obtain⟨hp,ge,dr,tk,os⟩:=s2;obtain⟨m1,m2,m3,m4,m5⟩:=Dl;obtain rfl:ge=s.gens:=m2;obtain rfl:dr=s.drawn:=m3;obtain rfl:os=s.os:=m4;refine⟨rfl,hQ hp acc c tk (fun b o e=>m1 b o ?_ (bq _ (old b o e))) h2 h3⟩;intro z;have bl:=aK e;simp only [aJ,fT,gO] at z;rcases z with z | z
  · exact absurd bl (by rw[z];exact dS _)
  · have z:b=g.objs.size:=z;rw[z,zu] at bl;exact absurd bl (mq (fB _))
theorem Vy {κ:Type} [DecidableEq κ] {knd:KeyKind prog w κ}{d v:ah}{kvs:List (κ×ai)}{Q:aA}(hh:A.handled=none) (hv:s.heap.IsValuesView v d) (hm:s.heap.DictOf knd d kvs) (hn:kvs.length<=sizeLine)
    (hQ:∀h1 acc c tk,(∀b o,s.heap.get? b=some o->h1.get? b=some o)->h1.get? s.heap.objs.size=some { cls:=.type "list",dict:=none,data:=.seq acc c,slots:=#[] }->ItemsOf (fun i v=>∃k,kvs[i]? = some (k,v)) acc kvs.length->
      Q (.ref s.heap.objs.size) { s with heap:=h1,toks:=tk }):wpAny (model prog w) A (call (.type "list") [.ref v]) Q E s:=by
  obtain⟨ep,hm⟩:=hm.dictAt;have dl:d<s.heap.objs.size:=hm.lt_size;have vl:v<s.heap.objs.size:=by obtain⟨o,ho,_⟩:=hv;exact aK ho
  refine callType_codes (Q₁:=fun obj s1=>obj = .ref s.heap.objs.size/\s1 = { s with heap:=s.heap.push { cls:=.type "list",data:=.seq #[] } }) F.called_list (F.typeCall_list_1 _) F.entry_list_init (code_list_new _ ⟨rfl,rfl⟩) fun obj s1 h1=>?_
  obtain⟨rfl,rfl⟩:=h1;have hS:(s.heap.push { cls:=.type "list",data:=.seq #[] }).get? s.heap.objs.size=some { cls:=.type "list",data:=.seq #[] }:=bH _ rfl;refine⟨⟨_,hS,rfl⟩,F.args_list_init_2 _ _,NC hS ?_⟩;have l2:=c7 (Obj.mapSeq (fun _=>(#[]:Array ai))) hS rfl;have old:∀b o,s.heap.get? b=some o->((s.heap.push { cls:=.type "list",data:=.seq #[] }).update s.heap.objs.size (Obj.mapSeq (fun _=>(#[]:Array ai)))).get? b=some o:=fun b o e=>
    (cA _ _ (fun z=>dS _ (z▸aK e))).trans (bq _ e)
  have wm:=hm.keep old;have Gd:((s.heap.push { cls:=.type "list",data:=.seq #[] }).update s.heap.objs.size (Obj.mapSeq (fun _=>(#[]:Array ai)))).IsValuesView v d:=let ⟨o,ho,r⟩:=hv;⟨o,old v o ho,r⟩
  have zu:((s.heap.push { cls:=.type "list",data:=.seq #[] }).update s.heap.objs.size (Obj.mapSeq (fun _=>(#[]:Array ai)))).objs.size=s.heap.objs.size+1:=by rw[Heap.size_update,iF]
  generalize (s.heap.push { cls:=.type "list",data:=.seq #[] }).update s.heap.objs.size (Obj.mapSeq (fun _=>(#[]:Array ai)))=g at l2 old wm Gd zu;have T:({ s with heap:=g }:au).TypeIs (.ref v) "dict_values":=Gd.typeIs;unfold Builtin.List.listExtendWith;refine aj (mG T ?_);have sr:Builtin.List.listSameRef (.ref s.heap.objs.size) (.ref v)=false:=by
    have:s.heap.objs.size≠v:=aC (aW vl);simp[Builtin.List.listSameRef,this]
  have t1:(Value.type "dict_values" == Value.type "list")=false:=by decide
  have t2:(Value.type "dict_values" == Value.type "tuple")=false:=by decide
  simp only [sr,t1,t2,Bool.or_false,jP,dY];refine aj (wpAny_pyIter_values (s:={ s with heap:=g }) Gd wm ?_);have wo:=wm.push { cls:=.type "dict_valueiterator",data:=.fields #[.ref d,.int 0 0,.int kvs.length 0,.int ep 0] };have Vz:(g.push { cls:=.type "dict_valueiterator",data:=.fields #[.ref d,.int 0 0,.int kvs.length 0,.int ep 0] }).IsValuesView v d:=let ⟨o,ho,r⟩:=Gd;⟨o,bq _ ho,r⟩
  refine aj (dO (Vw (s:={ s with heap:=g.push { cls:=.type "dict_valueiterator",data:=.fields #[.ref d,.int 0 0,.int kvs.length 0,.int ep 0] } }) Vz.typeIs ?_));have dI:d≠g.objs.size:=by rw[zu];exact aW (jz dl)
  have SI:s.heap.objs.size ∉ [g.objs.size,d]:=by
    rw[zu];intro z;simp only [aJ,fT,gO] at z;rcases z with z | z
    · exact absurd z (aW (jA _))
    · exact absurd z (aC (aW dl))
  refine NB (A:=A.in1) (s:={ s with heap:=g.push { cls:=.type "dict_valueiterator",data:=.fields #[.ref d,.int 0 0,.int kvs.length 0,.int ep 0] } }) (Walks.dictValues (A:=A.in1.in1) hh g.objs.size d dI kvs ep) hn _ _ ⟨⟨_,bH _ rfl,rfl,rfl⟩,wo⟩ SI (bq _ l2) fun s2 acc c Dl h2 h3=>?_
  obtain⟨hp,ge,dr,tk,os⟩:=s2;obtain⟨m1,m2,m3,m4,m5⟩:=Dl;obtain rfl:ge=s.gens:=m2;obtain rfl:dr=s.drawn:=m3;obtain rfl:os=s.os:=m4;refine⟨rfl,hQ hp acc c tk (fun b o e=>m1 b o ?_ (bq _ (old b o e))) h2 h3⟩;intro z;have bl:=aK e;simp only [aJ,fT,gO] at z;rcases z with z | z
  · exact absurd bl (by rw[z];exact dS _)
  · have z:b=g.objs.size:=z;rw[z,zu] at bl;exact absurd bl (mq (fB _))
end
theorem Vals.of_get:∀{xs:List V}{us:List ai},xs.length=us.length->(∀(i:Nat) x u,xs[i]? = some x->us[i]? = some u->RelV x u)->Vals xs us
  | [],[],_,_=>.nil
  | x::xs,u::us,hl,h=>.cons (h 0 x u rfl rfl) (Vals.of_get (by simpa using hl) fun i y v e1 e2=>h (i+1) y v (by simpa using e1) (by simpa using e2))
  | [],_::_,hl,_=>by simp at hl
  | _::_,[],hl,_=>by simp at hl
theorem NF {k:Key}{v:ai}(h:yZ k v=true):RelV (kV k) v:=by
  rcases vS h with ⟨i,t,rfl,rfl⟩ | ⟨x,t,rfl,rfl⟩
  · exact⟨t,rfl⟩
  · exact⟨t,rfl⟩
theorem Paired.get' {α β:Type}{F:α->β->Prop}:∀{l₁:List α}{l₂:List β}{i:Nat}{a:α},Paired F l₁ l₂->l₁[i]? = some a->∃b,l₂[i]? = some b/\F a b
  | _,_,_,_,.nil,e=>by simp at e
  | _,_,0,_,.cons r _,e=>by simp at e;subst e;exact⟨_,rfl,r⟩
  | _,_,i+1,a,.cons _ t,e=>by
    obtain⟨u,h1,h2⟩:=Paired.get' (i:=i) (a:=a) t (by simpa using e);exact⟨u,by simpa using h1,h2⟩
section
variable {X:Cx}
theorem Jr {pins:aG}{σ:St}{H:Hp}{s:au}{Q:VK}{ys:List V}{h1:Heap}{acc:Array ai}{c tk:Nat}(I:Inv X pins σ H s) (kp:∀b o,s.heap.get? b=some o->h1.get? b=some o)
    (e:h1.get? s.heap.objs.size=some { cls:=.type "list",dict:=none,data:=.seq acc c,slots:=#[] }) (r:Vals ys acc.toList) (hz:ys.length<=sizeLine) (q:∀l,H l=none->Q (.ref l) (upd H l (.lst ys))):EP X pins σ Q (.ref s.heap.objs.size) { s with heap:=h1,toks:=tk }:=
  ⟨.ref s.heap.objs.size,_,I.laid (t':=tk) (o:=.lst ys) kp (aH _) ⟨hz,acc.toList,c,r,by simpa using e⟩,rfl,q _ (I.bu.fresh (aH _))⟩
theorem Ge (hc:X.calm=true):mH X (.type "list") (fun xs H Q=>∃p kvs,xs = [V.ref p]/\H p=some (.dK kvs)/\∀l,H l=none->Q (.ref l) (upd H l (.lst (kvs.map fun kv=>kV kv.1)))):=by
  intro pins s σ H xs us Q I r h;obtain⟨p,kvs,rfl,hp,q⟩:=h;obtain⟨u,rfl,ru⟩:=pO r;cases ru;obtain⟨z,hd,vs,rel,o,es,ep,e,ex,dt,kk,pr,nd⟩:=I.bu p _ hp;have l1:kvs.length=vs.length:=Paired.length rel;have l2:es.size=vs.length:=by rw[←pr.length];simp
  refine ND (I.ok.hd hc) hd ⟨o,e,ex,dt⟩ (by lia) fun h1 acc c tk kp el it=>Jr I kp el (Vals.of_get ?_ fun i x v ex ev=>?_) (by rw[ay];exact z) q
  · have:=it.1;simp only [ay,jh];lia
  · rw[aX] at ex;cases ek:kvs[i]? with
    | none=>rw[ek] at ex;cases ex
    | some kv=>
      rw[ek] at ex;cases ex;obtain⟨en,wu,rfl⟩:=it.2 i v (by simpa using ev);obtain⟨w',hw,kZ⟩:=Paired.get' rel ek;have:=(pr.get? (e:=en) (k:=w'.1) (v:=w'.2) (by simpa using wu) (by rw[hw])).1;have e1:kv.1=w'.1:=kZ.1;show RelV (kV kv.1) en.key;rw[e1];exact NF this
abbrev Gf (H:Hp):List ah->List (List Key×V)->Prop:=Paired fun a kv=>H a=some (.tup (kv.1.map kV))
theorem NG {H:Hp}:∀{kvs:List (List Key×V)}{ys:List (List Key×ah×ai)},Paired (fun (p:List Key×V) (q:List Key×ah×ai)=>p.1=q.1/\H q.2.1=some (.tup (p.1.map kV))/\RelV p.2 q.2.2) kvs ys->Gf H (ys.map fun y=>y.2.1) kvs
  | _,_,.nil=>.nil
  | _,_,.cons r t=>.cons r.2.1 (NG t)
theorem VA (hc:X.calm=true):mH X (.type "list") (fun xs H Q=>∃p kvs,xs = [V.ref p]/\H p=some (.dT kvs)/\∀l as,Gf H as kvs->H l=none->Q (.ref l) (upd H l (.lst (as.map V.ref)))):=by
  intro pins s σ H xs us Q I r h;obtain⟨p,kvs,rfl,hp,q⟩:=h;obtain⟨u,rfl,ru⟩:=pO r;cases ru;obtain⟨z,hd,ys,rel,o,es,ep,e,ex,dt,he,nd⟩:=I.bu p _ hp;have l1:kvs.length=ys.length:=Paired.length rel;have l2:es.size=ys.length:=by
    have:=bX List.length he;simpa using this
  have kt:Gf H (ys.map fun y=>y.2.1) kvs:=NG rel;refine ND (I.ok.hd hc) hd ⟨o,e,ex,dt⟩ (by lia) fun h1 acc c tk kp el it=>Jr (ys:=(ys.map fun y=>y.2.1).map V.ref) I kp el (Vals.of_get ?_ fun i x v ex ev=>?_) (by simp only [ay];lia) fun l hl=>q l _ kt hl
  · have:=it.1;simp only [ay,jh];lia
  · obtain⟨en,wu,rfl⟩:=it.2 i v (by simpa using ev);have wu:es.toList[i]? = some en:=by simpa using wu
    rw[he,aX] at wu;rw[dj,aX] at ex;cases ek:ys[i]? with
    | none=>rw[ek] at ex;cases ex
    | some y=>
      rw[ek] at ex wu;cases ex;cases wu;exact rfl
def Dq (p d:ah):HO:=.ext fun h=>h.IsValuesView p d
theorem NH:CG X "dict.values" (fun x xs H Q=>∃d kvs,x=V.ref d/\xs = []/\H d=some (.dK kvs)/\∀p,H p=none->Q (.ref p) (upd H p (Dq p d))):=by
  intro pins s σ H x xs v us Q I rx rs h;obtain⟨d,kvs,rfl,rfl,hd,q⟩:=h;cases rx;cases rs;obtain⟨z,hs,vs,rel,dd⟩:=I.bu d _ hd;refine call_meetsIn PySem.F.slot_dict_values dd.typeIs PySem.F.entry_dict_values (PySem.F.args_dict_values_1 _) (meets_dict_values (qj X.prog X.w) d hs) ⟨⟨vs,dd⟩,?_⟩;refine⟨.ref s.heap.objs.size,_,I.laid (t':=s.toks) (a:=s.heap.objs.size) (o:=Dq s.heap.objs.size d) (fun b u e=>bq _ e) (aH _) ⟨⟨_,bH _ rfl,rfl,rfl⟩,⟨_,bH _ rfl⟩,fun h1 h2 ⟨o,ho,r⟩ k=>⟨o,k o ho,r⟩⟩,rfl,q _ (I.bu.fresh (aH _))⟩
theorem NI (hc:X.calm=true):mH X (.type "list") (fun xs H Q=>∃p d kvs,xs = [V.ref p]/\H p=some (Dq p d)/\H d=some (.dK kvs)/\∀l,H l=none->Q (.ref l) (upd H l (.lst (kvs.map (·.2))))):=by
  intro pins s σ H xs us Q I r h;obtain⟨p,d,kvs,rfl,hp,hd,q⟩:=h;obtain⟨u,rfl,ru⟩:=pO r;cases ru;obtain⟨z,hs,vs,rel,dd⟩:=I.bu d _ hd;obtain⟨hv,_,_⟩:=I.bu p _ hp;have l1:kvs.length=vs.length:=Paired.length rel;refine Vy (I.ok.hd hc) hv dd (by lia) fun h1 acc c tk kp el it=>Jr I kp el (Vals.of_get ?_ fun i x v ex ev=>?_) (by rw[ay];exact z) q
  · have:=it.1;simp only [ay,jh];lia
  · rw[aX] at ex;cases ek:kvs[i]? with
    | none=>rw[ek] at ex;cases ex
    | some kv=>
      rw[ek] at ex;cases ex;obtain⟨k,hk⟩:=it.2 i v (by simpa using ev);obtain⟨w',hw,kZ⟩:=Paired.get' rel ek;rw[hk] at hw;cases hw;exact kZ.2
end
def sS (K:aE) (C:ah) (qual m:Str) (st:Stmt) (ps:List Str):Prop:=
  ∃(f:ah) (fd:FuncData),CU K m qual st f fd/\Meth K C m f/\∀us:List ai,us.length=ps.length->bindArgs fd ⟨us,[]⟩=pure (ps.zip us)
theorem iQ {K:aE}{C:ah}{qual m:Str}{st:Stmt}{ps:List Str}{f:ah}{oc kV dc pm cd ct:ai}{od an:Option ah}{sl:Array (Option ai)}
    (hb:∀(kV doc pm:ai) (an:Option ah) (bY ct:ai) (us:List ai),us.length=ps.length->bindArgs (PySem.W.fnOf m qual (zX st) (uu st) (zo st) .none kV doc pm an bY ct) ⟨us,[]⟩=pure (ps.zip us))
    (a:PySem.W.findIn K (.ref C) m=some (some (.ref f))) (l:K.lookup f=some ⟨oc,od,.func (PySem.W.fnOf m qual (zX st) (uu st) (zo st) .none kV dc pm an cd ct),sl⟩) (c:PySem.W.codeIn K cd qual=true) (k:PySem.W.keepIn K (.ref f)=true)
    (i:PySem.W.isFn K (.ref f)=true):sS K C qual m st ps:=⟨f,_,M8 l c k,⟨a,i,k⟩,fun us hl=>hb kV dc pm an cd ct us hl⟩
def jK (P:aP) (w:World) (K:aE) (mg:Str->Option ai) (base:Heap) (C:ah) (m:Str) (ps:List Str) (k:Nat) (sp:Sp):Prop:=
  ∃(f:ah) (fd:FuncData),Meth K C m f/\(∀us:List ai,us.length=ps.length->bindArgs fd ⟨us,[]⟩=pure (ps.zip us))/\i8 P w K mg base qL k f fd ps sp
section
variable {P:aP}{w:World}{K:aE}{mg:Str->Option ai}{base:Heap}
theorem sS.has {C:ah}{qual m:Str}{st:Stmt}{N ps:List Str}{k:Nat}{sp:Sp}(D:sS K C qual m st ps) (S:aF N ps (zo st)) (len:∀vs H Q E,sp vs H Q E->vs.length=ps.length)
    (jX:∀(f:ah) (bY:ai) (A:Around) (outer:List Env) (s:au) (H:Hp) (vs:List V) (Q:VK) (E:XK),b8 k (A.deeper (envOfC qual (zo st) s.heap.objs.size f bY))->sp vs H Q E->
      ∃t,nN (mJ qL P w K mg base N qual (zo st) f bY A outer s H E).zF (uu st) t/\t { nx:=fun _ H'=>Q .cQ H',rt:=Q } (start N vs) H):jK P w K mg base C m ps (k+1) sp:=by
  obtain⟨f,fd,F,a,b⟩:=D;obtain⟨oc,od,kV,doc,pm,an,bY,ct,lE,e,lk,pL⟩:=id F.ex;exact⟨f,fd,a,b,F.ok S len (jX f)⟩
end
section
variable {X:Cx}{k:Nat}{ps:List Str}{sp:Sp}{C:ah}{m x:Str}{p pos apos:Pos}{o e:Expr}{es:List Expr}{t:TA}{ta:TE}
theorem Bw {pl:Sem Bool}(F:jK X.prog X.w X.K X.mg X.base C m ps k sp) (c:rP X.K C) (hr:b8 k X.A) (he:PE X o ta) (ha:PA X (e::es) t)
    (nh:starEach (e::es) X.env=(false,eval e X.env)::starEach es X.env:=by rfl) (gH:(backTo pos (starEach es X.env)).any (·.1)=false:=by rfl)
    (ht:eval (.Call (.Attribute o m apos) (e::es) [] pos) X.env=(do
      let ov ←eval o X.env
      standAt apos.atName
      let (f,first) ←holding [ov] (getMethod ov m pl)
      callWith pos f first (backTo pos (starEach (e::es) X.env)) (backToKw pos (keywordEach [] X.env))):=by rfl) :
    PE X (.Call (.Attribute o m apos) (e::es) [] pos) (FE C m sp [] E0 ta t):=by
  obtain⟨f,fd,a,b,G⟩:=F;exact TU he c a G hr (.all b) .nil FT ha nh gH ht
theorem Js {pl:Sem Bool}(F:jK X.prog X.w X.K X.mg X.base C m ps k sp) (c:rP X.K C) (hr:b8 k X.A) (he:PE X o ta)
    (ht:eval (.Call (.Attribute o m apos) [] [] pos) X.env=(do
      let ov ←eval o X.env
      standAt apos.atName
      let (f,first) ←holding [ov] (getMethod ov m pl)
      callWith pos f first (backTo pos (starEach [] X.env)) (backToKw pos (keywordEach [] X.env))):=by rfl) :
    PE X (.Call (.Attribute o m apos) [] [] pos) (FE C m sp [] E0 ta w9):=by
  obtain⟨f,fd,a,b,G⟩:=F;exact TV he c a G hr (.all b) .nil FT ht
end
section
variable {X:Cx}(K:aE) (h:X.K=K)
include h
end
def Jt (n i:Nat) (p:Prop):Prop:=∃m',m'<n-i/\m'=n-(i+1)/\i+1<=n/\p
theorem wz {n i:Nat}{p:Prop}(h:i<n) (q:p):Jt n i p:=⟨n-(i+1),by lia,rfl,h,q⟩
theorem iV {α:Type}{xs:List α}{i:Nat}{x:α}(h:xs[i]? = some x):i<xs.length:=(bU.mp h).1
theorem yF {J:It}{xs:List V}{P:Hp->Prop}{own:List Str}{ix:List Nat}{g:TG}{tc:TT}{te:TE}{σ:St}{H1:Hp}{D:ah}{Q:VK}(F:Fix J xs P)
    (R:Nat->St->List V->Hp->Prop) (h0:R 0 (uT own ix σ) [] (upd H1 D (.lst [])))
    (hP:∀i aN ys H',R i aN ys H'->P H'/\H' D=some (.lst ys)/\ys.length<=i) (hz:xs.length<=sizeLine)
    (hs:∀i x aN ys H',xs[i]? = some x->R i aN ys H'->g x aN H' fun ni H3=>tc ni H3 fun b H4=>
      if b=true then te ni H4 fun y H5=>H5 D=some (.lst ys)/\Jt xs.length i (R (i+1) ni (ys++[y]) (upd H5 D (.lst (ys++[y])))) else H4 D=some (.lst ys)/\Jt xs.length i (R (i+1) ni ys H4))
    (hQ:∀aN ys H',R xs.length aN ys H'->Q (.ref D) H'):FU own ix J g tc te σ H1 D Q:=by
  refine⟨fun i m aN ys H'=>m=xs.length-i/\i<=xs.length/\R i aN ys H',⟨xs.length,by simp,c6 _,h0⟩,?_⟩;rintro i m aN ys H' ⟨rfl,hi,r⟩;obtain⟨p1,p2,p3⟩:=hP i aN ys H' r;refine⟨p2,?_⟩
  by_cases dz:i<xs.length
  · refine .inr ⟨F.go i _ p1 dz,by lia,fun x H2 y=>?_⟩;obtain⟨e,y'⟩:=F.uL i _ x H2 p1 y;subst e;exact hs i x aN ys _ (y' dz) r
  · have e:i=xs.length:=by lia
    subst e;exact .inl ⟨F.stop _ _ p1 (aH _),hQ aN ys H' r⟩
end L2
namespace Dm
open PySem PySem.NumText
abbrev co (x:Str):List Nat:=x.cps.toList
theorem NJ (x:Str):(co x).length=x.length:=by simp[Str.length]
theorem Ju {x y:Str}(h:co x=co y):x=y:=by
  cases x with
  | mk a=>cases y with
    | mk b=>
      have:a=b:=by
        have h:a.toList=b.toList:=h;exact Array.toList_inj.mp h
      rw[this]
theorem NK (l:List Nat):co ⟨l.toArray⟩=l:=by simp[co]
def gj (n d:Nat):Option Int->Nat
  | none=>d
  | some i=>if i<0 then (max (i+(n:Int)) 0).toNat else min i.toNat n
theorem VB (l:List Nat) (i k:Nat):((List.range k).map fun m=>i+m).filterMap (fun j=>l[j]?)=(l.drop i).take k:=by
  induction k generalizing i with
  | zero=>simp
  | succ k ih=>
    rw[List.range_succ_eq_map,dJ,dj];have e:((List.range k).map ((fun m=>i+m) ∘ Nat.succ))=(List.range k).map fun m=>(i+1)+m:=by
      apply fQ;intro a _;simp only [Function.comp,Nat.succ_eq_add_one];lia
    rw[e,kj];simp only [Nat.add_zero];rw[ih (i+1)];cases h:l[i]? with
    | none=>
      have hl:l.length<=i:=List.getElem?_eq_none_iff.mp h;rw[List.drop_eq_nil_of_le hl,List.drop_eq_nil_of_le (by lia)];simp
    | some v=>
      obtain⟨hi,e⟩:=bU.mp h;rw[List.drop_eq_getElem_cons hi,List.take_succ_cons,e]
def Gg (n:Nat) (d:Int):Option Int->Int
  | none=>d
  | some i=>max 0 (min (if i<0 then i+(n:Int) else i) n)
theorem NL (n d:Nat) (hd:d<=n) (o:Option Int):Gg n d o=((gj n d o:Nat):Int):=by
  cases o with
  | none=>rfl
  | some i=>simp only [gj,Gg];split<;>lia
theorem VC (n d:Nat) (hd:d<=n) (o:Option Int):gj n d o<=n:=by
  cases o with
  | none=>exact hd
  | some i=>simp only [gj];split<;>lia
theorem NN (lo hi:Option Int) (n:Nat):Builtin.Str.strSliceIndices lo hi 1 n=(List.range (gj n n hi-gj n 0 lo)).map fun m=>gj n 0 lo+m:=by
  have:Builtin.Str.strSliceIndices lo hi 1 n=sliceRange (Gg n 0 lo) (Gg n n hi) 1:=by
    cases lo<;>cases hi<;>rfl
  rw[this,show (0:Int)=((0:Nat):Int) from rfl,NL n 0 (c6 _),NL n n (aH _)];unfold sliceRange;simp only [show (1:Int) > 0 by decide,if_true,Int.one_mul,Int.ediv_one];have ec:(if ((gj n 0 lo:Nat):Int)<((gj n n hi:Nat):Int) then ((gj n n hi:Nat):Int)-((gj n 0 lo:Nat):Int)+1-1 else 0).toNat=gj n n hi-gj n 0 lo:=by
    split<;>lia
  rw[ec];apply fQ;intro a _;lia
theorem VD (x:Str) (lo hi:Option Int):co (Txt.slice x lo hi)=((co x).drop (gj x.length 0 lo)).take (gj x.length x.length hi-gj x.length 0 lo):=by
  have key:(Builtin.Str.strSliceIndices lo hi 1 x.length).filterMap (x.cps[·]?)=((co x).drop (gj x.length 0 lo)).take (gj x.length x.length hi-gj x.length 0 lo):=by
    rw[NN,←VB (co x)]
    congr 1
    funext j;simp[co]
  unfold Txt.slice;split
  · rename_i h;have hl:(Builtin.Str.strSliceIndices lo hi 1 x.length).length=x.length:=by
      simpa using h
    rw[NN,ay,iG] at hl;have h1:=VC x.length x.length (aH _) hi;have h2:gj x.length 0 lo=0\/x.length=0:=by lia
    have h3:=NJ x;rcases h2 with h2 | h2
    · rw[hl,h2,List.drop_zero,ki (by lia)]
    · have:co x = []:=lZ.mp (by lia);rw[this];simp
  · rw[NK];exact key
def dw:Str:="abcdefghijklmnopqrstuvwxyz0123456789-"
def NO (l:List Nat) (sg:Str):Bool:=l.all fun c=>decide (c∈co sg)
def nG (x:Str):Bool:=decide (1<=x.length)&&decide (x.length<=12)&&NO (co x) dw
def uY (ns:List Int) (i:Int):Int:=ns.getD i.toNat 0
def pt (c k m:Int):Int:=(c%99991+17) * (48271+7919 * k)%65537 * (k+3)%8191%m
theorem qR (c k m:Int) (h:0<m):0<=pt c k m/\pt c k m<m:=⟨jE _ (by lia),jx _ h⟩
def uZ (one at':Int) (k j:Nat):Int:=if (j:Int)=at' then pt one ((j:Int)+2) 37+k else pt one ((j:Int)+2) 37
def qt (one at':Int) (k j:Nat):Nat:=(co dw).getD (uZ one at' k j%37).toNat 0
def rS (one at':Int) (k size:Nat):List Nat:=(List.range size).map (qt one at' k)
theorem VE:(co dw).length=37:=by decide +kernel
theorem VF:(co dw).Nodup:=by decide +kernel
theorem sU (z:Int):0<=z%37/\(z%37).toNat<(co dw).length:=by
  have h1:=jE z (show (37:Int)≠0 by decide);have h2:=jx z (show (0:Int)<37 by decide);rw[VE];lia
theorem VG (one at':Int) (k j:Nat):qt one at' k j∈co dw:=by
  unfold qt;have h:=(sU (uZ one at' k j)).2;rw[cV,aU h];exact jl h
theorem VH {i j:Nat}(hi:i<(co dw).length) (hj:j<(co dw).length) (h:(co dw).getD i 0=(co dw).getD j 0):i=j:=by
  rw[cV,cV,aU hi,aU hj] at h;have h:(co dw)[i]=(co dw)[j]:=h;exact (List.getElem_inj VF).mp h
theorem Aa (one at':Int) (k size:Nat):(rS one at' k size).length=size:=by unfold rS;simp
theorem NP {one at':Int}{k size j:Nat}(h:j<size):(rS one at' k size)[j]? = some (qt one at' k j):=by
  unfold rS;rw[aX,oO h];rfl
def nS (l:List Nat):Str:=⟨l.toArray⟩
theorem wA (l:List Nat):co (nS l)=l:=NK l
theorem NQ {l m:List Nat}(h:nS l=nS m):l=m:=by
  have:=bX co h
  rwa [wA,wA] at this
theorem NR {x:Str}(h1:1<=(co x).length) (h2:(co x).length<=12) (h3:∀c∈co x,c∈co dw):nG x=true:=by
  rw[NJ] at h1 h2;unfold nG;rw[aR h1,aR h2];show NO (co x) dw=true;exact iD.mpr fun c hc=>aR (h3 c hc)
theorem NS {one at':Int}{k size c:Nat}(h:c∈rS one at' k size):c∈co dw:=by
  obtain⟨j,_,rfl⟩:=aM.mp h;exact VG ..
theorem Gh {f:Nat->Str}{n:Nat}(h:∀i j,i<n->j<n->f i=f j->i=j):((List.range n).map f).Nodup:=by
  unfold List.Nodup;rw[List.pairwise_map];refine List.Pairwise.imp_of_mem (R:=(·≠·)) (fun {a b} ha hb nE e=>?_) List.nodup_range;exact nE (h a b (dH.mp ha) (dH.mp hb) e)
theorem VI:(Str.ofString "" : Str)=nS []:=by decide +kernel
theorem NT (l m:List Nat):nS l++nS m=nS (l++m):=by
  apply Ju;show (l.toArray++m.toArray).toList=(l++m).toArray.toList;simp
theorem Gi (l:List Nat):(nS l).length=l.length:=by show l.toArray.size=_;simp
theorem VJ (l:List Nat) (z:Int) (h0:0<=z) (h1:z<=l.length):Txt.slice (nS l) none (some z)=nS (l.take z.toNat):=by
  apply Ju;rw[VD,wA,wA,Gi];simp only [gj];rw[aq (by lia),List.drop_zero,Nat.sub_zero]
  congr 1
  lia
end Dm
namespace Dm
open PySem PySem.NumText L2
def Dr:List Str:=["over","cuts","fills","same"]
def qu (z:Int):Prop:=z.natAbs<10 ^ 60
inductive jr (us:List Str):List V->Prop where
  | plain {kd x y:Str}(hk:kd∈Dr) (hx:x∈us) (hy:y∈us):jr us [.str kd,.str x,.str y]
  | after {x y:Str}{n:Int}(hx:x∈us) (hy:y∈us) (h0:0<=n) (h1:qu n):jr us [.str "after",.str x,.str y,.int n]
theorem jr.mono {us k9:List Str}{ws:List V}(h:jr us ws) (s:∀x∈us,x∈k9):jr k9 ws:=by
  cases h with
  | plain hk hx hy=>exact .plain hk (s _ hx) (s _ hy)
  | after hx hy h0 h1=>exact .after (s _ hx) (s _ hy) h0 h1
theorem VL {x:Str}(h:nG x=true):x.length<=12:=by
  unfold nG at h;simp only [g9,decide_eq_true_eq] at h;exact h.1.2
theorem VM:∀k∈Dr,k.length<=100:=by decide +kernel
theorem jr.words {us:List Str}{ws:List V}(h:jr us ws) (hu:∀x∈us,nG x=true):(∀v∈ws,Wd v)/\ws.length<=5/\∃x r,ws = .str x::r:=by
  have nm:∀x∈us,Wd (.str x):=fun x hx=>.inl ⟨x,rfl,cy (VL (hu x hx)) (by decide)⟩
  cases h with
  | plain hk hx hy=>
    refine⟨fun v hv=>?_,by simp,_,_,rfl⟩;simp only [aJ,fT,gO] at hv;rcases hv with rfl | rfl | rfl
    · exact .inl ⟨_,rfl,VM _ hk⟩
    · exact nm _ hx
    · exact nm _ hy
  | after hx hy h0 h1=>
    refine⟨fun v hv=>?_,by simp,_,_,rfl⟩;simp only [aJ,fT,gO] at hv;rcases hv with rfl | rfl | rfl | rfl
    · exact .inl ⟨_,rfl,by decide +kernel⟩
    · exact nm _ hx
    · exact nm _ hy
    · exact .inr ⟨_,rfl,h1⟩
abbrev bT (H:Hp):List ah->List (List V)->Prop:=Paired fun a ws=>H a=some (.tup ws)
theorem bT.same {H H':Hp}(s:ak H H'):∀{as:List ah}{gq:List (List V)},bT H as gq->bT H' as gq
  | _,_,.nil=>.nil
  | _,_,.cons h t=>.cons (s _ _ h) (bT.same s t)
theorem bT.get {H:Hp}:∀{as:List ah}{gq:List (List V)}{a:ah},bT H as gq->a∈as->∃ws∈gq,H a=some (.tup ws)
  | _,_,_,.cons h t,ha=>by
    rcases aJ.mp ha with ha | ha
    · subst ha;exact⟨_,fR ..,h⟩
    · obtain⟨ws,hw,e⟩:=bT.get t ha;exact⟨ws,bz _ hw,e⟩
theorem bT.snoc {H:Hp}{a:ah}{ws:List V}{as:List ah}{gq:List (List V)}(t:bT H as gq) (h:H a=some (.tup ws)):bT H (as++[a]) (gq++[ws]):=Paired.snoc t h
theorem bT.dR {H H':Hp}(s:∀b xs,H b=some (.tup xs)->H' b=some (.tup xs)):∀{as:List ah}{gq:List (List V)},bT H as gq->bT H' as gq
  | _,_,.nil=>.nil
  | _,_,.cons h t=>.cons (s _ _ h) (bT.dR s t)
theorem rT {H:Hp}{p:ah}{xs ys:List V}(h:H p=some (.lst xs)):∀b zs,H b=some (.tup zs)->upd H p (.lst ys) b=some (.tup zs):=fun b zs e=>by
  rw[zg (lO e h (by intro z;cases z))];exact e
theorem u0 {xs:List Str}(nd:xs.Nodup) (k:Nat) (h:k<xs.length):xs[k] ∉ xs.take k:=by
  intro z;obtain⟨j,hj,e⟩:=lY.mp z;rw[List.getElem_take] at e;rw[bI] at hj;have:=(List.getElem_inj nd).mp e;lia
theorem VN {x y:V}(hx:Wd x) (hy:Wd y):nQ x y=decide (x=y):=by
  rcases hx with ⟨a,rfl,_⟩ | ⟨a,rfl,_⟩<;>rcases hy with ⟨b,rfl,_⟩ | ⟨b,rfl,_⟩
  · show (a == b)=_
    by_cases h:a=b
    · subst h;simp
    · rw[bg (fun z=>h (V.str.inj z))];exact fP.mpr h
  · exact (bg (fun z=>nomatch z)).symm
  · exact (bg (fun z=>nomatch z)).symm
  · show (a == b)=_
    by_cases h:a=b
    · subst h;simp
    · rw[bg (fun z=>h (V.int.inj z))];exact fP.mpr h
theorem VO {xs ys:List V}(hx:∀v∈xs,Wd v) (hy:∀v∈ys,Wd v):Dg xs ys=decide (xs=ys):=by
  by_cases h:xs=ys
  · subst h;rw[Jm fun x q=>(hx x q).flat,aR rfl]
  · rw[bg h];rw[←Bool.not_eq_true];intro q;unfold Dg at q;rw[g9] at q;obtain⟨q1,q2⟩:=q;have q2:xs.length=ys.length:=by simpa using q2
    apply h;apply List.ext_getElem q2;intro i h1 h2;have:=iD.mp q1 i (dH.mpr (by lia));rw[aU h1,aU h2] at this;have e:nQ xs[i] ys[i]=true:=this;rw[VN (hx _ (jl h1)) (hy _ (jl h2))] at e;exact bC e
theorem bT.len {H:Hp}{as:List ah}{gq:List (List V)}(t:bT H as gq):as.length=gq.length:=Paired.length t
theorem bT.any {H:Hp}{as:List ah}{gq:List (List V)}{ws:List V}(t:bT H as gq):∀(e:V->Bool),(∀a vs,vs∈gq->H a=some (.tup vs)->e (.ref a)=decide (vs=ws))->(as.map V.ref).any e=decide (ws∈gq):=by
  intro e he
  induction t with
  | nil=>simp
  | @cons a vs as gq h t ih=>
    rw[dJ,gJ,he a vs (fR ..) h,ih fun b us q r=>he b us (bz _ q) r]
    by_cases q:vs=ws
    · subst q;simp
    · rw[bg q,Bool.false_or];have:ws∈vs::gq↔ws∈gq:=by
        rw[aJ];constructor
        · rintro (z | z)
          · exact absurd z.symm q
          · exact z
        · exact .inr
      exact jm.mpr this.symm
def Ab (H:Hp) (ws:List V):V->Bool
  | .ref a=>match H a with
    | some (.tup vs)=>decide (vs=ws)
    | _=>false
  | _=>false
theorem NU {H:Hp}{ws vs:List V}{a:ah}(h:H a=some (.tup vs)):Ab H ws (.ref a)=decide (vs=ws):=by
  show (match H a with | some (.tup vs)=>decide (vs=ws) | _=>false)=_;rw[h]
theorem bT.Jv {H:Hp}{as:List ah}{gq:List (List V)}{ws:List V}(t:bT H as gq):(as.map V.ref).any (Ab H ws)=decide (ws∈gq):=t.any _ fun _ _ _ h=>NU h
theorem bT.VP {K:aE}{H:Hp}{n:Nat}{as:List ah}{gq:List (List V)}{ws:List V}{p:ah}(t:bT H as gq) (hw:∀vs∈gq,∀v∈vs,Wd v) (hp:H p=some (.tup ws)) (hv:∀v∈ws,Wd v) :
    ∀z∈as.map V.ref,cU K H (n+1) z (.ref p) (Ab H ws z):=by
  intro z hz;obtain⟨a,ha,rfl⟩:=aM.mp hz;obtain⟨vs,NV,e⟩:=t.get ha;rw[NU e,←VO (hw vs NV) hv];exact cU.uW (bF.of e) (bF.of hp) (fun x q=>(hw vs NV x q).flat) fun x q=>(hv x q).flat
theorem Jw {α:Type}{H:Hp}{g:α->List V}{az:List ah}{ps:List α}{i:Nat}{x:V}(t:bT H az (ps.map g)) (hx:(az.map V.ref)[i]? = some x) :
    ∃q p,x = .ref q/\ps[i]? = some p/\az[i]? = some q/\H q=some (.tup (g p)):=by
  rw[aX] at hx;cases e:az[i]? with
  | none=>rw[e] at hx;cases hx
  | some q=>
    rw[e] at hx;cases hx;obtain⟨ws,h1,h2⟩:=Paired.get' t e;rw[aX] at h1;cases e':ps[i]? with
    | none=>rw[e'] at h1;cases h1
    | some p=>
      rw[e'] at h1;cases h1;exact⟨q,p,rfl,rfl,rfl,h2⟩
theorem NX {α:Type}{p:α->Prop}{xs:List α}{i:Nat}{x:α}(hx:xs[i]? = some x) (h:∀y∈xs.take i,p y) (hp:p x):∀y∈xs.take (i+1),p y:=by
  intro y hy;rw[aQ,hx,br] at hy;rcases hy with hy | hy
  · exact h y hy
  · simp at hy;subst hy;exact hp
theorem VQ {u v:V}{i:Int}(h0:0<=i) (h1:i<2):∃z,jY [u,v] i=some z/\(z=u\/z=v):=by
  have h:i=0\/i=1:=by lia
  rcases h with rfl | rfl
  · exact⟨u,rfl,.inl rfl⟩
  · exact⟨v,rfl,.inr rfl⟩
structure aS where
  k:Str
  a:Str
  b:Str
  g:Option Int
def bP (t:aS):List V:=.str t.k :: .str t.a :: .str t.b::(match t.g with
  | some n=>[V.int n]
  | none=>[])
def gR:Str:="same"
structure lS (us:List Str) (t:aS):Prop where
  ok:jr us (bP t)
  a:t.a∈us
  b:t.b∈us
theorem Jx (t:aS):jY (bP t) 0=some (.str t.k):=Gb
theorem Jy (t:aS):jY (bP t) 1=some (.str t.a):=pP (xs:=bP t) (j:=1) rfl
theorem Jz (t:aS):jY (bP t) 2=some (.str t.b):=pP (xs:=bP t) (j:=2) rfl
theorem NY {xs:List V}{z:Int}(h0:0<=z) (h1:z<=xs.length):kJ xs none (some z)=xs.take z.toNat:=by
  unfold kJ HT.nv;simp;split
  · lia
  · congr 1
    lia
theorem Gj {x y:Str}(h1:¬co x<co y) (h2:¬co y<co x):x=y:=by
  rw[List.not_lt] at h1 h2;exact Ju (List.le_antisymm h2 h1)
theorem Ds {x y:Str}(h1:co x<co y) (h2:co y<co x):False:=gy _ (mF h1 h2)
theorem JA {y m f:List Nat}(h1:y<m) (h2:¬f<m):y<f:=by
  exact e7 fun z=>h2 (List.lt_of_le_of_lt (List.not_lt.mp z) h1)
def mR (x y:Str):Str:=if co y<co x then y else x
theorem VR (x y:Str):mR x y=x\/mR x y=y:=by unfold mR;split<;>simp
theorem VS (x y:Str):¬co x<co (mR x y):=by
  unfold mR;split
  · next h=>exact fun z=>Ds h z
  · exact gy _
theorem VT (x y:Str):¬co y<co (mR x y):=by
  unfold mR;split
  · exact gy _
  · next h=>exact h
def Nb (ts:List aS) (y z:Str):Prop:=∃t∈ts,t.k=gR/\((t.a=y/\t.b=z)\/(t.b=y/\t.a=z))
inductive Cn (ts:List aS):Str->Str->Prop where
  | refl (x:Str):Cn ts x x
  | step {x y z:Str}(h:Cn ts x y) (n:Nb ts y z):Cn ts x z
theorem Nb.symm {ts:List aS}{y z:Str}(h:Nb ts y z):Nb ts z y:=by
  obtain⟨t,ht,hk,h⟩:=h;exact⟨t,ht,hk,h.elim (fun q=>.inr ⟨q.2,q.1⟩) fun q=>.inl ⟨q.2,q.1⟩⟩
theorem Cn.trans {ts:List aS}{x y z:Str}(h:Cn ts x y) (h2:Cn ts y z):Cn ts x z:=by
  induction h2 with
  | refl=>exact h
  | step _ n ih=>exact ih.step n
theorem Cn.one {ts:List aS}{y z:Str}(n:Nb ts y z):Cn ts y z:=(Cn.refl y).step n
theorem Cn.symm {ts:List aS}{x y:Str}(h:Cn ts x y):Cn ts y x:=by
  induction h with
  | refl=>exact .refl _
  | step _ n ih=>exact (Cn.one n.symm).trans ih
theorem Nb.mono {ts cR:List aS}{y z:Str}(h:Nb ts y z) (s:∀t∈ts,t∈cR):Nb cR y z:=by
  obtain⟨t,ht,r⟩:=h;exact⟨t,s t ht,r⟩
theorem Cn.mono {ts cR:List aS}{y z:Str}(h:Cn ts y z) (s:∀t∈ts,t∈cR):Cn cR y z:=by
  induction h with
  | refl=>exact .refl _
  | step _ n ih=>exact ih.step (n.mono s)
theorem Nb.mem {us:List Str}{ts:List aS}{y z:Str}(h:Nb ts y z) (ht:∀t∈ts,t.a∈us/\t.b∈us):z∈us:=by
  obtain⟨t,h1,_,h2⟩:=h;rcases h2 with ⟨_,rfl⟩ | ⟨_,rfl⟩
  · exact (ht t h1).2
  · exact (ht t h1).1
theorem Cn.mem {us:List Str}{ts:List aS}{y z:Str}(h:Cn ts y z) (hy:y∈us) (ht:∀t∈ts,t.a∈us/\t.b∈us):z∈us:=by
  cases h with
  | refl=>exact hy
  | step _ n=>exact n.mem ht
def jn (cF:Str->Str) (f s:Str):Str->Str:=fun x=>if cF x=f\/cF x=s then mR f s else cF x
def xC (cF:Str->Str) (t:aS):Str->Str:=if t.k=gR then jn cF (cF t.a) (cF t.b) else cF
def aO (ts:List aS):Str->Str:=ts.foldl xC id
structure Good (ts:List aS) (cF:Str->Str):Prop where
  to:∀x,Cn ts x (cF x)
  eq:∀x y,Cn ts x y->cF x=cF y
  le:∀x y,Cn ts x y->¬co y<co (cF x)
theorem VU:Good [] id:=by
  have h:∀x y,Cn [] x y->x=y:=by
    intro x y c
    induction c with
    | refl=>rfl
    | step _ n _=>obtain⟨t,ht,_⟩:=n;cases ht
  exact⟨fun x=>.refl x,h,fun x y c=>by rw[h x y c];exact gy _⟩
theorem VV {ts:List aS}{cF:Str->Str}{t:aS}(g:Good ts cF):Good (ts++[t]) (xC cF t):=by
  have sub:∀u∈ts,u∈ts++[t]:=fun u hu=>cT _ hu
  by_cases hk:t.k=gR
  · unfold xC;rw[av hk];have nt:Nb (ts++[t]) t.a t.b:=⟨t,by simp,hk,.inl ⟨rfl,rfl⟩⟩;have ca:∀x,cF x=cF t.a->Cn (ts++[t]) x t.a:=fun x e=>by
      have h1:=(g.to x).mono sub;have h2:=(g.to t.a).mono sub;rw[e] at h1;exact h1.trans h2.symm
    have cb:∀x,cF x=cF t.b->Cn (ts++[t]) x t.b:=fun x e=>by
      have h1:=(g.to x).mono sub;have h2:=(g.to t.b).mono sub;rw[e] at h1;exact h1.trans h2.symm
    have la:Cn (ts++[t]) t.a (cF t.a):=(g.to t.a).mono sub;have lb:Cn (ts++[t]) t.b (cF t.b):=(g.to t.b).mono sub;have to:∀x,Cn (ts++[t]) x (jn cF (cF t.a) (cF t.b) x):=by
      intro x;unfold jn;split
      · next h=>
        have hx:Cn (ts++[t]) x t.a:=h.elim (ca x) fun e=>(cb x e).trans (Cn.one nt.symm)
        rcases VR (cF t.a) (cF t.b) with e | e
        · rw[e];exact hx.trans la
        · rw[e];exact (hx.trans (Cn.one nt)).trans lb
      · exact (g.to x).mono sub
    have ja:jn cF (cF t.a) (cF t.b) t.a=mR (cF t.a) (cF t.b):=av (.inl rfl);have jb:jn cF (cF t.a) (cF t.b) t.b=mR (cF t.a) (cF t.b):=av (.inr rfl);have eq:∀x y,Cn (ts++[t]) x y->jn cF (cF t.a) (cF t.b) x=jn cF (cF t.a) (cF t.b) y:=by
      intro x y c
      induction c with
      | refl=>rfl
      | @step y z _ n ih=>
        rw[ih];obtain⟨u,hu,Gk,h⟩:=n;rcases br.mp hu with hu | hu
        · have:cF y=cF z:=g.eq y z (Cn.one ⟨u,hu,Gk,h⟩);unfold jn;rw[this]
        · have hu:u=t:=by simpa using hu
          subst hu;rcases h with ⟨rfl,rfl⟩ | ⟨rfl,rfl⟩
          · rw[ja,jb]
          · rw[ja,jb]
    refine⟨to,eq,fun x y c=>?_⟩;rw[eq x y c];have old:=g.le y y (.refl y);unfold jn;split
    · next h=>
      rcases h with e | e
      · intro z;rw[e] at old;exact old (JA z (VS _ _))
      · intro z;rw[e] at old;exact old (JA z (VT _ _))
    · exact old
  · unfold xC;rw[aq hk];have back:∀x y,Cn (ts++[t]) x y->Cn ts x y:=by
      intro x y c
      induction c with
      | refl=>exact .refl _
      | step _ n ih=>
        obtain⟨u,hu,Gk,h⟩:=n;rcases br.mp hu with hu | hu
        · exact ih.step ⟨u,hu,Gk,h⟩
        · have hu:u=t:=by simpa using hu
          subst hu;exact absurd Gk hk
    exact⟨fun x=>(g.to x).mono sub,fun x y c=>g.eq x y (back x y c),fun x y c=>g.le x y (back x y c)⟩
theorem NZ:∀(N1 ts:List aS) (cF:Str->Str),Good ts cF->Good (ts++N1) (N1.foldl xC cF)
  | [],ts,cF,g=>by rw[dg];exact g
  | t::r,ts,cF,g=>by
    have:=NZ r (ts++[t]) (xC cF t) (VV g);rw[jk] at this;exact this
theorem yG (ts:List aS):Good ts (aO ts):=NZ ts [] id VU
theorem N2 {ts:List aS}{i:Nat}{t:aS}(h:ts[i]? = some t):aO (ts.take (i+1))=xC (aO (ts.take i)) t:=by
  unfold aO;rw[aQ,h,List.foldl_append];rfl
theorem VW {ts:List aS}{x m:Str}(h1:Cn ts x m) (h2:∀y,Cn ts x y->¬co y<co m):m=aO ts x:=
  Gj ((yG ts).le x m h1) (h2 _ ((yG ts).to x))
theorem N3 {us:List Str}{ts:List aS}{x:Str}(hx:x∈us) (ht:∀t∈ts,t.a∈us/\t.b∈us):aO ts x∈us:=((yG ts).to x).mem hx ht
def dN (us:List Str) (cF:Str->Str):List (Key×V):=us.map fun x=>(Sum.inr x,V.str (cF x))
theorem Ac {us:List Str}{cF:Str->Str}{x:Str}(h:x∈us):dD (dN us cF) (Sum.inr x)=some (.str (cF x)):=by
  induction us with
  | nil=>cases h
  | cons y r ih=>
    unfold dN;rw[dJ]
    by_cases e:y=x
    · subst e;exact CO rfl
    · have hx:x∈r:=by
        rcases aJ.mp h with h | h
        · exact absurd h.symm e
        · exact h
      have:=ih hx;unfold dD at this ⊢;rw[List.find?_cons_of_neg (by simpa using e)];exact this
theorem VX {us:List Str}{cF:Str->Str}{x y:Str}(h:x∈us):putK (dN us cF) (Sum.inr x) (.str y)=dN us (fun z=>if z=x then y else cF z):=by
  have ha:((dN us cF).any fun kv=>decide (kv.1=(Sum.inr x:Key)))=true:=by
    rw[gI];exact⟨(Sum.inr x,V.str (cF x)),aM.mpr ⟨x,h,rfl⟩,aR rfl⟩
  unfold putK;rw[av ha];unfold dN;rw[dj];apply fQ;intro z _;show (if (Sum.inr z:Key)=Sum.inr x then (Sum.inr z,V.str y) else (Sum.inr z,V.str (cF z)))=_
  by_cases e:z=x
  · subst e;simp
  · rw[aq (fun q=>e (jH q))];show _=(Sum.inr z,V.str (if z=x then y else cF z));rw[aq e]
theorem VY {us:List Str}{x:Str}(h:x ∉ us):putK (dN us id) (Sum.inr x) (.str x)=dN (us++[x]) id:=by
  have ha:¬((dN us id).any fun kv=>decide (kv.1=(Sum.inr x:Key)))=true:=by
    rw[gI];rintro ⟨kv,h1,h2⟩;obtain⟨z,hz,rfl⟩:=aM.mp h1;have h2:z=x:=jH (bC h2);subst h2;exact h hz
  unfold putK;rw[aq ha];unfold dN;rw[aV];rfl
theorem Gm {us:List Str}{f g:Str->Str}(h:∀x∈us,f x=g x):dN us f=dN us g:=by
  unfold dN;apply fQ;intro x hx;rw[h x hx]
theorem N4 (us:List Str) (f:Str->Str):(dN us f).length=us.length:=ay _
theorem VZ (us:List Str) (f:Str->Str):((dN us f).map fun kv=>kV kv.1)=us.map V.str:=by
  unfold dN;rw[dj];rfl
theorem uw {us rs:List Str}(hn:rs.Nodup) (hs:∀x∈rs,x∈us):rs.length<=us.length:=by
  induction rs generalizing us with
  | nil=>simp
  | cons a r ih=>
    rw[fV] at hn;have ha:=hs a (by simp);have h2:∀x∈r,x∈us.erase a:=fun x hx=>by
      refine (List.mem_erase_of_ne (fun z=>by subst z;exact hn.1 hx)).mpr (hs x (bz _ hx))
    have:=ih hn.2 h2;rw[oB ha] at this;have hp:0<us.length:=qA ha;rw[fh];lia
def Ad (l:List Str):Prop:=l.Pairwise (fun a b=>¬co b<co a)
theorem N5:∀{a b:List Str},a.Perm b->Ad a->Ad b->a=b
  | [],b,p,_,_=>by rw[List.nil_perm.mp p]
  | x::r,[],p,_,_=>by have:=p.length_eq;cases this
  | x::r,y::r',p,ha,hb=>by
    have hx:x∈y::r':=p.mem_iff.mp (by simp);have hy:y∈x::r:=p.mem_iff.mpr (by simp);have e:x=y:=by
      rcases aJ.mp hx with h | h
      · exact h
      · rcases aJ.mp hy with h2 | h2
        · exact h2.symm
        · exact Gj ((g7.mp hb).1 x h) ((g7.mp ha).1 y h2)
    subst e;rw[N5 (List.Perm.cons_inv p) (g7.mp ha).2 (g7.mp hb).2]
def sV (x:Str):List Str->List Str
  | []=>[x]
  | y::r=>if co y<co x then y::sV x r else x::y::r
def aL:List Str->List Str
  | []=>[]
  | x::r=>sV x (aL r)
theorem JB (x:Str):∀l,(sV x l).Perm (x::l)
  | []=>.refl _
  | y::r=>by
    unfold sV;split
    · exact ((JB x r).cons y).trans (.swap x y r)
    · exact .refl _
theorem Ae:∀l,(aL l).Perm l
  | []=>.refl _
  | x::r=>(JB x (aL r)).trans ((Ae r).cons x)
theorem Oa (x:Str):∀l,Ad l->Ad (sV x l)
  | [],_=>List.pairwise_singleton ..
  | y::r,h=>by
    unfold sV;obtain⟨h1,h2⟩:=g7.mp h;split
    · next c=>
      refine g7.mpr ⟨fun z hz=>?_,Oa x r h2⟩;rcases aJ.mp ((JB x r).mem_iff.mp hz) with e | hz
      · subst e;exact fun q=>Ds q c
      · exact h1 z hz
    · next c=>
      refine g7.mpr ⟨fun z hz=>?_,h⟩;rcases aJ.mp hz with e | hz
      · subst e;exact c
      · intro q;exact h1 z hz (JA q c)
theorem Gn:∀l,Ad (aL l)
  | []=>.nil
  | x::r=>Oa x (aL r) (Gn r)
theorem Gp {ms us:List Str}(p:ms.Perm us) (h:Ad ms):ms=aL us:=N5 (p.trans (Ae us).symm) h (Gn us)
theorem Ob {us vs:List Str}(p:us.Perm vs):aL us=aL vs:=Gp ((Ae us).trans p) (Gn us)
theorem JC {us:List Str}(h:us.Nodup):(aL us).Nodup:=(Ae us).nodup_iff.mpr h
theorem j3 {us:List Str}{x:Str}:x∈aL us↔x∈us:=(Ae us).mem_iff
theorem JD (us:List Str):(aL us).length=us.length:=(Ae us).length_eq
theorem Gq {us:List Str}(h:us.Nodup):(aL us).Pairwise (fun a b=>co a<co b):=by
  have h1:=Gn us;have h2:=JC h;refine (h1.and h2).imp fun {a b} aT=>?_
  obtain⟨p,q⟩:=aT;exact e7 fun k=>q (Gj k p)
theorem V0 {ss:List Str}(h:ss.Pairwise (fun a b=>co a<co b)) {i j:Nat}{x y:Str}(hx:ss[i]? = some x) (hy:ss[j]? = some y) (hl:co x<co y):i<j:=by
  obtain⟨hi,ex⟩:=bU.mp hx;obtain⟨hj,ey⟩:=bU.mp hy;rcases mh i j with c | c | c
  · exact c
  · subst c;rw[ex] at ey;subst ey;exact absurd hl (gy _)
  · have:=(kT.mp h) j i hj hi c;rw[ex,ey] at this;exact (Ds hl this).elim
def dV (ks:List Str) (f:Str->V):List (Key×V):=ks.map fun x=>(Sum.inr x,f x)
theorem pB {ks:List Str}{f:Str->V}{x:Str}(h:x∈ks):dD (dV ks f) (Sum.inr x)=some (f x):=by
  induction ks with
  | nil=>cases h
  | cons y r ih=>
    unfold dV;rw[dJ]
    by_cases e:y=x
    · subst e;exact CO rfl
    · have hx:x∈r:=by
        rcases aJ.mp h with h | h
        · exact absurd h.symm e
        · exact h
      have:=ih hx;unfold dD at this ⊢;rw[List.find?_cons_of_neg (by simpa using e)];exact this
theorem Af {ks:List Str}{f:Str->V}{x:Str}(h:x ∉ ks):dD (dV ks f) (Sum.inr x)=none:=by
  unfold dD;rw[List.find?_eq_none.mpr]
  · rfl
  · intro kv Gr;obtain⟨z,hz,rfl⟩:=aM.mp Gr;intro e;have e:z=x:=jH (bC e);subst e;exact h hz
theorem Gs {ks:List Str}{f:Str->V}{x:Str}{v:V}(h:x∈ks):putK (dV ks f) (Sum.inr x) v=dV ks (fun z=>if z=x then v else f z):=by
  have ha:((dV ks f).any fun kv=>decide (kv.1=(Sum.inr x:Key)))=true:=by
    rw[gI];exact⟨(Sum.inr x,f x),aM.mpr ⟨x,h,rfl⟩,aR rfl⟩
  unfold putK;rw[av ha];unfold dV;rw[dj];apply fQ;intro z _;show (if (Sum.inr z:Key)=Sum.inr x then (Sum.inr z,v) else (Sum.inr z,f z))=(Sum.inr z,if z=x then v else f z)
  by_cases e:z=x
  · subst e;simp
  · rw[aq (fun q=>e (jH q)),aq e]
theorem wB {ks:List Str}{f:Str->V}{x:Str}{v:V}(h:x ∉ ks):putK (dV ks f) (Sum.inr x) v=dV (ks++[x]) (fun z=>if z=x then v else f z):=by
  have ha:¬((dV ks f).any fun kv=>decide (kv.1=(Sum.inr x:Key)))=true:=by
    rw[gI];rintro ⟨kv,h1,h2⟩;obtain⟨z,hz,rfl⟩:=aM.mp h1;have h2:z=x:=jH (bC h2);subst h2;exact h hz
  unfold putK;rw[aq ha];unfold dV;rw[aV]
  congr 1
  · apply fQ;intro z hz;have:¬z=x:=fun e=>h (e▸hz)
    show _=(Sum.inr z,if z=x then v else f z);rw[aq this]
  · show [(Sum.inr x,v)] = [(Sum.inr x,if x=x then v else f x)];rw[av rfl]
theorem sW {ks:List Str}{f g:Str->V}(h:∀x∈ks,f x=g x):dV ks f=dV ks g:=by
  unfold dV;apply fQ;intro x hx;rw[h x hx]
theorem jL (ks:List Str) (f:Str->V):(dV ks f).length=ks.length:=ay _
theorem Gu (ks:List Str) (f:Str->V):((dV ks f).map fun kv=>kV kv.1)=ks.map V.str:=by
  unfold dV;rw[dj];rfl
theorem V1 (ks:List Str) (f:Str->V):((dV ks f).map (·.2))=ks.map f:=by
  unfold dV;rw[dj];rfl
def zk (ts:List aS) (ss:List Str):List Str:=ss.filter fun x=>decide (aO ts x=x)
def nU (ts:List aS) (ss:List Str) (k:Str):List Str:=ss.filter fun x=>decide (aO ts x=k)
def mS (us:List Str) (ts:List aS):List (List Str):=(zk ts (aL us)).map (nU ts (aL us))
theorem Oc {ts:List aS}{ss:List Str}{i:Nat}{u:Str}(h:ss[i]? = some u):zk ts (ss.take (i+1))=zk ts (ss.take i)++(if aO ts u=u then [u] else []):=by
  unfold zk;rw[aQ,h,jy]
  by_cases c:aO ts u=u
  · rw[av c];simp[c]
  · rw[aq c];simp[c]
theorem JE {ts:List aS}{ss:List Str}{i:Nat}{u k:Str}(h:ss[i]? = some u):nU ts (ss.take (i+1)) k=nU ts (ss.take i) k++(if aO ts u=k then [u] else []):=by
  unfold nU;rw[aQ,h,jy]
  by_cases c:aO ts u=k
  · rw[av c];simp[c]
  · rw[aq c];simp[c]
theorem Od (ts:List aS) (x:Str):aO ts (aO ts x)=aO ts x:=((yG ts).eq x _ ((yG ts).to x)).symm
theorem JF (ts:List aS) (x:Str):¬co x<co (aO ts x):=(yG ts).le x x (.refl x)
theorem V2 {us:List Str}{ts:List aS}(nd:us.Nodup) (ht:∀t∈ts,t.a∈us/\t.b∈us) {i:Nat}{u:Str}(h:(aL us)[i]? = some u) (mP:aO ts u≠u):aO ts u∈zk ts ((aL us).take i):=by
  have hu:u∈us:=j3.mp (aZ h);have hl:aO ts u∈aL us:=j3.mpr (N3 hu ht);obtain⟨j,hj,ej⟩:=lY.mp hl;have V3:(aL us)[j]? = some (aO ts u):=by rw[aU hj,ej]
  have dz:co (aO ts u)<co u:=e7 fun k=>mP (Gj k (JF ts u))
  have qk:=V0 (Gq nd) V3 h dz;unfold zk;rw[cL];refine⟨?_,aR (Od ts u)⟩;rw[List.mem_take_iff_getElem];exact⟨j,by lia,ej⟩
theorem V4 {us:List Str}{ts:List aS}(nd:us.Nodup) {i:Nat}{u:Str}(h:(aL us)[i]? = some u):u ∉ zk ts ((aL us).take i)/\(aO ts u=u->nU ts ((aL us).take i) u = []):=by
  have hi:=(bU.mp h).1;have eu:=(bU.mp h).2;have dz:∀x∈(aL us).take i,co x<co u:=by
    intro x hx;obtain⟨j,hj,ej⟩:=List.mem_take_iff_getElem.mp hx;have:=(kT.mp (Gq nd)) j i (by lia) hi (by lia);rw[ej,eu] at this;exact this
  refine⟨fun z=>?_,fun e=>?_⟩
  · have:=dz u (cL.mp z).1;exact gy _ this
  · unfold nU;rw[qB];intro x hx c;have c:aO ts x=u:=bC c;have:=JF ts x;rw[c] at this;exact this (dz x hx)
section
variable {us:List Str}{ts:List aS}
theorem pW {k:Str}:k∈zk ts (aL us)↔k∈us/\aO ts k=k:=by
  unfold zk;rw[cL,j3,gx]
theorem u9 (nd:us.Nodup):(zk ts (aL us)).Nodup:=(JC nd).sublist (ko ..)
theorem Oe (nd:us.Nodup):(zk ts (aL us)).Pairwise (fun a b=>co a<co b):=(Gq nd).sublist (ko ..)
theorem V5 (nd:us.Nodup) (k:Str):(nU ts (aL us) k).Pairwise (fun a b=>co a<co b):=(Gq nd).sublist (ko ..)
theorem rV {k y:Str}:y∈nU ts (aL us) k↔y∈us/\aO ts y=k:=by
  unfold nU;rw[cL,j3,gx]
theorem Dt (ht:∀t∈ts,t.a∈us/\t.b∈us) {x:Str}(hx:x∈us):aO ts x∈zk ts (aL us):=pW.mpr ⟨N3 hx ht,Od ts x⟩
theorem Of (nd:us.Nodup) {k:Str}(hk:k∈zk ts (aL us)):∃r,nU ts (aL us) k=k::r:=by
  obtain⟨h1,h2⟩:=pW.mp hk;have hm:k∈nU ts (aL us) k:=rV.mpr ⟨h1,h2⟩;have hp:=V5 (ts:=ts) nd k;cases e:nU ts (aL us) k with
  | nil=>rw[e] at hm;cases hm
  | cons x r=>
    rw[e] at hm hp;rcases aJ.mp hm with z | z
    · rw[z];exact⟨r,rfl⟩
    · have h3:=(g7.mp hp).1 k z;have hx:x∈nU ts (aL us) k:=by rw[e];simp
      have h4:=JF ts x;rw[(rV.mp hx).2] at h4;exact absurd h3 h4
theorem JG (nd:us.Nodup):(mS us ts).length<=us.length:=by
  unfold mS;rw[ay];have:=fO (fun x=>decide (aO ts x=x)) (aL us);rw[JD] at this;exact this
end
structure cI where
  n:Str
  u:Str
  lo:Int
  hi:Int
def gk (f:cI):List V:=[.str f.n,.str f.u,.int f.lo,.int f.hi]
structure JH (us:List Str) (f:cI):Prop where
  n:nG f.n=true
  u:f.u∈us
  le:f.lo<=f.hi
  lo:qu f.lo
  hi:qu f.hi
theorem lS.mono {us k9:List Str}{t:aS}(h:lS us t) (s:∀x∈us,x∈k9):lS k9 t:=⟨h.ok.mono s,s _ h.a,s _ h.b⟩
theorem V6 {t u:aS}(h:bP t=bP u):t=u:=by
  obtain⟨k,a,b,g⟩:=t;obtain⟨k',a',b',g'⟩:=u;unfold bP at h;simp only [List.cons.injEq,V.str.injEq] at h;obtain⟨rfl,rfl,rfl,h⟩:=h;cases g with
  | none=>
    cases g' with
    | none=>rfl
    | some n=>simp at h
  | some n=>
    cases g' with
    | none=>simp at h
    | some n'=>
      simp at h;rw[h]
theorem V7 {xs:List V}{z:Int}(h0:0<=z) (h1:z<=xs.length):kJ xs (some z) none=xs.drop z.toNat:=by
  unfold kJ HT.nv;simp;split
  · lia
  · rw[Nat.min_eq_left (by lia)];apply ki;rw[List.length_drop];lia
abbrev Ln:=Str->List (Str×ah)
def cX (ts:List aS) (z:List (aS×ah)):Ln:=fun k=>(z.filter fun p=>decide (p.1.k≠gR/\aO ts p.1.a=k)).map fun p=>(aO ts p.1.b,p.2)
theorem Og {ts:List aS}{z:List (aS×ah)}{i:Nat}{t:aS}{r:ah}{k:Str}(h:z[i]? = some (t,r)):cX ts (z.take (i+1)) k=cX ts (z.take i) k++(if t.k≠gR/\aO ts t.a=k then [(aO ts t.b,r)] else []):=by
  unfold cX;rw[aQ,h,jy,aV]
  by_cases c:t.k≠gR/\aO ts t.a=k
  · rw[av c];simp[c.1,c.2]
  · rw[aq c]
    congr 1
    have:((some (t,r)).toList.filter fun p=>decide (p.1.k≠gR/\aO ts p.1.a=k)) = []:=by
      rw[qB];intro p hp;have:p=(t,r):=by simpa using hp
      subst this;intro e;exact c (bC e)
    rw[this];rfl
theorem j4 {ts:List aS}{z:List (aS×ah)}{k l:Str}{r:ah}:(l,r)∈cX ts z k↔∃t,(t,r)∈z/\t.k≠gR/\aO ts t.a=k/\aO ts t.b=l:=by
  unfold cX;rw[aM];constructor
  · rintro ⟨⟨t,r'⟩,h,e⟩;rw[cL,gx] at h;simp only [Prod.mk.injEq] at e;obtain⟨e1,e2⟩:=e;subst e2;exact⟨t,h.1,h.2.1,h.2.2,e1⟩
  · rintro ⟨t,h1,h2,h3,h4⟩;refine⟨(t,r),?_,by simp[h4]⟩;rw[cL,gx];exact⟨h1,h2,h3⟩
theorem Gv {ts:List aS}{z:List (aS×ah)}{k:Str}:(cX ts z k).length<=z.length:=by
  unfold cX;rw[ay];exact fO _ _
inductive Wk (ln:Ln) (s:Str):List ah->Str->Prop
  | nil:Wk ln s [] s
  | snoc {rs:List ah}{m l:Str}{r:ah}(w:Wk ln s rs m) (h:(l,r)∈ln m):Wk ln s (rs++[r]) l
def Rc (ln:Ln) (s:Str) (n:Nat) (v:Str):Prop:=∃rs,Wk ln s rs v/\rs.length=n
theorem Rc.zero {ln:Ln}{s v:Str}(h:Rc ln s 0 v):v=s:=by
  obtain⟨rs,w,e⟩:=h;cases w with
  | nil=>rfl
  | snoc w h=>simp at e
theorem Rc.succ {ln:Ln}{s v:Str}{n:Nat}(h:Rc ln s (n+1) v):∃u r,Rc ln s n u/\(v,r)∈ln u:=by
  obtain⟨rs,w,e⟩:=h;cases w with
  | nil=>simp at e
  | snoc w h=>exact⟨_,_,⟨_,w,by simpa using e⟩,h⟩
theorem Rc.step {ln:Ln}{s v u:Str}{n:Nat}{r:ah}(h:Rc ln s n u) (e:(v,r)∈ln u):Rc ln s (n+1) v:=by
  obtain⟨rs,w,q⟩:=h;exact⟨_,w.snoc e,by simp[q]⟩
structure Bf (ln:Ln) (s:Str) (d:Nat) (M ns:List Str):Prop where
  met:∀v∈M,∃j,1<=j/\j<=d/\Rc ln s j v
  no:∀j,1<=j->j<=d->¬Rc ln s j s
  all:∀v,Rc ln s d v->(∀j,1<=j->j<d->¬Rc ln s j v)->v∈ns
theorem Bf.zero {ln:Ln}{s:Str}:Bf ln s 0 [] [s]:=
  ⟨fun v h=>(fT h).elim,fun j h1 h2=>by lia,fun v h _=>by rw[h.zero];simp⟩
theorem Bf.succ {ln:Ln}{s:Str}{d:Nat}{M ns ms:List Str}(b:Bf ln s d M ns) (hm:∀v∈ms,Rc ln s (d+1) v) (hs:∀u∈ns,∀v r,(v,r)∈ln u->v≠s/\v∈M++ms):Bf ln s (d+1) (M++ms) ms:=by
  refine⟨fun v h=>?_,fun j h1 h2 q=>?_,fun v h hj=>?_⟩
  · rcases br.mp h with h | h
    · obtain⟨j,a,c,e⟩:=b.met v h;exact⟨j,a,by lia,e⟩
    · exact⟨d+1,by lia,by lia,hm v h⟩
  · by_cases c:j<=d
    · exact b.no j h1 c q
    · have e:j=d+1:=by lia
      subst e;obtain⟨u,r,hu,he⟩:=q.succ
      by_cases c2:∃j,1<=j/\j<d/\Rc ln s j u
      · obtain⟨j,a1,a2,a3⟩:=c2;exact b.no (j+1) (by lia) (by lia) (a3.step he)
      · exact (hs u (b.all u hu fun j a1 a2 a3=>c2 ⟨j,a1,a2,a3⟩) s r he).1 rfl
  · obtain⟨u,r,hu,he⟩:=h.succ;have cZ:u∈ns:=b.all u hu fun j a1 a2 a3=>hj (j+1) (by lia) (by lia) (a3.step he)
    rcases br.mp (hs u cZ v r he).2 with h | h
    · obtain⟨j,a1,a2,a3⟩:=b.met v h;exact absurd a3 (hj j a1 (by lia))
    · exact h
theorem Bf.done {ln:Ln}{s:Str}{d:Nat}{M:List Str}(b:Bf ln s d M []):∀j,1<=j->¬Rc ln s j s:=by
  have low:∀j v,1<=j->Rc ln s j v->∃j',1<=j'/\j'<=d/\Rc ln s j' v/\j'<max d 1:=by
    intro j
    induction j with
    | zero=>intro v h;lia
    | succ j ih=>
      intro v _ h;have Du:Rc ln s d v->∃j',1<=j'/\j'<=d/\Rc ln s j' v/\j'<max d 1:=fun q=>by
        by_cases c:∃j,1<=j/\j<d/\Rc ln s j v
        · obtain⟨i,a1,a2,a3⟩:=c;exact⟨i,a1,by lia,a3,by lia⟩
        · exact nomatch b.all v q fun i a1 a2 a3=>c ⟨i,a1,a2,a3⟩
      by_cases c1:j+1<d
      · exact⟨j+1,by lia,by lia,h,by lia⟩
      · by_cases c2:j+1=d
        · exact Du (c2▸h)
        · obtain⟨u,r,hu,he⟩:=h.succ
          by_cases c3:j=0
          · have:d=0:=by lia
            subst this;subst c3;exact (nomatch b.all s ⟨[],.nil,rfl⟩ fun i a1 a2 a3=>by lia)
          · obtain⟨j',a1,a2,a3,a4⟩:=ih u (by lia) hu
            by_cases c4:j'+1=d
            · exact Du (c4▸a3.step he)
            · exact⟨j'+1,by lia,by lia,a3.step he,by lia⟩
  intro j h q;obtain⟨j',a1,a2,a3,_⟩:=low j s h q;exact b.no j' a1 a2 a3
structure Bn (H:Hp) (pd:ah) (ob:Obj) (keys:List Str) (ln:Ln) (ad:Str->ah) (bs:Str->List ah):Prop where
  d:H pd=some (.gp ob (.dK (dV keys fun k=>.ref (ad k))))
  l:∀k∈keys,H (ad k)=some (.lst ((bs k).map V.ref))
  e:∀k∈keys,Paired (fun b (p:Str×ah)=>H b=some (.tup [.str p.1,.ref p.2])) (bs k) (ln k)
theorem Bn.same {H H':Hp}{pd:ah}{ob:Obj}{keys:List Str}{ln:Ln}{ad:Str->ah}{bs:Str->List ah}(b:Bn H pd ob keys ln ad bs) (s:ak H H'):Bn H' pd ob keys ln ad bs:=
  ⟨s _ _ b.d,fun k hk=>s _ _ (b.l k hk),fun k hk=>Paired.gP (b.e k hk) fun _ _ h=>s _ _ h⟩
theorem vc {α:Type}{F:ah->α->Prop}{as:List ah}{ps:List α}{i:Nat}{x:V}(t:Paired F as ps) (hx:(as.map V.ref)[i]? = some x):∃q p,x = .ref q/\ps[i]? = some p/\as[i]? = some q/\F q p:=by
  rw[aX] at hx;cases e:as[i]? with
  | none=>rw[e] at hx;cases hx
  | some q=>
    rw[e] at hx;cases hx;obtain⟨p,h1,h2⟩:=Paired.get' t e;exact⟨q,p,rfl,h1,rfl,h2⟩
def Oh (H:Hp) (b:ah) (e:Str×List ah):Prop:=∃q,H b=some (.tup [.str e.1,.ref q])/\H q=some (.lst (e.2.map V.ref))
def JI (pl:ah) (H:Hp) (b:ah) (e:Str×List ah):Prop:=∃q,q≠pl/\H b=some (.tup [.str e.1,.ref q])/\H q=some (.lst (e.2.map V.ref))
def ig:Str->V:=fun _=>.bl true
theorem JJ {M:List Str}{v:Str}(h:v ∉ M):putK (dV M ig) (Sum.inr v) (.bl true)=dV (M++[v]) ig:=by
  rw[wB h];refine sW fun z _=>?_
  unfold ig;split<;>rfl
structure vd (Hw H':Hp) (pm pl:ah) (ln:Ln) (s:Str) (keys M:List Str) (d:Nat) (ml:List ah) (fs:List (Str×List ah)):Prop where
  kp:∀b o,b≠pm->Hw b=some o->H' b=some o
  m:H' pm=some (.dK (dV (M++fs.map Prod.fst) ig))
  l:H' pl=some (.lst (ml.map V.ref))
  w:Paired (JI pl H') ml fs
  ok:∀e∈fs,Wk ln s e.2 e.1/\e.2.length=d+1/\e.1∈keys
  nd:(M++fs.map Prod.fst).Nodup
section
variable {Hw H':Hp}{pm pl:ah}{ln:Ln}{s:Str}{keys M:List Str}{d:Nat}{ml:List ah}{fs:List (Str×List ah)}
theorem vd.add (g:vd Hw H' pm pl ln s keys M d ml fs) (hw:Hw pl=none) (yH:pl≠pm) {v:Str}{rs:List ah}(hv:v ∉ M++fs.map Prod.fst) {H2:Hp}(s2:ak (upd H' pm (.dK (dV (M++fs.map Prod.fst++[v]) ig))) H2) {q b:ah}
    (hq:H2 q=some (.lst (rs.map V.ref))) (nq:q≠pl) (hb:H2 b=some (.tup [.str v,.ref q])) (ok:Wk ln s rs v/\rs.length=d+1/\v∈keys) :
    vd Hw (upd H2 pl (.lst (ml.map V.ref++[.ref b]))) pm pl ln s keys M d (ml++[b]) (fs++[(v,rs)]):=by
  have l2:H2 pl=some (.lst (ml.map V.ref)):=s2 _ _ (by rw[zg yH];exact g.l);have wU:∀b vs,H2 b=some (.tup vs)->b≠pl:=fun b vs e z=>by rw[z,l2] at e;cases e
  refine⟨fun c o n e=>?_,?_,?_,?_,fun e he=>?_,?_⟩
  · rw[zg (zh e hw)];exact s2 _ _ (by rw[zg n];exact g.kp c o n e)
  · rw[zg (aC yH),aV,←jk];exact s2 _ _ zd
  · rw[zd,aV];rfl
  · refine Paired.snoc (Paired.gP g.w fun c e h=>?_) ?_
    · obtain⟨q',n',h1,h2⟩:=h;have wC:=s2 _ _ (show upd H' pm (.dK (dV (M++fs.map Prod.fst++[v]) ig)) c=_ by rw[zg (fun z=>by rw[z,g.m] at h1;cases h1)];exact h1);have JK:=s2 _ _ (show upd H' pm (.dK (dV (M++fs.map Prod.fst++[v]) ig)) q'=_ by rw[zg (fun z=>by rw[z,g.m] at h2;cases h2)];exact h2);exact⟨q',n',by rw[zg (wU _ _ wC)];exact wC,by rw[zg n'];exact JK⟩
    · exact⟨q,nq,by rw[zg (wU _ _ hb)];exact hb,by rw[zg nq];exact hq⟩
  · rcases br.mp he with he | he
    · exact g.ok e he
    · have:e=(v,rs):=by simpa using he
      subst this;exact ok
  · rw[aV,←jk];rw[fS];refine⟨g.nd,by simp,fun a ha c hc e=>?_⟩;have hc:c=v:=by simpa using hc
    subst hc;subst e;exact hv ha
end
theorem Bn.get {H:Hp}{pd:ah}{ob:Obj}{keys:List Str}{ln:Ln}{ad:Str->ah}{bs:Str->List ah}(b:Bn H pd ob keys ln ad bs) {k:Str}(hk:k∈keys):cz H pd (.str k) (some (.ref (ad k))):=by
  have:cz H pd (kV (Sum.inr k)) (dD (dV keys fun k=>.ref (ad k)) (Sum.inr k)):=.inl ⟨_,_,.inr ⟨ob,b.d⟩,rfl,rfl⟩
  rwa [pB hk] at this
def Oi (ln:Ln) (s:Str) (rs:List ah):Prop:=(rs = []/\∀j,1<=j->¬Rc ln s j s)\/(rs≠[]/\Wk ln s rs s/\∀j,1<=j->j<rs.length->¬Rc ln s j s)
def lH (ln:Ln) (keys:List Str) (rs:List ah):Prop:=(rs = []/\∀s∈keys,∀j,1<=j->¬Rc ln s j s)\/(rs≠[]/\(∃s∈keys,Wk ln s rs s)/\∀s∈keys,∀j,1<=j->j<rs.length->¬Rc ln s j s)
theorem lH.nil {ln:Ln}:lH ln [] []:=.inl ⟨rfl,fun s h=>(fT h).elim⟩
theorem lH.step {ln:Ln}{keys:List Str}{u:Str}{rs xs:List ah}(h:lH ln keys rs) (g:Oi ln u xs):lH ln (keys++[u]) (if xs≠[]/\(rs = []\/xs.length<rs.length) then xs else rs):=by
  have mem:∀{s:Str},s∈keys++[u]->s∈keys\/s=u:=fun h=>by simpa using h
  have low:∀{n:Nat},n<=xs.length\/xs = []->∀j,1<=j->j<n->¬Rc ln u j u:=fun hn j h1 h2=>by
    rcases g with ⟨e,g⟩ | ⟨e,_,g⟩
    · exact g j h1
    · exact g j h1 (by rcases hn with hn | hn;lia;exact absurd hn e)
  by_cases c:xs≠[]/\(rs = []\/xs.length<rs.length)
  · rw[av c];rcases g with ⟨e,_⟩ | ⟨_,g1,g2⟩
    · exact absurd e c.1
    · refine .inr ⟨c.1,⟨u,by simp,g1⟩,fun s hs j h1 h2=>?_⟩;rcases mem hs with hs | rfl
      · rcases h with ⟨_,h⟩ | ⟨hn,_,h⟩
        · exact h s hs j h1
        · rcases c.2 with z | z
          · exact absurd z hn
          · exact h s hs j h1 (by lia)
      · exact g2 j h1 h2
  · rw[aq c];rcases h with ⟨e,h⟩ | ⟨hn,⟨s,hs,hw⟩,h⟩
    · have ex:xs = []:=e7 fun z=>c ⟨z,.inl e⟩
      refine .inl ⟨e,fun s hs j h1=>?_⟩;rcases mem hs with hs | rfl
      · exact h s hs j h1
      · rcases g with ⟨_,g⟩ | ⟨z,_⟩
        · exact g j h1
        · exact absurd ex z
    · refine .inr ⟨hn,⟨s,cT _ hs,hw⟩,fun s hs j h1 h2=>?_⟩;rcases mem hs with hs | rfl
      · exact h s hs j h1 h2
      · refine low (n:=rs.length) ?_ j h1 h2
        by_cases z:xs = []
        · exact .inr z
        · exact .inl (ku fun q=>c ⟨z,.inr q⟩)
theorem Gw {us:List Str}{ts:List aS}{az:List ah}(ht:∀t∈ts,t.a∈us/\t.b∈us):∀k∈zk ts (aL us),∀l r,(l,r)∈cX ts (ts.zip az) k->l∈zk ts (aL us):=by
  intro k _ l r h;obtain⟨t,h1,_,_,rfl⟩:=j4.mp h;exact Dt ht (ht t (iE h1).1).2
theorem Ag {ks:List Str}{f:Str->V}{i:Nat}{k:Key}{v:V}(h:(dV ks f)[i]? = some (k,v)):∃u,ks[i]? = some u/\k=Sum.inr u/\v=f u:=by
  unfold dV at h;rw[aX] at h;cases e:ks[i]? with
  | none=>rw[e] at h;cases h
  | some u=>
    rw[e] at h;cases h;exact⟨u,rfl,rfl,rfl⟩
abbrev Lk:=List (Str×Str)
theorem Wk.seq {ln:Ln}{s t:Str}{rs:List ah}(w:Wk ln s rs t):∃vs:Nat->Str,vs 0=s/\vs rs.length=t/\∀i,i<rs.length->∃r,rs[i]? = some r/\(vs (i+1),r)∈ln (vs i):=by
  induction w with
  | nil=>exact⟨fun _=>s,rfl,rfl,fun i h=>by simp at h⟩
  | @snoc rs m l r w h ih=>
    obtain⟨vs,h0,h1,h2⟩:=ih;refine⟨fun i=>if i=rs.length+1 then l else vs i,?_,?_,fun i hi=>?_⟩
    · dsimp only;rw[aq (by lia)];exact h0
    · dsimp only;rw[av (by simp)]
    · dsimp only;rw[bK] at hi;have hi:i<rs.length+1:=hi
      by_cases c:i=rs.length
      · subst c;rw[av rfl,aq (by lia),h1];exact⟨r,by simp,h⟩
      · obtain⟨r',e,q⟩:=h2 i (by lia);rw[aq (by lia),aq (by lia)];exact⟨r',by rw[lW (by lia)];exact e,q⟩
def qS (ts:List aS):Lk:=(ts.filter fun t=>decide (t.k≠gR)).map fun t=>(aO ts t.a,aO ts t.b)
theorem V8 {ts:List aS}{x y:Str}:(x,y)∈qS ts↔∃t∈ts,t.k≠gR/\aO ts t.a=x/\aO ts t.b=y:=by
  unfold qS;rw[aM];constructor
  · rintro ⟨t,h,e⟩;rw[cL,gx] at h;simp only [Prod.mk.injEq] at e;exact⟨t,h.1,h.2,e⟩
  · rintro ⟨t,h1,h2,h3,h4⟩;exact⟨t,by rw[cL,gx];exact⟨h1,h2⟩,by rw[h3,h4]⟩
theorem V9 {ts:List aS}{az:List ah}(hl:az.length=ts.length) {x y:Str}:(x,y)∈qS ts↔∃r,(y,r)∈cX ts (ts.zip az) x:=by
  rw[V8];constructor
  · rintro ⟨t,h1,h2,h3,h4⟩;obtain⟨i,hi,e⟩:=lY.mp h1;refine⟨az[i]'(by lia),j4.mpr ⟨t,?_,h2,h3,h4⟩⟩;rw[lY];exact⟨i,by rw[ia];lia,by rw[List.getElem_zip,e]⟩
  · rintro ⟨r,h⟩;obtain⟨t,h1,h2,h3,h4⟩:=j4.mp h;exact⟨t,(iE h1).1,h2,h3,h4⟩
theorem Wa {ln:Ln}{F:List Str}(hn:F≠[]) (h:∀x∈F,∃y∈F,∃r,(y,r)∈ln x):∃s∈F,∃j,1<=j/\Rc ln s j s:=by
  obtain⟨x0,h0⟩:=List.exists_mem_of_ne_nil F hn;have hf:∃f:Str->Str,∀x∈F,f x∈F/\∃r,(f x,r)∈ln x:=by
    refine⟨fun x=>if c:x∈F then (h x c).choose else x,fun x hx=>?_⟩;dsimp only;rw[dif_pos hx];exact (h x hx).choose_spec
  obtain⟨f,hf⟩:=hf
  let x:Nat->Str:=fun n=>Nat.rec x0 (fun _ y=>f y) n
  have hx:∀n,x n∈F:=by
    intro n
    induction n with
    | zero=>exact h0
    | succ n ih=>exact (hf _ ih).1
  have go:∀i d,Rc ln (x i) d (x (i+d)):=by
    intro i d
    induction d with
    | zero=>exact⟨[],.nil,rfl⟩
    | succ d ih=>
      obtain⟨r,e⟩:=(hf _ (hx (i+d))).2;exact ih.step e
  have rep:∃i j,i<j/\x i=x j:=by
    refine oA fun hn=>?_
    have nd:((List.range (F.length+1)).map x).Nodup:=Gh fun i j _ _ e=>by
      rcases mh i j with c | c | c
      · exact absurd ⟨i,j,c,e⟩ hn
      · exact c
      · exact absurd ⟨j,i,c,e.symm⟩ hn
    have:=uw nd (us:=F) fun y hy=>by
      obtain⟨i,_,rfl⟩:=aM.mp hy;exact hx i
    simp at this;lia
  obtain⟨i,j,qk,e⟩:=rep;refine⟨x i,hx i,j-i,by lia,?_⟩;have:=go i (j-i)
  rwa [show i+(j-i)=j by lia,←e] at this
structure nH (K:aE) (H:Hp) (p pu pt:ah) (x y:V) (us:List Str) (az:List ah) (ts:List aS):Prop where
  p:bF K H p [x,.ref pu,.ref pt,y]
  u:aI K H pu (us.map V.str)
  t:aI K H pt (az.map V.ref)
  tt:bT H az (ts.map bP)
  nd:us.Nodup
  ul:us.length<64
  tl:ts.length<=900
  ok:∀t∈ts,lS us t
section
variable {K:aE}{H H':Hp}{p pu pt:ah}{x y:V}{us:List Str}{az:List ah}{ts:List aS}
theorem nH.same (h:nH K H p pu pt x y us az ts) (s:ak H H'):nH K H' p pu pt x y us az ts:=⟨s.tup h.p,s.seq h.u,s.seq h.t,h.tt.same s,h.nd,h.ul,h.tl,h.ok⟩
theorem nH.ends (h:nH K H p pu pt x y us az ts):∀t∈ts,t.a∈us/\t.b∈us:=fun t ht=>⟨(h.ok t ht).a,(h.ok t ht).b⟩
theorem nH.len (h:nH K H p pu pt x y us az ts):az.length=ts.length:=by have:=h.tt.len;rw[ay] at this;exact this
theorem nH.kK (h:nH K H p pu pt x y us az ts):(zk ts (aL us)).length<=63:=by
  have:=JG (us:=us) (ts:=ts) h.nd;have:=h.ul;unfold mS at *;rw[ay] at *;lia
end
def Gx:Str:="after"
def eX (t:aS):Int:=t.g.getD 0
theorem lS.after {us:List Str}{t:aS}(h:lS us t) (e:t.k=Gx):jY (bP t) 3=some (.int (eX t)):=by
  have h:=h.ok;obtain⟨k,a,b,g⟩:=t;cases g with
  | some n=>exact pP (xs:=bP ⟨k,a,b,some n⟩) (j:=3) rfl
  | none=>
    exfalso;unfold bP at h;simp only at h e;subst e;cases h with
    | plain hk hx hy=>revert hk;decide
theorem lS.plain {us:List Str}{t:aS}(h:lS us t) (e:t.k≠Gx):eX t=0:=by
  have h:=h.ok;obtain⟨k,a,b,g⟩:=t;cases g with
  | none=>rfl
  | some n=>
    exfalso;unfold bP at h;simp only at h e;generalize ew:([V.str k,V.str a,V.str b,V.int n]:List V)=ws at h;cases h with
    | plain hk hx hy=>simp at ew
    | after hx hy h0 h1=>
      simp only [List.cons.injEq,V.str.injEq] at ew;exact e ew.1
theorem lH.len {ln:Ln}{keys:List Str}{rs xs:List ah}(h:lH ln keys rs) (g:lH ln keys xs):rs.length=xs.length:=by
  have low:∀{as bs:List ah},lH ln keys as->lH ln keys bs->as.length<=bs.length:=by
    intro as bs h g;rcases g with ⟨e,g⟩ | ⟨e,⟨s,hs,w⟩,_⟩
    · rcases h with ⟨e',_⟩ | ⟨e',⟨s,hs,w⟩,_⟩
      · rw[e,e'];exact aH _
      · exact absurd ⟨_,w,rfl⟩ (g s hs _ (iC.mpr e'))
    · rcases h with ⟨e',h⟩ | ⟨_,_,h⟩
      · rw[e'];exact c6 _
      · exact ku fun c=>h s hs _ (iC.mpr e) c ⟨_,w,rfl⟩
  exact Nat.le_antisymm (low h g) (low g h)
theorem lH.gQ {ln:Ln}{keys:List Str}{rs:List ah}(h:lH ln keys rs):rs≠[]↔∃s∈keys,∃j,1<=j/\Rc ln s j s:=by
  rcases h with ⟨e,h⟩ | ⟨e,⟨s,hs,w⟩,_⟩
  · exact⟨fun z=>absurd e z,fun ⟨s,hs,j,hj,r⟩=>absurd r (h s hs j hj)⟩
  · exact⟨fun _=>⟨s,hs,_,iC.mpr e,_,w,rfl⟩,fun _=>e⟩
def iA (ln:Ln) (keys:List Str):Prop:=∀s∈keys,∀j,1<=j->¬Rc ln s j s
def ux (M:List Str) (L:List (Str×ah)):Bool:=L.all fun p=>decide (p.1∈M)
def sX (ln:Ln) (keys M:List Str):List Str:=keys.filter fun x=>decide (x ∉ M)&&ux M (ln x)
theorem Wb {M:List Str}{L:List (Str×ah)}:ux M L=true↔∀l r,(l,r)∈L->l∈M:=by
  unfold ux;rw[iD];constructor
  · intro h l r hm;exact bC (h (l,r) hm)
  · intro h p hp;exact aR (h p.1 p.2 hp)
theorem iW {ln:Ln}{keys M:List Str}{x:Str}:x∈sX ln keys M↔x∈keys/\x ∉ M/\∀l r,(l,r)∈ln x->l∈M:=by
  unfold sX;rw[cL,g9,gx,Wb]
theorem Wc {ln:Ln}{keys M:List Str}(cl:∀k∈keys,∀l r,(l,r)∈ln k->l∈keys) (nr:iA ln keys) (hx:∃x∈keys,x ∉ M):sX ln keys M≠[]:=by
  intro z;obtain⟨x,h1,h2⟩:=hx;obtain⟨s,hs,j,hj,r⟩:=Wa (ln:=ln) (F:=keys.filter fun x=>decide (x ∉ M)) (List.ne_nil_of_mem (cL.mpr ⟨h1,aR h2⟩)) fun y hy=>by
    rw[cL,gx] at hy;refine oA fun hn=>?_
    have:y∈sX ln keys M:=iW.mpr ⟨hy.1,hy.2,fun l r hl=>e7 fun q=>hn ⟨l,cL.mpr ⟨cl y hy.1 l r hl,aR q⟩,r,hl⟩⟩;rw[z] at this;cases this
  exact nr s (cL.mp hs).1 j hj r
structure Ord (ln:Ln) (keys os:List Str):Prop where
  nd:os.Nodup
  sub:∀x∈os,x∈keys
  low:∀(i:Nat) o,os[i]? = some o->∀l r,(l,r)∈ln o->l∈os.take i
  least:∀(i:Nat) o,os[i]? = some o->∀x∈keys,x ∉ os.take i->(∀l r,(l,r)∈ln x->l∈os.take i)->¬co x<co o
theorem Ord.nil {ln:Ln}{keys:List Str}:Ord ln keys []:=⟨by simp,by simp,by simp,by simp⟩
theorem Ord.snoc {ln:Ln}{keys os:List Str}{u:Str}{r:List Str}(h:Ord ln keys os) (kl:keys.Pairwise (fun a b=>co a<co b)) (hu:sX ln keys os=u::r):Ord ln keys (os++[u]):=by
  have hm:u∈sX ln keys os:=by rw[hu];simp
  obtain⟨m1,m2,m3⟩:=iW.mp hm;have at':∀(i:Nat) o,(os++[u])[i]? = some o->(i<os.length/\os[i]? = some o/\(os++[u]).take i=os.take i)\/(i=os.length/\o=u/\(os++[u]).take i=os):=by
    intro i o e
    by_cases c:i<os.length
    · rw[lW c] at e;exact .inl ⟨c,e,by rw[List.take_append_of_le_length (by lia)]⟩
    · have hi:=(bU.mp e).1;rw[bK] at hi;have hi:i<os.length+1:=hi;have:i=os.length:=by lia
      subst this;simp at e;exact .inr ⟨rfl,e.symm,by simp⟩
  refine⟨?_,fun x hx=>?_,fun i o e l r' hl=>?_,fun i o e x hx hn hl=>?_⟩
  · rw[fS];refine⟨h.nd,by simp,fun a ha b hb e=>?_⟩;have hb:b=u:=by simpa using hb
    subst hb;subst e;exact m2 ha
  · rcases br.mp hx with hx | hx
    · exact h.sub x hx
    · have:x=u:=by simpa using hx
      rw[this];exact m1
  · rcases at' i o e with ⟨c,e',et⟩ | ⟨c,rfl,et⟩
    · rw[et];exact h.low i o e' l r' hl
    · rw[et];exact m3 l r' hl
  · rcases at' i o e with ⟨c,e',et⟩ | ⟨c,rfl,et⟩
    · rw[et] at hn hl;exact h.least i o e' x hx hn hl
    · rw[et] at hn hl;have Gy:x∈sX ln keys os:=iW.mpr ⟨hx,hn,hl⟩;have pw:(sX ln keys os).Pairwise (fun a b=>co a<co b):=kl.sublist (ko ..);rw[hu] at Gy pw;rcases aJ.mp Gy with rfl | Gy
      · exact gy _
      · exact fun z=>Ds z ((g7.mp pw).1 x Gy)
theorem Ord.perm {ln:Ln}{keys os:List Str}(h:Ord ln keys os) (kn:keys.Nodup) (hl:os.length=keys.length):os.Perm keys:=by
  rw[List.perm_ext_iff_of_nodup h.nd kn];intro x;refine⟨h.sub x,fun hx=>?_⟩;refine e7 fun hn=>?_
  have:=uw (us:=keys) (rs:=x::os) (fV.mpr ⟨hn,h.nd⟩) fun y hy=>by
    rcases aJ.mp hy with rfl | hy
    · exact hx
    · exact h.sub y hy
  rw[fh] at this;lia
theorem JL {K:aE}{H:Hp}{n:Nat}{xs:List Str}:∀x∈xs.map V.str,cU K H n x x true:=fun x hx=>by
  obtain⟨z,_,rfl⟩:=aM.mp hx;have:=cU.flat (K:=K) (H:=H) (n:=n) (x:=.str z) (y:=.str z) rfl rfl
  rwa [show nQ (.str z) (.str z)=true from by simp[nQ]] at this
end Dm
namespace L2
open PySem PySem.Spec PyProof.Rows
theorem We {prog:aP}{w:World}{A:Around}{P:Nat->ai->Prop}(val:Nat->Str) (Dv:∀i v,P i v->∃t,v=Value.str (val i) t) :
    CmpOf prog w A .Lt P (fun i j=>decide ((val i).cps.toList<(val j).cps.toList)):=fun i j vi vj s Q E hi hj h=>by
  obtain⟨t,rfl⟩:=Dv i vi hi;obtain⟨u,rfl⟩:=Dv j vj hj;exact richCompare_gives (op:=.Lt) (typeIs_str s _ t) (typeIs_str s _ u) PySem.F.slot_str_lt PySem.F.entry_str_lt (PySem.F.args_str_lt_2 _ _) (gives_str_lt _ _ t u) (fun x=>nomatch x) h
theorem Wf {prog:aP}{w:World}{A:Around}{E:aA}{s:au}{a b:Str}{t u:Tok}{Q:aA}(hh:A.handled=none)
    (h:∀h' tk,(∀c o,s.heap.get? c=some o->h'.get? c=some o)->Q (if b.cps.toList<a.cps.toList then .str b u else .str a t) { s with heap:=h',toks:=tk }) :
    wpAny (model prog w) A (call (.builtin "min") [.str a t,.str b u]) Q E s:=by
  have hT:(s.heap.push { cls:=.type "tuple",data:=.seq #[.str a t,.str b u] }).IsTuple s.heap.objs.size #[.str a t,.str b u]:=⟨_,bH _ rfl,rfl,0,rfl⟩;refine call_min_two (wpAny_pyIter_tuple hT ?_);have hsz:(s.heap.push { cls:=.type "tuple",data:=.seq #[.str a t,.str b u] }).objs.size=s.heap.objs.size+1:=iF ..;refine⟨_,[_,s.heap.objs.size],[_],_,_,_,_,rfl,Walks.tuple (A:=A.in1) hh _ s.heap.objs.size (by rw[hsz];exact aW (jA _)) #[.str a t,.str b u],
    ⟨⟨_,bH _ rfl,rfl,rfl⟩,hT.push _⟩,fun c hc=>?_,(by show 0<2;decide),We (fun i=>if i=0 then a else b) (fun i v e=>?_),fun v h' tk hP hk=>?_⟩
  · show c<((s.heap.push _).push _).objs.size;rw[iF,hsz];rcases aJ.mp hc with rfl | hc
    · rw[hsz];exact jA _
    · rcases aJ.mp hc with rfl | hc
      · exact jz (jA _)
      · cases hc
  · match i,e with
    | 0,e=>cases e;exact⟨t,rfl⟩
    | 1,e=>cases e;exact⟨u,rfl⟩
    | i+2,e=>simp at e
  · have hold:∀c o,s.heap.get? c=some o->h'.get? c=some o:=fun c o e=>by
      refine hk c o (fun hm=>?_) (bq _ (bq _ e));rcases aJ.mp hm with e1 | hm
      · have:=aK e;rw[e1,hsz] at this;exact dS _ (Nat.lt_of_succ_lt this)
      · cases hm
    have:=h h' tk hold;have hv:v=if b.cps.toList<a.cps.toList then Value.str b u else Value.str a t:=by
      have qp:(#[Value.str a t,Value.str b u])[argBest (fun i j=>decide ((if i=0 then a else b).cps.toList<(if j=0 then a else b).cps.toList)) 1]? = some v:=hP
      by_cases Gz:b.cps.toList<a.cps.toList
      · have e:argBest (fun i j=>decide ((if i=0 then a else b).cps.toList<(if j=0 then a else b).cps.toList)) 1=1:=by simp[argBest,Gz]
        rw[e] at qp;rw[av Gz];exact (cD qp).symm
      · have e:argBest (fun i j=>decide ((if i=0 then a else b).cps.toList<(if j=0 then a else b).cps.toList)) 1=0:=by simp[argBest,Gz]
        rw[e] at qp;rw[aq Gz];exact (cD qp).symm
    rw[hv];exact this
theorem Oj:∀(r:List Str) (x:Str),risingS x r=true->(x::r).Pairwise (fun a b=>¬b.cps.toList<a.cps.toList)
  | [],x,_=>List.pairwise_singleton ..
  | y::r,x,h=>by
    unfold risingS at h;rw[g9] at h;have ih:=Oj r y h.2;have h1:¬y.cps.toList<x.cps.toList:=by
      intro z;have:ltCps y.cps.toList x.cps.toList=true:=by rw[ltCps_eq];exact aR z
      rw[this] at h;simp at h
    refine g7.mpr ⟨fun b hb=>?_,ih⟩;rcases aJ.mp hb with rfl | hb
    · exact h1
    · intro z;have h2:=(g7.mp ih).1 b hb;rw[List.not_lt] at h1 h2;exact absurd z (List.not_lt.mpr (List.le_trans h1 h2))
theorem Wg {ss:List Str}(h:sortedS ss=true):ss.Pairwise (fun a b=>¬b.cps.toList<a.cps.toList):=by
  cases ss with
  | nil=>exact .nil
  | cons x r=>exact Oj r x h
section
variable {X:Cx}
theorem Wh (hc:X.calm=true):mH X (.builtin "min") (fun xs H Q=>∃i j,xs = [.str i,.str j]/\Q (.str (if j.cps.toList<i.cps.toList then j else i)) H):=by
  intro pins s σ H xs us Q I r h;obtain⟨i,j,rfl,q⟩:=h;obtain⟨u,w',rfl,⟨t,rfl⟩,⟨t',rfl⟩⟩:=zN r;refine Wf (I.ok.hd hc) fun h' tk k=>⟨_,H,I.kept k,?_,q⟩
  by_cases hj:j.cps.toList<i.cps.toList
  · rw[av hj,av hj];exact⟨_,rfl⟩
  · rw[aq hj,aq hj];exact⟨_,rfl⟩
theorem Ol {K:aE}(h:X.K=K):mH X (.builtin "sorted") (fun xs H Q=>∃(a:ah) (ns:List Str),xs = [V.ref a]/\aI K H a (ns.map V.str)/\ns.length<64/\
    ∀(p:ah) (ms:List Str),H p=none->ms.Perm ns->ms.Pairwise (fun a b=>¬b.cps.toList<a.cps.toList)->Q (.ref p) (upd H p (.lst (ms.map V.str)))):=by
  subst h;intro pins s σ H xs us Q I r h;obtain⟨a,ns,rfl,ha,hn,q⟩:=h;obtain⟨u,rfl,ru⟩:=pO r;cases ru;obtain⟨its,rv,pl,hz⟩:=I.list ha;have hl:=rv.length;rw[ay] at hl;refine PyProof.Rows.sorted_strs pl.isList (Nn rv) (by lia) fun out ms a1 a2 a3=>?_
  obtain⟨e,he⟩:=PyProof.Rows.sortedAll_at s.heap its out;have Be:H (s.heap.objs.size+1)=none:=I.bu.fresh (fB _);have hm:ms.length=ns.length:=a2.length_eq;have hs:sizeLine=16777216:=dW;have vs:∀{us:List ai}{ys:List Str},StrsAre us ys->Vals (ys.map V.str) us:=by
    intro us ys h
    induction h with
    | nil=>exact .nil
    | cons x t _ ih=>exact .cons ⟨t,rfl⟩ ih
  refine⟨.ref (s.heap.objs.size+1),_,I.laid (t':=s.toks) (a:=s.heap.objs.size+1) (o:=.lst (ms.map V.str)) (fun b o eb=>PyProof.Rows.sortedAll_old eb) (fB _) ⟨?_,out.toList,e,vs a1,?_⟩,rfl,q _ ms Be a2 (Wg a3)⟩
  · rw[ay];lia
  · rw[he]
end
end L2
namespace HT
open PySem PySem.Spec PyProof.Rows PySem.Calls
end HT
namespace L2
open PySem PySem.Spec PyProof.Rows
section
variable {X:Cx}{pins:aG}{σ:St}{H:Hp}{s:au}{a:ah}{u r:ai}{A:Around}{E:aA}
theorem Wi {kvs:List (Key×V)}{k:Key}{z:V}{Q:aA}(I:Inv X pins σ H s) (e:H a=some (.dK kvs)) (ry:RelV (kV k) u) (rz:RelV z r) (hl:kvs.length<sizeLine)
    (h1:∀v,dD kvs k=some v->∀w' s',Inv X pins σ H s'->RelV v w'->Q w' s') (h2:dD kvs k=none->∀s',Inv X pins σ (upd H a (.dK (putK kvs k z))) s'->Q r s') :
    wpAny (model X.prog X.w) A (call (.builtin "dict.setdefault") [.ref a,u,r]) Q E s:=by
  obtain⟨hz,hd,vs,rel,dd⟩:=IM I.bu e;refine call_meetsIn PySem.F.slot_dict_setdefault dd.typeIs PySem.F.entry_dict_setdefault (PySem.F.args_dict_setdefault_3 _ _ _) (kt_meets_setdefault (qj X.prog X.w) a (Bp ry) hd r)
    ⟨vs,dd,by rw[←rel.length];exact hz,fun v hv=>?_,fun hn h' we hs=>?_⟩
  · cases l:dD kvs k with
    | some v0=>
      obtain⟨w',hw,kZ⟩:=gg.some_of (v:=v0) (o:=valueAt vs k) (by rw[←l];exact rel.val k);rw[hw] at hv;cases hv;exact h1 v0 l _ _ (I.tok _) kZ
    | none=>
      have hn:valueAt vs k=none:=gg.none_of (by have:=rel.val k;rw[l] at this;exact this);rw[hn] at hv;cases hv
  · cases l:dD kvs k with
    | some v0=>
      obtain⟨w',hw,kZ⟩:=gg.some_of (v:=v0) (o:=valueAt vs k) (by rw[←l];exact rel.val k);rw[hw] at hn;cases hn
    | none=>
      have lF:(putK kvs k z).length<=sizeLine:=by have:=FL kvs k z;lia
      have he:∃q,h'.get? a=some q:=let ⟨q,_,_,hq,_⟩:=we;⟨q,hq⟩
      exact h2 l _ (FN I (by rw[e];exact True.intro) hs he (IQ lF hd (rel.put k rz) we))
end
def Wj (td ty tx:TE):TE:=fun σ H Q=>td σ H fun x H1=>∃a,x = .ref a/\M3 H1 a/\ty σ H1 fun y H2=>tx σ H2 fun z H3=>∃kvs k,H3 a=some (.dK kvs)/\y=kV k/\kvs.length<sizeLine/\
  (∀v,dD kvs k=some v->Q v H3)/\(dD kvs k=none->Q z (upd H3 a (.dK (putK kvs k z))))
theorem Wl {X:Cx}{o e f:Expr}{apos bO:Pos}{td ty tx:TE}(ho:PE X o td) (he:PE X e ty) (hf:PE X f tx) (m:M2 X o "setdefault" apos e f bO):PE X (.Call (.Attribute o "setdefault" apos) [e,f] [] bO) (Wj td ty tx):=by
  intro pins s σ H Q I h;refine wpAny_Call_method m.base m.UJ m.line PySem.F.plainAttrs_dict PySem.F.slot_dict_setdefault PySem.F.type_dict_setdefault (bR (ho pins s σ H _ I h) fun u s1 aT=>?_);obtain⟨x,H1,I1,rx,a,ex,d,q1⟩:=aT;subst ex;obtain rfl:u=Value.ref a:=rx;obtain⟨t1,t2,_⟩:=UK I1 d;refine⟨t1,t2,?_⟩;rw[m.trees];refine oH rfl (l8 (Calls.spliced_cons (bR (he pins s1 σ H1 _ I1 q1) fun iv s2 ⟨y,H2,I2,ry,q2⟩=>
    Calls.spliced_cons (bR (hf pins s2 σ H2 _ I2 q2) fun fv s3 ⟨z,H3,I3,rz,kvs,k,ea,ey,hl,q3,q4⟩=>Calls.spliced_nil ?_))))
  subst ey;exact Wi I3 ea ry rz hl (fun v l w' s4 I4 kZ=>⟨v,H3,I4,kZ,q3 v l⟩) fun l s4 I4=>⟨z,_,I4,rz,q4 l⟩
def dd (val:Nat->Str):Nat->List Str
  | 0=>[]
  | i+1=>if val i∈dd val i then dd val i else dd val i++[val i]
section
variable {prog:aP}{w:World}{A:Around}{s:au}{R:Result->au->Prop}{I:ah}{fp wr:List ah}{n:Nat}{P:Nat->ai->Prop}{St:Nat->Heap->Prop}
theorem Wm (W:Walks prog w A.in1 I fp wr n P St) (hn:n<=sizeLine) (S:ah) (c:Nat) (nh:St 0 s.heap) (hS:S ∉ fp) (hl:s.heap.get? S=some { cls:=.type "list",data:=.seq #[] c }) (r:ai)
    (hR:∀s1 acc c1,Moved (S::wr) (fun a b=>b=a) s s1->s1.heap.get? S=some { cls:=.type "list",dict:=none,data:=.seq acc c1,slots:=#[] }->ItemsOf P acc n->R (.ok (.ret r)) s1) :
    wpAny (model prog w) A.in1 (rule "list.extend.makes-room" >>= fun _=>Builtin.List.listTouch (.ref S) >>= fun _=>again (.builtin "list.extend.loop" ⟨[.ref S,.ref I,r],[]⟩))
      (fun fin s1=>match fin with | .done f=>R (.ok f) s1 | .again c1=>c1.quiet=true/\codeAny (model prog w) A c1 R s1) (fun e s1=>R (.error e) s1) s:=by
  refine aj (gc (aj ?_));show wpAny (model prog w) A.in1 (updateSeq S (·.push .none) >>= fun _=>updateSeq S (·.pop)) _ _ _;refine aj (fW hl rfl ?_);have l2:=c7 (Obj.mapSeq (·.push Value.none)) hl rfl;refine fW (hz:=by seq_fits) l2 rfl ?_;have l3:=c7 (Obj.mapSeq (·.pop)) l2 rfl;have mQ:∀b o,b≠S->s.heap.get? b=some o->((s.heap.update S (Obj.mapSeq (·.push Value.none))).update S (Obj.mapSeq (·.pop))).get? b=some o:=fun b o hb e=>(cA _ _ (aC hb)).trans ((cA _ _ (aC hb)).trans e)
  refine aD ⟨fj PySem.F.plain_extend_loop _,codeAny_extend_loopS W.toS hn _ hS _ n 0 _ _ _ rfl (c6 _) (W.toS.frame 0 s _ s.toks nh (aH _) fun b hb o e=>mQ b o (fun h=>hS (h▸hb)) e) l3 (ItemsOf.nil P) fun s1 acc c1 hm h1 h2=>?_⟩;have m0:Moved (S::wr) (fun (a b:Array GenState)=>b=a) s { s with heap:=(s.heap.update S (Obj.mapSeq (·.push Value.none))).update S (Obj.mapSeq (·.pop)) }:=⟨fun b o hb e=>mQ b o (fun h=>hb (by simp[h])) e,rfl,rfl,rfl,aH _⟩;exact hR s1 acc c1 (Moved.trans (fun _ _ _ h1 h2=>h2.trans h1) m0 hm) h1 h2
end
section
variable {prog:aP}{w:World}{A:Around}{E:aA}{s:au}
theorem Wn {P:Nat->ai->Prop}{acc:Array ai}{n:Nat}(h:ItemsOf P acc n) (l:List ai) (hl:l.length=n) (hp:∀i v,P i v->l[i]? = some v):acc.toList=l:=by
  apply oW;intro i
  by_cases hi:i<n
  · have hs:i<acc.size:=by rw[h.1];exact hi
    have e:acc[i]? = some acc[i]:=gY hs;rw[hp i _ (h.2 i _ e),oJ,e]
  · have h1:acc.toList.length<=i:=by rw[jh,h.1];lia
    have h2:l.length<=i:=by lia
    rw[qC h1,qC h2]
end
theorem JM {c:TT}{t u:TS}{D:Ends}{σ:St}{H:Hp}(P:St->Prop) (b:Bool) (ht:∀Q':Bool->Hp->Prop,Q' b H->c σ H Q') (h1:b=true->∃vX,P vX/\(D.nx vX H->t D σ H)) (h2:b=false->∃nj,P nj/\(D.nx nj H->u D σ H))
    (hn:∀aN,P aN->D.nx aN H):uK c t u D σ H:=by
  refine xB b ht ?_;cases b with
  | true=>
    obtain⟨vX,p,h⟩:=h1 rfl;exact nB (h (hn _ p))
  | false=>
    obtain⟨nj,p,h⟩:=h2 rfl;exact i9 (h (hn _ p))
def Bx (a:ah) (ob:Obj) (kvs:List (Key×V)):It:=
  ⟨fun i H=>H a=some (.gp ob (.dK kvs))/\i<kvs.length,fun i H x H'=>H'=H/\∃kv,kvs[i]? = some kv/\x=kV kv.1,fun i H=>H a=some (.gp ob (.dK kvs))/\kvs.length<=i⟩
theorem Wo {P:aP}{w:World}{K:aE}{tg:Expr}(a it:ah) {ob:Obj}{kvs:List (Key×V)}{es:Array DictEntry}{ep:Nat}(hd:ob.data = .dict es ep) (hl:es.size=kvs.length):Turn P w K tg (Bx a ob kvs) [it] it (fun i h=>h.IsKeyIter it a i es.size ep) where
  mem:=by simp
  obj:=fun i h st b hb=>by
    have e:b=it:=by simpa using hb
    subst e;obtain⟨o,e,c,d⟩:=st;exact⟨o,e,fun v z=>by rw[d] at z;cases z⟩
  keep:=fun i h h' st k=>st.at fun o e=>k it (by simp) o e
  item:=by
    intro X hP hw hK hc i pins s σ H E I hf st hg;subst hP hw hK;obtain⟨hq,hx⟩:=hg;obtain⟨e0,z,hs,vs,rel,o,yl,wW,e,ex,dt,kk,pr,nd⟩:=I.bu a _ hq;rw[e0] at e;cases e;rw[hd] at dt;cases dt;have hi:i<es.size:=by lia
    have wu:es[i]? = some es[i]:=gY hi;obtain⟨f0,f1,f2,f3,f4,f5⟩:=hf it (by simp);refine Nv st ⟨ob,e0,ex,hd⟩ wu fun h' pN sb=>?_
    have I1:Inv X pins σ H { s with heap:=h' }:=I.turned (t':=s.toks) (fun b o hb e=>(sb.2 b hb).trans e) f0 f1 f3 f4 f5;obtain⟨oi,ei,ci,di⟩:=id pN;have ek:kvs[i]? = some kvs[i]:=aU hx;obtain⟨w',hw,kZ⟩:=Paired.get' rel ek;have:=(pr.get? (e:=es[i]) (k:=w'.1) (v:=w'.2) (i:=i) (by rw[oJ];exact wu) (by rw[hw])).1;have e1:kvs[i].1=w'.1:=kZ.1;exact⟨_,rfl,Fo (s:={ s with heap:=h' }) ei ci di (by decide) ⟨kV kvs[i].1,H,I1,by rw[e1];exact NF this,⟨rfl,_,ek,rfl⟩,pN,fun b hb=>(hf b hb).1⟩⟩
  done:=by
    intro X hP hw hK hc i pins s σ H E I hf st hg;subst hP hw hK;obtain⟨hq,hx⟩:=hg;obtain⟨e0,z,hs,vs,rel,o,yl,wW,e,ex,dt,kk,pr,nd⟩:=I.bu a _ hq;rw[e0] at e;cases e;obtain⟨f0,f1,f2,f3,f4,f5⟩:=hf it (by simp);exact Nx (I.ok.hd hc) st ⟨ob,e0,ex,hd⟩ (by lia) fun h' eb=>⟨rfl,I.turned (t':=s.toks) (fun b o hb e=>eb b o hb e) f0 f1 f3 f4 f5⟩
  self:=fun _ _ _ _ _ st h=>wpAny_pyIter_keyiter st h
section
variable {X:Cx}{tg:Expr}
def Wq (tl:TE):TI:=fun σ H R=>tl σ H fun x H1=>∃a ob kvs,x = .ref a/\H1 a=some (.gp ob (.dK kvs))/\R (Bx a ob kvs) H1
theorem wD {l:Expr}{tl:TE}(hl:PE X l tl):PI X tg l (Wq tl):=by
  intro pins s σ H R I h;refine bR (hl pins s σ H _ I h) fun v s1 aT=>?_
  obtain⟨x,H1,I1,r1,q1⟩:=aT;obtain⟨a,ob,kvs,e,hq,q⟩:=q1;subst e;cases r1;obtain⟨e0,z,hs,vs,rel,o,es,ep,e,ex,dt,kk,pr,nd⟩:=I1.bu a _ hq;have e0':=e0;rw[e0] at e;cases e;have l1:kvs.length=vs.length:=Paired.length rel;have l2:es.size=vs.length:=by rw[←pr.length];simp
  refine Jq hs ⟨ob,e0,ex,dt⟩ ?_;refine⟨s1.heap.objs.size,[s1.heap.objs.size],_,_,H1,rfl,I1.kept (t':=s1.toks) fun b o e=>bq _ e,Wo a _ dt (l2.trans l1.symm),⟨_,bH _ rfl,rfl,rfl⟩,fun b hb=>?_,q⟩;have e:b=s1.heap.objs.size:=by simpa using hb
  subst e;exact I1.pM (aH _) (I1.bu.fresh (aH _))
theorem Ah {a:ah}{ob:Obj}{kvs:List (Key×V)}{g:TG}{tb:TS}{D:Ends}{σ:St}{H:Hp}(Pv:Nat->St->Hp->Prop) (h0:Pv 0 σ H) (hl:∀i σ H,i<=kvs.length->Pv i σ H->H a=some (.gp ob (.dK kvs)))
    (hs:∀i k v σ H,kvs[i]? = some (k,v)->Pv i σ H->g (kV k) σ H fun nj H2=>tb { D with nx:=Pv (i+1),ct:=Pv (i+1),bk:=D.nx } nj H2) (hd:∀σ H,Pv kvs.length σ H->D.nx σ H) :
    ∃W:Nat->Nat->St->Hp->Prop,(∃m,W 0 m σ H)/\∀i m σ H,W i m σ H->
      ((Bx a ob kvs).stop i H/\D.nx σ H)\/((Bx a ob kvs).go i H/\∃N:St->Hp->Prop,(∀aN H',N aN H'->∃m',m'<m/\W (i+1) m' aN H')/\∀x H',(Bx a ob kvs).uL i H x H'->g x σ H' fun nj H2=>tb { D with nx:=N,ct:=N,bk:=D.nx } nj H2):=by
  refine⟨fun i m σ H=>m=kvs.length-i/\i<=kvs.length/\Pv i σ H,⟨kvs.length,by simp,c6 _,h0⟩,?_⟩;rintro i m σ H ⟨rfl,hi,p⟩;have q:=hl i σ H hi p
  by_cases dz:i<kvs.length
  · refine .inr ⟨⟨q,dz⟩,Pv (i+1),fun aN H' p'=>⟨kvs.length-(i+1),by lia,rfl,dz,p'⟩,fun x H' y=>?_⟩;obtain⟨e,kv,y,rfl⟩:=y;subst e;exact hs i kv.1 kv.2 σ _ y p
  · have e:i=kvs.length:=by lia
    subst e;exact .inl ⟨⟨q,aH _⟩,hd σ H p⟩
theorem Inv.frozen {pins:aG}{σ:St}{H:Hp}{s:au}{a:ah}{kvs:List (Key×V)}(I:Inv X pins σ H s) (h:H a=some (.dK kvs)):∃ob,Inv X pins σ (upd H a (.gp ob (.dK kvs))) s:=by
  obtain⟨o,e⟩:∃o,s.heap.get? a=some o:=by
    obtain⟨_,_,_,_,o,_,_,e,_⟩:=I.bu a _ h;exact⟨o,e⟩
  have ok:=I.bu a _ h;refine⟨o,I.write (e:=a) (h':=s.heap) (t':=s.toks) (by rw[h];trivial) (.inl rfl) (fun b u _ q=>q) ⟨o,e⟩ ⟨e,?_⟩⟩;obtain⟨z,hd,vs,r⟩:=ok;exact⟨z,hd,vs,r⟩
def JN (ts:TS):TS:=fun D σ H=>ts D σ H\/∃a kvs,H a=some (.dK kvs)/\∀ob,ts D σ (upd H a (.gp ob (.dK kvs)))
theorem yI {st:Stmt}{ts:TS}(h:PS X st ts):PS X st (JN ts):=by
  intro pins s σ H D I q;rcases q with q | ⟨a,kvs,ha,q⟩
  · exact h pins s σ H D I q
  · obtain⟨ob,I'⟩:=I.frozen ha;exact h pins s σ _ D I' (q ob)
end
section
variable {X:Cx}{tg:Expr}
theorem JO {a:ah}{ob:Obj}{kvs:List (Key×V)}:Fix (Bx a ob kvs) (kvs.map fun kv=>kV kv.1) (fun H=>H a=some (.gp ob (.dK kvs))):=
  ⟨fun i H h hi=>⟨h,by simpa using hi⟩,fun i H x H' h y=>⟨y.1,fun _=>by obtain⟨kv,h1,h2⟩:=y.2;rw[aX,h1,h2];rfl⟩,fun i H h hi=>⟨h,by simpa using hi⟩⟩
theorem Om:mH X (.builtin "len") (fun xs H Q=>∃a kvs,xs = [V.ref a]/\Rd H a (.dK kvs)/\Q (.int kvs.length) H):=by
  intro pins s σ H xs us Q I r h;obtain⟨a,kvs,rfl,ha,q⟩:=h;obtain⟨u,rfl,ru⟩:=pO r;cases ru;exact MZ I ha fun t s' I'=>⟨.int kvs.length,H,I',⟨t,rfl⟩,q⟩
end
section
variable {prog:aP}{w:World}{A:Around}{E:aA}{s:au}
theorem Wr {S d:ah}{es:Array DictEntry}{ep:Nat}{c:Nat}{r:ai}{R:Result->au->Prop}(hh:A.handled=none) (hd:(d == sysModules)=false) (hm:j0 s.heap d es ep) (hz:es.size<=sizeLine)
    (hS:s.heap.get? S=some { cls:=.type "list",data:=.seq #[] c }) (mP:S≠d)
    (hR:∀h1 acc c1 tk,(∀b o,b≠S->s.heap.get? b=some o->h1.get? b=some o)->h1.get? S=some { cls:=.type "list",dict:=none,data:=.seq acc c1,slots:=#[] }->acc.toList=es.toList.map (·.key)->R (.ok (.ret r)) { s with heap:=h1,toks:=tk }) :
    wpAny (model prog w) A.in1 (Builtin.List.listExtendWith (.ref S) (.ref d) r) (fun fin s1=>match fin with | .done f=>R (.ok f) s1 | .again c1=>c1.quiet=true/\codeAny (model prog w) A c1 R s1) (fun e s1=>R (.error e) s1) s:=by
  have dl:d<s.heap.objs.size:=by obtain⟨o,ho,_⟩:=hm;exact aK ho
  have sl:S<s.heap.objs.size:=aK hS;have T:s.TypeIs (.ref d) "dict":=hm.typeIs;unfold Builtin.List.listExtendWith;refine aj (mG T ?_);have sr:Builtin.List.listSameRef (.ref S) (.ref d)=false:=by simp[Builtin.List.listSameRef,mP]
  have t1:(Value.type "dict" == Value.type "list")=false:=by decide
  have t2:(Value.type "dict" == Value.type "tuple")=false:=by decide
  simp only [sr,t1,t2,Bool.or_false,jP,dY];refine aj (Jq hd hm ?_);have old:∀b o,s.heap.get? b=some o->(s.heap.push { cls:=.type "dict_keyiterator",data:=.fields #[.ref d,.int 0 0,.int es.size 0,.int ep 0] }).get? b=some o:=fun b o e=>bq _ e
  have wo:=hm.at (h':=s.heap.push { cls:=.type "dict_keyiterator",data:=.fields #[.ref d,.int 0 0,.int es.size 0,.int ep 0] }) fun o e=>old d o e
  refine aj (dO (Nz (s:={ s with heap:=s.heap.push { cls:=.type "dict_keyiterator",data:=.fields #[.ref d,.int 0 0,.int es.size 0,.int ep 0] } }) wo.typeIs ?_));have SI:S ∉ [s.heap.objs.size,d]:=by
    simp only [aJ,fT,gO];exact fun z=>z.elim (aW sl) mP
  refine Wm (A:=A) (s:={ s with heap:=s.heap.push { cls:=.type "dict_keyiterator",data:=.fields #[.ref d,.int 0 0,.int es.size 0,.int ep 0] } }) (Ny (A:=A.in1) hh s.heap.objs.size d (aW dl) es ep) hz S c ⟨⟨_,bH _ rfl,rfl,rfl⟩,wo⟩ SI (old _ _ hS) r fun s1 acc c1 Dl h1 h2=>?_
  obtain⟨uy,ge,dr,tk,os⟩:=s1;obtain⟨m1,m2,m3,m4,m5⟩:=Dl;obtain rfl:ge=s.gens:=m2;obtain rfl:dr=s.drawn:=m3;obtain rfl:os=s.os:=m4;refine hR uy acc c1 tk (fun b o hb e=>m1 b o ?_ (old b o e)) h1 (Wn h2 (es.toList.map (·.key)) (by rw[ay,jh]) fun i v ⟨e,h3,h4⟩=>by rw[aX,oJ,h3,h4];rfl);intro z;simp only [aJ,fT,gO] at z;exact z.elim hb fun z=>absurd (aK e) (by rw[z];exact dS _)
theorem Ws {d:ah}{es:Array DictEntry}{ep:Nat}{Q:List ai->au->Prop}(hh:A.handled=none) (hd:(d == sysModules)=false) (hm:j0 s.heap d es ep) (hz:es.size<=sizeLine)
    (hQ:∀h1 tk,(∀b o,s.heap.get? b=some o->h1.get? b=some o)->s.heap.objs.size<h1.objs.size->Q (es.toList.map (·.key)) { s with heap:=h1,toks:=tk }):wpAny (model prog w) A (collect (.ref d)) Q E s:=by
  have dl:d<s.heap.objs.size:=by obtain⟨o,ho,_⟩:=hm;exact aK ho
  unfold collect;refine aj (wpAny_runValue (ic PySem.F.entry_proto_collect ?_));rw[iB PySem.F.plain_proto_collect _];show wpAny _ A.in1 (newList [] >>= fun l=>again (.builtin "list.__iadd__" ⟨[l,.ref d],[]⟩)) _ _ s;refine aj (g8 ?_);refine aD ⟨fj PySem.F.plain_list_iadd _,ic PySem.F.entry_list_iadd ?_⟩;rw[iB PySem.F.plain_list_iadd _];show wpAny _ A.in1 (Builtin.List.listExtendWith (.ref s.heap.objs.size) (.ref d) (.ref s.heap.objs.size)) _ _ _;have hS:(s.heap.push { cls:=.type "list",data:=.seq ([]:List ai).toArray }).get? s.heap.objs.size=some { cls:=.type "list",data:=.seq #[] }:=bH _ rfl;have old:∀b o,s.heap.get? b=some o->(s.heap.push { cls:=.type "list",data:=.seq ([]:List ai).toArray }).get? b=some o:=fun b o e=>bq _ e
  have wm:=hm.at (h':=s.heap.push { cls:=.type "list",data:=.seq ([]:List ai).toArray }) (fun o e=>old d o e);refine Wr (prog:=prog) (A:=A) (r:=.ref s.heap.objs.size) (R:=fun r s'=>match r with
    | .ok (.ret v)=>wpAny (model prog w) A (match v with
      | .ref a=>do
        let o ←load a
        match o.data with
        | .seq xs _=>pure xs.toList
        | _=>unsupported "internal:collect"
      | _=>unsupported "internal:collect") Q E s'
    | .ok _=>False
    | .error e=>E e s') (s:={ s with heap:=s.heap.push { cls:=.type "list",data:=.seq ([]:List ai).toArray } }) hh hd wm hz hS (aC (aW dl)) fun h1 acc c1 tk k e p=>?_
  show wpAny _ A (load s.heap.objs.size >>= _) _ _ _;refine aj (wpAny_load e ?_);rw[←p] at hQ;exact aD (hQ h1 tk (fun b o eb=>k b o (fun z=>dS _ (z▸aK eb)) (old b o eb)) (aK e))
end
theorem Oo {prog:aP}{w:World}{A:Around}{s:au}{a b:Int}{t u:Tok}{Q:aA}{E:aA}(q:Q (.bool (decide (a > b))) s):wpAny (model prog w) A (richCompare .Gt (.int a t) (.int b u)) Q E s:=
  CmpOf.ints_gt (P:=fun i v=>(i=0/\v = .int a t)\/(i=1/\v = .int b u)) (fun i=>if i=0 then a else b) (fun i v h=>by
    rcases h with ⟨rfl,rfl⟩ | ⟨rfl,rfl⟩
    · exact⟨t,rfl⟩
    · exact⟨u,rfl⟩) 0 1 _ _ s Q E (.inl ⟨rfl,rfl⟩) (.inr ⟨rfl,rfl⟩) q
section
variable {prog:aP}{w:World}{A:Around}{R:Result->au->Prop}
structure j5 (h:Heap) (l it S:ah) (its:Array ai) (vb:ai) (j:Nat) (c:Nat):Prop where
  i:h.IsListIter it l j
  l:h.IsList l its
  s:h.get? S=some { cls:=.type "list",dict:=none,data:=.seq #[vb,vb] c,slots:=#[] }
theorem Wt {l it S:ah}{its:Array ai}{val:Nat->Int}{dv:ai}(hh:A.handled=none) (hv:∀i v,its[i]? = some v->∃t,v=Value.int (val i) t) (n1:S≠it) (n2:S≠l) (n3:l≠it) :
    ∀(k j b:Nat) (s:au) (vb:ai) (c:Nat),its.size-j=k->j5 s.heap l it S its vb j c->its[b]? = some vb->(∀i,i<j->val i<=val b)->j<=its.size->
      (∀(v:ai) (b':Nat) (h':Heap) (tk:Nat),its[b']? = some v->(∀i,i<its.size->val i<=val b')->(∀d o,d≠it->d≠S->s.heap.get? d=some o->h'.get? d=some o)->R (.ok (.ret v)) { s with heap:=h',toks:=tk })->
      codeAny (model prog w) A (.builtin "max.loop" ⟨[.ref it,.none,.ref S],[("default",dv)]⟩) R s:=by
  have nm:(toString "max" ++ toString ".loop" : String) = "max.loop":=by decide
  intro k
  induction k with
  | zero=>
    intro j b s vb c hk M eb best hj q;refine ic kC ?_;rw[iB fU _];show wpAny _ A.in1 (seqItems? (.ref S) >>= _) _ _ s;refine aj (ie M.s rfl (aj (gz (l6 (A:=A.in1) hh M.i M.l (l5 (show its.size<=j by lia)) fun h' wF=>?_))));have s':=wF S _ n1 M.s;refine aj (m:=updateSeq S (fun _=>#[])) ?_;refine fW s' rfl (aj (dX (aD ?_)));exact q vb b _ s.toks eb (fun i hi=>best i (by lia)) fun d o d1 d2 e=>by
      rw[cA _ _ (aC d2)];exact wF d o d1 e
  | succ k ih=>
    intro j b s vb c hk M eb best hj q;have dz:j<its.size:=by lia
    have ej:its[j]? = some its[j]:=gY dz;obtain⟨t1,e1⟩:=hv j _ ej;obtain⟨t2,e2⟩:=hv b _ eb;refine ic kC ?_;rw[iB fU _];show wpAny _ A.in1 (seqItems? (.ref S) >>= _) _ _ s;refine aj (ie M.s rfl (aj (gz (lX M.i M.l ej fun h' qq sb=>?_))));have s':h'.get? S=_:=(sb.2 S n1).trans M.s;have l':h'.IsList l its:=by
      obtain⟨o,ho,r⟩:=M.l;exact⟨o,(sb.2 l n3).trans ho,r⟩
    rw[e1,e2];rw[e1] at ej;rw[e2] at s' eb;refine aj (aD ?_);refine aj (gz (dO (aj (Oo (s:={ s with heap:=h' }) (t:=t1) (u:=t2) ?_))));refine aj (dO (jQ (aj (dX (aD ?_)))))
    by_cases c1:val j > val b
    · rw[aR c1,av rfl];refine aj (m:=updateSeq S (fun _=>#[Value.int (val j) t1,Value.int (val j) t1])) ?_;refine fW s' rfl (aj (dX ?_));rw[nm];have keep:∀d o,d≠S->h'.get? d=some o->(h'.update S (Obj.mapSeq fun _=>#[Value.int (val j) t1,Value.int (val j) t1])).get? d=some o:=fun d o d1 e=>(cA _ _ (aC d1)).trans e
      obtain⟨c',M'⟩:∃c',j5 (h'.update S (Obj.mapSeq fun _=>#[Value.int (val j) t1,Value.int (val j) t1])) l it S its (Value.int (val j) t1) (j+1) c':=by
        refine⟨_,qq.at fun o e=>keep it o (aC n1) e,?_,c7 _ s' rfl⟩;obtain⟨o,ho,r⟩:=l';exact⟨o,keep l o (aC n2) ho,r⟩
      refine aD ⟨fj fU _,ih (j+1) j _ _ _ (by lia) M' ej (fun i hi=>?_) dz fun v b' h2 tk ev hb kp=>?_⟩
      · by_cases c2:i=j
        · subst c2;exact gK _
        · have:=best i (by lia);lia
      · exact q v b' h2 tk ev hb fun d o d1 d2 e=>kp d o d1 d2 (keep d o d2 ((sb.2 d d1).trans e))
    · rw[bg c1,aq bJ];refine aj (dX ?_);rw[nm];refine aD ⟨fj fU _,ih (j+1) b { s with heap:=h' } _ c (by lia) ⟨qq,l',s'⟩ eb (fun i hi=>?_) dz fun v b' h2 tk ev hb kp=>?_⟩
      · by_cases c2:i=j
        · subst c2;lia
        · exact best i (by lia)
      · exact q v b' h2 tk ev hb fun d o d1 d2 e=>kp d o d1 d2 ((sb.2 d d1).trans e)
theorem Wu {l it S:ah}{its:Array ai}{val:Nat->Int}{dv:ai}{s:au}{c:Nat}(hh:A.handled=none) (hv:∀i v,its[i]? = some v->∃t,v=Value.int (val i) t) (n1:S≠it) (n2:S≠l) (n3:l≠it)
    (hi:s.heap.IsListIter it l 0) (hl:s.heap.IsList l its) (hS:s.heap.get? S=some { cls:=.type "list",dict:=none,data:=.seq #[] c,slots:=#[] })
    (q:∀(v:ai) (h':Heap) (tk:Nat),(its.size=0/\v=dv)\/(∃b,its[b]? = some v/\∀i,i<its.size->val i<=val b)->(∀d o,d≠it->d≠S->s.heap.get? d=some o->h'.get? d=some o)->R (.ok (.ret v)) { s with heap:=h',toks:=tk }) :
    codeAny (model prog w) A (.builtin "max.loop" ⟨[.ref it,.none,.ref S],[("default",dv)]⟩) R s:=by
  have nm:(toString "max" ++ toString ".loop" : String) = "max.loop":=by decide
  refine ic kC ?_;rw[iB fU _];show wpAny _ A.in1 (seqItems? (.ref S) >>= _) _ _ s
  by_cases h0:its.size=0
  · refine aj (ie hS rfl (aj (gz (l6 (A:=A.in1) hh hi hl (l5 (by lia)) fun h' wF=>?_))));refine aj (gc (aD ?_));exact q dv h' s.toks (.inl ⟨h0,rfl⟩) fun d o d1 _ e=>wF d o d1 e
  · have ej:its[0]? = some its[0]:=gY (by lia);refine aj (ie hS rfl (aj (gz (lX hi hl ej fun h' qq sb=>?_))));have s':h'.get? S=_:=(sb.2 S n1).trans hS;have l':h'.IsList l its:=by
      obtain⟨o,ho,r⟩:=hl;exact⟨o,(sb.2 l n3).trans ho,r⟩
    refine aj (aD ?_);refine aj (m:=updateSeq S (fun _=>#[its[0],its[0]])) ?_;refine fW s' rfl ?_;rw[nm];have keep:∀d o,d≠S->h'.get? d=some o->(h'.update S (Obj.mapSeq fun _=>#[its[0],its[0]])).get? d=some o:=fun d o d1 e=>(cA _ _ (aC d1)).trans e
    obtain⟨c',M'⟩:∃c',j5 (h'.update S (Obj.mapSeq fun _=>#[its[0],its[0]])) l it S its its[0] 1 c':=by
      refine⟨_,qq.at fun o e=>keep it o (aC n1) e,?_,c7 _ s' rfl⟩;obtain⟨o,ho,r⟩:=l';exact⟨o,keep l o (aC n2) ho,r⟩
    refine aD ⟨fj fU _,Wt hh hv n1 n2 n3 _ 1 0 _ _ _ rfl M' ej (fun i hi=>?_) (by lia) fun v b' h2 tk ev hb kp=>?_⟩
    · have:i=0:=by lia
      subst this;exact gK _
    · exact q v h2 tk (.inr ⟨b',ev,hb⟩) fun d o d1 d2 e=>kp d o d1 d2 (keep d o d2 ((sb.2 d d1).trans e))
end
section
variable {prog:aP}{w:World}{A:Around}{E:aA}{s:au}
theorem Wv (a d:ai):argsOk "max" ⟨[a],[("default",d)]⟩:=by unfold argsOk;kernel_rfl
theorem Ww {l:ah}{its:Array ai}{val:Nat->Int}{dv:ai}{Q:aA}(hh:A.handled=none) (hl:s.heap.IsList l its) (hv:∀i v,its[i]? = some v->∃t,v=Value.int (val i) t)
    (q:∀(v:ai) (h':Heap) (tk:Nat),(its.size=0/\v=dv)\/(∃b,its[b]? = some v/\∀i,i<its.size->val i<=val b)->(∀d o,s.heap.get? d=some o->h'.get? d=some o)->Q v { s with heap:=h',toks:=tk }) :
    wpAny (model prog w) A (call (.builtin "max") [.ref l] [("default",dv)]) Q E s:=by
  have nm:(toString "max" ++ toString ".loop" : String) = "max.loop":=by decide
  have dz:l<s.heap.objs.size:=by obtain⟨_,e,_⟩:=hl;exact aK e
  have body:wpAny (model prog w) A.in1 (Builtin.«max» ⟨[.ref l],[("default",dv)]⟩) (fun fin s'=>match fin with
      | .done f=>(match (Except.ok f:Result) with | .ok (.ret v)=>Q v s' | .ok _=>False | .error e=>E e s')
      | .again c'=>c'.quiet=true/\codeAny (model prog w) A c' (fun r s'=>match r with | .ok (.ret v)=>Q v s' | .ok _=>False | .error e=>E e s') s') E s:=by
    show wpAny _ A.in1 (Builtin.Builtins.bindParams "max" ["key","default"] 0 ⟨[],[("default",dv)]⟩ >>= _) _ _ s;refine aj (kH (show Builtin.Builtins.bindParams "max" ["key","default"] 0 ⟨[],[("default",dv)]⟩=pure [none,some dv] from rfl) ?_);refine aj (aD (aj (kr hl ?_)));refine aj (g8 ?_);rw[nm];have zu:(s.heap.push { cls:=.type "list_iterator",data:=.fields #[.ref l,.int 0 0] }).objs.size=s.heap.objs.size+1:=iF ..;have kL:∀d o,s.heap.get? d=some o->(s.heap.push { cls:=.type "list_iterator",data:=.fields #[.ref l,.int 0 0] }).get? d=some o:=fun d o e=>bq _ e
    have hit:(s.heap.push { cls:=.type "list_iterator",data:=.fields #[.ref l,.int 0 0] }).IsListIter s.heap.objs.size l 0:=⟨_,bH _ rfl,rfl,rfl⟩;have nV:(s.heap.push { cls:=.type "list_iterator",data:=.fields #[.ref l,.int 0 0] }).IsList l its:=by
      obtain⟨o,ho,r⟩:=hl;exact⟨o,kL l o ho,r⟩
    generalize s.heap.push { cls:=.type "list_iterator",data:=.fields #[.ref l,.int 0 0] } = g at zu kL hit nV;have lF:(g.push { cls:=.type "list",data:=.seq ([]:List ai).toArray }).IsList l its:=by
      obtain⟨o,ho,r⟩:=nV;exact⟨o,bq _ ho,r⟩
    refine aD ⟨fj fU _,Wu (it:=s.heap.objs.size) (S:=g.objs.size) hh hv ?_ ?_ ?_ (hit.at fun o e=>bq _ e) lF (bH _ rfl) fun v h' tk hb kp=>?_⟩
    · rw[zu];exact Nat.succ_ne_self _
    · rw[zu];exact aC (aW (jz dz))
    · exact aW dz
    · refine q v h' tk hb fun d o e=>kp d o (fun z=>?_) (fun z=>?_) (bq _ (kL d o e))
      · exact absurd (aK e) (by rw[z];exact dS _)
      · exact absurd (aK e) (by rw[z,zu];exact mq (fB _))
  refine eE (kX F.plain_max F.entry_max ?_);have ha:=Wv (.ref l) dv;simp only [checkBuiltinCall,F.kind_max];cases sg:Manifest.signature? "max" with
  | none=>exact aD body
  | some g=>
    simp only [argsOk,sg] at ha;have ha:Bind.checkArgs "max" g ⟨[.ref l],[("default",dv)]⟩=pure ():=ha;show wpAny _ A.in1 (Bind.checkArgs "max" g ⟨[.ref l],[("default",dv)]⟩) _ _ s;rw[ha];exact aD body
end
def Ai (ns:List Int) (d m:Int):Prop:=(ns = []/\m=d)\/(m∈ns/\∀y∈ns,y<=m)
def Wx (K:aE) (d:Int) (te:TE):TE:=fun σ H Q=>te σ H fun x H1=>∃(p:ah) (ns:List Int),x = .ref p/\aI K H1 p (ns.map V.int)/\∀m,Ai ns d m->Q (.int m) H1
section
variable {X:Cx}
theorem Wy (K:aE) (hK:X.K=K) (d:Int) {e:Expr}{te:TE}{p pos kpos bO:Pos}{j:Nat}(hc:X.calm=true) (hg:Gl X "max") (hm:X.mg "max" = none) (he:PE X e te)
    (hs:starEach [e] X.env = [(false,eval e X.env)]:=by rfl):PE X (.Call (.Name "max" p) [e] [⟨some "default",.Constant (.int d) j bO,kpos⟩] pos) (Wx K d te):=by
  subst hK;intro pins s σ H Q I h;refine kq (zE I hg hm boot_max ?_);refine PySem.W.callWith_of (P:=fun _=>True) (first:=[]) (by rw[hs];rfl) (fun h _=>⟨.machine,.inr (.inl rfl),fun _ _ _ _ _ q=>aD q⟩) (PyProof.Rows.evalArgs_kw2 rfl ?_ hs);refine bR (zc he zf hs pos pins s σ H (fun vs H1=>match vs with | [x]=>∃(p:ah) (ns:List Int),x = .ref p/\aI X.K H1 p (ns.map V.int)/\∀m,Ai ns d m->Q (.int m) H1 | _=>False) I h) fun us s1 aT=>?_
  obtain⟨vs,H1,I1,r,q⟩:=aT
  match vs,q with
  | [x],q=>
    obtain⟨l,ns,rfl,hl,q⟩:=q;obtain⟨u,rfl,ru⟩:=pO r;cases ru;refine bR (T4 (nm:=some "default") (kpos:=kpos) (zm (i:=d) (j:=j) (pos:=bO)) TZ pos pins s1 σ H1 (fun zs H2=>zs = [.int d]/\H2=H1) I1 ⟨rfl,rfl⟩) fun ws s2 ⟨zs,H2,I2,rz,q2⟩=>⟨trivial,?_⟩
    obtain⟨rfl,rfl⟩:=q2;obtain⟨v,rfl,t,rfl⟩:=pO rz;obtain⟨its,rv,pl,hz⟩:=I2.list hl;have len:=rv.length;rw[ay] at len;have hv:∀i v,its.toArray[i]? = some v->∃t,v=Value.int (ns.getD i 0) t:=by
      intro i v e;have e':its[i]? = some v:=by simpa using e
      have hi:i<ns.length:=by have:=(bU.mp e').1;lia
      obtain⟨w,e2,kZ⟩:=rv.get (i:=i) (x:=.int ns[i]) (by simp[hi]);rw[e'] at e2;cases e2;have:ns.getD i 0=ns[i]:=by rw[cV,aU hi];rfl
      rw[this];exact kZ
    refine Ww (I2.ok.hd hc) pl.isList hv fun v h' tk hb kp=>?_
    have sz:its.toArray.size=ns.length:=by rw[bV];exact len.symm
    rcases hb with ⟨h0,rfl⟩ | ⟨b,eb,hb⟩
    · refine⟨.int d,_,I2.kept kp,⟨t,rfl⟩,q d (.inl ⟨?_,rfl⟩)⟩;exact lZ.mp (by lia)
    · obtain⟨t',rfl⟩:=hv b _ eb;have Wz:b<ns.length:=by
        have:=(fM.mp eb).1;lia
      have eg:∀i (hi:i<ns.length),ns.getD i 0=ns[i]:=fun i hi=>by rw[cV,aU hi];rfl
      refine⟨.int (ns.getD b 0),_,I2.kept kp,⟨t',rfl⟩,q _ (.inr ⟨?_,fun y hy=>?_⟩)⟩
      · rw[eg b Wz];exact jl _
      · obtain⟨i,hi,rfl⟩:=lY.mp hy;have:=hb i (by lia)
        rwa [eg i hi] at this
end
end L2
namespace Dm
open PySem PySem.NumText L2
def gS (lv:Str->Nat) (j:Nat) (x:Str):Bool:=decide (lv x=j)
def qv (lv:Str->Nat) (L:List (Str×ah)):List Int:=L.map fun p=>(lv p.1:Int)+1
def pC (lv:Str->Nat) (u:Str) (m:Nat):Str->Nat:=fun x=>if x=u then m else lv x
structure Lv (ln:Ln) (M:List Str) (lv:Str->Nat) (n:Nat):Prop where
  cl:∀x∈M,∀l r,(l,r)∈ln x->l∈M
  mx:∀x∈M,Ai (qv lv (ln x)) 0 (lv x)
  lt:∀x∈M,lv x<n
  all:∀j,j<n->∃x∈M,lv x=j
theorem Lv.nil {ln:Ln}{lv:Str->Nat}:Lv ln [] lv 0:=⟨by simp,by simp,by simp,by simp⟩
theorem Lv.mem {ln:Ln}{M M':List Str}{lv:Str->Nat}{n:Nat}(h:Lv ln M lv n) (e:∀x,x∈M↔x∈M'):Lv ln M' lv n:=
  ⟨fun x hx l r hl=>(e l).mp (h.cl x ((e x).mpr hx) l r hl),fun x hx=>h.mx x ((e x).mpr hx),fun x hx=>h.lt x ((e x).mpr hx),fun j hj=>by
    obtain⟨x,hx,z⟩:=h.all j hj;exact⟨x,(e x).mp hx,z⟩⟩
theorem Lv.next {ln:Ln}{M:List Str}{lv:Str->Nat}{n:Nat}{u:Str}(h:Lv ln M lv n) (hc:∀l r,(l,r)∈ln u->l∈M) {m:Int}(hm:Ai (qv lv (ln u)) 0 m):∃k:Nat,m=k/\k<=n:=by
  rcases hm with ⟨_,rfl⟩ | ⟨hm,_⟩
  · exact⟨0,rfl,by lia⟩
  · unfold qv at hm;rw[aM] at hm;obtain⟨⟨l,r⟩,hl,rfl⟩:=hm;have:=h.lt l (hc l r hl);exact⟨lv l+1,by simp,by lia⟩
theorem Oq {lv qT:Str->Nat}{L:List (Str×ah)}(h:∀l r,(l,r)∈L->lv l=qT l):qv lv L=qv qT L:=by
  unfold qv;refine fQ fun p hp=>?_
  rw[h p.1 p.2 hp]
theorem Dw {lv:Str->Nat}{u x:Str}{k:Nat}(h:x≠u):pC lv u k x=lv x:=by unfold pC;rw[aq h]
theorem GA {lv:Str->Nat}{u:Str}{k:Nat}:pC lv u k u=k:=by unfold pC;rw[av rfl]
theorem Lv.step {ln:Ln}{M:List Str}{lv:Str->Nat}{n:Nat}{u:Str}(h:Lv ln M lv n) (hu:u ∉ M) (hc:∀l r,(l,r)∈ln u->l∈M) {k:Nat}(hm:Ai (qv lv (ln u)) 0 k) (hk:k<=n) :
    Lv ln (M++[u]) (pC lv u k) (if k=n then n+1 else n):=by
  have ne:∀x∈M,x≠u:=fun x hx z=>hu (z▸hx)
  have cg:∀x,(∀l r,(l,r)∈ln x->l∈M)->qv (pC lv u k) (ln x)=qv lv (ln x):=fun x hx=>Oq fun l r hl=>Dw (ne l (hx l r hl))
  have sp:∀x,x∈M++[u]->x∈M\/x=u:=fun x hx=>by
    rcases br.mp hx with h | h
    · exact .inl h
    · exact .inr (by simpa using h)
  refine⟨fun x hx l r hl=>?_,fun x hx=>?_,fun x hx=>?_,fun j hj=>?_⟩
  · rcases sp x hx with hx | rfl
    · exact cT _ (h.cl x hx l r hl)
    · exact cT _ (hc l r hl)
  · rcases sp x hx with hx | rfl
    · rw[cg x (h.cl x hx),Dw (ne x hx)];exact h.mx x hx
    · rw[cg x hc,GA];exact hm
  · rcases sp x hx with hx | rfl
    · rw[Dw (ne x hx)];have:=h.lt x hx;split<;>lia
    · rw[GA];split<;>lia
  · by_cases c:j<n
    · obtain⟨x,hx,e⟩:=h.all j c;exact⟨x,cT _ hx,by rw[Dw (ne x hx)];exact e⟩
    · refine⟨u,by simp,?_⟩;rw[GA];split at hj<;>lia
theorem WA {M:List Str}{lv:Str->Nat}{u:Str}{k j:Nat}(hu:u ∉ M):(M++[u]).filter (gS (pC lv u k) j)=M.filter (gS lv j)++(if k=j then [u] else []):=by
  rw[jy]
  congr 1
  · refine List.filter_congr fun x hx=>?_
    unfold gS;have ne:x≠u:=fun z=>hu (by rw[←z];exact hx)
    rw[Dw ne]
  · have e:gS (pC lv u k) j u=decide (k=j):=by unfold gS;rw[GA]
    by_cases c:k=j
    · rw[av c,List.filter_cons_of_pos (by rw[e];exact aR c)];rfl
    · rw[aq c,List.filter_cons_of_neg (by rw[e,bg c];exact bJ)];rfl
theorem WB {os keys:List Str}{p:Str->Bool}(pm:os.Perm keys) (kl:keys.Pairwise (fun a b=>co a<co b)):aL (os.filter p)=keys.filter p:=by
  refine (Gp (pm.filter p).symm ?_).symm;unfold Ad;exact (kl.imp (fun h=>Ds h)).sublist (ko ..)
theorem WC {l:List ah}(h:l.Nodup) {i j:Nat}{a:ah}(hi:l[i]? = some a) (hj:l[j]? = some a):i=j:=by
  obtain⟨h1,e1⟩:=bU.mp hi;obtain⟨h2,e2⟩:=bU.mp hj;have pw:=kT.mp h;rcases mh i j with c | c | c
  · exact absurd (e1.trans e2.symm) (pw i j h1 h2 c)
  · exact c
  · exact absurd (e2.trans e1.symm) (pw j i h2 h1 c)
end Dm
namespace L2
open PySem PySem.Spec PyProof.Rows
theorem WD {c:TT}{t u:TS}{D:Ends}{σ:St}{H:Hp}(P:St->Hp->Prop) (b:Bool) (ht:∀Q':Bool->Hp->Prop,Q' b H->c σ H Q') (h1:b=true->(∀aN H',P aN H'->D.nx aN H')->t D σ H) (h2:b=false->(∀aN H',P aN H'->D.nx aN H')->u D σ H)
    (hn:∀aN H',P aN H'->D.nx aN H'):uK c t u D σ H:=by
  refine xB b ht ?_;cases b with
  | true=>exact nB (h1 rfl hn)
  | false=>exact i9 (h2 rfl hn)
end L2
namespace Dm
open PySem PySem.NumText L2
theorem Lv.xD {ln:Ln}{M:List Str}{lv:Str->Nat}{n:Nat}(h:Lv ln M lv n) {j:Nat}(hj:n<=j):M.filter (gS lv j) = []:=by
  rw[qB];intro x hx;have:=h.lt x hx;unfold gS;rw[gx];lia
theorem WE {ns Ot:List Int}{d m m':Int}(h:Ai ns d m) (h':Ai Ot d m') (e:∀y,y∈ns↔y∈Ot):m=m':=by
  rcases h with ⟨h1,h2⟩ | ⟨h1,h2⟩
  · rcases h' with ⟨_,h4⟩ | ⟨h3,_⟩
    · rw[h2,h4]
    · have:=(e m').mpr h3;rw[h1] at this;cases this
  · rcases h' with ⟨h3,_⟩ | ⟨h3,h4⟩
    · have:=(e m).mp h1;rw[h3] at this;cases this
    · have a:=h2 m' ((e m').mpr h3);have b:=h4 m ((e m).mp h1);lia
end Dm
namespace L2
open PySem PySem.Spec PyProof.Rows
abbrev IS:=Int×Str
def ir (p q:IS):Bool:=if p.1=q.1 then decide (q.2.cps.toList<p.2.cps.toList) else decide (q.1<p.1)
theorem GB (p:IS):ir p p=false:=by
  unfold ir;rw[av rfl];exact bg (gy _)
theorem WG {i b j:IS}(h1:ir i b=false) (h2:ir j b=true):ir i j=false:=by
  unfold ir at *
  by_cases c1:i.1=b.1
  · rw[av c1] at h1;have h1:=kY h1
    by_cases c2:j.1=b.1
    · rw[av c2] at h2;have h2:=bC h2;rw[av (c1.trans c2.symm)];exact bg fun z=>h1 (mF h2 z)
    · rw[aq c2] at h2;have h2:=bC h2;rw[aq (fun z=>c2 (z.symm.trans c1))];exact bg (by lia)
  · rw[aq c1] at h1;have h1:=kY h1
    by_cases c2:j.1=b.1
    · rw[aq (fun z=>c1 (z.trans c2))];exact bg (by lia)
    · rw[aq c2] at h2;have h2:=bC h2;rw[aq (by lia)];exact bg (by lia)
theorem GC {p b:IS}(h:ir p b=false):p.1<=b.1:=by
  unfold ir at h
  by_cases c:p.1=b.1
  · lia
  · rw[aq c] at h;have:=kY h;lia
def er (h:Heap) (v:ai) (p:IS):Prop:=∃a t u,v = .ref a/\IsTup h a #[.int p.1 t,.str p.2 u]
theorem er.kept {h h':Heap}{v:ai}{p:IS}(t:er h v p) (k:∀d o,(h.get? d=some o/\o.cls = .type "tuple")->h'.get? d=some o):er h' v p:=by
  obtain⟨a,x,y,rfl,o,ho,hc,n,hd⟩:=t;exact⟨a,x,y,rfl,o,k a o ⟨ho,hc⟩,hc,n,hd⟩
section
variable {prog:aP}{w:World}{A:Around}{E:aA}{s:au}
theorem WH {a b:Int}{t u:Tok}{Q:aA}(q:Q (.bool (decide (a<b))) s):wpAny (model prog w) A (richCompare .Lt (.int a t) (.int b u)) Q E s:=
  CmpOf.ints_lt (P:=fun i v=>(i=0/\v = .int a t)\/(i=1/\v = .int b u)) (fun i=>if i=0 then a else b) (fun i v h=>by
    rcases h with ⟨rfl,rfl⟩ | ⟨rfl,rfl⟩
    · exact⟨t,rfl⟩
    · exact⟨u,rfl⟩) 0 1 _ _ s Q E (.inl ⟨rfl,rfl⟩) (.inr ⟨rfl,rfl⟩) q
theorem WI {v1 v2:ai}{p q:IS}{Q:aA}(hu:A.units<cLine) (h1:er s.heap v1 p) (h2:er s.heap v2 q) (h:Q (.bool (ir p q)) s) :
    wpAny (model prog w) A (richCompare .Gt v1 v2) Q E s:=by
  obtain⟨a,t1,u1,rfl,oa,Aj,Dy,na,Dz⟩:=h1;obtain⟨b,t2,u2,rfl,ob,Ak,DA,nb,iO⟩:=h2;have ta:s.TypeIs (.ref a) "tuple":=⟨oa,Aj,Dy⟩;have tb:s.TypeIs (.ref b) "tuple":=⟨ob,Ak,DA⟩;refine wpAny_richCompare_same_room (op:=.Gt) ta tb F.slot_tuple_gt (jR F.slot_tuple_gt ta F.entry_tuple_gt ?_ (F.args_tuple_gt_2 _ _)) hu;show wpAny _ _ (isInstance (.ref b) (.type "tuple") >>= _) _ _ s;refine aj (kB tb isSubtype_tuple_tuple ?_);rw[aq (by decide)];refine aj (oU Aj Dz (aj (oU Ak iO (aj ?_))));show wpAny _ _ (forIn [((Value.int p.1 t1,Value.int q.1 t2):ai×ai),(Value.str p.2 u1,Value.str q.2 u2)] _ _) _ _ s;rw[kF];refine aj (aj (wpAny_eqBool_int ?_))
  by_cases c:p.1=q.1
  · rw[show (p.1 == q.1)=true from fC.mpr c,aq (by decide)];refine aD ?_;show wpAny _ _ (forIn [((Value.str p.2 u1,Value.str q.2 u2):ai×ai)] _ _) _ _ s;rw[kF];refine aj (aj (mj ?_))
    by_cases c2:p.2=q.2
    · rw[aR c2,aq (by decide)];refine aD ?_;show wpAny _ _ (forIn ([]:List (ai×ai)) _ _) _ _ s;rw[List.forIn_nil];refine aD (aD ⟨_,rfl,(fun e=>nomatch e),?_⟩);have e:ir p q=false:=by
        unfold ir;rw[av c,c2];exact bg (gy _)
      rw[e] at h;exact h
    · rw[bg c2,av (by decide)];refine aj (gc (aj (PySem.P.gt_str ?_)));refine aD (aD (aD ⟨_,rfl,(fun e=>nomatch e),?_⟩));unfold ir at h;rw[av c] at h;exact h
  · rw[show (p.1 == q.1)=false from fP.mpr c,av (by decide)];refine aj (gc (aj (Oo ?_)));refine aD (aD (aD ⟨_,rfl,(fun e=>nomatch e),?_⟩));unfold ir at h;rw[aq c] at h;exact h
theorem WJ {v1 v2:ai}{p q:IS}{Q:aA}(hu:A.units<cLine) (h1:er s.heap v1 p) (h2:er s.heap v2 q) (h:Q (.bool (ir q p)) s) :
    wpAny (model prog w) A (richCompare .Lt v1 v2) Q E s:=by
  obtain⟨a,t1,u1,rfl,oa,Aj,Dy,na,Dz⟩:=h1;obtain⟨b,t2,u2,rfl,ob,Ak,DA,nb,iO⟩:=h2;have ta:s.TypeIs (.ref a) "tuple":=⟨oa,Aj,Dy⟩;have tb:s.TypeIs (.ref b) "tuple":=⟨ob,Ak,DA⟩;refine wpAny_richCompare_same_room (op:=.Lt) ta tb F.slot_tuple_lt (jR F.slot_tuple_lt ta F.entry_tuple_lt ?_ (F.args_tuple_lt_2 _ _)) hu;show wpAny _ _ (isInstance (.ref b) (.type "tuple") >>= _) _ _ s;refine aj (kB tb isSubtype_tuple_tuple ?_);rw[aq (by decide)];refine aj (oU Aj Dz (aj (oU Ak iO (aj ?_))));show wpAny _ _ (forIn [((Value.int p.1 t1,Value.int q.1 t2):ai×ai),(Value.str p.2 u1,Value.str q.2 u2)] _ _) _ _ s;rw[kF];refine aj (aj (wpAny_eqBool_int ?_))
  by_cases c:p.1=q.1
  · rw[show (p.1 == q.1)=true from fC.mpr c,aq (by decide)];refine aD ?_;show wpAny _ _ (forIn [((Value.str p.2 u1,Value.str q.2 u2):ai×ai)] _ _) _ _ s;rw[kF];refine aj (aj (mj ?_))
    by_cases c2:p.2=q.2
    · rw[aR c2,aq (by decide)];refine aD ?_;show wpAny _ _ (forIn ([]:List (ai×ai)) _ _) _ _ s;rw[List.forIn_nil];refine aD (aD ⟨_,rfl,(fun e=>nomatch e),?_⟩);have e:ir q p=false:=by
        unfold ir;rw[av c.symm,c2];exact bg (gy _)
      rw[e] at h;exact h
    · rw[bg c2,av (by decide)];refine aj (gc (aj (lt_str ?_)));refine aD (aD (aD ⟨_,rfl,(fun e=>nomatch e),?_⟩));unfold ir at h;rw[av c.symm] at h;exact h
  · rw[show (p.1 == q.1)=false from fP.mpr c,av (by decide)];refine aj (gc (aj (WH ?_)));refine aD (aD (aD ⟨_,rfl,(fun e=>nomatch e),?_⟩));unfold ir at h;rw[aq (aC c)] at h;exact h
end
theorem WK {i b j:IS}(h1:ir b i=false) (h2:ir b j=true):ir j i=false:=by
  unfold ir at *
  by_cases c1:b.1=i.1
  · rw[av c1] at h1;have h1:=kY h1
    by_cases c2:b.1=j.1
    · rw[av c2] at h2;have h2:=bC h2;rw[av (c2.symm.trans c1)];exact bg fun z=>h1 (mF z h2)
    · rw[aq c2] at h2;have h2:=bC h2;rw[aq (fun z=>c2 (c1.trans z.symm))];exact bg (by lia)
  · rw[aq c1] at h1;have h1:=kY h1
    by_cases c2:b.1=j.1
    · rw[aq (fun z=>c1 (c2.trans z))];exact bg (by lia)
    · rw[aq c2] at h2;have h2:=bC h2;rw[aq (by lia)];exact bg (by lia)
theorem uz {α β:Type}{F:α->β->Prop}{as:List α}{bs:List β}(h:Paired F as bs):∀{i:Nat}{a:α}{b:β},as[i]? = some a->bs[i]? = some b->F a b:=by
  induction h with
  | nil=>intro i a b e _;simp at e
  | cons h _ ih=>
    intro i a b e1 e2;cases i with
    | zero=>simp at e1 e2;rw[←e1,←e2];exact h
    | succ i=>exact ih (by simpa using e1) (by simpa using e2)
section
variable {prog:aP}{w:World}{A:Around}{R:Result->au->Prop}
theorem WL {l it S:ah}{its:Array ai}{val:Nat->IS}(hh:A.handled=none) (hu:A.units+1<cLine) (n1:S≠it) (n2:S≠l) (n3:l≠it) :
    ∀(k j b:Nat) (s:au) (vb:ai) (c:Nat),its.size-j=k->j5 s.heap l it S its vb j c->(∀i v,its[i]? = some v->er s.heap v (val i))->its[b]? = some vb->(∀i,i<j->ir (val i) (val b)=false)->j<=its.size->
      (∀(v:ai) (b':Nat) (h':Heap) (tk:Nat),its[b']? = some v->(∀i,i<its.size->ir (val i) (val b')=false)->(∀d o,d≠it->d≠S->s.heap.get? d=some o->h'.get? d=some o)->R (.ok (.ret v)) { s with heap:=h',toks:=tk })->
      codeAny (model prog w) A (.builtin "max.loop" ⟨[.ref it,.none,.ref S],[]⟩) R s:=by
  have nm:(toString "max" ++ toString ".loop" : String) = "max.loop":=by decide
  intro k
  induction k with
  | zero=>
    intro j b s vb c hk M ht eb best hj q;refine ic kC ?_;rw[iB fU _];show wpAny _ A.in1 (seqItems? (.ref S) >>= _) _ _ s;refine aj (ie M.s rfl (aj (gz (l6 (A:=A.in1) hh M.i M.l (l5 (show its.size<=j by lia)) fun h' wF=>?_))));have s':=wF S _ n1 M.s;refine aj (m:=updateSeq S (fun _=>#[])) ?_;refine fW s' rfl (aj (dX (aD ?_)));exact q vb b _ s.toks eb (fun i hi=>best i (by lia)) fun d o d1 d2 e=>by
      rw[cA _ _ (aC d2)];exact wF d o d1 e
  | succ k ih=>
    intro j b s vb c hk M ht eb best hj q;have dz:j<its.size:=by lia
    have ej:its[j]? = some its[j]:=gY dz;refine ic kC ?_;rw[iB fU _];show wpAny _ A.in1 (seqItems? (.ref S) >>= _) _ _ s;have ci:∀d o,s.heap.get? d=some o->o.cls = .type "tuple"->d≠it:=fun d o e z y=>by
      obtain⟨o',e',c',_⟩:=M.i;rw[y,e'] at e;cases e;rw[c'] at z;exact absurd z (by decide)
    have cS:∀d o,s.heap.get? d=some o->o.cls = .type "tuple"->d≠S:=fun d o e z y=>by
      have e':=M.s;rw[y,e'] at e;cases e;have z:Value.type "list" = Value.type "tuple":=z;exact absurd z (by decide)
    refine aj (ie M.s rfl (aj (gz (lX M.i M.l ej fun h' qq sb=>?_))));have s':h'.get? S=_:=(sb.2 S n1).trans M.s;have l':h'.IsList l its:=by
      obtain⟨o,ho,r⟩:=M.l;exact⟨o,(sb.2 l n3).trans ho,r⟩
    have nW:∀i v,its[i]? = some v->er h' v (val i):=fun i v e=>(ht i v e).kept fun d o z=>(sb.2 d (ci d o z.1 z.2)).trans z.1
    have tj:=nW j _ ej;have tb:=nW b _ eb;generalize its[j]=vj at ej tj;refine aj (aD ?_);refine aj (gz (dO (aj (WI (s:={ s with heap:=h' }) hu tj tb ?_))));refine aj (dO (jQ (aj (dX (aD ?_)))))
    by_cases c1:ir (val j) (val b)=true
    · rw[c1,av rfl];refine aj (m:=updateSeq S (fun _=>#[vj,vj])) ?_;refine fW s' rfl (aj (dX ?_));rw[nm];have keep:∀d o,d≠S->h'.get? d=some o->(h'.update S (Obj.mapSeq fun _=>#[vj,vj])).get? d=some o:=fun d o d1 e=>(cA _ _ (aC d1)).trans e
      obtain⟨c',M'⟩:∃c',j5 (h'.update S (Obj.mapSeq fun _=>#[vj,vj])) l it S its vj (j+1) c':=by
        refine⟨_,qq.at fun o e=>keep it o (aC n1) e,?_,c7 _ s' rfl⟩;obtain⟨o,ho,r⟩:=l';exact⟨o,keep l o (aC n2) ho,r⟩
      refine aD ⟨fj fU _,ih (j+1) j _ _ _ (by lia) M' (fun i v e=>?_) ej (fun i hi=>?_) dz fun v b' h2 tk ev hb kp=>?_⟩
      · refine (ht i v e).kept fun d o z=>keep d o (cS d o z.1 z.2) ((sb.2 d (ci d o z.1 z.2)).trans z.1)
      · by_cases c2:i=j
        · subst c2;exact GB _
        · exact WG (best i (by lia)) c1
      · exact q v b' h2 tk ev hb fun d o d1 d2 e=>kp d o d1 d2 (keep d o d2 ((sb.2 d d1).trans e))
    · have c1:ir (val j) (val b)=false:=by simpa using c1
      rw[c1,aq bJ];refine aj (dX ?_);rw[nm];refine aD ⟨fj fU _,ih (j+1) b { s with heap:=h' } _ c (by lia) ⟨qq,l',s'⟩ nW eb (fun i hi=>?_) dz fun v b' h2 tk ev hb kp=>?_⟩
      · by_cases c2:i=j
        · subst c2;exact c1
        · exact best i (by lia)
      · exact q v b' h2 tk ev hb fun d o d1 d2 e=>kp d o d1 d2 ((sb.2 d d1).trans e)
theorem WM {l it S:ah}{its:Array ai}{val:Nat->IS}{s:au}{c:Nat}(hh:A.handled=none) (hu:A.units+1<cLine) (n1:S≠it) (n2:S≠l) (n3:l≠it) (lI:0<its.size)
    (hi:s.heap.IsListIter it l 0) (hl:s.heap.IsList l its) (hS:s.heap.get? S=some { cls:=.type "list",dict:=none,data:=.seq #[] c,slots:=#[] }) (ht:∀i v,its[i]? = some v->er s.heap v (val i))
    (q:∀(v:ai) (b':Nat) (h':Heap) (tk:Nat),its[b']? = some v->(∀i,i<its.size->ir (val i) (val b')=false)->(∀d o,d≠it->d≠S->s.heap.get? d=some o->h'.get? d=some o)->R (.ok (.ret v)) { s with heap:=h',toks:=tk }) :
    codeAny (model prog w) A (.builtin "max.loop" ⟨[.ref it,.none,.ref S],[]⟩) R s:=by
  have nm:(toString "max" ++ toString ".loop" : String) = "max.loop":=by decide
  refine ic kC ?_;rw[iB fU _];show wpAny _ A.in1 (seqItems? (.ref S) >>= _) _ _ s;have ci:∀d o,s.heap.get? d=some o->o.cls = .type "tuple"->d≠it:=fun d o e z y=>by
    obtain⟨o',e',c',_⟩:=hi;rw[y,e'] at e;cases e;rw[c'] at z;exact absurd z (by decide)
  have cS:∀d o,s.heap.get? d=some o->o.cls = .type "tuple"->d≠S:=fun d o e z y=>by
    rw[y,hS] at e;cases e;have z:Value.type "list" = Value.type "tuple":=z;exact absurd z (by decide)
  have ej:its[0]? = some its[0]:=gY lI;refine aj (ie hS rfl (aj (gz (lX hi hl ej fun h' qq sb=>?_))));have s':h'.get? S=_:=(sb.2 S n1).trans hS;have l':h'.IsList l its:=by
    obtain⟨o,ho,r⟩:=hl;exact⟨o,(sb.2 l n3).trans ho,r⟩
  refine aj (aD ?_);refine aj (m:=updateSeq S (fun _=>#[its[0],its[0]])) ?_;refine fW s' rfl ?_;rw[nm];have keep:∀d o,d≠S->h'.get? d=some o->(h'.update S (Obj.mapSeq fun _=>#[its[0],its[0]])).get? d=some o:=fun d o d1 e=>(cA _ _ (aC d1)).trans e
  obtain⟨c',M'⟩:∃c',j5 (h'.update S (Obj.mapSeq fun _=>#[its[0],its[0]])) l it S its its[0] 1 c':=by
    refine⟨_,qq.at fun o e=>keep it o (aC n1) e,?_,c7 _ s' rfl⟩;obtain⟨o,ho,r⟩:=l';exact⟨o,keep l o (aC n2) ho,r⟩
  refine aD ⟨fj fU _,WL (val:=val) hh hu n1 n2 n3 _ 1 0 _ _ _ rfl M' (fun i v e=>?_) ej (fun i hi=>?_) (by lia) fun v b' h2 tk ev hb kp=>?_⟩
  · exact (ht i v e).kept fun d o z=>keep d o (cS d o z.1 z.2) ((sb.2 d (ci d o z.1 z.2)).trans z.1)
  · have:i=0:=by lia
    subst this;exact GB _
  · exact q v b' h2 tk ev hb fun d o d1 d2 e=>kp d o d1 d2 (keep d o d2 ((sb.2 d d1).trans e))
end
section
variable {prog:aP}{w:World}{A:Around}{E:aA}{s:au}
theorem WN {l:ah}{its:Array ai}{val:Nat->IS}{Q:aA}(hh:A.handled=none) (hu:A.units+1<cLine) (hl:s.heap.IsList l its) (lI:0<its.size) (ht:∀i v,its[i]? = some v->er s.heap v (val i))
    (q:∀(v:ai) (b':Nat) (h':Heap) (tk:Nat),its[b']? = some v->(∀i,i<its.size->ir (val i) (val b')=false)->(∀d o,s.heap.get? d=some o->h'.get? d=some o)->Q v { s with heap:=h',toks:=tk }) :
    wpAny (model prog w) A (call (.builtin "max") [.ref l]) Q E s:=by
  have nm:(toString "max" ++ toString ".loop" : String) = "max.loop":=by decide
  have dz:l<s.heap.objs.size:=by obtain⟨_,e,_⟩:=hl;exact aK e
  have body:wpAny (model prog w) A.in1 (Builtin.«max» ⟨[.ref l],[]⟩) (fun fin s'=>match fin with
      | .done f=>(match (Except.ok f:Result) with | .ok (.ret v)=>Q v s' | .ok _=>False | .error e=>E e s')
      | .again c'=>c'.quiet=true/\codeAny (model prog w) A c' (fun r s'=>match r with | .ok (.ret v)=>Q v s' | .ok _=>False | .error e=>E e s') s') E s:=by
    show wpAny _ A.in1 (Builtin.Builtins.bindParams "max" ["key","default"] 0 ⟨[],[]⟩ >>= _) _ _ s;refine aj (kH (show Builtin.Builtins.bindParams "max" ["key","default"] 0 ⟨[],[]⟩=pure [none,none] from rfl) ?_);refine aj (aD (aj (kr hl ?_)));refine aj (g8 ?_);rw[nm];have zu:(s.heap.push { cls:=.type "list_iterator",data:=.fields #[.ref l,.int 0 0] }).objs.size=s.heap.objs.size+1:=iF ..;have kL:∀d o,s.heap.get? d=some o->(s.heap.push { cls:=.type "list_iterator",data:=.fields #[.ref l,.int 0 0] }).get? d=some o:=fun d o e=>bq _ e
    have hit:(s.heap.push { cls:=.type "list_iterator",data:=.fields #[.ref l,.int 0 0] }).IsListIter s.heap.objs.size l 0:=⟨_,bH _ rfl,rfl,rfl⟩;have nV:(s.heap.push { cls:=.type "list_iterator",data:=.fields #[.ref l,.int 0 0] }).IsList l its:=by
      obtain⟨o,ho,r⟩:=hl;exact⟨o,kL l o ho,r⟩
    generalize s.heap.push { cls:=.type "list_iterator",data:=.fields #[.ref l,.int 0 0] } = g at zu kL hit nV;have lF:(g.push { cls:=.type "list",data:=.seq ([]:List ai).toArray }).IsList l its:=by
      obtain⟨o,ho,r⟩:=nV;exact⟨o,bq _ ho,r⟩
    refine aD ⟨fj fU _,WM (val:=val) (it:=s.heap.objs.size) (S:=g.objs.size) hh hu ?_ ?_ ?_ lI (hit.at fun o e=>bq _ e) lF (bH _ rfl) (fun i v e=>(ht i v e).kept fun d o z=>bq _ (kL d o z.1)) fun v b' h' tk eb hb kp=>?_⟩
    · rw[zu];exact Nat.succ_ne_self _
    · rw[zu];exact aC (aW (jz dz))
    · exact aW dz
    · refine q v b' h' tk eb hb fun d o e=>kp d o (fun z=>?_) (fun z=>?_) (bq _ (kL d o e))
      · exact absurd (aK e) (by rw[z];exact dS _)
      · exact absurd (aK e) (by rw[z,zu];exact mq (fB _))
  refine eE (kX F.plain_max F.entry_max ?_);have ha:=F.args_max1 (.ref l);simp only [checkBuiltinCall,F.kind_max];cases sg:Manifest.signature? "max" with
  | none=>exact aD body
  | some g=>
    simp only [argsOk,sg] at ha;have ha:Bind.checkArgs "max" g ⟨[.ref l],[]⟩=pure ():=ha;show wpAny _ A.in1 (Bind.checkArgs "max" g ⟨[.ref l],[]⟩) _ _ s;rw[ha];exact aD body
end
section
variable {X:Cx}
theorem WO {K:aE}(h:X.K=K) (hc:X.calm=true) (hu:X.A.units+1<cLine):mH X (.builtin "max") (fun xs H Q=>∃(l:ah) (as:List ah) (ps:List IS),xs = [V.ref l]/\aI K H l (as.map V.ref)/\Paired (fun a (p:IS)=>bF K H a [.int p.1,.str p.2]) as ps/\ps≠[]/\
    ∀(j:Nat) a p,as[j]? = some a->ps[j]? = some p->(∀q∈ps,ir q p=false)->Q (.ref a) H):=by
  subst h;intro pins s σ H xs us Q I r h;obtain⟨l,as,ps,rfl,hl,pr,mP,q⟩:=h;obtain⟨u,rfl,ru⟩:=pO r;cases ru;obtain⟨its,rv,pl,hz⟩:=I.list hl;have len:=rv.length;rw[ay] at len;have lp:as.length=ps.length:=Paired.length pr;have lI:0<ps.length:=iC.mpr mP;have DB:∀(i:Nat) (v:ai),its.toArray[i]? = some v->∃(a:ah) (p:IS),as[i]? = some a/\ps[i]? = some p/\v=Value.ref a/\bF X.K H a [.int p.1,.str p.2]:=by
    intro i v e;have e':its[i]? = some v:=by simpa using e
    have hi:i<as.length:=by have:=(bU.mp e').1;lia
    have DC:i<ps.length:=by lia
    obtain⟨u,e2,ru⟩:=rv.get (i:=i) (x:=V.ref as[i]) (by simp[hi]);rw[e'] at e2;cases e2;cases ru;exact⟨as[i],ps[i],aU hi,aU DC,rfl,uz pr (aU hi) (aU DC)⟩
  have ht:∀i v,its.toArray[i]? = some v->er s.heap v (ps.getD i (0,"")):=by
    intro i v e;obtain⟨a,p,ea,ep,rfl,t⟩:=DB i v e;obtain⟨ts,rt,it,_⟩:=I.tuple t;have e0:ps.getD i (0,"")=p:=by rw[cV,ep];rfl
    obtain⟨u1,u2,rfl,⟨t1,rfl⟩,⟨t2,rfl⟩⟩:=zN rt;rw[e0];exact⟨a,t1,t2,rfl,it⟩
  refine WN (I.ok.hd hc) hu pl.isList (by rw[bV];lia) ht fun v b h' tk eb hb kp=>?_
  obtain⟨a,p,ea,ep,rfl,t⟩:=DB b v eb;refine⟨.ref a,H,I.kept kp,rfl,q b a p ea ep fun z hz=>?_⟩;obtain⟨i,hi⟩:=e9.mp hz;have dz:=(bU.mp hi).1;have:=hb i (by rw[bV];lia);rw[cV,cV,hi,ep] at this;exact this
end
section
variable {prog:aP}{w:World}{A:Around}{R:Result->au->Prop}
theorem WQ {l it S:ah}{its:Array ai}{val:Nat->IS}(hh:A.handled=none) (hu:A.units+1<cLine) (n1:S≠it) (n2:S≠l) (n3:l≠it) :
    ∀(k j b:Nat) (s:au) (vb:ai) (c:Nat),its.size-j=k->j5 s.heap l it S its vb j c->(∀i v,its[i]? = some v->er s.heap v (val i))->its[b]? = some vb->(∀i,i<j->ir (val b) (val i)=false)->j<=its.size->
      (∀(v:ai) (b':Nat) (h':Heap) (tk:Nat),its[b']? = some v->(∀i,i<its.size->ir (val b') (val i)=false)->(∀d o,d≠it->d≠S->s.heap.get? d=some o->h'.get? d=some o)->R (.ok (.ret v)) { s with heap:=h',toks:=tk })->
      codeAny (model prog w) A (.builtin "min.loop" ⟨[.ref it,.none,.ref S],[]⟩) R s:=by
  have nm:(toString "min" ++ toString ".loop" : String) = "min.loop":=by decide
  intro k
  induction k with
  | zero=>
    intro j b s vb c hk M ht eb best hj q;refine ic F.entry_min_loop ?_;rw[iB jB _];show wpAny _ A.in1 (seqItems? (.ref S) >>= _) _ _ s;refine aj (ie M.s rfl (aj (gz (l6 (A:=A.in1) hh M.i M.l (l5 (show its.size<=j by lia)) fun h' wF=>?_))));have s':=wF S _ n1 M.s;refine aj (m:=updateSeq S (fun _=>#[])) ?_;refine fW s' rfl (aj (dX (aD ?_)));exact q vb b _ s.toks eb (fun i hi=>best i (by lia)) fun d o d1 d2 e=>by
      rw[cA _ _ (aC d2)];exact wF d o d1 e
  | succ k ih=>
    intro j b s vb c hk M ht eb best hj q;have dz:j<its.size:=by lia
    have ej:its[j]? = some its[j]:=gY dz;refine ic F.entry_min_loop ?_;rw[iB jB _];show wpAny _ A.in1 (seqItems? (.ref S) >>= _) _ _ s;have ci:∀d o,s.heap.get? d=some o->o.cls = .type "tuple"->d≠it:=fun d o e z y=>by
      obtain⟨o',e',c',_⟩:=M.i;rw[y,e'] at e;cases e;rw[c'] at z;exact absurd z (by decide)
    have cS:∀d o,s.heap.get? d=some o->o.cls = .type "tuple"->d≠S:=fun d o e z y=>by
      have e':=M.s;rw[y,e'] at e;cases e;have z:Value.type "list" = Value.type "tuple":=z;exact absurd z (by decide)
    refine aj (ie M.s rfl (aj (gz (lX M.i M.l ej fun h' qq sb=>?_))));have s':h'.get? S=_:=(sb.2 S n1).trans M.s;have l':h'.IsList l its:=by
      obtain⟨o,ho,r⟩:=M.l;exact⟨o,(sb.2 l n3).trans ho,r⟩
    have nW:∀i v,its[i]? = some v->er h' v (val i):=fun i v e=>(ht i v e).kept fun d o z=>(sb.2 d (ci d o z.1 z.2)).trans z.1
    have tj:=nW j _ ej;have tb:=nW b _ eb;generalize its[j]=vj at ej tj;refine aj (aD ?_);refine aj (gz (dO (aj (WJ (s:={ s with heap:=h' }) hu tj tb ?_))));refine aj (dO (jQ (aj (dX (aD ?_)))))
    by_cases c1:ir (val b) (val j)=true
    · rw[c1,av rfl];refine aj (m:=updateSeq S (fun _=>#[vj,vj])) ?_;refine fW s' rfl (aj (dX ?_));rw[nm];have keep:∀d o,d≠S->h'.get? d=some o->(h'.update S (Obj.mapSeq fun _=>#[vj,vj])).get? d=some o:=fun d o d1 e=>(cA _ _ (aC d1)).trans e
      obtain⟨c',M'⟩:∃c',j5 (h'.update S (Obj.mapSeq fun _=>#[vj,vj])) l it S its vj (j+1) c':=by
        refine⟨_,qq.at fun o e=>keep it o (aC n1) e,?_,c7 _ s' rfl⟩;obtain⟨o,ho,r⟩:=l';exact⟨o,keep l o (aC n2) ho,r⟩
      refine aD ⟨fj jB _,ih (j+1) j _ _ _ (by lia) M' (fun i v e=>?_) ej (fun i hi=>?_) dz fun v b' h2 tk ev hb kp=>?_⟩
      · refine (ht i v e).kept fun d o z=>keep d o (cS d o z.1 z.2) ((sb.2 d (ci d o z.1 z.2)).trans z.1)
      · by_cases c2:i=j
        · subst c2;exact GB _
        · exact WK (best i (by lia)) c1
      · exact q v b' h2 tk ev hb fun d o d1 d2 e=>kp d o d1 d2 (keep d o d2 ((sb.2 d d1).trans e))
    · have c1:ir (val b) (val j)=false:=by simpa using c1
      rw[c1,aq bJ];refine aj (dX ?_);rw[nm];refine aD ⟨fj jB _,ih (j+1) b { s with heap:=h' } _ c (by lia) ⟨qq,l',s'⟩ nW eb (fun i hi=>?_) dz fun v b' h2 tk ev hb kp=>?_⟩
      · by_cases c2:i=j
        · subst c2;exact c1
        · exact best i (by lia)
      · exact q v b' h2 tk ev hb fun d o d1 d2 e=>kp d o d1 d2 ((sb.2 d d1).trans e)
theorem WR {l it S:ah}{its:Array ai}{val:Nat->IS}{s:au}{c:Nat}(hh:A.handled=none) (hu:A.units+1<cLine) (n1:S≠it) (n2:S≠l) (n3:l≠it) (lI:0<its.size)
    (hi:s.heap.IsListIter it l 0) (hl:s.heap.IsList l its) (hS:s.heap.get? S=some { cls:=.type "list",dict:=none,data:=.seq #[] c,slots:=#[] }) (ht:∀i v,its[i]? = some v->er s.heap v (val i))
    (q:∀(v:ai) (b':Nat) (h':Heap) (tk:Nat),its[b']? = some v->(∀i,i<its.size->ir (val b') (val i)=false)->(∀d o,d≠it->d≠S->s.heap.get? d=some o->h'.get? d=some o)->R (.ok (.ret v)) { s with heap:=h',toks:=tk }) :
    codeAny (model prog w) A (.builtin "min.loop" ⟨[.ref it,.none,.ref S],[]⟩) R s:=by
  have nm:(toString "min" ++ toString ".loop" : String) = "min.loop":=by decide
  refine ic F.entry_min_loop ?_;rw[iB jB _];show wpAny _ A.in1 (seqItems? (.ref S) >>= _) _ _ s;have ci:∀d o,s.heap.get? d=some o->o.cls = .type "tuple"->d≠it:=fun d o e z y=>by
    obtain⟨o',e',c',_⟩:=hi;rw[y,e'] at e;cases e;rw[c'] at z;exact absurd z (by decide)
  have cS:∀d o,s.heap.get? d=some o->o.cls = .type "tuple"->d≠S:=fun d o e z y=>by
    rw[y,hS] at e;cases e;have z:Value.type "list" = Value.type "tuple":=z;exact absurd z (by decide)
  have ej:its[0]? = some its[0]:=gY lI;refine aj (ie hS rfl (aj (gz (lX hi hl ej fun h' qq sb=>?_))));have s':h'.get? S=_:=(sb.2 S n1).trans hS;have l':h'.IsList l its:=by
    obtain⟨o,ho,r⟩:=hl;exact⟨o,(sb.2 l n3).trans ho,r⟩
  refine aj (aD ?_);refine aj (m:=updateSeq S (fun _=>#[its[0],its[0]])) ?_;refine fW s' rfl ?_;rw[nm];have keep:∀d o,d≠S->h'.get? d=some o->(h'.update S (Obj.mapSeq fun _=>#[its[0],its[0]])).get? d=some o:=fun d o d1 e=>(cA _ _ (aC d1)).trans e
  obtain⟨c',M'⟩:∃c',j5 (h'.update S (Obj.mapSeq fun _=>#[its[0],its[0]])) l it S its its[0] 1 c':=by
    refine⟨_,qq.at fun o e=>keep it o (aC n1) e,?_,c7 _ s' rfl⟩;obtain⟨o,ho,r⟩:=l';exact⟨o,keep l o (aC n2) ho,r⟩
  refine aD ⟨fj jB _,WQ (val:=val) hh hu n1 n2 n3 _ 1 0 _ _ _ rfl M' (fun i v e=>?_) ej (fun i hi=>?_) (by lia) fun v b' h2 tk ev hb kp=>?_⟩
  · exact (ht i v e).kept fun d o z=>keep d o (cS d o z.1 z.2) ((sb.2 d (ci d o z.1 z.2)).trans z.1)
  · have:i=0:=by lia
    subst this;exact GB _
  · exact q v b' h2 tk ev hb fun d o d1 d2 e=>kp d o d1 d2 (keep d o d2 ((sb.2 d d1).trans e))
end
section
variable {prog:aP}{w:World}{A:Around}{E:aA}{s:au}
theorem WS {l:ah}{its:Array ai}{val:Nat->IS}{Q:aA}(hh:A.handled=none) (hu:A.units+1<cLine) (hl:s.heap.IsList l its) (lI:0<its.size) (ht:∀i v,its[i]? = some v->er s.heap v (val i))
    (q:∀(v:ai) (b':Nat) (h':Heap) (tk:Nat),its[b']? = some v->(∀i,i<its.size->ir (val b') (val i)=false)->(∀d o,s.heap.get? d=some o->h'.get? d=some o)->Q v { s with heap:=h',toks:=tk }) :
    wpAny (model prog w) A (call (.builtin "min") [.ref l]) Q E s:=by
  have nm:(toString "min" ++ toString ".loop" : String) = "min.loop":=by decide
  have dz:l<s.heap.objs.size:=by obtain⟨_,e,_⟩:=hl;exact aK e
  have body:wpAny (model prog w) A.in1 (Builtin.«min» ⟨[.ref l],[]⟩) (fun fin s'=>match fin with
      | .done f=>(match (Except.ok f:Result) with | .ok (.ret v)=>Q v s' | .ok _=>False | .error e=>E e s')
      | .again c'=>c'.quiet=true/\codeAny (model prog w) A c' (fun r s'=>match r with | .ok (.ret v)=>Q v s' | .ok _=>False | .error e=>E e s') s') E s:=by
    show wpAny _ A.in1 (Builtin.Builtins.bindParams "min" ["key","default"] 0 ⟨[],[]⟩ >>= _) _ _ s;refine aj (kH (show Builtin.Builtins.bindParams "min" ["key","default"] 0 ⟨[],[]⟩=pure [none,none] from rfl) ?_);refine aj (aD (aj (kr hl ?_)));refine aj (g8 ?_);rw[nm];have zu:(s.heap.push { cls:=.type "list_iterator",data:=.fields #[.ref l,.int 0 0] }).objs.size=s.heap.objs.size+1:=iF ..;have kL:∀d o,s.heap.get? d=some o->(s.heap.push { cls:=.type "list_iterator",data:=.fields #[.ref l,.int 0 0] }).get? d=some o:=fun d o e=>bq _ e
    have hit:(s.heap.push { cls:=.type "list_iterator",data:=.fields #[.ref l,.int 0 0] }).IsListIter s.heap.objs.size l 0:=⟨_,bH _ rfl,rfl,rfl⟩;have nV:(s.heap.push { cls:=.type "list_iterator",data:=.fields #[.ref l,.int 0 0] }).IsList l its:=by
      obtain⟨o,ho,r⟩:=hl;exact⟨o,kL l o ho,r⟩
    generalize s.heap.push { cls:=.type "list_iterator",data:=.fields #[.ref l,.int 0 0] } = g at zu kL hit nV;have lF:(g.push { cls:=.type "list",data:=.seq ([]:List ai).toArray }).IsList l its:=by
      obtain⟨o,ho,r⟩:=nV;exact⟨o,bq _ ho,r⟩
    refine aD ⟨fj jB _,WR (val:=val) (it:=s.heap.objs.size) (S:=g.objs.size) hh hu ?_ ?_ ?_ lI (hit.at fun o e=>bq _ e) lF (bH _ rfl) (fun i v e=>(ht i v e).kept fun d o z=>bq _ (kL d o z.1)) fun v b' h' tk eb hb kp=>?_⟩
    · rw[zu];exact Nat.succ_ne_self _
    · rw[zu];exact aC (aW (jz dz))
    · exact aW dz
    · refine q v b' h' tk eb hb fun d o e=>kp d o (fun z=>?_) (fun z=>?_) (bq _ (kL d o e))
      · exact absurd (aK e) (by rw[z];exact dS _)
      · exact absurd (aK e) (by rw[z,zu];exact mq (fB _))
  refine eE (kX F.plain_min F.entry_min ?_);have ha:=F.args_min1 (.ref l);simp only [checkBuiltinCall,F.kind_min];cases sg:Manifest.signature? "min" with
  | none=>exact aD body
  | some g=>
    simp only [argsOk,sg] at ha;have ha:Bind.checkArgs "min" g ⟨[.ref l],[]⟩=pure ():=ha;show wpAny _ A.in1 (Bind.checkArgs "min" g ⟨[.ref l],[]⟩) _ _ s;rw[ha];exact aD body
end
section
variable {X:Cx}
theorem WT {K:aE}(h:X.K=K) (hc:X.calm=true) (hu:X.A.units+1<cLine):mH X (.builtin "min") (fun xs H Q=>∃(l:ah) (as:List ah) (ps:List IS),xs = [V.ref l]/\aI K H l (as.map V.ref)/\Paired (fun a (p:IS)=>bF K H a [.int p.1,.str p.2]) as ps/\ps≠[]/\
    ∀(j:Nat) a p,as[j]? = some a->ps[j]? = some p->(∀q∈ps,ir p q=false)->Q (.ref a) H):=by
  subst h;intro pins s σ H xs us Q I r h;obtain⟨l,as,ps,rfl,hl,pr,mP,q⟩:=h;obtain⟨u,rfl,ru⟩:=pO r;cases ru;obtain⟨its,rv,pl,hz⟩:=I.list hl;have len:=rv.length;rw[ay] at len;have lp:as.length=ps.length:=Paired.length pr;have lI:0<ps.length:=iC.mpr mP;have DB:∀(i:Nat) (v:ai),its.toArray[i]? = some v->∃(a:ah) (p:IS),as[i]? = some a/\ps[i]? = some p/\v=Value.ref a/\bF X.K H a [.int p.1,.str p.2]:=by
    intro i v e;have e':its[i]? = some v:=by simpa using e
    have hi:i<as.length:=by have:=(bU.mp e').1;lia
    have DC:i<ps.length:=by lia
    obtain⟨u,e2,ru⟩:=rv.get (i:=i) (x:=V.ref as[i]) (by simp[hi]);rw[e'] at e2;cases e2;cases ru;exact⟨as[i],ps[i],aU hi,aU DC,rfl,uz pr (aU hi) (aU DC)⟩
  have ht:∀i v,its.toArray[i]? = some v->er s.heap v (ps.getD i (0,"")):=by
    intro i v e;obtain⟨a,p,ea,ep,rfl,t⟩:=DB i v e;obtain⟨ts,rt,it,_⟩:=I.tuple t;have e0:ps.getD i (0,"")=p:=by rw[cV,ep];rfl
    obtain⟨u1,u2,rfl,⟨t1,rfl⟩,⟨t2,rfl⟩⟩:=zN rt;rw[e0];exact⟨a,t1,t2,rfl,it⟩
  refine WS (I.ok.hd hc) hu pl.isList (by rw[bV];lia) ht fun v b h' tk eb hb kp=>?_
  obtain⟨a,p,ea,ep,rfl,t⟩:=DB b v eb;refine⟨.ref a,H,I.kept kp,rfl,q b a p ea ep fun z hz=>?_⟩;obtain⟨i,hi⟩:=e9.mp hz;have dz:=(bU.mp hi).1;have:=hb i (by rw[bV];lia);rw[cV,cV,hi,ep] at this;exact this
end
end L2
namespace Dm
open PySem PySem.NumText L2
structure iR (K:aE) (H:Hp) (p pm pu pt pf:ah) (lo hi:Int) (us:List Str) (az:List ah) (ts:List aS) (af:List ah) (fs:List cI):Prop where
  iu:nH K H p pu pt (.ref pm) (.ref pf) us az ts
  m:bF K H pm [.int lo,.int hi]
  f:aI K H pf (af.map V.ref)
  ft:bT H af (fs.map gk)
  fu:∀f∈fs,f.u∈us
  fl:fs.length<=60
section
variable {K:aE}{H H':Hp}{p pm pu pt pf:ah}{lo hi:Int}{us:List Str}{az:List ah}{ts:List aS}{af:List ah}{fs:List cI}
theorem iR.same (h:iR K H p pm pu pt pf lo hi us az ts af fs) (s:ak H H'):iR K H' p pm pu pt pf lo hi us az ts af fs:=⟨h.iu.same s,s.tup h.m,s.seq h.f,h.ft.same s,h.fu,h.fl⟩
theorem iR.j6 (h:iR K H p pm pu pt pf lo hi us az ts af fs):af.length=fs.length:=by have:=h.ft.len;rw[ay] at this;exact this
end
theorem Ou (f:cI):jY (gk f) 0=some (.str f.n):=rfl
theorem WU (f:cI):jY (gk f) 1=some (.str f.u):=rfl
theorem WV (f:cI):jY (gk f) 2=some (.int f.lo):=rfl
theorem WW (f:cI):jY (gk f) 3=some (.int f.hi):=rfl
abbrev Fz:=List (cI×ah)
def eK (ts:List aS) (z:Fz):Str->Fz:=fun k=>z.filter fun p=>decide (aO ts p.1.u=k)
theorem WX {ts:List aS}{z:Fz}{i:Nat}{f:cI}{r:ah}{k:Str}(h:z[i]? = some (f,r)):eK ts (z.take (i+1)) k=eK ts (z.take i) k++(if aO ts f.u=k then [(f,r)] else []):=by
  unfold eK;rw[aQ,h,jy]
  congr 1
  by_cases c:aO ts f.u=k
  · rw[av c];simp[c]
  · rw[aq c];simp[c]
theorem JP {ts:List aS}{z:Fz}{k:Str}:(eK ts z k).length<=z.length:=fO _ _
structure Fw (H:Hp) (pd:ah) (ob:Obj) (keys:List Str) (fw:Str->Fz) (ad:Str->ah):Prop where
  d:H pd=some (.gp ob (.dK (dV keys fun k=>.ref (ad k))))
  l:∀k∈keys,H (ad k)=some (.lst ((fw k).map fun p=>V.ref p.2))
theorem Fw.same {H H':Hp}{pd:ah}{ob:Obj}{keys:List Str}{fw:Str->Fz}{ad:Str->ah}(b:Fw H pd ob keys fw ad) (s:ak H H'):Fw H' pd ob keys fw ad:=
  ⟨s _ _ b.d,fun k hk=>s _ _ (b.l k hk)⟩
theorem rW {H:Hp}{pd:ah}{ob:Obj}{keys:List Str}{f:Str->V}(h:H pd=some (.gp ob (.dK (dV keys f)))) {k:Str}(hk:k∈keys):cz H pd (.str k) (some (f k)):=by
  have:=pB (f:=f) hk;exact .inl ⟨_,Sum.inr k,.inr ⟨ob,h⟩,rfl,this.symm⟩
def wG (lo:Int) (L:Fz):List IS:=(lo,"")::L.map fun p=>(p.1.lo,p.1.n)
def wH (hi:Int) (L:Fz):List IS:=(hi,"")::L.map fun p=>(p.1.hi,p.1.n)
def xE (l:List IS) (m:IS):Prop:=m∈l/\∀q∈l,ir q m=false
def xF (l:List IS) (m:IS):Prop:=m∈l/\∀q∈l,ir m q=false
structure Bd (H:Hp) (pd:ah) (ob:Obj) (keys:List Str) (v:Str->IS) (ad:Str->ah):Prop where
  d:H pd=some (.gp ob (.dK (dV keys fun k=>.ref (ad k))))
  e:∀k∈keys,H (ad k)=some (.tup [.int (v k).1,.str (v k).2])
theorem Bd.same {H H':Hp}{pd:ah}{ob:Obj}{keys:List Str}{v:Str->IS}{ad:Str->ah}(b:Bd H pd ob keys v ad) (s:ak H H'):Bd H' pd ob keys v ad:=
  ⟨s _ _ b.d,fun k hk=>s _ _ (b.e k hk)⟩
theorem WY {lo:Int}{L:Fz}{m:IS}(h:xE (wG lo L) m) (y:Int):m.1<=y↔lo<=y/\∀p∈L,p.1.lo<=y:=by
  obtain⟨h1,h2⟩:=h;unfold wG at h1 h2;constructor
  · intro h;refine⟨?_,fun p hp=>?_⟩
    · have:=GC (h2 (lo,"") (by simp));have:lo<=m.1:=this;lia
    · have:=GC (h2 (p.1.lo,p.1.n) (bz _ (aM.mpr ⟨p,hp,rfl⟩)));have:p.1.lo<=m.1:=this;lia
  · rintro ⟨a,b⟩;rcases aJ.mp h1 with rfl | h1
    · exact a
    · obtain⟨p,hp,rfl⟩:=aM.mp h1;exact b p hp
theorem WZ {hi:Int}{L:Fz}{m:IS}(h:xF (wH hi L) m) (y:Int):y<=m.1↔y<=hi/\∀p∈L,y<=p.1.hi:=by
  obtain⟨h1,h2⟩:=h;unfold wH at h1 h2;constructor
  · intro h;refine⟨?_,fun p hp=>?_⟩
    · have:=GC (h2 (hi,"") (by simp));have:m.1<=hi:=this;lia
    · have:=GC (h2 (p.1.hi,p.1.n) (bz _ (aM.mpr ⟨p,hp,rfl⟩)));have:m.1<=p.1.hi:=this;lia
  · rintro ⟨a,b⟩;rcases aJ.mp h1 with rfl | h1
    · exact a
    · obtain⟨p,hp,rfl⟩:=aM.mp h1;exact b p hp
def Ov (i j:Int):Int:=if j > i then j else i
def Ow (i j:Int):Int:=if j<i then j else i
def xG (ts:List aS) (fs:List cI) (lo:Int) (k:Str):Int:=fs.foldl (fun m f=>if aO ts f.u=k then Ov m f.lo else m) lo
def GD (ts:List aS) (fs:List cI) (hi:Int) (k:Str):Int:=fs.foldl (fun m f=>if aO ts f.u=k then Ow m f.hi else m) hi
theorem Ox {α β:Type}:∀{as:List α}{bs:List β},bs.length=as.length->∀a∈as,∃b,(a,b)∈as.zip bs
  | [],_,_,a,h=>by cases h
  | x::as,[],h,_,_=>by simp at h
  | x::as,y::bs,h,a,ha=>by
    rcases aJ.mp ha with rfl | ha
    · exact⟨y,by simp⟩
    · obtain⟨b,hb⟩:=Ox (as:=as) (bs:=bs) (by simpa using h) a ha;exact⟨b,by simp[hb]⟩
theorem Paired.mono {α β:Type}{F G:α->β->Prop}{as:List α}{bs:List β}(h:Paired F as bs) (k:∀a,∀b∈bs,F a b->G a b):Paired G as bs:=by
  induction h with
  | nil=>exact .nil
  | cons h _ ih=>exact .cons (k _ _ (by simp) h) (ih fun a b hb f=>k a b (bz _ hb) f)
end Dm
namespace L2
open PySem
theorem cU.Al {K:aE}{H:Hp}{n:Nat}{a b:ah}{xs ys:List V}(hx:aI K H a xs) (hy:aI K H b ys) (hl:xs.length=ys.length) (h:∀(i:Nat) x y,xs[i]? = some x->ys[i]? = some y->cU K H n x y true):cU K H (n+1) (.ref a) (.ref b) true:=by
  have:=cU.lst (n:=n) (fun _=>true) hx hy hl h;rw[iD.mpr fun _ _=>rfl] at this;exact this
end L2
namespace L2
open PySem PySem.W PyProof.Rows
def qU (N:Nat) (lt:Nat->Nat->Bool):Nat->Nat->(Bool->au->Prop)->au->Prop:=fun i j C s=>i<N/\j<N/\i≠j/\C (lt i j) s
structure vf (N:Nat) (lt:Nat->Nat->Bool):Prop where
  irr:∀a,a<N->lt a a=false
  tr:∀a b c,a<N->b<N->c<N->lt a b=true->lt b c=true->lt a c=true
  JQ:∀a b,a<N->b<N->a≠b->lt a b=false->lt b a=true
structure Good (N:Nat) (p:Array Nat):Prop where
  sz:p.size=N
  lt:∀i,i<N->p.getD i 0<N
  inj:∀i j,i<N->j<N->p.getD i 0=p.getD j 0->i=j
def rX (lt:Nat->Nat->Bool) (p:Array Nat) (k:Nat):Prop:=∀i j,i<j->j<k->lt (p.getD i 0) (p.getD j 0)=true
def yJ (lt:Nat->Nat->Bool) (p:Array Nat) (k:Nat):Prop:=∀i j,i<j->j<k->lt (p.getD j 0) (p.getD i 0)=true
section
variable {N:Nat}{lt:Nat->Nat->Bool}{s:au}
theorem rX.snoc (T:vf N lt) {p:Array Nat}(G:Good N p) {n:Nat}(h:rX lt p n) (hn:n<N) (h1:1<=n) (q:lt (p.getD (n-1) 0) (p.getD n 0)=true):rX lt p (n+1):=by
  intro i j qk hj
  by_cases c:j<n
  · exact h i j qk c
  · have:j=n:=by lia
    subst this
    by_cases c2:i=j-1
    · rw[c2];exact q
    · exact T.tr _ _ _ (G.lt i (by lia)) (G.lt (j-1) (by lia)) (G.lt j hn) (h i (j-1) (by lia) (by lia)) q
theorem yJ.snoc (T:vf N lt) {p:Array Nat}(G:Good N p) {n:Nat}(h:yJ lt p n) (hn:n<N) (h1:1<=n) (q:lt (p.getD n 0) (p.getD (n-1) 0)=true):yJ lt p (n+1):=by
  intro i j qk hj
  by_cases c:j<n
  · exact h i j qk c
  · have:j=n:=by lia
    subst this
    by_cases c2:i=j-1
    · rw[c2];exact q
    · exact T.tr _ _ _ (G.lt j hn) (G.lt (j-1) (by lia)) (G.lt i (by lia)) q (h i (j-1) (by lia) (by lia))
theorem JR (T:vf N lt) {p:Array Nat}(G:Good N p) {Q:Nat->au->Prop}:∀(f n:Nat),1<=n->n+f<=N->rX lt p n->(∀m,n<=m->m<=n+f->rX lt p m->(m<n+f->lt (p.getD m 0) (p.getD (m-1) 0)=true)->Q m s)->(kas_asc p f n).kasWp (qU N lt) Q s
  | 0,n,_,_,a,k=>k n (aH _) (aH _) a (fun z=>absurd z (dS _))
  | f+1,n,h1,hn,a,k=>by
    refine⟨G.lt n (by lia),G.lt (n-1) (by lia),fun z=>by have:=G.inj n (n-1) (by lia) (by lia) z;lia,?_⟩;cases c:lt (p.getD n 0) (p.getD (n-1) 0) with
    | true=>
      dsimp only;rw[av rfl];exact k n (aH _) (by lia) a fun _=>c
    | false=>
      dsimp only;rw[aq (by simp)];have ne:p.getD n 0≠p.getD (n-1) 0:=fun z=>by have:=G.inj n (n-1) (by lia) (by lia) z;lia
      have q:=T.JQ _ _ (G.lt n (by lia)) (G.lt (n-1) (by lia)) ne c;refine JR T G f (n+1) (by lia) (by lia) (a.snoc T G (by lia) h1 q) fun m m1 m2 am hm=>k m (by lia) (by lia) am fun z=>hm (by lia)
theorem Oz (T:vf N lt) {p:Array Nat}(G:Good N p) {Q:Array Nat×Nat×Nat->au->Prop}:∀(f n:Nat),1<=n->n+f<=N->yJ lt p n->(∀m,n<=m->m<=n+f->yJ lt p m->Q (p,m,0) s)->(kas_desc f p n 0).kasWp (qU N lt) Q s
  | 0,n,_,_,a,k=>k n (aH _) (aH _) a
  | f+1,n,h1,hn,a,k=>by
    refine⟨G.lt n (by lia),G.lt (n-1) (by lia),fun z=>by have:=G.inj n (n-1) (by lia) (by lia) z;lia,?_⟩;cases c:lt (p.getD n 0) (p.getD (n-1) 0) with
    | true=>
      dsimp only;rw[av rfl,aq (by lia)];exact Oz T G f (n+1) (by lia) (by lia) (a.snoc T G (by lia) h1 c) fun m m1 m2 am=>k m (by lia) (by lia) am
    | false=>
      dsimp only;rw[aq (by simp)];have ne:p.getD n 0≠p.getD (n-1) 0:=fun z=>by have:=G.inj n (n-1) (by lia) (by lia) z;lia
      have q:=T.JQ _ _ (G.lt n (by lia)) (G.lt (n-1) (by lia)) ne c;refine⟨G.lt (n-1) (by lia),G.lt n (by lia),aC ne,?_⟩;rw[q];dsimp only;rw[av rfl];exact k n (aH _) (by lia) a
theorem DE {p:Array Nat}{i:Nat}{q:Array Nat}{j:Nat}(h:p[i]? = q[j]?):p.getD i 0=q.getD j 0:=by
  rw[oz,oz,h]
theorem DF {p:Array Nat}{j:Nat}(hj:j<=p.size) (k:Nat):(kas_rev p 0 j).getD k 0=if k<j then p.getD (j-1-k) 0 else p.getD k 0:=by
  have e:=getElem?_mirror_all (xs:=p) (i:=0) hj k;unfold kas_rev
  by_cases c:k<j
  · rw[av c];rw[av ⟨c6 _,c⟩] at e;rw[Nat.zero_add] at e;exact DE e
  · rw[aq c];rw[aq (fun z=>c z.2)] at e;exact DE e
theorem Good.rev {p:Array Nat}(G:Good N p) {j:Nat}(hj:j<=N):Good N (kas_rev p 0 j):=by
  have hz:j<=p.size:=by rw[G.sz];exact hj
  refine⟨by rw[kas_rev_size];exact G.sz,fun i hi=>?_,fun a b ha hb e=>?_⟩
  · rw[DF hz];split
    · exact G.lt _ (by lia)
    · exact G.lt _ hi
  · rw[DF hz,DF hz] at e
    by_cases c1:a<j<;>by_cases c2:b<j
    · rw[av c1,av c2] at e;have:=G.inj _ _ (by lia) (by lia) e;lia
    · rw[av c1,aq c2] at e;have:=G.inj _ _ (by lia) (by lia) e;lia
    · rw[aq c1,av c2] at e;have:=G.inj _ _ (by lia) (by lia) e;lia
    · rw[aq c1,aq c2] at e;exact G.inj _ _ (by lia) (by lia) e
theorem yJ.rev {p:Array Nat}(G:Good N p) {j:Nat}(hj:j<=N) (h:yJ lt p j):rX lt (kas_rev p 0 j) j:=by
  have hz:j<=p.size:=by rw[G.sz];exact hj
  intro a b nE hb;rw[DF hz,DF hz,av (by lia),av hb];exact h _ _ (by lia) (by lia)
theorem W0 (T:vf N lt) {p:Array Nat}(G:Good N p) (h2:2<=N) {Q:Nat×Array Nat->au->Prop}(k:∀m p',1<=m->m<=N->Good N p'->rX lt p' m->Q (m,p') s):(kas_count N p).kasWp (qU N lt) Q s:=by
  unfold kas_count;rw[mC];refine JR T G (N-1) 1 (aH _) (by lia) (fun i j a b=>by lia) fun n n1 n2 an hn=>?_
  by_cases c:n=N
  · rw[av (by rw[c];simp)];exact k n p n1 (by lia) G an
  · rw[aq (by simpa using c)]
    by_cases c2:n > 1
    · rw[av c2];refine⟨G.lt 0 (by lia),G.lt (n-1) (by lia),fun z=>by have:=G.inj 0 (n-1) (by lia) (by lia) z;lia,?_⟩;rw[an 0 (n-1) (by lia) (by lia)];dsimp only;rw[av rfl];exact k n p n1 (by lia) G an
    · rw[aq c2];have e1:n=1:=by lia
      subst e1;have W2:=hn (by lia);unfold kas_descPart;rw[mC];have d2:yJ lt p (1+1):=fun i j qk hj=>by
        have:i=0:=by lia
        have:j=1:=by lia
        subst i j;exact W2
      refine Oz T G (N-(1+1)) (1+1) (by lia) (by lia) d2 fun m m1 m2 dm=>?_
      show KasT.kasWp _ (if (0:Nat) > 0 then _ else kas_tail3 m N p) _ _;rw[aq (by lia)];unfold kas_tail3;rw[mC];refine JR T (G.rev (j:=m) (by lia)) (N-m) m (by lia) (by lia) (dm.rev G (by lia)) fun r r1 r2 ar _=>?_
      exact k r _ (by lia) (by lia) (G.rev (by lia)) ar
theorem JS (T:vf N lt) {p:Array Nat}(G:Good N p) {k:Nat}(hk:k<N) {Q:Nat->au->Prop}:∀(f l r:Nat),l<=r->r<=k->r-l<=f->(∀i,i<l->lt (p.getD i 0) (p.getD k 0)=true)->(∀i,r<=i->i<k->lt (p.getD k 0) (p.getD i 0)=true)->rX lt p k->
      (∀m,m<=k->(∀i,i<m->lt (p.getD i 0) (p.getD k 0)=true)->(∀i,m<=i->i<k->lt (p.getD k 0) (p.getD i 0)=true)->Q m s)->(kas_place p k f l r).kasWp (qU N lt) Q s
  | 0,l,r,h1,h2,h3,a,b,_,q=>q l (by lia) a fun i hi fK=>b i (by lia) fK
  | f+1,l,r,h1,h2,h3,a,b,as,q=>by
    unfold kas_place
    by_cases c:l≥r
    · rw[av c];exact q l (by lia) a fun i hi fK=>b i (by lia) fK
    · rw[aq c];have hm:(l+r) / 2<r:=by lia
      have hl:l<=(l+r) / 2:=by lia
      generalize (l+r) / 2=m at hm hl;refine⟨G.lt k hk,G.lt m (by lia),fun z=>by have:=G.inj k m hk (by lia) z;lia,?_⟩;cases e:lt (p.getD k 0) (p.getD m 0) with
      | true=>
        dsimp only;rw[av rfl];refine JS T G hk f l m hl (by lia) (by lia) a (fun i hi OA=>?_) as q
        by_cases c3:i=m
        · rw[c3];exact e
        · exact T.tr _ _ _ (G.lt k hk) (G.lt m (by lia)) (G.lt i (by lia)) e (as m i (by lia) OA)
      | false=>
        dsimp only;rw[aq (by simp)];have ne:p.getD k 0≠p.getD m 0:=fun z=>by have:=G.inj k m hk (by lia) z;lia
        have e2:=T.JQ _ _ (G.lt k hk) (G.lt m (by lia)) ne e;refine JS T G hk f (m+1) r (by lia) h2 (by lia) (fun i hi=>?_) b as q
        by_cases c3:i=m
        · rw[c3];exact e2
        · exact T.tr _ _ _ (G.lt i (by lia)) (G.lt m (by lia)) (G.lt k hk) (as i m (by lia) (by lia)) e2
theorem JT {p:Array Nat}{k d:Nat}(hk:k<p.size) (hd:d<=k) (j:Nat):(bubble p k d).getD j 0=if j=k-d then p.getD k 0 else if k-d<j/\j<=k then p.getD (j-1) 0 else p.getD j 0:=by
  have e:=getElem?_bubble hk d hd j
  by_cases c1:j=k-d
  · rw[av c1] at e ⊢;exact DE e
  · rw[aq c1] at e ⊢
    by_cases c2:k-d<j/\j<=k
    · rw[av c2] at e ⊢;exact DE e
    · rw[aq c2] at e ⊢;exact DE e
def qV (k d j:Nat):Nat:=if j=k-d then k else if k-d<j/\j<=k then j-1 else j
theorem JU {p:Array Nat}{k d:Nat}(hk:k<p.size) (hd:d<=k) (j:Nat):(bubble p k d).getD j 0=p.getD (qV k d j) 0:=by
  rw[JT hk hd];unfold qV
  by_cases c1:j=k-d
  · rw[av c1,av c1]
  · rw[aq c1,aq c1]
    by_cases c2:k-d<j/\j<=k
    · rw[av c2,av c2]
    · rw[aq c2,aq c2]
theorem JV {N k d j:Nat}(hk:k<N) (hj:j<N):qV k d j<N:=by
  unfold qV;split
  · exact hk
  · split<;>lia
theorem W4 {k d a b:Nat}(hd:d<=k) (e:qV k d a=qV k d b):a=b:=by
  unfold qV at e;split at e<;>split at e<;>(try split at e)<;>(try split at e)<;>lia
theorem Good.W6 {p:Array Nat}(G:Good N p) {k d:Nat}(hk:k<N) (hd:d<=k):Good N (bubble p k d):=by
  have hz:k<p.size:=by rw[G.sz];exact hk
  refine⟨by rw[bubble_size];exact G.sz,fun i hi=>?_,fun a b ha hb e=>?_⟩
  · rw[JU hz hd];exact G.lt _ (JV hk hi)
  · rw[JU hz hd,JU hz hd] at e;exact W4 hd (G.inj _ _ (JV hk ha) (JV hk hb) e)
theorem OB (T:vf N lt) {Q:Array Nat->au->Prop}:∀(f:Nat) (p:Array Nat) (k:Nat),Good N p->1<=k->k+f=N->rX lt p k->(∀p',Good N p'->rX lt p' N->Q p' s)->(kas_bin f p k).kasWp (qU N lt) Q s
  | 0,p,k,G,h1,hk,a,q=>q p G (by rw[←hk];exact a)
  | f+1,p,k,G,h1,hk,a,q=>by
    unfold kas_bin;rw[mC];have JW:k<N:=by lia
    refine JS T G JW k 0 k (c6 _) (aH _) (by lia) (fun i hi=>by lia) (fun i hi OA=>by lia) a fun m hm lo hi=>?_
    have hz:k<p.size:=by rw[G.sz];exact JW
    have hd:k-m<=k:=by lia
    refine OB T f _ (k+1) (G.W6 JW hd) (by lia) (by lia) (fun i j qk hj=>?_) q;rw[JT hz hd,JT hz hd];have em:k-(k-m)=m:=by lia
    rw[em]
    by_cases c1:i=m
    · rw[av c1,aq (by lia),av ⟨by lia,by lia⟩];exact hi (j-1) (by lia) (by lia)
    · rw[aq c1]
      by_cases c2:j=m
      · rw[av c2,aq (by lia)];exact lo i (by lia)
      · rw[aq c2]
        by_cases c3:m<i/\i<=k
        · rw[av c3,av ⟨by lia,by lia⟩];exact a _ _ (by lia) (by lia)
        · rw[aq c3]
          by_cases c4:m<j/\j<=k
          · rw[av c4];exact a _ _ (by lia) (by lia)
          · rw[aq c4];exact a _ _ (by lia) (by lia)
theorem OC:Good N (List.toArray (List.range N)):=by
  have e:∀i,i<N->(List.toArray (List.range N)).getD i 0=i:=fun i hi=>by
    rw[oz];simp[hi]
  refine⟨by simp,fun i hi=>by rw[e i hi];exact hi,fun i j hi hj z=>by rw[e i hi,e j hj] at z;exact z⟩
theorem W7 (T:vf N lt) (h2:2<=N) {Q:Array Nat->au->Prop}(q:∀p,Good N p->rX lt p N->Q p s):(kas_sort N).kasWp (qU N lt) Q s:=by
  unfold kas_sort;rw[mC];refine W0 T OC h2 fun m p m1 m2 G a=>?_
  dsimp only
  by_cases c:m<N
  · rw[av c];have e:max m 1=m:=by lia
    rw[e];exact OB T (N-m) p m G m1 (by lia) a q
  · rw[aq c];have e:m=N:=by lia
    subst e;exact q p G a
end
theorem OD {α:Type}{cmp DG:Nat->Nat->(Bool->au->Prop)->au->Prop}{s:au}{Q:α->au->Prop}(h:∀i j (C:Bool->au->Prop),cmp i j (fun b s'=>s'=s/\C b s) s->DG i j C s) (m:∀i j (C C':Bool->au->Prop),(∀b,C b s->C' b s)->cmp i j C s->cmp i j (fun b s'=>s'=s/\C' b s) s):∀(t:KasT α),t.kasWp cmp Q s->t.kasWp DG Q s
  | .ret a,q=>q
  | .ask i j k,q=>h i j _ (m i j (fun b s'=>(k b).kasWp cmp Q s') _ (fun b z=>OD h m (k b) z) q)
section
variable {prog:aP}{w:World}{A:Around}{E:aA}{s:au}
def pX (h:Heap) (d:ah) (us:List ai):Heap:=((h.update d (Obj.mapSeq fun _=>#[])).push (seqObj "tuple" us.toArray 0)).push (seqObj "list" #[] 0)
theorem W8 {h:Heap}{d b:ah}{us:List ai}{o:Obj}(n:b≠d) (e:h.get? b=some o):(pX h d us).get? b=some o:=by
  unfold pX;refine bq _ (bq _ ?_);rw[cA _ _ (aC n)];exact e
def GF (us:List ai) (lt:Nat->Nat->Bool) (out:List ai):Prop:=∃p:Array Nat,Good us.length p/\rX lt p us.length/\out=p.toList.map fun i=>us.getD i Value.none
theorem W9 {d:ah}{us:List ai}{n:Nat}{κ:SortKind}{lt:Nat->Nat->Bool}{P:PySem.Fin->au->Prop}(T:vf us.length lt) (hd:s.heap.get? d=some (seqObj "list" us.toArray n)) (small:us.length<64)
    (kind:2<=us.length->∀(Q:SortKind->au->Prop) (E':aA),Q κ { s with heap:=pX s.heap d us }->wpAny (model prog w) A (keyKind' us.toArray) Q E' { s with heap:=pX s.heap d us })
    (less:∀i j,i<us.length->j<us.length->i≠j->∀(Q:Bool->au->Prop),Q (lt i j) { s with heap:=pX s.heap d us }->wpAny (model prog w) A (keyLt' κ (us.getD i Value.none) (us.getD j Value.none)) Q (fun _ _=>False) { s with heap:=pX s.heap d us })
    (fin:∀out:List ai,out.length=us.length->GF us lt out->P (.done (.ret .none)) { s with heap:=sortedHeap s.heap d us out.toArray }) :
    wpAny (model prog w) A (Builtin.«list.sort» ⟨[.ref d],[]⟩) P E s:=by
  rw[list_sort_plain];have dl:d<s.heap.objs.size:=aK hd;refine aj (listItems_at hd rfl (aj (listUpdate_at hd rfl ?_)));obtain⟨n1,pD⟩:∃n1,(s.heap.update d (Obj.mapSeq fun _=>#[])).get? d=some (seqObj "list" #[] n1):=⟨_,get?_update_seq hd (fun _=>#[])⟩;refine aj (seqEpoch_at pD rfl (aj (wpAny_newTuple (aj (wpAny_newList (dO ?_))))));have j9:(pX s.heap d us).get? d=some (seqObj "list" #[] n1):=bq _ (bq _ pD);show wpAny (model prog w) A _ P E { s with heap:=pX s.heap d us };dsimp only;have zl:us.toArray.size=us.length:=by simp
  by_cases c:us.toArray.size<2
  · rw[av c,av c];refine aj (aD ?_);rw[StateT.run_pure];refine aj (aD ?_);dsimp only;have ez:(us.toArray.zip us.toArray).map (·.2)=us.toArray:=by
      apply Array.ext';simp[List.map_snd_zip]
    refine aj (seqEpoch_at j9 rfl (aj (listUpdate_at j9 rfl ?_ (hsz2:=by rw[Array.size_map];show (us.toArray.zip us.toArray).size<=_;rw[dW];simp;lia))));simp only [bne_self_eq_false,jP,dY];have go:=fin us rfl ⟨_,OC,fun i j a b=>by lia,by
      apply oW;intro i
      by_cases hi:i<us.length
      · simp[hi]
      · simp[ku hi]⟩
    refine aD ?_;have e2:(arrOf (SortSt.mk' general' (us.toArray.zip us.toArray) #[] 7 none)).map (·.2)=us.toArray:=ez;rw[e2];exact go
  · rw[aq c,aq c];have two:2<=us.length:=by lia
    refine aj (kind two _ _ ?_);refine aj (b7 (kat_run (E:=E) (ks:=us) (vs:=us) (G:=fun p s'=>s' = { s with heap:=pX s.heap d us }/\Good us.length p/\rX lt p us.length) (Q:=fun pN s'=>s' = { s with heap:=pX s.heap d us }/\failedOf pN=none/\∃p,Good us.length p/\rX lt p us.length/\arrOf pN=p.map (kas_item (us.toArray.zip us.toArray))) rfl two small (fun p pN s' _ e1 e2 g=>⟨g.1,e2,p,g.2.1,g.2.2,e1⟩) ?_) (fun r s' q=>?_) fun _ _ z=>z)
    · refine OD (cmp:=qU us.length lt) (fun i j C h=>?_) (fun i j C C' h q=>⟨q.1,q.2.1,q.2.2.1,rfl,h _ q.2.2.2⟩) _ (W7 T two fun p g a=>⟨rfl,g,a⟩);obtain⟨h1,h2,GG,_,h3⟩:=h;exact less i j h1 h2 GG _ h3
    · obtain⟨⟨⟩,pN⟩:=r;obtain⟨rfl,nf,p,g,a,ea⟩:=q;dsimp only at ea nf ⊢;have eo:(arrOf pN).map (·.2)=(p.toList.map fun i=>us.getD i Value.none).toArray:=by
        rw[ea];apply Array.ext';simp only [Array.toList_map,dj];refine fQ fun i _=>?_
        show (kas_item (us.toArray.zip us.toArray) i).2=_;rw[kat_item rfl]
      have el:(p.toList.map fun i=>us.getD i Value.none).length=us.length:=by rw[ay,jh,g.sz]
      refine aj (seqEpoch_at j9 rfl (aj (listUpdate_at j9 rfl ?_ (hsz2:=by rw[eo];show (p.toList.map fun i=>us.getD i Value.none).toArray.size<=_;rw[bV,el,dW];lia))));rw[nf];simp only [bne_self_eq_false,jP,dY];have go:=fin _ el ⟨p,g,a,rfl⟩;unfold sortedHeap at go;rw[←eo] at go;exact aD go
theorem Xa {l:ah}{us:List ai}{κ:SortKind}{lt:Nat->Nat->Bool}{Q:aA}(T:vf us.length lt) (small:us.length<64)
    (col:∀(E':aA) (Q':List ai->au->Prop),(∀h1 tk,(∀b o,s.heap.get? b=some o->h1.get? b=some o)->s.heap.objs.size<h1.objs.size->Q' us { s with heap:=h1,toks:=tk })->wpAny (model prog w) A.in1 (collect (.ref l)) Q' E' s)
    (kind:2<=us.length->∀(s':au),(∀b o,s.heap.get? b=some o->s'.heap.get? b=some o)->∀{A':Around}{E':aA}{Q':SortKind->au->Prop},Q' κ s'->wpAny (model prog w) A' (keyKind' us.toArray) Q' E' s')
    (less:∀i j,i<us.length->j<us.length->i≠j->∀(s':au),(∀b o,s.heap.get? b=some o->s'.heap.get? b=some o)->∀{Q':Bool->au->Prop},Q' (lt i j) s'->wpAny (model prog w) A.in1.in1 (keyLt' κ (us.getD i Value.none) (us.getD j Value.none)) Q' (fun _ _=>False) s')
    (fin:∀(D:ah) (out:List ai) (h':Heap) (tk c:Nat),out.length=us.length->GF us lt out->(∀b o,s.heap.get? b=some o->h'.get? b=some o)->s.heap.objs.size<=D->h'.get? D=some (seqObj "list" out.toArray c)->Q (.ref D) { s with heap:=h',toks:=tk }) :
    wpAny (model prog w) A (call (.builtin "sorted") [.ref l]) Q E s:=by
  refine Calls.call_function_entry kind_sorted plain_sorted entry_sorted (args_sorted1 _) ?_;show wpAny _ _ (Builtin.«sorted» ⟨[.ref l],[]⟩) _ _ _;unfold Builtin.«sorted»;refine aj (m:=checkCount "sorted" 1 1 _) (aD (aj (col _ _ fun h1 tk k1 z1=>aj (wpAny_newList ?_ (by rw[dW];lia)))));have hd:(h1.push (seqObj "list" us.toArray 0)).get? h1.objs.size=some (seqObj "list" us.toArray 0):=bH _ rfl;show wpAny _ _ _ _ _ { s with heap:=h1.push (seqObj "list" us.toArray 0),toks:=tk };have k2:∀b o,s.heap.get? b=some o->(h1.push (seqObj "list" us.toArray 0)).get? b=some o:=fun b o e=>bq _ (k1 b o e)
  have nb:∀b o,s.heap.get? b=some o->b≠h1.objs.size:=fun b o e=>aW (aK (k1 b o e))
  generalize h1.push (seqObj "list" us.toArray 0)=g at hd k2;have kp:∀b o,s.heap.get? b=some o->(pX g h1.objs.size us).get? b=some o:=fun b o e=>W8 (nb b o e) (k2 b o e)
  have kd:2<=us.length->∀(Q':SortKind->au->Prop) (E':aA),Q' κ { s with heap:=pX g h1.objs.size us,toks:=tk }->wpAny (model prog w) A.in1.in1 (keyKind' us.toArray) Q' E' { s with heap:=pX g h1.objs.size us,toks:=tk }:=fun two Q' E' q=>kind two { s with heap:=pX g h1.objs.size us,toks:=tk } kp q
  have ls:∀i j,i<us.length->j<us.length->i≠j->∀(Q':Bool->au->Prop),Q' (lt i j) { s with heap:=pX g h1.objs.size us,toks:=tk }->wpAny (model prog w) A.in1.in1 (keyLt' κ (us.getD i Value.none) (us.getD j Value.none)) Q' (fun _ _=>False) { s with heap:=pX g h1.objs.size us,toks:=tk }:=fun i j a b n Q' q=>less i j a b n { s with heap:=pX g h1.objs.size us,toks:=tk } kp q
  refine aj (dO (jR slot_list_sort ⟨_,hd,rfl⟩ entry_list_sort (W9 (s:={ s with heap:=g,toks:=tk }) T hd small kd ls fun out lo po=>⟨_,rfl,?_⟩) (args_list_sort _)));obtain⟨c,hc⟩:=sortedHeap_at (out:=out.toArray) hd;refine aD ⟨_,rfl,fin h1.objs.size out _ tk c lo po (fun b o e=>?_) (kG z1) hc⟩;have e2:=k2 b o e;rw[sortedHeap_old (nb b o e) (aK e2)];exact e2
end
theorem OE:∀{rs us:List Nat},rs.Nodup->(∀x∈rs,x∈us)->rs.length<=us.length
  | [],us,_,_=>c6 _
  | a::r,us,hn,hs=>by
    rw[fV] at hn;have ha:=hs a (by simp);have:=OE (rs:=r) (us:=us.erase a) hn.2 fun x hx=>by
      have:x≠a:=fun z=>hn.1 (z▸hx)
      exact (List.mem_erase_of_ne this).mpr (hs x (bz _ hx))
    rw[oB ha] at this;have:=qA ha;rw[fh];lia
abbrev SS:=Str×Str
def gT (p q:SS):Bool:=if p.1=q.1 then decide (p.2.cps.toList<q.2.cps.toList) else decide (p.1.cps.toList<q.1.cps.toList)
theorem Xb {a b:Str}(h:a.cps.toList=b.cps.toList):a=b:=by
  obtain⟨x⟩:=a;obtain⟨y⟩:=b;have:x=y:=Array.toList_inj.mp h;rw[this]
theorem JX {a b:Str}(h:a≠b) (n:¬a.cps.toList<b.cps.toList):b.cps.toList<a.cps.toList:=by
  rcases List.le_iff_lt_or_eq.mp (List.not_lt.mp n) with z | z
  · exact z
  · exact absurd (Xb z.symm) h
theorem GH (p:SS):gT p p=false:=by
  unfold gT;rw[av rfl];exact bg (gy _)
theorem OF {a b c:SS}(h1:gT a b=true) (h2:gT b c=true):gT a c=true:=by
  unfold gT at *
  by_cases c1:a.1=b.1
  · rw[av c1] at h1
    by_cases c2:b.1=c.1
    · rw[av c2] at h2;rw[av (c1.trans c2)];exact aR (mF (bC h1) (bC h2))
    · rw[aq c2] at h2;rw[aq (fun z=>c2 (c1.symm.trans z)),c1];exact h2
  · rw[aq c1] at h1
    by_cases c2:b.1=c.1
    · rw[aq (fun z=>c1 (z.trans c2.symm)),←c2];exact h1
    · rw[aq c2] at h2;have h3:=mF (bC h1) (bC h2);rw[aq (fun z=>by rw[z] at h3;exact gy _ h3)];exact aR h3
theorem Xc {a b:SS}(ne:a≠b) (h:gT a b=false):gT b a=true:=by
  unfold gT at *
  by_cases c1:a.1=b.1
  · rw[av c1] at h;rw[av c1.symm];exact aR (JX (fun z=>ne (Prod.ext c1 z)) (kY h))
  · rw[aq c1] at h;rw[aq (aC c1)];exact aR (JX c1 (kY h))
theorem Xd {ps:List SS}(nd:ps.Nodup):vf ps.length fun i j=>gT (ps.getD i ("","")) (ps.getD j ("","")):=by
  have e:∀i (h:i<ps.length),ps.getD i ("","")=ps[i]:=fun i h=>by rw[cV,aU h];rfl
  refine⟨fun a _=>GH _,fun a b c _ _ _ h1 h2=>OF h1 h2,fun a b ha hb n h=>Xc (fun z=>n ?_) h⟩;rw[e a ha,e b hb] at z;have pw:=kT.mp nd;rcases mh a b with c | c | c
  · exact absurd z (pw a b ha hb c)
  · exact c
  · exact absurd z.symm (pw b a hb ha c)
theorem Xe {us out:List ai}{lt:Nat->Nat->Bool}{α:Type}(xs:List α) (d:α) (h:GF us lt out) (hl:us.length=xs.length):∃ys:List α,ys.Perm xs/\ys.length=out.length/\(∀i:Nat,i<ys.length->∃j,j<xs.length/\out[i]? = us[j]?/\ys[i]? = xs[j]?)/\
    ∀i j (hi:i<ys.length) (hj:j<ys.length),i<j->∃a b,a<xs.length/\b<xs.length/\ys[i]? = xs[a]?/\ys[j]? = xs[b]?/\lt a b=true:=by
  obtain⟨p,G,A,rfl⟩:=h;rw[hl] at G A;have pl:p.toList.length=xs.length:=by rw[jh,G.sz]
  have pg:∀i (h:i<xs.length),p.toList[i]? = some (p.getD i 0):=fun i h=>by
    have hi:i<p.size:=by rw[G.sz];exact h
    rw[oJ,gY hi,oz,gY hi];rfl
  have pr:p.toList.Perm (List.range xs.length):=by
    rw[List.perm_ext_iff_of_nodup ?_ List.nodup_range]
    · intro a;rw[dH];constructor
      · intro h;obtain⟨i,hi⟩:=e9.mp h;have eT:=(bU.mp hi).1;rw[pg i (by lia)] at hi;cases hi;exact G.lt i (by lia)
      · intro h;have inj:p.toList.Nodup:=by
          rw[List.nodup_iff_pairwise_ne,kT];intro i j hi hj qk z;have e1:=pg i (by lia);have e2:=pg j (by lia);rw[aU hi] at e1;rw[aU hj] at e2;have:=G.inj i j (by lia) (by lia) ((cD e1).symm.trans (z.trans (cD e2)));lia
        have sub:∀x∈p.toList,x∈List.range xs.length:=fun x hx=>by
          obtain⟨i,hi⟩:=e9.mp hx;have eT:=(bU.mp hi).1;rw[pg i (by lia)] at hi;cases hi;exact dH.mpr (G.lt i (by lia))
        refine e7 fun n=>?_
        have:(p.toList).length<=((List.range xs.length).erase a).length:=by
          refine OE inj fun x hx=>?_
          rw[List.Nodup.mem_erase_iff List.nodup_range];exact⟨fun z=>n (z▸hx),sub x hx⟩
        rw[oB (dH.mpr h),iG,pl] at this;lia
    · rw[List.nodup_iff_pairwise_ne,kT];intro i j hi hj qk z;have e1:=pg i (by lia);have e2:=pg j (by lia);rw[aU hi] at e1;rw[aU hj] at e2;have:=G.inj i j (by lia) (by lia) ((cD e1).symm.trans (z.trans (cD e2)));lia
  have ex:xs=(List.range xs.length).map fun i=>xs.getD i d:=by
    apply oW;intro i
    by_cases hi:i<xs.length
    · simp[hi]
    · simp[ku hi]
  refine⟨p.toList.map fun i=>xs.getD i d,?_,by rw[ay,ay],fun i hi=>?_,fun i j hi hj qk=>?_⟩
  · have:=pr.map fun i=>xs.getD i d
    rw[←ex] at this;exact this
  · rw[ay] at hi;have dz:=G.lt i (by lia);refine⟨p.getD i 0,dz,?_,?_⟩
    · rw[aX,pg i (by lia)];show some (us.getD _ _)=_;rw[cV,aU (show p.getD i 0<us.length by lia)];rfl
    · rw[aX,pg i (by lia)];show some (xs.getD _ _)=_;rw[cV,aU dz];rfl
  · rw[ay] at hi hj;have h1:=G.lt i (by lia);have h2:=G.lt j (by lia);refine⟨p.getD i 0,p.getD j 0,h1,h2,?_,?_,A i j qk (by lia)⟩
    · rw[aX,pg i (by lia)];show some (xs.getD _ _)=_;rw[cV,aU h1];rfl
    · rw[aX,pg j (by lia)];show some (xs.getD _ _)=_;rw[cV,aU h2];rfl
section
variable {prog:aP}{w:World}{A:Around}{E:aA}{s:au}
def lA (h:Heap) (v:ai) (p:SS):Prop:=∃a t u,v = .ref a/\IsTup h a #[.str p.1 t,.str p.2 u]
theorem lA.kept {h h':Heap}{v:ai}{p:SS}(t:lA h v p) (k:∀b o,h.get? b=some o->h'.get? b=some o):lA h' v p:=by
  obtain⟨a,x,y,rfl,o,ho,hc,n,hd⟩:=t;exact⟨a,x,y,rfl,o,k a o ho,hc,n,hd⟩
theorem Xf {v1 v2:ai}{p q:SS}{Q:Bool->au->Prop}(h1:lA s.heap v1 p) (h2:lA s.heap v2 q) (h:Q (gT p q) s):wpAny (model prog w) A (keyLt' (tuples' true) v1 v2) Q (fun _ _=>False) s:=by
  obtain⟨a,t1,u1,rfl,oa,Aj,_,na,Dz⟩:=h1;obtain⟨b,t2,u2,rfl,ob,Ak,_,nb,iO⟩:=h2;refine kat_lt Aj Dz Ak iO ?_;show KatLex prog w A true false Q [(Value.str p.1 t1,Value.str q.1 t2),(Value.str p.2 u1,Value.str q.2 u2)] 0 s;refine kat_cons (mj ?_);unfold gT at h
  by_cases c:p.1=q.1
  · rw[aR c];rw[av c] at h;refine kat_yes (kat_cons (mj ?_))
    by_cases c2:p.2=q.2
    · rw[aR c2];refine kat_yes (kat_nil ?_);rw[c2,bg (gy _)] at h;exact h
    · rw[bg c2];refine kat_no ?_;show wpAny _ _ (oneLt' false (Value.str p.2 u1) (Value.str q.2 u2)) _ _ _;exact kat_one _ _ (lt_str h)
  · rw[bg c];rw[aq c] at h;refine kat_no ?_;show wpAny _ _ (oneLt' true (Value.str p.1 t1) (Value.str q.1 t2)) _ _ _;exact oneLt_str h
theorem Xg {vs:List ai}{ps:List SS}{Q:SortKind->au->Prop}(h:Paired (lA s.heap) vs ps) (mP:0<ps.length) (q:Q (tuples' true) s):wpAny (model prog w) A (keyKind' vs.toArray) Q E s:=by
  obtain⟨fs,kt,hl,hf⟩:∃fs,KatTups s.heap vs fs/\fs.length=ps.length/\∀v∈fs,∃x t,v=Value.str x t:=by
    clear mP
    induction h with
    | nil=>exact⟨[],.nil,rfl,by simp⟩
    | cons h _ ih=>
      obtain⟨fs,k,l,f⟩:=ih;obtain⟨a,t,u,rfl,o,ho,hc,n,hd⟩:=h;refine⟨_::fs,.cons ho hc hd rfl k,by simp[l],fun v hv=>?_⟩;rcases aJ.mp hv with rfl | hv
      · exact⟨_,_,rfl⟩
      · exact f v hv
  refine kat_kind (T:=.type "str") kt (by lia) (fun v hv=>?_) rfl q;obtain⟨x,t,rfl⟩:=hf v hv;exact Looks.now
end
theorem DH {α β:Type}{F:α->β->Prop}:∀{as:List α}{bs:List β},as.length=bs.length->(∀(i:Nat) a b,as[i]? = some a->bs[i]? = some b->F a b)->Paired F as bs
  | [],[],_,_=>.nil
  | [],_::_,h,_=>by simp at h
  | _::_,[],h,_=>by simp at h
  | a::as,b::bs,h,k=>.cons (k 0 a b rfl rfl) (DH (by simpa using h) fun i a b e1 e2=>k (i+1) a b (by simpa using e1) (by simpa using e2))
theorem Xh {us out:List ai}{lt:Nat->Nat->Bool}{α:Type}(as:List ah) (xs:List α) (d:α) (hv:Vals (as.map V.ref) us) (h:GF us lt out) (la:as.length=xs.length) :
    ∃(bs:List ah) (ys:List α),Vals (bs.map V.ref) out/\bs.length=ys.length/\ys.Perm xs/\(∀(i:Nat) b y,bs[i]? = some b->ys[i]? = some y->∃j:Nat,as[j]? = some b/\xs[j]? = some y)/\ys.Pairwise (fun y z=>∃(a b:Nat),xs[a]? = some y/\xs[b]? = some z/\lt a b=true):=by
  have lu:us.length=(as.zip xs).length:=by
    have:=hv.length;rw[ay] at this;rw[ia];lia
  obtain⟨zs,pm,lz,at',up⟩:=Xe (as.zip xs) (0,d) h lu;have sn:(as.zip xs).map Prod.snd=xs:=List.map_snd_zip (by lia);refine⟨zs.map Prod.fst,zs.map Prod.snd,?_,by rw[ay,ay],by have:=pm.map Prod.snd;rwa [sn] at this,fun i b y e1 e2=>?_,?_⟩
  · refine DH (by rw[ay,ay,lz]) fun i x v e1 e2=>?_
    rw[aX,aX] at e1;cases ez:zs[i]? with
    | none=>rw[ez] at e1;cases e1
    | some z=>
      rw[ez] at e1;cases e1;obtain⟨j,hj,o1,o2⟩:=at' i (bU.mp ez).1;rw[ez] at o2;rw[e2] at o1;obtain⟨h1,h2⟩:=jf.mp o2.symm;obtain⟨v',e3,r⟩:=hv.get (i:=j) (x:=V.ref z.1) (by rw[aX,h1];rfl);rw[←o1] at e3;cases e3;exact r
  · rw[aX] at e1 e2;cases ez:zs[i]? with
    | none=>rw[ez] at e1;cases e1
    | some z=>
      rw[ez] at e1 e2;cases e1;cases e2;obtain⟨j,hj,_,o2⟩:=at' i (bU.mp ez).1;rw[ez] at o2;exact⟨j,jf.mp o2.symm⟩
  · rw[kT];intro i j hi hj qk;rw[ay] at hi hj;obtain⟨a,b,ha,hb,e1,e2,l⟩:=up i j hi hj qk;refine⟨a,b,?_,?_,l⟩
    · rw[aU hi] at e1;have:=(jf.mp e1.symm).2;rw[List.getElem_map];exact this
    · rw[aU hj] at e2;have:=(jf.mp e2.symm).2;rw[List.getElem_map];exact this
section
variable {X:Cx}
theorem Inv.DI {pins:aG}{σ:St}{H:Hp}{s:au}{K:aE}(hK:X.K=K) (I:Inv X pins σ H s) {a:ah}{p:SS}(t:bF K H a [.str p.1,.str p.2]):lA s.heap (.ref a) p:=by
  subst hK;obtain⟨ts,rt,it,_⟩:=I.tuple t;obtain⟨u1,u2,rfl,⟨t1,rfl⟩,⟨t2,rfl⟩⟩:=zN rt;exact⟨a,t1,t2,rfl,it⟩
end
end L2
namespace L2
open PySem PySem.Spec PyProof.Rows
section
variable {X:Cx}
theorem Xi:IG X "dict.update" (fun x vs H Q=>∃(d o:ah) (kvs more:List (Key×V)),x = .ref d/\vs = [.ref o]/\d≠o/\H d=some (.dK kvs)/\Rd H o (.dK more)/\kvs.length+more.length<=1000/\Q .cQ (upd H d (.dK (Bs kvs more)))):=by
  intro pins s σ H x vs v us Q I rx rv h;obtain⟨d,o,kvs,more,rfl,rfl,ne,hd,ho,hz,q⟩:=h;cases rx;obtain⟨u,rfl,ru⟩:=pO rv;cases ru;obtain⟨z1,y1,Xj,r1,d1⟩:=IM I.bu hd;obtain⟨z2,y2,Xk,r2,d2⟩:=wc I.bu ho;have hs:sizeLine=16777216:=dW;refine call_meetsIn PySem.F.slot_dict_update d1.typeIs PySem.F.entry_dict_update (PySem.F.args_dict_update_2 _ _) (meets_dict_update (qj X.prog X.w) d o ne y2) ⟨Xj,Xk,d1,d2,by rw[←r1.length,←r2.length];lia,fun h' we _ sb=>?_⟩;have he:∃q,h'.get? d=some q:=let ⟨q,_,_,hq,_⟩:=we;⟨q,hq⟩
  have ml:=M1 more kvs;exact⟨.cQ,_,FN (t':=s.toks) I (by rw[hd];exact True.intro) sb he (IQ (by lia) y1 (KV.merge r2 r1) we),rfl,q⟩
theorem Xl (K:aE) (hK:X.K=K) (hc:X.calm=true):mH X (.builtin "any") (fun xs H Q=>∃(a:ah) (bs:List Bool),xs = [V.ref a]/\aI K H a (bs.map V.bl)/\Q (.bl (bs.any id)) H):=by
  subst hK;intro pins s σ H xs us Q I r h;obtain⟨a,bs,rfl,ha,q⟩:=h;obtain⟨u,rfl,ru⟩:=pO r;cases ru;obtain⟨its,rv,pl,hz⟩:=I.list ha;have e:its=bs.map Value.bool:=Jh rv;subst e;have hl:=pl.isList;have dz:a<s.heap.objs.size:=by obtain⟨_,e,_⟩:=hl;exact aK e
  refine call_any_walk (kr hl ?_);refine⟨s.heap.objs.size,[s.heap.objs.size,a],[s.heap.objs.size],(bs.map Value.bool).toArray.size,_,_,fun i=>(bs[i]?).getD false,rfl,Walks.list (A:=X.A.in1) (I.ok.hd hc) _ a (aW dz) (bs.map Value.bool).toArray,
    ⟨⟨_,bH _ rfl,rfl,rfl⟩,hl.push _⟩,fun i v s' Q' E' hP hQ=>?_,fun h' tk hk=>?_⟩
  · have qp:(bs.map Value.bool)[i]? = some v:=by simpa using hP
    rw[aX] at qp;cases e:bs[i]? with
    | none=>rw[e] at qp;cases qp
    | some b=>
      rw[e] at qp;cases qp;simp only [e,oY] at hQ;exact jQ hQ
  · have e:((List.range (bs.map Value.bool).toArray.size).any fun i=>(bs[i]?).getD false)=bs.any id:=by
      rw[jD,gI,gI];have z:(bs.map Value.bool).toArray.size=bs.length:=by simp
      rw[z];constructor
      · rintro ⟨i,hi,h⟩;have hi:=dH.mp hi;rw[aU hi] at h;exact⟨bs[i],jl hi,h⟩
      · rintro ⟨b,hb,h⟩;obtain⟨i,hi,rfl⟩:=lY.mp hb;refine⟨i,dH.mpr hi,?_⟩;rw[aU hi];exact h
    rw[e];refine⟨.bl (bs.any id),H,I.kept fun b o q'=>?_,rfl,q⟩;have hb:=aK q';exact hk b o (fun z=>absurd (ji.mp z) (aW hb)) (bq _ q')
inductive qW (ts:TS) (D:Ends) (σ:St):Hp->Prop
  | go {H:Hp}(h:ts D σ H):qW ts D σ H
  | gp {H:Hp}(a:ah) (kvs:List (Key×V)) (ha:H a=some (.dK kvs)) (k:∀ob,qW ts D σ (upd H a (.gp ob (.dK kvs)))):qW ts D σ H
def Xm (ts:TS):TS:=fun D σ H=>qW ts D σ H
theorem Xn {st:Stmt}{ts:TS}(h:PS X st ts):PS X st (Xm ts):=by
  intro pins s σ H D I q;have go:∀{H:Hp},qW ts D σ H->Inv X pins σ H s->wpAny (model X.prog X.w) X.A (exec st X.env) (SP X pins D) X.xe s:=fun q=>by
    induction q with
    | go q=>intro I;exact h pins s σ _ D I q
    | gp a kvs ha k ih=>
      intro I;obtain⟨ob,I'⟩:=I.frozen ha;exact ih ob I'
  exact go q I
theorem Xo {K:aE}(hK:X.K=K) (hc:X.calm=true):mH X (.builtin "sorted") (fun xs H Q=>∃(p:ah) (kvs:List (List Key×V)) (ps:List SS),xs = [V.ref p]/\Rd H p (.dT kvs)/\(kvs.map fun kv=>kv.1)=ps.map (fun q=>[Sum.inr q.1,Sum.inr q.2])/\ps.Nodup/\ps.length<64/\
    ∀(D:ah) (bs:List ah) (qs:List SS),H D=none->Paired (fun a (p:SS)=>H a=some (.tup [.str p.1,.str p.2])) bs qs->qs.Perm ps->qs.Pairwise (fun a b=>gT a b=true)->Q (.ref D) (upd H D (.lst (bs.map V.ref)))):=by
  subst hK;intro pins s σ H xs us Q I r h;obtain⟨p,kvs,ps,rfl,hp,hk,nd,h64,q⟩:=h;obtain⟨u,rfl,ru⟩:=pO r;cases ru;obtain⟨z,hd,xs,rel,o,es,ep,h1,h2,h3,h4,h5⟩:=(show bG X.prog X.w H s.heap p (.dT kvs) from IL I.bu hp);have lkx:kvs.length=xs.length:=Paired.length rel;have lkp:kvs.length=ps.length:=by have:=bX List.length hk;simpa using this
  have les:es.size=xs.length:=by
    have:=bX List.length h4;rw[jh,ay] at this;exact this
  have DJ:es.toList.map (·.key)=xs.map fun x=>Value.ref x.2.1:=by
    rw[h4,dj];rfl
  have OG:∀i,i<ps.length->∃x,xs[i]? = some x/\∃q,ps[i]? = some q/\H x.2.1=some (.tup [.str q.1,.str q.2]):=fun i hi=>by
    have hx:i<xs.length:=by lia
    have Gr:i<kvs.length:=by lia
    refine⟨xs[i],aU hx,ps[i],aU hi,?_⟩;have f:=uz rel (aU Gr) (aU hx);have e:(kvs.map fun kv=>kv.1)[i]? = some [Sum.inr ps[i].1,Sum.inr ps[i].2]:=by rw[hk,aX,aU hi];rfl
    rw[aX,aU Gr] at e;have e:kvs[i].1 = [Sum.inr ps[i].1,Sum.inr ps[i].2]:=cD e;have:=f.2.1;rw[e] at this;exact this
  have rv:Vals ((xs.map fun x=>x.2.1).map V.ref) (xs.map fun x=>Value.ref x.2.1):=DH (by simp) fun i a b e1 e2=>by
    rw[aX,aX] at e1;rw[aX] at e2;cases ex:xs[i]? with
    | none=>rw[ex] at e1;cases e1
    | some x=>
      rw[ex] at e1 e2;cases e1;cases e2;rfl
  have hT:Paired (lA s.heap) (xs.map fun x=>Value.ref x.2.1) ps:=DH (by rw[ay];lia) fun i v p e1 e2=>by
    obtain⟨x,ex,q',eq,hx⟩:=OG i (by have:=(bU.mp e2).1;exact this);rw[aX,ex] at e1;cases e1;rw[e2] at eq;cases eq;exact I.DI rfl (bF.of hx)
  have li:(xs.map fun x=>Value.ref x.2.1).length=ps.length:=by rw[ay];lia
  have T:=Xd nd;rw[←li] at T;have gd:∀i (h:i<ps.length),ps[i]? = some (ps.getD i ("","")):=fun i h=>by rw[cV,aU h];rfl
  have gi:∀i (h:i<(xs.map fun x=>Value.ref x.2.1).length),(xs.map fun x=>Value.ref x.2.1)[i]? = some ((xs.map fun x=>Value.ref x.2.1).getD i Value.none):=fun i h=>by rw[cV,aU h];rfl
  have col:∀(E':aA) (Q':List ai->au->Prop),(∀h1 tk,(∀b o,s.heap.get? b=some o->h1.get? b=some o)->s.heap.objs.size<h1.objs.size->Q' (xs.map fun x=>Value.ref x.2.1) { s with heap:=h1,toks:=tk })->wpAny (model X.prog X.w) X.A.in1 (collect (.ref p)) Q' E' s:=fun E' Q' q'=>by
    refine Ws (A:=X.A.in1) (I.ok.hd hc) hd ⟨o,h1,h2,h3⟩ (by rw[dW];lia) fun h1 tk k sz=>?_
    rw[DJ];exact q' h1 tk k sz
  refine Xa (κ:=tuples' true) T (by lia) col (fun two s' kp _ _ Q' q'=>Xg (Paired.gP hT fun v p t=>t.kept kp) (by lia) q') (fun i j hi hj n s' kp Q' q'=>Xf ((uz hT (gi i hi) (gd i (by lia))).kept kp) ((uz hT (gi j hj) (gd j (by lia))).kept kp) q') fun D out h' tk c lo po kp hD hg=>?_
  obtain⟨bs,ys,vb,lb,pm,ab,up⟩:=Xh (xs.map fun x=>x.2.1) ps ("","") rv po (by rw[ay];lia);have hn:H D=none:=I.bu.fresh hD;refine⟨.ref D,_,I.laid (t':=tk) (h':=h') (a:=D) (o:=.lst (bs.map V.ref)) kp hD ⟨?_,out,c,vb,by rw[hg]⟩,rfl,q D bs ys hn ?_ pm (up.imp fun ⟨a,b,e1,e2,l⟩=>?_)⟩
  · rw[ay,lb,pm.length_eq,dW];lia
  · refine DH lb fun i b y e1 e2=>?_
    obtain⟨j,g1,g2⟩:=ab i b y e1 e2;obtain⟨x,ex,q',eq,hx⟩:=OG j (by exact (bU.mp g2).1);rw[aX,ex] at g1;cases g1;rw[g2] at eq;cases eq;exact hx
  · rw[cV,cV,e1,e2] at l;exact l
end
end L2
namespace Dm
open PySem PySem.NumText L2
theorem Rc.refl {ln:Ln}{s:Str}:Rc ln s 0 s:=⟨[],.nil,rfl⟩
theorem OH {ln:Ln}{s:Str}:∀{n:Nat}{v:Str},Rc ln s (n+1) v->∃l r,(l,r)∈ln s/\Rc ln l n v
  | 0,v,h=>by
    obtain⟨u,r,h1,h2⟩:=h.succ;have:=h1.zero;subst this;exact⟨v,r,h2,Rc.refl⟩
  | n+1,v,h=>by
    obtain⟨u,r,h1,h2⟩:=h.succ;obtain⟨l,r',h3,h4⟩:=OH h1;exact⟨l,r',h3,h4.step h2⟩
theorem OI {ln:Ln}{s l:Str}{r:ah}(h:(l,r)∈ln s):∀{n:Nat}{v:Str},Rc ln l n v->Rc ln s (n+1) v
  | 0,v,q=>by
    have:=q.zero;subst this;exact Rc.refl.step h
  | n+1,v,q=>by
    obtain⟨u,r',h1,h2⟩:=q.succ;exact (OI h h1).step h2
def kM (ln:Ln) (x y:Str):Prop:=∃j,1<=j/\Rc ln x j y
theorem xH {ln:Ln}{x y:Str}:kM ln x y↔∃l r,(l,r)∈ln x/\(l=y\/kM ln l y):=by
  constructor
  · rintro ⟨j,h1,h⟩;obtain⟨n,rfl⟩:∃n,j=n+1:=⟨j-1,by lia⟩;obtain⟨l,r,h2,h3⟩:=OH h;refine⟨l,r,h2,?_⟩;cases n with
    | zero=>exact .inl h3.zero.symm
    | succ n=>exact .inr ⟨n+1,by lia,h3⟩
  · rintro ⟨l,r,h,rfl | ⟨j,h1,h2⟩⟩
    · exact⟨1,by lia,Rc.refl.step h⟩
    · exact⟨j+1,by lia,OI h h2⟩
theorem Rc.inKeys {ln:Ln}{keys:List Str}(cl:∀k∈keys,∀l r,(l,r)∈ln k->l∈keys) {x:Str}(hx:x∈keys):∀{j:Nat}{y:Str},Rc ln x j y->y∈keys
  | 0,y,h=>by have:=h.zero;subst this;exact hx
  | j+1,y,h=>by
    obtain⟨u,r,h1,h2⟩:=h.succ;exact cl u (Rc.inKeys cl hx h1) y r h2
def fL {α:Type} [DecidableEq α] (M:List α) (x:α):List α:=if x∈M then M else M++[x]
theorem JY {α:Type} [DecidableEq α] {M:List α}{x y:α}:y∈fL M x↔y∈M\/y=x:=by
  unfold fL;split
  · next h=>
    constructor
    · exact .inl
    · rintro (z | rfl)
      · exact z
      · exact h
  · rw[br,ji]
theorem JZ {α:Type} [DecidableEq α] {M:List α}{x:α}(h:M.Nodup):(fL M x).Nodup:=by
  unfold fL;split
  · exact h
  · next n=>
    rw[fS];refine⟨h,by simp,fun a ha b hb e=>?_⟩;have:b=x:=by simpa using hb
    subst this;subst e;exact n ha
def By (M M2:List Str):List Str:=M2.foldl fL M
theorem OJ {y:Str}:∀{M2 M:List Str},y∈By M M2↔y∈M\/y∈M2
  | [],M=>by simp[By]
  | x::r,M=>by
    show y∈By (fL M x) r↔_;rw[OJ,JY,aJ,or_assoc]
theorem OL:∀{M2 M:List Str},M.Nodup->(By M M2).Nodup
  | [],_,h=>h
  | x::r,M,h=>OL (M2:=r) (M:=fL M x) (JZ h)
theorem OM {M:List Str}{x:Str}:putK (dV M ig) (Sum.inr x) (.bl true)=dV (fL M x) ig:=by
  unfold fL;split
  · next h=>
    rw[Gs h];refine sW fun z _=>?_
    split<;>rfl
  · next h=>exact JJ h
theorem ON:∀{M2 M:List Str},Bs (dV M ig) (dV M2 ig)=dV (By M M2) ig
  | [],M=>rfl
  | x::r,M=>by
    show Bs (putK (dV M ig) (Sum.inr x) (.bl true)) (dV r ig)=_;rw[OM,ON];rfl
theorem OO {α:Type} [DecidableEq α]:∀{rs us:List α},rs.Nodup->(∀x∈rs,x∈us)->rs.length<=us.length
  | [],us,_,_=>c6 _
  | a::r,us,hn,hs=>by
    rw[fV] at hn;have ha:=hs a (by simp);have:=OO (rs:=r) (us:=us.erase a) hn.2 fun x hx=>by
      have:x≠a:=fun z=>hn.1 (z▸hx)
      exact (List.mem_erase_of_ne this).mpr (hs x (bz _ hx))
    rw[oB ha] at this;have:=qA ha;rw[fh];lia
structure Dp (H:Hp) (pd:ah) (ob:Obj) (os:List Str) (fY:Str->List Str) (ad:Str->ah) (obs:Str->Obj):Prop where
  d:H pd=some (.gp ob (.dK (dV os fun k=>.ref (ad k))))
  e:∀k∈os,H (ad k)=some (.gp (obs k) (.dK (dV (fY k) ig)))
theorem Dp.same {H H':Hp}{pd:ah}{ob:Obj}{os:List Str}{fY:Str->List Str}{ad:Str->ah}{obs:Str->Obj}(h:Dp H pd ob os fY ad obs) (s:ak H H'):Dp H' pd ob os fY ad obs:=⟨s _ _ h.d,fun k hk=>s _ _ (h.e k hk)⟩
theorem Xp {H:Hp}{a:ah}{ob:Obj}{M:List Str}(h:H a=some (.gp ob (.dK (dV M ig)))) (y:Str):cz H a (.str y) (if y∈M then some (.bl true) else none):=by
  refine .inl ⟨_,Sum.inr y,.inr ⟨ob,h⟩,rfl,?_⟩
  by_cases c:y∈M
  · rw[av c,pB c];rfl
  · rw[aq c,Af c]
theorem OP {ts:TS}{D:Ends}{σ:St}{ad:Str->ah}{f:Str->List (Key×V)}:∀(L:List Str) (H:Hp),(∀k∈L,H (ad k)=some (.dK (f k)))->(∀k∈L,∀k'∈L,ad k=ad k'->k=k')->L.Nodup->
    (∀(H':Hp) (obs:Str->Obj),(∀k∈L,H' (ad k)=some (.gp (obs k) (.dK (f k))))->(∀b,(∀k∈L,b≠ad k)->H' b=H b)->qW ts D σ H')->qW ts D σ H
  | [],H,_,_,_,k=>k H (fun _=>default) (by simp) fun b _=>rfl
  | x::r,H,h,inj,nd,k=>by
    rw[fV] at nd;have ne:∀z∈r,ad z≠ad x:=fun z hz e=>nd.1 ((inj z (bz _ hz) x (by simp) e)▸hz)
    refine .gp (ad x) (f x) (h x (by simp)) fun ob=>?_
    refine OP r _ (fun z hz=>by rw[zg (ne z hz)];exact h z (bz _ hz)) (fun a ha b hb=>inj a (bz _ ha) b (bz _ hb)) nd.2 fun H' obs h1 h2=>?_
    refine k H' (fun z=>if z=x then ob else obs z) (fun z hz=>?_) fun b hb=>?_
    · by_cases c:z=x
      · subst c;rw[av rfl,h2 (ad z) fun w hw=>aC (ne w hw),zd]
      · rw[aq c];exact h1 z ((aJ.mp hz).resolve_left c)
    · rw[h2 b fun w hw=>hb w (bz _ hw),zg (hb x (by simp))]
def GI (ln:Ln) (keys:List Str) (p:SS):Prop:=p.1∈keys/\(∃r,(p.2,r)∈ln p.1)/\¬∃t,kM ln p.1 t/\kM ln t p.2
def dP (ps:List SS):List (List Key×V):=ps.map fun p=>([Sum.inr p.1,Sum.inr p.2],V.bl true)
theorem Xq (ps:List SS):((dP ps).map fun kv=>kv.1)=ps.map fun q=>[Sum.inr q.1,Sum.inr q.2]:=by unfold dP;rw[dj];rfl
theorem Xr {ps:List SS}{p:SS}:putK (dP ps) [Sum.inr p.1,Sum.inr p.2] (.bl true)=dP (fL ps p):=by
  have inj:∀a b:SS,([Sum.inr a.1,Sum.inr a.2]:List Key) = [Sum.inr b.1,Sum.inr b.2]↔a=b:=fun a b=>by
    constructor
    · intro h;simp only [List.cons.injEq,Sum.inr.injEq,and_true] at h;exact Prod.ext h.1 h.2
    · rintro rfl;rfl
  have any:((dP ps).any fun kv=>decide (kv.1 = [Sum.inr p.1,Sum.inr p.2]))=decide (p∈ps):=by
    rw[jD,gI,gx];unfold dP;constructor
    · rintro ⟨x,hx,e⟩;obtain⟨q,hq,rfl⟩:=aM.mp hx;exact ((inj q p).mp (bC e))▸hq
    · intro h;exact⟨_,aM.mpr ⟨p,h,rfl⟩,aR rfl⟩
  unfold putK fL;rw[any]
  by_cases c:p∈ps
  · rw[av (aR c),av c];unfold dP;rw[dj];refine fQ fun q _=>?_
    show (if ([Sum.inr q.1,Sum.inr q.2]:List Key) = [Sum.inr p.1,Sum.inr p.2] then _ else _)=_;split<;>rfl
  · rw[aq (by rw[bg c];exact bJ),aq c];unfold dP;rw[aV];rfl
theorem OQ:∀{a b:List SS},a.Pairwise (fun x y=>gT x y=true)->b.Pairwise (fun x y=>gT x y=true)->(∀x,x∈a↔x∈b)->a=b
  | [],[],_,_,_=>rfl
  | [],y::b,_,_,h=>by have:=(h y).mpr (by simp);cases this
  | x::a,[],_,_,h=>by have:=(h x).mp (by simp);cases this
  | x::a,y::b,ha,hb,h=>by
    rw[g7] at ha hb;have J0:∀{p q:SS},gT p q=true->gT q p=true->False:=fun h1 h2=>by
      have:=OF h1 h2;rw[GH] at this;cases this
    have e:x=y:=by
      rcases aJ.mp ((h x).mp (by simp)) with z | z
      · exact z
      · rcases aJ.mp ((h y).mpr (by simp)) with w | w
        · exact w.symm
        · exact (J0 (ha.1 y w) (hb.1 x z)).elim
    subst e;have:a=b:=OQ ha.2 hb.2 fun z=>by
      have:=h z;rw[aJ,aJ] at this;constructor
      · intro hz;rcases this.mp (.inr hz) with rfl | w
        · have:=ha.1 z hz;rw[GH] at this;cases this
        · exact w
      · intro hz;rcases this.mpr (.inr hz) with rfl | w
        · have:=hb.1 z hz;rw[GH] at this;cases this
        · exact w
    rw[this]
def OR (p:SS):List V:=[.str p.1,.str p.2]
abbrev rY (H:Hp):List ah->List SS->Prop:=Paired fun a p=>H a=some (.tup (OR p))
theorem rY.eF {H:Hp}{as:List ah}{ps:List SS}(t:rY H as ps):bT H as (ps.map OR):=by
  induction t with
  | nil=>exact .nil
  | cons h _ ih=>exact .cons h ih
theorem OS {ts cR:List aS}(h:∀y z,Nb ts y z↔Nb cR y z) {x y:Str}(c:Cn ts x y):Cn cR x y:=by
  induction c with
  | refl=>exact .refl _
  | step _ n ih=>exact ih.step ((h _ _).mp n)
theorem DK {ts cR:List aS}(h:∀y z,Nb ts y z↔Nb cR y z):aO ts=aO cR:=by
  funext x;exact VW (OS h ((yG ts).to x)) fun y c=>(yG ts).le x y (OS (fun a b=>(h a b).symm) c)
def OT (x:Str):List Str:=(Txt.split x " ").filter fun y=>!decide (y = "")
def OU:List Str->Bool
  | []=>true
  | y::_=>Txt.startswith y ";"
theorem Xs (x:Str) (ks:List Str):xq (.str x) (ks.map V.str)=decide (x∈ks):=by
  unfold xq
  induction ks with
  | nil=>rfl
  | cons k r ih=>
    rw[dJ,gJ,ih];show ((k == x)||decide (x∈r))=_
    by_cases h:k=x
    · subst h;simp
    · rw[fP.mpr h,Bool.false_or];exact jm.mpr ⟨fun z=>bz _ z,fun z=>(aJ.mp z).resolve_left fun e=>h e.symm⟩
def kW:V->Key
  | .str x=>.inr x
  | .int i=>.inl i
  | _=>.inl 0
theorem Xu {v:V}(h:Wd v):kV (kW v)=v:=by
  rcases h with ⟨x,rfl,_⟩ | ⟨i,rfl,_⟩<;>rfl
theorem GJ {ws:List V}(h:∀v∈ws,Wd v):(ws.map kW).map kV=ws:=by
  rw[dj];refine (fQ fun v hv=>?_).trans (List.map_id' ws);exact Xu (h v hv)
theorem Xv {ws vs:List V}(h1:∀v∈ws,Wd v) (h2:∀v∈vs,Wd v) (e:ws.map kW=vs.map kW):ws=vs:=by
  rw[←GJ h1,←GJ h2,e]
theorem BA {κ:Type} [DecidableEq κ] {kvs:List (κ×V)}{k:κ}(h:k ∉ kvs.map (·.1)):dD kvs k=none:=by
  unfold dD;rw[Option.map_eq_none_iff,List.find?_eq_none];intro x hx e;exact h (aM.mpr ⟨x,hx,by simpa using e⟩)
theorem Xw {κ:Type} [DecidableEq κ] {kvs:List (κ×V)}{k:κ}(h:k∈kvs.map (·.1)):(dD kvs k).isSome=true:=by
  rw[←FJ,gI];obtain⟨x,hx,e⟩:=aM.mp h;exact⟨x,hx,aR e⟩
theorem DL:¬(("frame" : Str) = "units"):=by decide +kernel
theorem DM:¬(("frame" : Str) = "ties"):=by decide +kernel
theorem DN:¬(("frame" : Str) = "finds"):=by decide +kernel
theorem DO:¬(("units" : Str) = "ties"):=by decide +kernel
theorem DP:¬(("units" : Str) = "finds"):=by decide +kernel
theorem DQ:¬(("ties" : Str) = "finds"):=by decide +kernel
def mT (fv:V) (du dt df:ah):List (Str×V):=[("frame",fv),("units",.ref du),("ties",.ref dt),("finds",.ref df)]
theorem Xx (fv:V) (du dt df:ah):bS "finds" (.ref df) (bS "ties" (.ref dt) (bS "units" (.ref du) (bS "frame" fv [])))=mT fv du dt df:=by
  show bS "finds" (.ref df) (bS "ties" (.ref dt) (if ("frame" : Str) = "units" then _ else _))=_;rw[aq DL];show bS "finds" (.ref df) (if ("frame" : Str) = "ties" then _ else (("frame" : Str),fv)::(if ("units" : Str) = "ties" then _ else _))=_;rw[aq DM,aq DO];show (if ("frame" : Str) = "finds" then _ else (("frame" : Str),fv)::(if ("units" : Str) = "finds" then _ else (("units" : Str),V.ref du)::(if ("ties" : Str) = "finds" then _ else _)))=_;rw[aq DN,aq DP,aq DQ];rfl
theorem GK {k x:Str}{v:V}{r:List (Str×V)}(h:k=x):List.lookup k ((x,v)::r)=some v:=by subst h;simp
theorem wI {k x:Str}{v:V}{r:List (Str×V)}(h:¬k=x):List.lookup k ((x,v)::r)=List.lookup k r:=by
  rw[oX,fP.mpr h]
theorem Xy (fv:V) (du dt df:ah):(mT fv du dt df).lookup ("frame" : Str)=some fv:=GK rfl
theorem GL (fv:V) (du dt df:ah):(mT fv du dt df).lookup ("units" : Str)=some (.ref du):=by
  unfold mT;rw[wI (fun z=>DL z.symm),GK rfl]
theorem J1 (fv:V) (du dt df:ah):(mT fv du dt df).lookup ("ties" : Str)=some (.ref dt):=by
  unfold mT;rw[wI (fun z=>DM z.symm),wI (fun z=>DO z.symm),GK rfl]
theorem J2 (fv:V) (du dt df:ah):(mT fv du dt df).lookup ("finds" : Str)=some (.ref df):=by
  unfold mT;rw[wI (fun z=>DN z.symm),wI (fun z=>DP z.symm),wI (fun z=>DQ z.symm),GK rfl]
theorem xJ (fv:V) (du dt df:ah) {m:Str}(h:m ∉ (["frame","units","ties","finds"]:List Str)):(mT fv du dt df).lookup m=none:=by
  simp only [aJ,fT,gO,not_or] at h;unfold mT;rw[wI h.1,wI h.2.1,wI h.2.2.1,wI h.2.2.2];rfl
def dU (us:List Str):List (Key×V):=us.map fun x=>(Sum.inr x,V.bl true)
def uA (ts:List (List V)):List (List Key×V):=ts.map fun ws=>(ws.map kW,V.bl true)
theorem qX {us:List Str}{x:Str}:(Sum.inr x:Key)∈(dU us).map (·.1)↔x∈us:=by
  unfold dU;rw[dj];constructor
  · intro h;obtain⟨y,hy,e⟩:=aM.mp h;cases e;exact hy
  · intro h;exact aM.mpr ⟨x,h,rfl⟩
theorem Xz {us:List Str}{x:Str}(h:x ∉ us):putK (dU us) (Sum.inr x:Key) (.bl true)=dU (us++[x]):=by
  rw[IK _ (BA fun z=>h (qX.mp z))];unfold dU;rw[aV];rfl
theorem OV {ts:List (List V)}{ws:List V}(h1:∀vs∈ts,∀v∈vs,Wd v) (h2:∀v∈ws,Wd v):ws.map kW∈(uA ts).map (·.1)↔ws∈ts:=by
  unfold uA;rw[dj];constructor
  · intro h;obtain⟨y,hy,e⟩:=aM.mp h;rw[←Xv (h1 y hy) h2 e];exact hy
  · intro h;exact aM.mpr ⟨ws,h,rfl⟩
theorem XA {ts:List (List V)}{ws:List V}(h1:∀vs∈ts,∀v∈vs,Wd v) (h2:∀v∈ws,Wd v) (h:ws ∉ ts):putK (uA ts) (ws.map kW) (.bl true)=uA (ts++[ws]):=by
  rw[IK _ (BA fun z=>h ((OV h1 h2).mp z))];unfold uA;rw[aV];rfl
structure Am (y:Str):Prop where
  pass:OU (OT y)=true
  feed:10 ∉ co y
  len:y.length<=900
instance (y:Str):Decidable (Am y):=decidable_of_iff (OU (OT y)=true/\10 ∉ co y/\y.length<=900) ⟨fun h=>⟨h.1,h.2.1,h.2.2⟩,fun h=>⟨h.pass,h.feed,h.len⟩⟩
theorem XC {one at':Int}{k k' size:Nat}(h0:0<=at') (h1:at'<size) (hk:k<37) (fK:k'<37) (h:rS one at' k size=rS one at' k' size):k=k':=by
  have hj:at'.toNat<size:=by lia
  have e1:=NP (one:=one) (at':=at') (k:=k) hj;have e2:=NP (one:=one) (at':=at') (k:=k') hj;rw[h,e2] at e1;have e:qt one at' k' at'.toNat=qt one at' k at'.toNat:=cD e1;unfold qt at e;have q:=VH (sU _).2 (sU _).2 e;have a1:=(sU (uZ one at' k' at'.toNat)).1;have a2:=(sU (uZ one at' k at'.toNat)).1;have q2:uZ one at' k' at'.toNat%37=uZ one at' k at'.toNat%37:=by lia
  unfold uZ at q2;rw[av (oQ h0),av (oQ h0)] at q2;lia
def GN (n:Nat) (one at':Int) (size:Nat):List Str:=(List.range n).map fun k=>nS (rS one at' k size)
def DR (n:Nat) (one at':Int) (size:Nat):List Str:=(List.range n).map fun k=>nS ((rS one at' 0 size).take (size-k))
theorem XD {n:Nat}{one at':Int}{size:Nat}(hn:n<=37) (h0:0<=at') (h1:at'<size) (h2:1<=size) (h3:size<=12):(GN n one at' size).Nodup/\(∀x∈GN n one at' size,nG x=true)/\(GN n one at' size).length=n:=by
  refine⟨Gh fun i j hi hj e=>XC h0 h1 (by lia) (by lia) (NQ e),fun x hx=>?_,by unfold GN;simp⟩;obtain⟨k,_,rfl⟩:=aM.mp hx;exact NR (by rw[wA,Aa];exact h2) (by rw[wA,Aa];exact h3) fun c hc=>by rw[wA] at hc;exact NS hc
theorem XE {n:Nat}{one at':Int}{size:Nat}(h2:n<=size) (h3:size<=12):(DR n one at' size).Nodup/\(∀x∈DR n one at' size,nG x=true)/\(DR n one at' size).length=n:=by
  refine⟨Gh fun i j hi hj e=>?_,fun x hx=>?_,by unfold DR;simp⟩
  · have e:=bX List.length (NQ e);rw[bI,bI,Aa] at e;lia
  · obtain⟨k,hk,rfl⟩:=aM.mp hx;have hk:=dH.mp hk;refine NR ?_ ?_ fun c hc=>?_
    · rw[wA,bI,Aa];lia
    · rw[wA,bI,Aa];lia
    · rw[wA] at hc;exact NS (jg hc)
theorem Lv.uniq {ln:Ln}{M:List Str}{lv qT:Str->Nat}{n n':Nat}(h:Lv ln M lv n) (h':Lv ln M qT n'):∀(k:Nat) (x:Str),x∈M->lv x=k->qT x=k:=by
  intro k
  induction k using Nat.strongRecOn with
  | _ k ih=>
    intro x hx e;have key:∀l r,(l,r)∈ln x->lv l=qT l:=fun l r hl=>by
      have hm:=h.mx x hx;have mem:((lv l:Int)+1)∈qv lv (ln x):=aM.mpr ⟨(l,r),hl,rfl⟩;have dz:lv l<k:=by
        rcases hm with ⟨h1,_⟩ | ⟨_,h2⟩
        · rw[h1] at mem;cases mem
        · have:=h2 _ mem;lia
      exact (ih (lv l) dz l (h.cl x hx l r hl) rfl).symm
    have e2:=Oq key;have a:=h.mx x hx;have b:=h'.mx x hx;rw[e2] at a;have:=WE a b fun y=>Iff.rfl
    lia
theorem Lv.DS {ln:Ln}{M:List Str}{lv qT:Str->Nat}{n n':Nat}(h:Lv ln M lv n) (h':Lv ln M qT n'):n=n':=by
  have go:∀{lv qT:Str->Nat}{n n':Nat},Lv ln M lv n->Lv ln M qT n'->n<=n':=fun {lv qT n n'} h h'=>by
    cases n with
    | zero=>exact c6 _
    | succ n=>
      obtain⟨x,hx,e⟩:=h.all n (by lia);have:=h.uniq h' n x hx e;have:=h'.lt x hx;lia
  exact Nat.le_antisymm (go h h') (go h' h)
end Dm
namespace L2
open PySem PySem.Spec PyProof.Rows
structure d7 (bm:List ai):Prop where
  v:bm.contains (.type "ValueError")=true
  b:bm.contains (.type "BaseException")=true
  a:bm.contains (.type "AttributeError")=false
  n:bm.contains (.type "NameError")=false
def mU (h:Heap) (C:ah) (bm:List ai):Prop:=∃nm q N bs Ao sn sub ab col dd k0 k1 k2 k3 k5,h.get? C=some (excClassObj nm q C N bs bm Ao sn sub ab col dd k0 k1 k2 k3 k5 "ValueError.__new__")
theorem DT {C:ah}{bm:List ai}{T:String}{b:Bool}(h:bm.contains (.type T)=b):(Value.ref C::bm).contains (.type T)=b:=by
  rw[List.contains_cons,h];rfl
section
variable {prog:aP}{w:World}{A:Around}{h:Heap}{g:Array GenState}{d:Drawn}{t:Nat}{os:OsState}{C:ah}{bm:List ai}
theorem XF {R:Result->au->Prop}(U:d7 bm) (x:mU h C bm) {us:List ai}(hz:us.length<=sizeLine)
    (k:R (.ok (.ret (.ref (h.objs.size+1)))) { heap:=(h.push { cls:=.type "tuple",data:=.seq us.toArray }).push { cls:=.ref C,data:=.fields #[.ref h.objs.size,.none,.none,.none,.bool false,.none] },gens:=g,drawn:=d,toks:=t,os:=os }) :
    codeAny (model prog w) A (.builtin "ValueError.__new__" ⟨.ref C::us,[]⟩) R { heap:=h,gens:=g,drawn:=d,toks:=t,os:=os }:=by
  obtain⟨a1,a2,a3,a4,a5,a6,a7,a8,a9,b1,b2,b3,b4,b5,b6,e⟩:=x;have F:=PySem.F.excBase_ValueError;have f1:=F.ends;have c1:=DT (C:=C) U.v;have c2:=DT (C:=C) U.a;have c3:=DT (C:=C) U.n;refine codeAny_builtinAt F.entry ?_;unfold Builtin.«BaseException.__new__»;refine PySem.wpAt_bind (show PySem.wpAt (model prog w) _ _ (stack >>= _) _ _ _ from PySem.wpAt_bind (PySem.wpAt_stack fun p below=>PySem.wpAt_of_wpAny ?_))
  wp_walk
  refine PySem.wpAt_of_wpAny ?_;rw[F.owner]
  repeat (first
    | with_reducible refine wpAny_madeHere_exc F.canon e ?_
    | with_reducible refine iH e ?_
    | (with_reducible refine oR e ?_
       first | rw[c1] | rw[c2] | rw[c3])
    | wp_step)
  show R _ _;rw[iF];exact k
theorem XG {M:Model}{E:aA}(U:d7 bm) (x:mU h C bm) {us:List ai}{Q:Unit->au->Prop}(k:Q () { heap:=h,gens:=g,drawn:=d,toks:=t,os:=os }) :
    wpAny M A (checkBuiltinCall "ValueError.__new__" ⟨.ref C::us,[]⟩) Q E { heap:=h,gens:=g,drawn:=d,toks:=t,os:=os }:=by
  obtain⟨a1,a2,a3,a4,a5,a6,a7,a8,a9,b1,b2,b3,b4,b5,b6,e⟩:=x;exact wpAny_check_new_subU PySem.F.excBase_ValueError U.v .base e k
theorem XH {E:aA}{vI:ai}{us:List ai}{Q:Fin->au->Prop}(U:d7 bm) (x:mU h C bm) (hz:us.length<=sizeLine)
    (lk:PySem.W.Looks (model prog w) h (typeLookup (.ref C) "__init__") (some (vI))) (bd:∀self,PySem.W.Looks (model prog w) h (bindSpecial (vI) self) (vI,[self]))
    (k:∀h' e,h.objs.size<=e->Heap.MadeExcOf h h' e (.ref C) us->wpAny (model prog w) A (call (vI) (.ref e::us)) (fun r s'=>r = .none/\Q (.done (.ret (.ref e))) s') E { heap:=h',gens:=g,drawn:=d,toks:=t,os:=os }) :
    wpAny (model prog w) A (Builtin.«type.__call__» ⟨.ref C::us,[]⟩) Q E { heap:=h,gens:=g,drawn:=d,toks:=t,os:=os }:=by
  have x':=x;obtain⟨a1,a2,a3,a4,a5,a6,a7,a8,a9,b1,b2,b3,b4,b5,b6,e⟩:=x';have F:=PySem.F.excBase_ValueError
  repeat (first | with_reducible refine iH e ?_ | with_reducible refine wpAny_madeBy_exc e ?_ | wp_step)
  refine codeAny_call_builtin_code (Code.quiet_builtin _ F.quiet) (XG U x ?_);refine XF U x hz ?_;show wpAny (model prog w) _ _ _ _ _;have kp:∀b o,h.get? b=some o->((h.push { cls:=.type "tuple",data:=.seq us.toArray }).push { cls:=.ref C,data:=.fields #[.ref h.objs.size,.none,.none,.none,.bool false,.none] }).get? b=some o:=
    fun b o q=>bq _ (bq _ q)
  have Aq:((h.push { cls:=.type "tuple",data:=.seq us.toArray }).push { cls:=.ref C,data:=.fields #[.ref h.objs.size,.none,.none,.none,.bool false,.none] }).get? (h.objs.size+1) =
      some { cls:=.ref C,data:=.fields #[.ref h.objs.size,.none,.none,.none,.bool false,.none] }:=by heap_get
  have ht:((h.push { cls:=.type "tuple",data:=.seq us.toArray }).push { cls:=.ref C,data:=.fields #[.ref h.objs.size,.none,.none,.none,.bool false,.none] }).get? h.objs.size =
      some { cls:=.type "tuple",data:=.seq us.toArray }:=bq _ (Heap.get?_push_at rfl rfl)
  have made:Heap.MadeExcOf h ((h.push { cls:=.type "tuple",data:=.seq us.toArray }).push { cls:=.ref C,data:=.fields #[.ref h.objs.size,.none,.none,.none,.bool false,.none] }) (h.objs.size+1) (.ref C) us:=
    ⟨kp,kU (fB _),h.objs.size,Aq,kU (aH _),ht⟩
  have go:=k _ _ (fB _) made;have e1:=kp _ _ e;have OW:=lk.keeps kp;have OX:=fun self=>(bd self).keeps kp
  generalize (h.push { cls:=.type "tuple",data:=.seq us.toArray }).push { cls:=.ref C,data:=.fields #[.ref h.objs.size,.none,.none,.none,.bool false,.none] } = h1 at Aq go e1 OW OX;have cC:(Value.ref C::bm).contains (.ref C)=true:=by simp
  unfold isInstance
  repeat (first | with_reducible refine iH Aq ?_ | (with_reducible refine oR e1 ?_;rw[cC]) | wp_step)
  show wpAny (model prog w) _ (typeLookup (.ref C) _) _ _ _;refine OW.at (dO (aj ((OX _).at ?_)));refine aj (b7 go (fun r s' hr=>?_) fun _ _ z=>z);obtain⟨rfl,q⟩:=hr
  wp_walk
  exact q
theorem OY {E:aA}{vI:ai}{us:List ai}{Q:aA}(U:d7 bm) (x:mU h C bm) (hz:us.length<=sizeLine)
    (lk:PySem.W.Looks (model prog w) h (typeLookup (.ref C) "__init__") (some (vI))) (bd:∀self,PySem.W.Looks (model prog w) h (bindSpecial (vI) self) (vI,[self]))
    (k:∀h' e,h.objs.size<=e->Heap.MadeExcOf h h' e (.ref C) us->wpAny (model prog w) (A.under (.builtin "type.__call__" ⟨.ref C::us,[]⟩)) (call (vI) (.ref e::us)) (fun r s'=>r = .none/\Q (.ref e) s') E { heap:=h',gens:=g,drawn:=d,toks:=t,os:=os }) :
    wpAny (model prog w) A (call (.ref C) us) Q E { heap:=h,gens:=g,drawn:=d,toks:=t,os:=os }:=by
  have x':=x;obtain⟨a1,a2,a3,a4,a5,a6,a7,a8,a9,b1,b2,b3,b4,b5,b6,e⟩:=x';have f1:=tc_lookup;have f2:=tc_bind (.ref C);have hT:({ heap:=h,gens:=g,drawn:=d,toks:=t,os:=os }:au).TypeIs (.ref C) "type":=⟨_,e,rfl⟩;refine eE (codeAny_of_tree (show wpAny (model prog w) _ (callAny (.ref C) _) _ _ _ from ?_))
  repeat (any_goals (first | assumption | with_reducible refine iH e ?_ | wp_step))
  refine⟨rfl,codeAny_call_builtin_at (Code.quiet_builtin _ (by decide +kernel)) entry_typeCall (wpAny_check_type_call_sub e (XH U x hz lk bd fun h' e' hs hm=>?_))⟩;exact k h' e' hs hm
end
section
variable {prog:aP}{w:World}{A:Around}{E:aA}{s:au}{env:Env}{bm:List ai}
theorem XI {y:Sem ai}{Q:Flow->au->Prop}(U:d7 bm) (hh:A.handled=none)
    (k:wpAny (model prog w) A y (fun v s1=>∃e C oe vs,v = .ref e/\mU s1.heap C bm/\s1.heap.get? e=some oe/\oe.cls = .ref C/\oe.data = .fields vs/\vs[1]? = some .none/\E (.ref e) s1) E s) :
    wpAny (model prog w) A (raiseStmt env (some y) none) Q E s:=by
  unfold raiseStmt;refine aj (b7 k (fun v s1 k1=>?_) fun _ _ z=>z);obtain⟨e,C,oe,vs,rfl,⟨a1,a2,a3,a4,a5,a6,a7,a8,a9,b1,b2,b3,b4,b5,b6,o⟩,he,hc,hd,h1,hE⟩:=k1;have cB:=DT (C:=C) U.b;obtain⟨hp,g,d,tk,os⟩:=s1
  repeat (first
    | (with_reducible refine iH he ?_;rw[hc])
    | with_reducible refine iH o ?_
    | (with_reducible refine oR o ?_;rw[cB])
    | wp_step)
  rw[hd];refine aD ?_;rw[h1];refine aD ?_;rw[aq (by decide)];exact aD (wpAny_raiseNew_none hh hE)
theorem XJ {x:Str}{C:ah}{vI:ai}{np bO pos:Pos}{a:PySem.Expr}{as:List PySem.Expr}{Q:Flow->au->Prop}(U:d7 bm) (hh:A.handled=none)
    (nh:starEach (a::as) env=(false,eval a env)::starEach as env) (gH:(backTo bO (starEach as env)).any (·.1)=false)
    (k:wpAny (model prog w) A (eval (.Name x np) env) (fun f s1=>f = .ref C/\wpAny (model prog w) A (spliced (backTo bO (starEach (a::as) env)))
      (fun us s2=>us.length<=sizeLine/\mU s2.heap C bm/\PySem.W.Looks (model prog w) s2.heap (typeLookup (.ref C) "__init__") (some (vI))/\(∀self,PySem.W.Looks (model prog w) s2.heap (bindSpecial (vI) self) (vI,[self]))/\
        ∀h' e,s2.heap.objs.size<=e->Heap.MadeExcOf s2.heap h' e (.ref C) us->wpAny (model prog w) (A.under (.builtin "type.__call__" ⟨.ref C::us,[]⟩)) (call (vI) (.ref e::us))
          (fun r s3=>r = .none/\∃oe vs,mU s3.heap C bm/\s3.heap.get? e=some oe/\oe.cls = .ref C/\oe.data = .fields vs/\vs[1]? = some .none/\E (.ref e) s3) E { s2 with heap:=h' }) E s1) E s) :
    wpAny (model prog w) A (exec (.Raise (some (.Call (.Name x np) (a::as) [] bO)) none pos) env) Q E s:=by
  rw[arm_exec_Raise];simp only [evalOpt,Option.map];refine aj (iJ (XI U hh (aj (b7 (wpAny_Call_ofName (b7 k (fun f s1 k1=>?_) fun _ _ z=>z)) (fun v s3 k3=>aj (iJ (aD k3))) fun _ _ z=>z))));obtain⟨rfl,k1⟩:=k1;unfold callWith;have any:(backTo bO (starEach (a::as) env)).any (·.1)=false:=by
    rw[nh];show (false||(backTo bO (starEach as env)).any (·.1))=false;rw[gH];rfl
  rw[nh] at k1 ⊢;refine aj (dO (l8 (b7 k1 (fun us s2 k2=>aj (iJ ?_)) fun _ _ z=>z)));obtain⟨hz,xo,lk,bd,go⟩:=k2;obtain⟨hp,g,d,tk,os⟩:=s2;rw[nh] at any;simp only [any];have J3:=xo;obtain⟨a1,a2,a3,a4,a5,a6,a7,a8,a9,b1,b2,b3,b4,b5,b6,o⟩:=J3;refine aj (wpAny_keeperOf_exc o ?_);refine aj (OY U xo hz lk bd fun h' e hs hm=>b7 (go h' e hs hm) (fun r s3 q=>?_) fun _ _ z=>z);obtain⟨r0,oe,vs,q⟩:=q;exact⟨r0,aj (dO (wpAny_point (aD ⟨e,C,oe,vs,rfl,q⟩)))⟩
end
theorem OZ {o:Obj}{vs:Array ai}(h:o.data = .fields vs) (f:Array ai->Array ai):Obj.mapFields f o = { o with data:=.fields (f vs) }:=by
  obtain⟨c,d,dt,sl⟩:=o;cases h;rfl
structure vg (fs:List ah) (e T:ah) (xs:List ah) (oe:Obj) (vs:Array ai) (h h':Heap):Prop where
  keep:∀b o,b≠e->b ∉ fs->b ∉ xs->h.get? b=some o->h'.get? b=some o
  slot:∀b o,b∈fs->h.get? b=some o->∃sl,h'.get? b=some { o with slots:=sl }
  new:h.get? T=none
  exc:h'.get? e=some { oe with data:=.fields (vs.setIfInBounds 1 (.ref T)) }
  ent:∃oT ts,h'.get? T=some oT/\oT.data = .fields ts/\ts[3]? = some .none
section
variable {M:Model}{A:Around}{E:aA}{s:au}
theorem gC {base:Heap}{env:Env}{outer:List Env}{L e:ah}{oe:Obj}{vs:Array ai}{head:ai}{nx:Bool}{Q:Unit->au->Prop}
    (jc:A.frames=some (env::outer)) (hl:s.heap.FunFrames base (env::outer)) (hf:env.frame=some L) (he:s.heap.get? e=some oe) (hd:oe.data = .fields vs) (hz:1<vs.size)
    (k:∀h',vg (i0 (env::outer)) e s.heap.objs.size [] oe vs s.heap h'->Q () { s with heap:=h' }) :
    wpAny M A (do let a ←frameOf env;let pl ←entryPlaceOf L nx;let b ←EntryCells.newEntry head a .none (rawInt L) .none pl;setField (.ref e) 1 b) (fun _ s'=>wpAny M A (setFlight (.ref e) none) Q E s') E s:=by
  have nf:∀b∈i0 (env::outer),∃o,s.heap.get? b=some o/\∀us,o.data≠.fields us:=fun b hb=>(hl.mem hb).2
  have ne:e ∉ i0 (env::outer):=fun hm=>by
    obtain⟨o,ho,hn⟩:=nf e hm;rw[he] at ho;cases ho;exact hn vs hd
  refine aj (wpAny_frameOf_fun jc hl hf fun h1 s1=>?_);obtain⟨z1,k1,u1⟩:=s1;refine aj (wpAny_entryPlaceOf fun pl gH=>?_);unfold EntryCells.newEntry newFields;refine aj (g8 ?_ (gH.sizeOk5 _ _ _ _ _));have e1:h1.get? e=some oe:=(k1 e ne).trans he;generalize hN:({ cls:=.type "traceback",dict:=none,data:=.fields ([head,.ref L,.none,rawInt L,.none]++(if pl.isEmpty then List.replicate 6 Value.none else pl)).toArray }:Obj)=N;have dN:N.data = .fields ([head,.ref L,.none,rawInt L,.none]++(if pl.isEmpty then List.replicate 6 Value.none else pl)).toArray:=by rw[←hN]
  generalize lB:([head,.ref L,.none,rawInt L,.none]++(if pl.isEmpty then List.replicate 6 Value.none else pl)).toArray=ts at dN;have zt:3<ts.size:=by rw[←lB];simp
  have fN:N.isFreed=false:=jO dN;have e2:=bq (h:=h1) N e1;refine iI e2 hd hz ?_;have Te:h1.objs.size≠e:=jG (aK e1);have e3:=c7 (Obj.mapFields (·.setIfInBounds 1 (Value.ref h1.objs.size))) e2 (jO (jj hd _));rw[OZ hd] at e3;have t3:=(cA (h1.push N) (Obj.mapFields (·.setIfInBounds 1 (Value.ref h1.objs.size))) (aC Te)).trans (bH h1 fN);unfold setFlight;refine aj (gM e3 rfl (x:=.ref h1.objs.size) (by simp[hz]) ?_);rw[av (show (Value.ref h1.objs.size != Value.none)=true from by simp)];refine iI t3 dN zt (k _ ?_);have t4:=c7 (Obj.mapFields (·.setIfInBounds 3 ((none:Option ah).elim Value.none fun f=>rawInt f))) t3 (jO (jj dN _));have mQ:∀b o,b≠e->h1.get? b=some o->(((h1.push N).update e (Obj.mapFields (·.setIfInBounds 1 (Value.ref h1.objs.size)))).update h1.objs.size (Obj.mapFields (·.setIfInBounds 3 ((none:Option ah).elim Value.none fun f=>rawInt f)))).get? b=some o:=fun b o hb q=>by
    rw[cA _ _ (jG (aK q)),cA _ _ (aC hb)];exact bq _ q
  refine⟨fun b o hb hn _ q=>mQ b o hb ((k1 b hn).trans q),fun b o hb q=>?_,kU (aH _),?_,?_⟩
  · obtain⟨sl,q1⟩:=u1 b o q;exact⟨sl,mQ b _ (fun z=>ne (z▸hb)) q1⟩
  · rw[cA _ _ Te,e3,z1]
  · rw[←z1];exact⟨_,_,t4,jj dN _,by simp[zt]⟩
theorem XM {base:Heap}{env:Env}{outer:List Env}{L e:ah}{oe:Obj}{vs:Array ai}{Q:Unit->au->Prop}
    (jc:A.frames=some (env::outer)) (hl:s.heap.FunFrames base (env::outer)) (hf:env.frame=some L) (he:s.heap.get? e=some oe) (hd:oe.data = .fields vs) (h1:vs[1]? = some .none)
    (k:∀h',vg (i0 (env::outer)) e s.heap.objs.size [] oe vs s.heap h'->Q () { s with heap:=h' }):wpAny M A (leaving env (.ref e)) Q E s:=by
  unfold leaving noteFrame;simp only [hf];refine aj (aj (gM he hd h1 ?_));rw[aq (by decide)];exact gC jc hl hf he hd (fM.mp h1).1 k
theorem XN {base:Heap}{env:Env}{outer:List Env}{L e T:ah}{oe oT:Obj}{vs ts:Array ai}{Q:Unit->au->Prop}
    (jc:A.frames=some (env::outer)) (hl:s.heap.FunFrames base (env::outer)) (hf:env.frame=some L) (he:s.heap.get? e=some oe) (hd:oe.data = .fields vs) (h1:vs[1]? = some (.ref T))
    (hT:s.heap.get? T=some oT) (dT:oT.data = .fields ts) (h3:ts[3]? = some .none) (ne:T≠e)
    (k:∀h',vg (i0 (env::outer)) e s.heap.objs.size [T] oe vs s.heap h'->Q () { s with heap:=h' }):wpAny M A (leaving env (.ref e)) Q E s:=by
  unfold leaving noteFrame;simp only [hf];refine aj (aj (gM he hd h1 ?_));rw[av (show (Value.ref T != Value.none)=true from by simp)];refine aj (gM hT dT h3 ?_);rw[aq (show ¬((Value.none == rawInt L)=true) from by simp[rawInt])];have z3:=(fM.mp h3).1;refine aj (iI hT dT z3 ?_);have mQ:∀b,b≠T->(s.heap.update T (Obj.mapFields (·.setIfInBounds 3 Value.none))).get? b=s.heap.get? b:=fun b hb=>cA _ _ (aC hb)
  have self:=c7 (Obj.mapFields (·.setIfInBounds 3 Value.none)) hT (jO (jj dT _));have nf:T ∉ i0 (env::outer):=fun hm=>by
    obtain⟨_,o,ho,hn⟩:=hl.mem hm;rw[hT] at ho;cases ho;exact hn ts dT
  have sz:(s.heap.update T (Obj.mapFields (·.setIfInBounds 3 Value.none))).objs.size=s.heap.objs.size:=Heap.size_after_update ..;refine gC (s:={ s with heap:=s.heap.update T (Obj.mapFields (·.setIfInBounds 3 Value.none)) }) jc (hl.of_keeps fun b o hb hn=>⟨o,(mQ b fun z=>?_).trans hb,rfl⟩) hf ((mQ e ne.symm).trans he) hd (fM.mp h1).1 fun h' G=>?_
  · subst z;rw[hT] at hb;cases hb;exact hn ts dT
  · have e1:(s.heap.update T (Obj.mapFields (·.setIfInBounds 3 Value.none))).objs.size=s.heap.objs.size:=sz;have G:=G;dsimp only at G;rw[e1] at G;refine k h' ⟨fun b o hb hn hx q=>G.keep b o hb hn (by simp) ((mQ b fun z=>hx (by simp[z])).trans q),fun b o hb q=>G.slot b o hb ((mQ b fun z=>nf (z▸hb)).trans q),kU (aH _),G.exc,G.ent⟩
end
def O0 (H:Hp) (h0 h:Heap) (e:ah) (cls:ai) (dc:Option ah):Prop:=
  ∃(oe:Obj) (vs:Array ai) (T:ah) (oT:Obj) (ts:Array ai),h.get? e=some oe/\oe.cls=cls/\oe.dict=dc/\oe.data = .fields vs/\vs[1]? = some (.ref T)/\T≠e/\h.get? T=some oT/\oT.data = .fields ts/\ts[3]? = some .none/\
    H e=none/\H T=none/\h0.objs.size<=e/\h0.objs.size<=T
def XO (H:Hp) (h0 h:Heap) (e:ah) (cls:ai) (dc:Option ah):Prop:=
  ∃(oe:Obj) (vs:Array ai),h.get? e=some oe/\oe.cls=cls/\oe.dict=dc/\oe.data = .fields vs/\vs[1]? = some .none/\H e=none/\h0.objs.size<=e
def xK (P:aP) (w:World):ql:=fun outer H s E u s'=>∃(e:ah) (cls:ai) (dc:Option ah) (H':Hp),u = .ref e/\s'.os=s.os/\AllBare s'.gens/\Un (i0 outer) [] H H' s.heap s'.heap/\jo P w H' s'.heap/\
  O0 H' s.heap s'.heap e cls dc/\E cls dc H'
def nI (X:Cx) (E:XK):Prop:=X.xe=(fun u s'=>wpAny (model X.prog X.w) X.A (leaving X.env u) (fun _ vZ=>xK X.prog X.w X.outer X.pJ X.cW E u vZ) (fun u' vZ=>xK X.prog X.w X.outer X.pJ X.cW E u' vZ) s')/\
  X.stack=X.env::X.outer/\X.env.frame=some X.env.locals/\X.ex = []
theorem iX {P:aP}{w:World}{K:aE}{mg:Str->Option ai}{base:Heap}{N:List Str}{qual:Str}{scope:Scope}{f:ah}{cd:ai}{A:Around}{outer:List Env}{s:au}{H:Hp}{E:XK} :
    nI (mJ (xK P w) P w K mg base N qual scope f cd A outer s H E) E:=⟨rfl,rfl,rfl,rfl⟩
section
variable {X:Cx}{pins:aG}{σ:St}{H:Hp}{s:au}{E:XK}{e:ah}{cls:ai}{dc:Option ah}
theorem O1 {h':Heap}{T:ah}{xs:List ah}{oe:Obj}{vs:Array ai}(I:Inv X pins σ H s) (x:nI X E) (G:vg (i0 (X.env::X.outer)) e T xs oe vs s.heap h') (hc:oe.cls=cls) (rZ:oe.dict=dc) (hz:1<vs.size)
    (He:H e=none) (nz:X.cW.heap.objs.size<=e) (O2:∀b∈xs,H b=none/\X.cW.heap.objs.size<=b) (uB:T≠e) (hsz:s.heap.objs.size<=T) (hE:E cls dc H) :
    xK X.prog X.w X.outer X.pJ X.cW E (.ref e) { s with heap:=h' }:=by
  obtain⟨x1,x2,x3,x4⟩:=x;have ne:X.cW.heap.get? e=none:=kU nz;have hx:∀b∈xs,H b=none/\X.cW.heap.get? b=none:=fun b hb=>⟨(O2 b hb).1,kU (O2 b hb).2⟩
  have nL:∀b o,X.cW.heap.get? b=some o->b≠X.env.locals:=fun b o q z=>absurd (aK q) (Nat.not_lt.mpr (z▸I.ok.above))
  have fr:∀b,b∈i0 (X.env::X.outer)->b=X.env.locals\/b∈i0 X.outer:=fun b hb=>by
    unfold i0 at hb;rw[kj,x3] at hb;exact aJ.mp hb
  have XQ:∀b,b∈i0 X.outer->b∈i0 (X.env::X.outer):=fun b hb=>by
    unfold i0;rw[kj,x3];exact bz _ hb
  have xM:∀b o,X.cW.heap.get? b=some o->b≠e/\b ∉ xs:=fun b o q=>⟨fun z=>(by rw[z,ne] at q;cases q),fun z=>(by rw[(hx b z).2] at q;cases q)⟩
  have HT:H T=none:=I.bu.fresh hsz;have sf:∀b∈i0 (X.env::X.outer),H b=none:=by
    have:=I.lP;rw[x2] at this;exact this
  refine⟨e,cls,dc,H,rfl,I.os,I.bare,?_,?_,?_,hE⟩
  · refine⟨fun b o q n nf _=>?_,fun b o q n nf _=>?_,fun b o q n _=>I.base.free b o q n (by rw[x4];simp),fun b o q _=>?_,I.base.eF,I.base.kI,I.base.lC⟩
    · exact G.keep b o (xM b o q).1 (fun z=>(fr b z).elim (nL b o q) nf) (xM b o q).2 (I.base.keep b o q n nf (by rw[x4];simp))
    · obtain⟨sl,z⟩:=I.base.slot b o q n nf (by rw[x4];simp);obtain⟨HK,z'⟩:=G.slot b _ (XQ b nf) z;exact⟨HK,z'⟩
    · obtain⟨o',z⟩:=I.base.there b o q (by rw[x4];simp)
      by_cases hb:b∈i0 (X.env::X.outer)
      · obtain⟨sl,z'⟩:=G.slot b _ hb z;exact⟨_,z'⟩
      · exact⟨_,G.keep b _ (xM b o q).1 hb (xM b o q).2 z⟩
  · intro a o q;refine (I.bu a o q).dR (fun b u hb z=>?_) (fun _ z=>z) fun _ _ z=>z
    have Hb:H b≠none:=by
      rcases hb with z | z
      · rw[z,q];simp
      · rw[z];simp
    exact G.keep b u (fun z=>Hb (z▸He)) (fun z=>Hb (sf b z)) (fun z=>Hb (hx b z).1) z
  · obtain⟨oT,ts,t1,t2,t3⟩:=G.ent;refine⟨_,_,T,oT,ts,G.exc,hc,rZ,rfl,by simp[hz],uB,t1,t2,t3,He,HT,nz,cy I.sz hsz⟩
theorem XR (I:Inv X pins σ H s) (x:nI X E) (r:XO H X.cW.heap s.heap e cls dc) (hE:E cls dc H):X.xe (.ref e) s:=by
  obtain⟨oe,vs,he,hc,rZ,hd,h1,He,ne⟩:=r;have x':=x;obtain⟨x1,x2,x3,x4⟩:=x';rw[x1];have fr:=I.ok.frames;have st:=I.stack;rw[x2] at fr st;exact XM fr st x3 he hd h1 fun h' G=>O1 I x G hc rZ (fM.mp h1).1 He ne (fun b hb=>absurd hb (by simp)) (jG (aK he)) (aH _) hE
theorem XS (I:Inv X pins σ H s) (x:nI X E) (r:O0 H X.cW.heap s.heap e cls dc) (hE:E cls dc H):X.xe (.ref e) s:=by
  obtain⟨oe,vs,T,oT,ts,he,hc,rZ,hd,h1,uB,hT,dT,h3,He,HT,ne,nT⟩:=r;have x':=x;obtain⟨x1,x2,x3,x4⟩:=x';rw[x1];have fr:=I.ok.frames;have st:=I.stack;rw[x2] at fr st;refine XN fr st x3 he hd h1 hT dT h3 uB fun h' G=>O1 I x G hc rZ (fM.mp h1).1 He ne (fun b hb=>?_) (jG (aK he)) (aH _) hE
  rw[ji] at hb;subst hb;exact⟨HT,nT⟩
theorem XT (x:nI X E):xh (xK X.prog X.w) X E:=by
  intro pins σ H s u s' I h;obtain⟨e,cls,dc,H',rfl,os,bare,un,bu,fl,hE⟩:=h;have I':=I.rN os un bu bare (ch:=[]) (fun b z=>absurd z (by simp));obtain⟨oe,vs,T,oT,ts,he,hc,rZ,hd,h1,uB,hT,dT,h3,He,HT,ne,nT⟩:=fl;exact XS I' x ⟨oe,vs,T,oT,ts,he,hc,rZ,hd,h1,uB,hT,dT,h3,He,HT,cy I.sz ne,cy I.sz nT⟩ hE
theorem nI.own (x:nI X E):PassesOwn (model X.prog X.w) X.A X.env X.xe:=by
  rw[x.1];exact PassesOwn.leaving
end
def jM (P:aP) (w:World) (K:aE) (mg:Str->Option ai) (base:Heap) (x:Str) (ps:List Str) (k:Nat) (sp:Sp):Prop:=
  ∃(f:ah) (fd:FuncData),mg x=some (.ref f)/\PySem.W.keepIn K (.ref f)=true/\(∃oc od lE,K.lookup f=some ⟨oc,od,.func fd,lE⟩)/\(∀us:List ai,us.length=ps.length->bindArgs fd ⟨us,[]⟩=pure (ps.zip us))/\i8 P w K mg base (xK P w) k f fd ps sp
section
variable {P:aP}{w:World}{K:aE}{mg:Str->Option ai}{base:Heap}
theorem Df.xN {x:Str}{st:Stmt}{N ps:List Str}{k:Nat}{sp:Sp}(D:Df K mg x st ps) (S:aF N ps (zo st)) (len:∀vs H Q E,sp vs H Q E->vs.length=ps.length)
    (body:∀(f:ah) (bY:ai) (A:Around) (outer:List Env) (s:au) (H:Hp) (vs:List V) (Q:VK) (E:XK),b8 k (A.deeper (envOfC x (zo st) s.heap.objs.size f bY))->sp vs H Q E->
      ∃t,nN (mJ (xK P w) P w K mg base N x (zo st) f bY A outer s H E) (uu st) t/\t { nx:=fun _ H'=>Q .cQ H',rt:=Q } (start N vs) H):jM P w K mg base x ps (k+1) sp:=by
  obtain⟨f,fd,F,a,b⟩:=D;obtain⟨oc,od,kV,doc,pm,an,bY,ct,lE,e,lk,pL⟩:=id F.ex;subst e;exact⟨f,_,a,F.kp,⟨oc,od,lE,lk⟩,b,MO lk pL S len (body f bY)⟩
theorem jM.good {x:Str}{ps:List Str}{k:Nat}{sp GO:Sp}(F:jM P w K mg base x ps k sp) (h:∀vs H Q E,GO vs H Q E->sp vs H Q (fun _ _ _=>False)):fH P w K mg base x ps k GO:=by
  obtain⟨f,fd,a,kp,lk,b,G⟩:=F;refine⟨f,fd,a,kp,lk,b,fun vs H Q E q=>G.len _ _ _ _ (h _ _ _ _ q),fun A outer s H args us vs Q E hr he hb hv hs=>?_⟩;refine fk (G.run A outer s H args us vs Q _ hr he hb hv (h _ _ _ _ hs)) fun r s' hq=>?_
  cases r with
  | ok fl=>
    cases fl with
    | ret u=>exact hq
    | next=>exact False.elim hq
    | brk=>exact False.elim hq
    | cont=>exact False.elim hq
  | error e=>
    obtain⟨_,_,_,_,_,_,_,_,_,_,z⟩:=hq;exact z.elim
end
section
variable {X:Cx}{k:Nat}{ps:List Str}{sp:Sp}{E:XK}{C:ah}{m x:Str}{p pos apos:Pos}{o e:Expr}{es:List Expr}{t:TA}{ta:TE}
theorem J4 (F:jM X.prog X.w X.K X.mg X.base x ps k sp) (xe:nI X E) (hr:b8 k X.A) (hg:Gl X x) (ha:PA X (e::es) t) (iO:(x == ("__debug__" : Str))=false:=by decide)
    (he:starEach (e::es) X.env=(false,eval e X.env)::starEach es X.env:=by rfl) (gH:(backTo pos (starEach es X.env)).any (·.1)=false:=by rfl):PE X (.Call (.Name x p) (e::es) [] pos) (FD sp [] E t):=by
  obtain⟨f,fd,a,kp,_,b,G⟩:=F;exact MH G hr hg a kp (.all b) .nil (XT xe) ha iO he gH
end
section
variable {prog:aP}{w:World}{A:Around}{E:aA}{h:Heap}{g:Array GenState}{d:Drawn}{t:Nat}{os:OsState}{C:ah}{bm:List ai}
theorem XU {M:Model}{Q:Unit->au->Prop}{e:ah}{oe:Obj}{us:List ai}(U:d7 bm) (x:mU h C bm) (he:h.get? e=some oe) (hc:oe.cls = .ref C) (k:Q () { heap:=h,gens:=g,drawn:=d,toks:=t,os:=os }) :
    wpAny M A (checkBuiltinCall "ValueError.__init__" ⟨.ref e::us,[]⟩) Q E { heap:=h,gens:=g,drawn:=d,toks:=t,os:=os }:=by
  obtain⟨a1,a2,a3,a4,a5,a6,a7,a8,a9,b1,b2,b3,b4,b5,b6,o⟩:=x;have F:=PySem.F.excBase_ValueError;have c1:=DT (C:=C) U.v;have hs:=F.noStar;simp only [checkBuiltinCall,F.initKind,F.initSplit,F.initRow]
  repeat (first
    | (with_reducible refine iH he ?_;rw[hc])
    | with_reducible refine iH o ?_
    | (with_reducible refine oR o ?_;rw[c1])
    | wp_step)
  refine wpAny_onRaise ?_;have st:∀(a b:String) (n:Nat),Bind.check ⟨.positional,"*","ValueError",.self,[⟨"args",.varPos,false⟩]⟩ a b n (List.map (fun x=>x.fst) ({ pos:=Value.ref e::us }:Args).kw)=pure ():=fun a b n=>check_star_args _ _ _ _ _ _
  rw[st];exact aD k
theorem XW {Q:aA}{e t0:ah}{oe:Obj}{vs:Array ai}{us:List ai}(U:d7 bm) (x:mU h C bm) (hz:us.length<=sizeLine) (he:h.get? e=some oe) (hc:oe.cls = .ref C) (hd:oe.data = .fields vs) (h0:vs[0]? = some (.ref t0))
    (k:∀h',(∀b o,b≠e->h.get? b=some o->h'.get? b=some o)->h'.get? e=some { oe with data:=.fields (vs.setIfInBounds 0 (.ref h.objs.size)) }->Q .none { heap:=h',gens:=g,drawn:=d,toks:=t,os:=os }) :
    wpAny (model prog w) A (call (.builtin "ValueError.__init__") (.ref e::us)) Q E { heap:=h,gens:=g,drawn:=d,toks:=t,os:=os }:=by
  have F:=PySem.F.excBase_ValueError;refine eE (kX F.init.plain F.initEntry (XU U x he hc ?_));unfold Builtin.«BaseException.__init__»
  wp_walk
  rw[hd];refine aD ?_;rw[h0];refine aD (aj ?_);have xO:=bq (h:=h) { cls:=.type "tuple",data:=.seq us.toArray } he;have z0:=(fM.mp h0).1;refine iI xO hd z0 ?_;have e3:=c7 (Obj.mapFields (·.setIfInBounds 0 (Value.ref h.objs.size))) xO (jO (jj hd _));rw[OZ hd] at e3;have go:=k _ (fun b o hb q=>(cA _ _ (aC hb)).trans (bq _ q)) e3
  wp_walk
  exact go
end
def wJ:List ai->Bool
  | [.type a,.type b,.type c,.type d]=>a == "ValueError" && (b == "Exception" && (c == "BaseException" && d == "object"))
  | .ref _::r=>wJ r
  | _=>false
theorem O3:∀{l:List ai},wJ l=true->l = [.type "ValueError",.type "Exception",.type "BaseException",.type "object"]\/∃c r,l = .ref c::r/\wJ r=true
  | [.type a,.type b,.type c,.type d],e=>by
    simp only [wJ,g9,fC] at e;obtain⟨rfl,rfl,rfl,rfl⟩:=e;exact .inl rfl
  | .ref c::r,e=>.inr ⟨c,r,rfl,by unfold wJ at e;exact e⟩
theorem O4 (self:ai):∀{l:List ai},wJ l=true->refuseLoop self "__setattr__" l=pure ()
  | [],e=>by cases e
  | v::r,e=>by
    rcases O3 e with h | ⟨c,r',h,e'⟩
    · rw[h];exact PySem.F.store_ValueError.passes self
    · cases h;rw[refuseLoop_ref];exact O4 self e'
theorem O5:∀{l:List ai},wJ l=true->l.contains (.type "object")=true
  | [],e=>by cases e
  | v::r,e=>by
    rcases O3 e with h | ⟨c,r',h,e'⟩
    · rw[h];decide +kernel
    · cases h;rw[List.contains_cons,O5 e',Bool.or_true]
def J6 (K:aE) (C:ah):Bool:=(PySem.W.clsIn K C).any fun cd=>wJ cd.mro
structure sY (K:aE) (C:ah):Prop where
  hd:PySem.W.hasDictIn K C=true
  po:J6 K C=true
  sa:PySem.W.findIn K (.ref C) "__setattr__" = some (some (.builtin "object.__setattr__"))
section
variable {prog:aP}{w:World}{A:Around}{E:aA}{R:Result->au->Prop}{s:au}{K:aE}{x C:ah}{name:Str}{v:ai}
theorem XX {ox:Obj}{od:Option Obj}{tk:Tok}{r:Option ai}(X:K.In s.heap) (I:PySem.W.InstAt s.heap x ox C od) (hp:(PySem.W.clsIn K C).any (fun cd=>wJ cd.mro)=true) (ht:PySem.W.takerIn K C name=some r)
    (h:∀b,wpAny (model prog w) A.in1 (match r with | some a=>Builtin.ObjectAttr.setByDescriptor a (.ref x) v | none=>Builtin.ObjectAttr.storeInOwnDict (.ref x) (.ref C) (.str name tk) name v b)
      (fun fin s'=>match fin with | .done f=>R (.ok f) s' | .again c'=>c'.quiet=true/\codeAny (model prog w) A c' R s') (fun e s'=>R (.error e) s') s) :
    codeAny (model prog w) A (.call (.builtin "object.__setattr__") ⟨[.ref x,.str name tk,v],[]⟩) R s:=by
  have SF:=PySem.F.store_object;obtain⟨cd,hc,ho⟩:=PySem.W.any_some hp;have ne:cd.mro.isEmpty=false:=by cases q:cd.mro with | nil=>rw[q] at ho;cases ho | cons _ _=>rfl
  have sub:PySem.W.Looks (model prog w) s.heap (isInstance (.ref x) (.type "object")) true:=I.type.andThen (PySem.W.looks_mroIn X (by unfold PySem.W.mroIn;rw[hc,Option.bind_some,aq (by rw[ne];decide),O5 ho]));refine kX SF.slot.plain SF.entry (@PySem.W.check_slot (model prog w) _ _ s "object.__setattr__" "object" "__setattr__" (.ref x) [.str name tk,v] [] _ SF.kind SF.split sub (SF.args (.ref x) (.str name tk) v) ?_);obtain⟨attr,ha,hr⟩:=Option.bind_eq_some_iff.mp ht;have hm:PySem.W.Looks (model prog w) s.heap (mroOf (.ref C)) cd.mro:=(PySem.W.looks_clsIn X hc).andThen .now;have L3:PySem.W.Looks (model prog w) s.heap (Builtin.ObjectAttr.storeTaker? attr) r:=by
    cases attr with
    | none=>cases hr;exact .now
    | some a=>
      obtain⟨b,hb,rfl⟩:=Option.map_eq_some_iff.mp hr;refine (PySem.W.looks_takesIn X hb).andThen ?_;cases b<;>exact .now
  rw[PySem.W.osa_eq,refuse_eq];refine aj (aj (I.type.here (aj (hm.here ?_))));rw[O4 _ ho];refine aD (aj (I.type.here (aj ((PySem.W.looks_findIn X ha).here (aj (L3.here ?_))))));exact h _
theorem J7 {oe:Obj}{vs:Array ai}{Q:Unit->au->Prop}(X:K.In s.heap) (he:s.heap.get? x=some oe) (yC:oe.cls = .ref C) (J8:oe.dict=none) (Ar:oe.data = .fields vs) (c:sY K C) (ht:PySem.W.takerIn K C name=some none)
    (h:∀h' tk,(∀b o,b≠x->s.heap.get? b=some o->h'.get? b=some o)->h'.get? x=some { oe with dict:=some s.heap.objs.size }->h'.Ns1 s.heap.objs.size (fun y=>if y=name then some v else none)->Q () { s with heap:=h',toks:=tk }) :
    wpAny (model prog w) A (setAttr (.ref x) name v) Q E s:=by
  have J:PySem.W.InstAt s.heap x oe C none:=⟨he,yC,by unfold PySem.W.notCls;rw[Ar],by rw[J8];trivial⟩;refine PySem.W.set_plain X J c.sa (XX (s:={ s with toks:=s.toks+1 }) (r:=none) X J c.po ht fun b=>?_);obtain⟨cd,hc,vU⟩:=PySem.W.any_some c.hd;obtain⟨oc,od,odt,lE⟩:=oe;dsimp only at yC J8 Ar;subst yC J8 Ar;refine aj (aD (aj (aj (wpAny_loadPart he (aj (PySem.W.Looks.here (s:={ s with toks:=s.toks+1 }) (PySem.W.looks_clsIn X hc) ?_))))));rw[vU];have yK:(s.heap.push { cls:=.type "dict",data:=.dict #[] }).get? x=some { cls:=Value.ref C,data:=Data.fields vs,slots:=lE }:=bq _ he;have BB:x≠s.heap.objs.size:=aW (aK he);rw[aq (by decide)];show wpAny (model prog w) _ (if (!true || !typeHasDict (Value.ref C))=true then pure none else _) _ _ _;rw[aq (by simp[typeHasDict])];refine aj (wpAny_alloc' ?_);refine aj (wpAny_update' yK ?_);refine aD ?_;have XY:((s.heap.push { cls:=.type "dict",data:=.dict #[] }).update x fun o=>{ cls:=o.cls,dict:=some s.heap.objs.size,data:=o.data,slots:=o.slots }).get? s.heap.objs.size
      = some { cls:=.type "dict",data:=.dict #[] }:=
    (Heap.get?_update_ne _ _ _ _ BB.symm).trans (Heap.get?_push_at rfl rfl)
  have XZ:((s.heap.push { cls:=.type "dict",data:=.dict #[] }).update x fun o=>{ cls:=o.cls,dict:=some s.heap.objs.size,data:=o.data,slots:=o.slots }).Ns s.heap.objs.size (fun _=>none):=
    ⟨_,#[],_,XY,rfl,fun e he=>absurd he (by simp),fun _=>rfl⟩
  show wpAny _ _ (Builtin.ObjectAttr.storeInDict s.heap.objs.size (.str name s.toks) name v) _ _ _;unfold Builtin.ObjectAttr.storeInDict Builtin.ObjectAttr.newKeyGuard;refine aj (aD (aj (wpAny_nsSet1 (Heap.Ns1.of_empty XZ) fun h' Be hs=>?_)));obtain⟨oD,Tz,TF,Ii,Ij,Ik⟩:=Be.count (Within.cons name v Within.nil);refine aj (wpAny_lookBehind Ii (by rw[Ij];exact pastItsLine_dict (cy Ik (by rw[fh,List.length_nil,dW];lia))) ?_);refine aD (h h' _ (fun b o hb q=>?_) ?_ Be)
  · exact (hs.2 b (aW (aK q))).trans ((Heap.get?_update_ne _ _ _ _ hb).trans (bq _ q))
  · exact (hs.2 x BB).trans (c7 _ yK rfl)
end
def c5 (e C:ah) (dc:Option ah):HO:=.ext fun h=>∃oe vs t0,h.get? e=some oe/\oe.cls = .ref C/\oe.dict=dc/\oe.data = .fields vs/\vs[0]? = some (.ref t0)/\vs[1]? = some .none
section
variable {X:Cx}{pins:aG}{σ:St}{H:Hp}{s:au}{a C:ah}{dc:Option ah}{f:Str}{A:Around}{E:aA}
theorem GP {P:aP}{w:World}{h:Heap}{oe:Obj}{vs:Array ai}{t0:ah}(h1:h.get? a=some oe) (h2:oe.cls = .ref C) (h3:oe.dict=dc) (h4:oe.data = .fields vs) (h5:vs[0]? = some (.ref t0)) (h6:vs[1]? = some .none):bG P w H h a (c5 a C dc):=
  ⟨⟨oe,vs,t0,h1,h2,h3,h4,h5,h6⟩,⟨oe,h1⟩,fun g1 g2 ⟨J9,BC,X0,q1,q2⟩ k=>⟨J9,BC,X0,k _ q1,q2⟩⟩
theorem X3 {y:V}{u:ai}{Q:Unit->au->Prop}(I:Inv X pins σ H s) (e:H a=some (c5 a C none)) (c:sY X.K C) (n:bQ X.K C f) (ry:RelV y u)
    (h:∀d s',H d=none->Inv X pins σ (upd (upd H d (.xd [(f,y)])) a (c5 a C (some d))) s'->Q () s'):wpAny (model X.prog X.w) A (setAttr (.ref a) f u) Q E s:=by
  obtain⟨⟨oe,vs,t0,h1,h2,h3,h4,h5,h6⟩,_,_⟩:=(show bG X.prog X.w H s.heap a (c5 a C none) from I.bu a _ e);refine J7 I.fX h1 h2 h3 h4 c n.yv fun h' tk k hx FP=>?_
  have hd:=I.bu.fresh (aH s.heap.objs.size);have mP:s.heap.objs.size≠a:=jG (aK h1);have fr:oe.isFreed=false:=jO h4;have u1:(h'.update a fun _=>oe).get? a=some oe:=c7 _ hx fr;have u2:∀b,b≠a->(h'.update a fun _=>oe).get? b=h'.get? b:=fun b hb=>cA _ _ (aC hb)
  have I1:=I.laid (a:=s.heap.objs.size) (o:=.xd [(f,y)]) (h':=h'.update a fun _=>oe) (t':=tk) (fun b o q=>by
    by_cases hb:b=a
    · subst hb;rw[h1] at q;cases q;exact u1
    · rw[u2 b hb];exact k b o hb q) (aH _) ⟨_,FP.at fun o q=>by rw[u2 _ mP];exact q,fun g=>by
        by_cases hg:g=f
        · rw[av hg];subst hg;rw[oX,oZ];exact ry
        · rw[aq hg,oX,fP.mpr hg];exact True.intro⟩
  have I2:=I1.write (x:=a) (e:=a) (o:=c5 a C (some s.heap.objs.size)) (h':=h') (t':=tk) (by rw[zg mP.symm,e];exact True.intro) (.inl rfl) (fun b o hb q=>by rw[u2 b hb] at q;exact q) ⟨_,hx⟩ (GP hx h2 rfl h4 h5 h6);exact h _ _ hd I2
end
structure yL (K:aE) (D:ah):Prop where
  rd:PySem.W.readsIn K D (.type "type")=true
  ga:PySem.W.specialIn K (.ref D) "__getattribute__" = some (some (.builtin "type.__getattribute__"))
  fc:PySem.W.findCls K (.ref D) (.type "type") "__init__" = some (.val (.builtin "ValueError.__init__"))
def nX (K:aE) (C:ah) (bm:List ai):Prop:=∃nm q N bs Ao sn sub ab col dd k0 k1 k2 k3 k5,K.lookup C=some (excClassObj nm q C N bs bm Ao sn sub ab col dd k0 k1 k2 k3 k5 "ValueError.__new__")
theorem nX.in {K:aE}{C:ah}{bm:List ai}{h:Heap}(x:nX K C bm) (X:K.In h):mU h C bm:=by
  obtain⟨a1,a2,a3,a4,a5,a6,a7,a8,a9,b1,b2,b3,b4,b5,b6,e⟩:=x;exact⟨a1,a2,a3,a4,a5,a6,a7,a8,a9,b1,b2,b3,b4,b5,b6,X _ _ e⟩
def X4 (K:aE) (t:TA):TE:=fun σ H Q=>t σ H fun xs H1=>∃a C dc bm rest,xs = .ref a::rest/\H1 a=some (c5 a C dc)/\nX K C bm/\d7 bm/\rest.length<=sizeLine/\Q .cQ H1
def X5 (K:aE) (ta tv:TE) (f:Str):TS:=fun D σ H=>tv σ H fun y H1=>ta σ H1 fun x H2=>∃a C,x = .ref a/\H2 a=some (c5 a C none)/\sY K C/\bQ K C f/\
  ∀d,H2 d=none->D.nx σ (upd (upd H2 d (.xd [(f,y)])) a (c5 a C (some d)))
theorem X6 {H:Hp}{a:ah}{o:HO}(h:H a=some o):upd H a o=H:=by
  funext b;unfold upd
  by_cases e:b=a
  · rw[av e,e,h]
  · rw[aq e]
section
variable {X:Cx}{o e value:Expr}{es:List Expr}{x f:Str}{p pos pos' apos:Pos}{ta tv:TE}{t:TA}{D:ah}
theorem O6 (ha:PE X o ta) (hv:PE X value tv) (hs:swapsWith value (some (.Attribute o f pos')) pos.line X.env=pure false):PS X (.Assign [.Attribute o f pos'] value pos) (X5 X.K ta tv f):=by
  intro pins s σ H D I h;refine plainObj_wpAny_Assign_Attribute (bR (hv pins s σ H _ I h) fun u s1 ⟨y,H1,I1,ry,q⟩=>bR (ha pins s1 σ H1 _ I1 q) fun ov s2 aT=>?_) hs;obtain⟨x,H2,I2,rx,a,C,ex,ea,c,n,q2⟩:=aT;subst ex;obtain rfl:ov=Value.ref a:=rx;exact X3 I2 ea c n ry fun d s3 hd I3=>⟨σ,_,I3,q2 d hd⟩
theorem X7 {pins:aG}{s:au}{σ:St}{H:Hp}{a C:ah}{dc:Option ah}{bm:List ai}{us:List ai}{Q:VK}(I:Inv X pins σ H s) (e:H a=some (c5 a C dc)) (xo:nX X.K C bm) (U:d7 bm) (hz:us.length<=sizeLine) (q:Q .cQ H) :
    wpAny (model X.prog X.w) X.A (call (.builtin "ValueError.__init__") (.ref a::us)) (EP X pins σ Q) X.xe s:=by
  obtain⟨⟨oe,vs,t0,h1,h2,h3,h4,h5,h6⟩,_,_⟩:=(show bG X.prog X.w H s.heap a (c5 a C dc) from I.bu a _ e);obtain⟨hp,g,d,tk,os⟩:=s;refine XW U (xo.in I.fX) hz h1 h2 h4 h5 fun h' k hx=>?_
  have z0:=(fM.mp h5).1;have I2:=I.write (x:=a) (e:=a) (o:=c5 a C dc) (h':=h') (t':=tk) (by rw[e];exact True.intro) (.inl rfl) (fun b o hb z=>k b o hb z) ⟨_,hx⟩ (GP (t0:=hp.objs.size) hx h2 h3 rfl (by simp[z0]) (by rw[Array.getElem?_setIfInBounds_ne (by decide)];exact h6));rw[X6 e] at I2;exact⟨.cQ,H,I2,rfl,q⟩
theorem O7 {pl:Sem Bool}(hg:Gl X x) (hm:X.mg x=some (.ref D)) (b:yL X.K D) (ha:PA X (e::es) t) (iO:(x == ("__debug__" : Str))=false:=by decide)
    (nh:starEach (e::es) X.env=(false,eval e X.env)::starEach es X.env:=by rfl) (gH:(backTo pos (starEach es X.env)).any (·.1)=false:=by rfl)
    (ht:eval (.Call (.Attribute (.Name x p) "__init__" apos) (e::es) [] pos) X.env=(do
      let ov ←eval (.Name x p) X.env
      standAt apos.atName
      let (f,first) ←holding [ov] (getMethod ov "__init__" pl)
      callWith pos f first (backTo pos (starEach (e::es) X.env)) (backToKw pos (keywordEach [] X.env))):=by rfl) :
    PE X (.Call (.Attribute (.Name x p) "__init__" apos) (e::es) [] pos) (X4 X.K t):=by
  intro pins s σ H Q I h;refine PySem.W.methodCall_KW (pl:=pl) (yp I hg hm ?_ iO) ht;refine PySem.W.method_cls I.fX b.ga (PySem.W.cls_value I.fX b.rd b.fc (by decide +kernel) ?_);have hA:=ha pos pins _ σ H _ (I.tok (s.toks+1)) h;rw[nh] at hA ⊢;refine oH (by show (false||(backTo pos (starEach es X.env)).any (·.1))=false;rw[gH]<;>rfl) (l8 ?_);refine bR hA fun us s2 aT=>?_
  obtain⟨vs,H2,I2,r2,a,C,dc,bm,rest,ev,ea,xo,U,hz,q⟩:=aT;subst ev;cases r2 with
  | cons r1 r2=>
    cases r1;exact X7 I2 ea xo U (by rw[←r2.length];exact hz) q
end
def del (H:Hp) (e:ah):Hp:=fun b=>if b=e then none else H b
theorem Ka {H:Hp}{e:ah}:del H e e=none:=by unfold del;rw[av rfl]
theorem As {H:Hp}{e b:ah}(h:b≠e):del H e b=H b:=by unfold del;rw[aq h]
structure X8 (K:aE) (C f:ah) (bm:List ai):Prop where
  obj:nX K C bm
  un:d7 bm
  init:PySem.W.findIn K (.ref C) "__init__" = some (some (.ref f))
  fn:PySem.W.isFn K (.ref f)=true
section
variable {X:Cx}{pins:aG}{σ:St}{H:Hp}{s:au}
theorem Inv.drop {e:ah}{φ:Heap->Prop}(I:Inv X pins σ H s) (he:H e=some (.ext φ)):Inv X pins σ (del H e) s:=by
  refine I.un (h':=s.heap) (t':=s.toks) ⟨fun _ _ q _ _ _=>q,fun b o q _ _ _=>⟨o.slots,q⟩,fun b o _ n _=>?_,fun b o q _=>⟨o,q⟩,fun b xs q=>?_,fun b o u q=>?_,fun b ps q=>⟨#[],?_⟩⟩ fun a o q=>?_
  · by_cases z:b=e
    · rw[z];exact Ka
    · rw[As z];exact n
  · rw[As (fun z=>by rw[z,he] at q;cases q)];exact q
  · rw[As (fun z=>by rw[z,he] at q;cases q)];exact q
  · rw[As (fun z=>by rw[z,he] at q;cases q),Array.append_empty];exact q
  · have na:a≠e:=fun z=>by rw[z,Ka] at q;cases q
    rw[As na] at q;refine (I.bu a o q).dR (fun _ _ _ z=>z) (fun b z=>?_) fun b xs z=>?_
    · rw[As (fun w=>by rw[w,he] at z;cases z)];exact z
    · rw[As (fun w=>by rw[w,he] at z;cases z)];exact z
end
def O8 (C:ah) (sp:Sp) (jW:List V) (E E1:XK) (t:TA):TS:=fun _ σ H=>t σ H fun vs H1=>∀e,H1 e=none->sp (.ref e::(vs++jW)) (upd H1 e (c5 e C none)) (fun v H2=>v = .cQ/\∃dc,H2 e=some (c5 e C dc)/\E (.ref C) dc (del H2 e)) E1
section
variable {X:Cx}{CX:ql}{k:Nat}{f C:ah}{fd:FuncData}{ps:List Str}{sp:Sp}{jW:List V}{ds:List ai}{E E1:XK}{x:Str}{p pos bO:Pos}{e:Expr}{es:List Expr}{t:TA}{bm:List ai}
theorem Yb (M:X8 X.K C f bm) (F:i8 X.prog X.w X.K X.mg X.base CX k f fd ps sp) (hr:b8 (k+1) X.A) (xe:nI X E) (hx:xh CX X E1) (hg:Gl X x) (hm:X.mg x=some (.ref C)) (hb:Binds X.K fd ps ds) (hd:Vals jW ds) (BD:ps.length<=1000) (ha:PA X (e::es) t)
    (iO:(x == ("__debug__" : Str))=false:=by decide) (he:starEach (e::es) X.env=(false,eval e X.env)::starEach es X.env:=by rfl) (gH:(backTo bO (starEach es X.env)).any (·.1)=false:=by rfl) :
    PS X (.Raise (some (.Call (.Name x p) (e::es) [] bO)) none pos) (O8 C sp jW E E1 t):=by
  intro pins s σ H D I h;refine XJ (vI:=.ref f) M.un hr.hd he gH (yp I hg hm ⟨rfl,bR (ha bO pins s σ H _ I h) fun us s2 aT=>?_⟩ iO);obtain⟨vs,H1,I1,r,q⟩:=aT;have fr:∀a,s2.heap.objs.size<=a->H1 a=none:=fun a h=>I1.bu.fresh h
  have q0:=q _ (fr _ (aH _));have l0:=F.len _ _ _ _ q0;rw[fh,bK] at l0;have rl:=r.length;refine⟨by rw[dW];lia,M.obj.in I1.fX,PySem.W.looks_findIn I1.fX M.init,fun self=>PySem.W.bind_fn I1.fX self (fC.mp M.fn),fun h' ex hs DU=>?_⟩;have hq:=q ex (fr ex hs);obtain⟨t0,h1,_,_⟩:=DU.there;have I2:=I1.laid (a:=ex) (o:=c5 ex C none) (h':=h') (t':=s2.toks) DU.keeps hs (GP h1 rfl rfl rfl rfl rfl);have r2:Vals (V.ref ex::(vs++jW)) (Value.ref ex::(us++ds)):=.cons rfl (r.append hd);have hl:(Value.ref ex::us++ds).length=ps.length:=by
    have e:=r2.length;rw[F.len _ _ _ _ hq] at e;exact e.symm
  refine eE (fk (F.run _ X.stack _ _ ⟨Value.ref ex::us,[]⟩ (Value.ref ex::(us++ds)) _ _ E1 (hr.make C us []) (I2.uO.make C us []) (hb _ (Value.ref ex::us) I2.fX hl) r2 hq) fun r s' nP=>?_);cases r with
  | error e=>exact hx pins σ _ _ e s' I2 nP
  | ok fl=>
    cases fl with
    | ret u=>
      obtain⟨v,H',I3,rv,ev,dc,Kc,hE⟩:=I2.after nP;subst ev;obtain⟨⟨oe,ws,t1,g1,g2,g3,g4,g5,g6⟩,_,_⟩:=(show bG X.prog X.w H' s'.heap ex (c5 ex C dc) from I3.bu ex _ Kc);have I4:=I3.drop Kc;exact⟨rv,oe,ws,M.obj.in I3.fX,g1,g2,g4,g6,XR I4 xe ⟨oe,ws,g1,g2,g3,g4,g6,Ka,cy I1.sz hs⟩ hE⟩
    | next=>exact False.elim nP
    | brk=>exact False.elim nP
    | cont=>exact False.elim nP
end
section
variable {M:Model}{A:Around}{E:aA}{s:au}
theorem Yc {base:Heap}{env:Env}{outer:List Env}{L e T:ah}{oe oT:Obj}{vs ts:Array ai}{Q:Unit->au->Prop}
    (jc:A.frames=some (env::outer)) (hl:s.heap.FunFrames base (env::outer)) (hf:env.frame=some L) (he:s.heap.get? e=some oe) (hd:oe.data = .fields vs) (h1:vs[1]? = some (.ref T))
    (hT:s.heap.get? T=some oT) (dT:oT.data = .fields ts) (h3:ts[3]? = some .none) (ne:T≠e)
    (k:∀h',vg (i0 (env::outer)) e s.heap.objs.size [T] oe vs s.heap h'->Q () { s with heap:=h' }) :
    wpAny M A (noteFrame (.ref e) env) (fun _ s'=>wpAny M A (setFlight (.ref e) none) Q E s') E s:=by
  unfold noteFrame;simp only [hf];refine aj (gM he hd h1 ?_);rw[av (show (Value.ref T != Value.none)=true from by simp)];refine aj (gM hT dT h3 ?_);rw[aq (show ¬((Value.none == rawInt L)=true) from by simp[rawInt])];have z3:=(fM.mp h3).1;refine aj (iI hT dT z3 ?_);have mQ:∀b,b≠T->(s.heap.update T (Obj.mapFields (·.setIfInBounds 3 Value.none))).get? b=s.heap.get? b:=fun b hb=>cA _ _ (aC hb)
  have self:=c7 (Obj.mapFields (·.setIfInBounds 3 Value.none)) hT (jO (jj dT _));have nf:T ∉ i0 (env::outer):=fun hm=>by
    obtain⟨_,o,ho,hn⟩:=hl.mem hm;rw[hT] at ho;cases ho;exact hn ts dT
  have sz:(s.heap.update T (Obj.mapFields (·.setIfInBounds 3 Value.none))).objs.size=s.heap.objs.size:=Heap.size_after_update ..;refine gC (s:={ s with heap:=s.heap.update T (Obj.mapFields (·.setIfInBounds 3 Value.none)) }) jc (hl.of_keeps fun b o hb hn=>⟨o,(mQ b fun z=>?_).trans hb,rfl⟩) hf ((mQ e ne.symm).trans he) hd (fM.mp h1).1 fun h' G=>?_
  · subst z;rw[hT] at hb;cases hb;exact hn ts dT
  · have e1:(s.heap.update T (Obj.mapFields (·.setIfInBounds 3 Value.none))).objs.size=s.heap.objs.size:=sz;have G:=G;dsimp only at G;rw[e1] at G;refine k h' ⟨fun b o hb hn hx q=>G.keep b o hb hn (by simp) ((mQ b fun z=>hx (by simp[z])).trans q),fun b o hb q=>G.slot b o hb ((mQ b fun z=>nf (z▸hb)).trans q),kU (aH _),G.exc,G.ent⟩
end
def Met (X:Cx) (pins:aG) (H:Hp) (h:Heap) (e:ah) (cls:ai) (dc:Option ah):Prop:=
  ∃(oe:Obj) (vs:Array ai) (T:ah) (oT:Obj) (ts:Array ai),h.get? e=some oe/\oe.cls=cls/\oe.dict=dc/\oe.data = .fields vs/\vs[1]? = some (.ref T)/\T≠e/\h.get? T=some oT/\oT.data = .fields ts/\ts[3]? = some .none/\iw X pins H e/\iw X pins H T
section
variable {X:Cx}{pins:aG}{σ:St}{H:Hp}{s:au}{E:XK}
theorem Yd {Q:Unit->au->Prop}{E':aA}{u:ai}{s':au}(I:Inv X pins σ H s) (x2:X.stack=X.env::X.outer) (x3:X.env.frame=some X.env.locals) (h:xK X.prog X.w X.stack H s E u s')
    (k:∀e cls dc H' h',u = .ref e->Inv X pins σ H' { s' with heap:=h' }->Met X pins H' h' e cls dc->E cls dc H'->Q () { s' with heap:=h' }) :
    wpAny (model X.prog X.w) X.A (noteFrame u X.env) (fun _ s1=>wpAny (model X.prog X.w) X.A (setFlight u none) Q E' s1) E' s':=by
  obtain⟨e,cls,dc,H',rfl,os,bare,un,bu,fl,hE⟩:=h;have I':=I.rN os un bu bare (ch:=[]) (fun b z=>absurd z (by simp));obtain⟨oe,vs,T,oT,ts,he,hc,rZ,hd,h1,uB,hT,dT,h3,He,HT,ne,nT⟩:=fl;have fr:=I'.ok.frames;have st:=I'.stack;rw[x2] at fr st;refine Yc fr st x3 he hd h1 hT dT h3 uB fun h' G=>?_
  have F1:iw X pins H' e:=I.pM ne He;have F2:iw X pins H' T:=I.pM nT HT;have sf:∀b∈i0 (X.env::X.outer),H' b=none:=by
    have:=I'.lP;rw[x2] at this;exact this
  have U:Un (i0 X.stack) [e,T] H' H' s'.heap h':=by
    rw[x2];refine⟨fun b o q n nf nx=>G.keep b o (fun z=>nx (by simp[z])) nf (fun z=>nx (by rw[ji.mp z];simp)) q,fun b o q n hb nx=>G.slot b o hb q,fun b o q n _=>n,fun b o q nx=>?_,fun _ _ z=>z,fun _ _ _ z=>z,fun _ ps z=>⟨#[],by rw[Array.append_empty];exact z⟩⟩
    by_cases hb:b∈i0 (X.env::X.outer)
    · obtain⟨sl,z⟩:=G.slot b o hb q;exact⟨_,z⟩
    · exact⟨o,G.keep b o (fun z=>nx (by simp[z])) hb (fun z=>nx (by rw[ji.mp z];simp)) q⟩
  have zW:jo X.prog X.w H' h':=fun a o q=>by
    refine (bu a o q).dR (fun b u hb z=>?_) (fun _ z=>z) fun _ _ z=>z
    have Hb:H' b≠none:=by
      rcases hb with z | z
      · rw[z,q];simp
      · rw[z];simp
    exact G.keep b u (fun z=>Hb (z▸He)) (fun z=>Hb (sf b z)) (fun z=>Hb (by rw[ji.mp z];exact HT)) z
  have I2:Inv X pins σ H' { s' with heap:=h' }:=I'.rN (s':={ s' with heap:=h' }) (ch:=[e,T]) rfl U zW I'.bare fun b hb=>by
    have F:iw X pins H' b:=by
      rcases aJ.mp hb with z | z
      · rw[z];exact F1
      · rw[ji.mp z];exact F2
    exact⟨F.2.2.2.1,F.2.1,F.2.2.2.2.1,F.2.2.2.2.2⟩
  obtain⟨Ye,cR,t1,t2,t3⟩:=G.ent;have Yg:s'.heap.objs.size≠e:=jG (aK he);exact k e cls dc H' h' rfl I2 ⟨_,_,s'.heap.objs.size,Ye,cR,G.exc,hc,rZ,rfl,by simp[(fM.mp h1).1],Yg,t1,t2,t3,F1,I'.pM (aH _) (bu.fresh (aH _))⟩ hE
end
structure mV (K:aE) (D:ah):Prop where
  nt:PySem.W.instIn K (.ref D) (.type "tuple")=some false
  ty:PySem.W.isClsIn K D=true
  ex:PySem.W.mroIn K D (.type "BaseException")=some true
section
variable {M:Model}{A:Around}{E:aA}{s:au}{K:aE}{e C D:ah}{oe:Obj}{b:Bool}
theorem O9 {Q:Bool->au->Prop}(X:K.In s.heap) (he:s.heap.get? e=some oe) (hc:oe.cls = .ref C) (cd:mV K D) (hs:PySem.W.mroIn K C (.ref D)=some b) (h:Q b s):wpAny M A (excMatches (.ref e) (.ref D)) Q E s:=by
  have L1:=PySem.W.looks_instIn (M:=M) X cd.nt;have L3:=PySem.W.looks_mroIn (M:=M) X cd.ex;have L4:=PySem.W.looks_mroIn (M:=M) X hs;have L5:PySem.W.Looks M s.heap (typeOf (.ref e)) (.ref C):=hc▸(PySem.W.Looks.ld he).andThen .now;unfold excMatches;refine aj (L1.here ?_);dsimp only;rw[aq (by decide)];refine aj (aD ?_);simp only [kF,List.forIn_nil];have L6:PySem.W.Looks M s.heap (isExcClass (.ref D)) true:=by
    unfold isExcClass;refine PySem.W.Looks.andThen (a:=true) ?_ ?_
    · obtain⟨c,hc⟩:=Option.isSome_iff_exists.mp cd.ty;unfold PySem.W.clsIn at hc;split at hc
      · rename_i hk;exact (PySem.W.Looks.ld (part:=_) (X _ _ hk)).andThen .now
      · cases hc
    · exact L3
  refine aj (aj (aj (L6.here ?_)));rw[aq (by decide)];refine aD (aD (aj (L5.here (aj (aj (aj (L4.here ?_)))))));cases b with
  | true=>rw[av rfl];exact aD (aD (aD h))
  | false=>rw[aq (by decide)];exact aD (aD (aD h))
end
section
variable {X:Cx}{pins:aG}{σ:St}{H:Hp}{s:au}
theorem Inv.DV {a:ah}{o:HO}(I:Inv X pins σ H s) (f:iw X pins H a) (xe:X.ex = []) (ok:bG X.prog X.w (upd H a o) s.heap a o):Inv X pins σ (upd H a o) s:=by
  obtain⟨f1,f2,f3,f4,f5,f6⟩:=f;have f4:X.cW.heap.objs.size<=a:=f4.resolve_left (by rw[xe];simp);refine⟨I.ok,I.os,I.bare,⟨I.base.keep,I.base.slot,fun b ob q n hx=>?_,I.base.there,fun b xs q=>?_,fun b ob u q=>?_,fun b ps q=>?_⟩,I.loc,I.cell,?_,fun x c z=>?_,fun p hp=>?_,fun b ob q=>?_,I.len⟩
  · rw[zg (fun z=>absurd (aK q) (Nat.not_lt.mpr (by rw[z];exact f4)))];exact I.base.free b ob q n hx
  · have:=I.base.eF b xs q;rw[zg (fun z=>by rw[z,f1] at this;cases this)];exact this
  · have:=I.base.kI b ob u q;rw[zg (fun z=>by rw[z,f1] at this;cases this)];exact this
  · obtain⟨m,this⟩:=I.base.lC b ps q;refine⟨m,?_⟩;rw[zg (fun z=>by rw[z,f1] at this;cases this)];exact this
  · rw[zg f2.symm];exact I.free
  · rw[zg (f5 x c z)];exact I.eS x c z
  · obtain⟨q1,q2,q3,q4,q5⟩:=I.pin p hp;exact⟨q1,by rw[zg (f6 p hp)];exact q2,q3,q4,q5⟩
  · by_cases z:b=a
    · subst z;rw[zd] at q;cases q;exact ok
    · rw[zg z] at q;refine (I.bu b ob q).dR (fun _ _ _ z=>z) (fun c w=>?_) fun c xs w=>?_
      · rw[zg (fun z=>by rw[z,f1] at w;cases w)];exact w
      · rw[zg (fun z=>by rw[z,f1] at w;cases w)];exact w
theorem GQ {M:Model}{A:Around}{E:aA}{i:Nat}{n:Str}{pos:Pos}{Q:Unit->au->Prop}(I:Inv X pins σ H s) (hN:X.N.Nodup) (hi:X.N[i]? = some n) (hl:X.env.scope.names.lookup n=some .local)
    (h:∀s',Inv X pins (σ.set i none) H s'->Q () s'):wpAny M A (do bindName X.env n .none;unbindBehindTheSuite X.env n pos) Q E s:=by
  have zD:(X.env.scope.kind == .class||(X.env.scope.kind == .module&&X.env.locals != X.env.globals))=false:=by rw[I.ok.kind];rfl
  refine aj (wpAny_bindName (Bg I hN hi (.inl hl) (v:=.cQ) rfl (fun s1 I1=>?_) (.inr hl)));unfold unbindBehindTheSuite;refine wpAny_onRaise ?_;unfold unbindName;refine aj (wpAny_point (aj ?_));unfold deleteName;obtain⟨m,hn,eT⟩:=id I1.loc;have qw:X.env.kindOf n=some .local:=hl;simp only [qw,zD];rw[aq (by decide)];have Pa:i<(σ.set i (some V.cQ)).length:=by rw[I1.len];exact (bU.mp hi).1
  obtain⟨u,ru,lu⟩:=eT i n .cQ hi (by rw[oG (by simpa using Pa)]) (.inl hl);have mn:(m n).isSome=true:=by
    rcases lu with ⟨_,z⟩ | ⟨z,_⟩
    · rw[z];rfl
    · rw[qw] at z;rcases z with z | z<;>cases z
  refine aj (wpAny_nsDel_keeps hn fun h2 v rO sP=>?_);rw[mn];simp only [if_true,Bool.not_true,jP,dY];refine aD (wpAny_point (h _ ?_));have uI:=I1.uI;obtain⟨oL,_,_,Mf,_⟩:=id hn;refine⟨I1.ok,I1.os,I1.bare,⟨fun b o e n hb hx=>?_,fun b o e n hb hx=>?_,I1.base.free,fun b o e hx=>?_,I1.base.eF,I1.base.kI,I1.base.lC⟩,⟨_,rO,fun j y v' e1 e2 e3=>?_⟩,fun y c e=>?_,I1.free,I1.eS,fun p hp=>?_,fun b ob e=>?_,by simpa using I.len⟩
  · exact (sP.2 b (aW (dG (aK e) I1.ok.above))).trans (I1.base.keep b o e n hb hx)
  · obtain⟨sl,e1⟩:=I1.base.slot b o e n hb hx;exact⟨sl,(sP.2 b (aW (dG (aK e) I1.ok.above))).trans e1⟩
  · obtain⟨o',e1⟩:=I1.base.there b o e hx;exact⟨o',(sP.2 b (aW (dG (aK e) I1.ok.above))).trans e1⟩
  · have hj:j≠i:=fun z=>by
      subst z;rw[oG (by simpa using Pa)] at e2;cases e2
    rw[oK (aC hj)] at e2;obtain⟨u',r',q⟩:=eT j y v' e1 (by rw[oK (aC hj)];exact e2) e3;refine⟨u',r',?_⟩;rcases q with ⟨k,z⟩ | ⟨k,c,z1,z2⟩
    · refine .inl ⟨k,?_⟩;have:y≠n:=fun z=>hj (HL hN e1 (z▸hi))
      simp[this,z]
    · exact .inr ⟨k,c,z1,z2.sameBut sP (uI y c z1)⟩
  · obtain⟨w',z⟩:=I1.cell y c e;exact⟨w',z.sameBut sP (uI y c e)⟩
  · obtain⟨e,n,ne,nf,d⟩:=I1.pin p hp;exact⟨(sP.2 p.1 ne).trans e,n,ne,nf,d⟩
  · refine (I1.bu b ob e).dR (fun c w' hc q=>(sP.2 c ?_).trans q) (fun _ q=>q) fun _ _ q=>q
    rintro rfl;rcases hc with rfl | hc
    · rw[I1.free] at e;cases e
    · rw[I1.free] at hc;cases hc
end
def Cx.r6 (X:Cx) (pn:aG) (xe:aA):Cx:={ X with pn:=pn,xe:=xe }
def Cx.iY (X:Cx) (v:ai) (xe:aA):Cx:={ X with A:=X.A.mark (some v),calm:=false,xe:=xe }
structure Ke (X:Cx):Prop where
  st:X.stack=X.env::X.outer
  fr:X.env.frame=some X.env.locals
  ex:X.ex = []
def Pb (X:Cx) (Es:St->XK):Prop:=∀(pins:aG) (σ:St) (H:Hp) (s:au) (u:ai) (s':au),Inv X pins σ H s->xK X.prog X.w X.stack H s (Es σ) u s'->X.xe u s'
def qY (e C:ah) (dc:Option ah):HO:=.ext fun h=>∃oe vs,h.get? e=some oe/\oe.cls = .ref C/\oe.dict=dc/\oe.data = .fields vs
abbrev TH:=Ends->St->ah->Option ah->Hp->Prop
def PH (X:Cx) (hs:List ExceptHandler) (th:TH):Prop:=
  ∀(pins:aG) (s:au) (σ:St) (H:Hp) (D:Ends) (e C:ah) (dc:Option ah),Inv X pins σ H s->Met X pins H s.heap e (.ref C) dc->th D σ C dc H->wpAny (model X.prog X.w) X.A (handleBy (.ref e) X.env hs) (SP X pins D) X.xe s
def Yh:TH:=fun _ _ _ _ _=>False
def Pc (i:Nat) (D:Ends):Ends:={ nx:=fun σ H=>D.nx (σ.set i none) H,rt:=D.rt,bk:=fun σ H=>D.bk (σ.set i none) H,ct:=fun σ H=>D.ct (σ.set i none) H }
def Kf (K:aE) (i:Nat) (Dc:ah) (ts:TS) (yM:TH):TH:=fun D σ C dc H=>∃b,PySem.W.mroIn K C (.ref Dc)=some b/\
  if b=true then ∀e,H e=none->ts (Pc i D) (σ.set i (some (.ref e))) (upd H e (qY e C dc)) else yM D σ C dc H
def Kg (K:aE) (Dc:ah) (ts:TS) (yM:TH):TH:=fun D σ C dc H=>∃b,PySem.W.mroIn K C (.ref Dc)=some b/\
  if b=true then ts D σ H else yM D σ C dc H
def Kh (tb:(St->XK)->TS) (th:TH):TS:=fun D σ H=>tb (fun aN cls dc H'=>∃C,cls = .ref C/\th D aN C dc H') D σ H
def Yi (sp:Sp) (jW:List V) (Es:St->XK) (t:TA):TE:=fun σ H Q=>t σ H fun vs H1=>sp (vs++jW) H1 Q (Es σ)
section
variable {X:Cx}{pins:aG}{σ:St}{H:Hp}{s:au}
theorem GR {v:ai}{xe:aA}(I:Inv X pins σ H s):Inv (X.iY v xe) pins σ H s:=
  ⟨⟨I.ok.mod,I.ok.kind,I.ok.glob,I.ok.blt,I.ok.above,I.ok.inj,I.ok.has,I.ok.zB,(fun z=>absurd z bJ),I.ok.frames,I.ok.Bc,I.ok.Ff,I.ok.bs,I.ok.uH,I.ok.qG,I.ok.sL,I.ok.jS,I.ok.wV⟩,
    I.os,I.bare,I.base,I.loc,I.cell,I.free,I.eS,I.pin,I.bu,I.len⟩
theorem yN {v:ai}{xe:aA}(ok:X.Ok) (I:Inv (X.iY v xe) pins σ H s):Inv X pins σ H s:=⟨ok,I.os,I.bare,I.base,I.loc,I.cell,I.free,I.eS,I.pin,I.bu,I.len⟩
theorem Yj {xe:aA}(I:Inv X pins σ H s):Inv (X.r6 (X.pn++pins) xe) [] σ H s:=
  ⟨⟨I.ok.mod,I.ok.kind,I.ok.glob,I.ok.blt,I.ok.above,I.ok.inj,I.ok.has,I.ok.zB,I.ok.hd,I.ok.frames,I.ok.Bc,I.ok.Ff,I.ok.bs,I.ok.uH,I.ok.qG,I.ok.sL,I.ok.jS,I.ok.wV⟩,
    I.os,I.bare,I.base,I.loc,I.cell,I.free,I.eS,fun p hp=>I.pin p ((br.mp hp).elim id fun z=>absurd z (by simp)),I.bu,I.len⟩
theorem DW {pK:aG}{xe:aA}(ok:X.Ok) (I:Inv (X.r6 (X.pn++pins) xe) pK σ H s):Inv X pins σ H s:=
  ⟨ok,I.os,I.bare,I.base,I.loc,I.cell,I.free,I.eS,fun p hp=>I.pin p (cT _ hp),I.bu,I.len⟩
end
section
variable {X:Cx}{CX:ql}{k i:Nat}{f Dc:ah}{ps:List Str}{sp:Sp}{x n:Str}{p pos lI:Pos}{e:Expr}{es:List Expr}{t:TA}{Es:St->XK}{xP:Stmt}{r8 body:List Stmt}{h₀:ExceptHandler}{rest hs:List ExceptHandler}{ts:TS}{yM th:TH}{tb:(St->XK)->TS}
theorem Pd (F:jM X.prog X.w X.K X.mg X.base x ps k sp) (xe:Pb X Es) (hr:b8 k X.A) (hg:Gl X x) (ha:PA X (e::es) t) (iO:(x == ("__debug__" : Str))=false:=by decide)
    (he:starEach (e::es) X.env=(false,eval e X.env)::starEach es X.env:=by rfl) (gH:(backTo pos (starEach es X.env)).any (·.1)=false:=by rfl):PE X (.Call (.Name x p) (e::es) [] pos) (Yi sp [] Es t):=by
  obtain⟨f,fd,a,kp,_,b,G⟩:=F;intro pins s σ H Q I h;refine kq (yp I hg a ?_ iO);refine PySem.W.callWith_K (h₀:=X.base) I.ok.mod.Bb kp (bR (ha pos pins s σ H _ I h) fun us s1 ⟨vs,H1,I1,r,q⟩=>⟨I1.fX,?_⟩) he gH;have r2:Vals (vs++[]) (us++[]):=r.append .nil;have hl:(us++[]).length=ps.length:=by rw[←r2.length];exact G.len _ _ _ _ q
  refine eE (fk (G.run X.A X.stack s1 H1 ⟨us,[]⟩ (us++[]) (vs++[]) Q (Es σ) hr I1.uO ((Binds.all b) s1 us I1.fX hl) r2 q) fun r s' hq=>?_);cases r with
  | error e=>exact xe pins σ H1 s1 e s' I1 hq
  | ok fl=>
    cases fl with
    | ret u=>exact I1.after hq
    | next=>exact False.elim hq
    | brk=>exact False.elim hq
    | cont=>exact False.elim hq
theorem Pe (x:Ke X) (hb:∀pn xe (Es:St->XK),Pb (X.r6 pn xe) Es->nN (X.r6 pn xe) body (tb Es)) (hh:PH X (h₀::hs) th):PS X (.Try body (h₀::hs) [] [] pos) (Kh tb th):=by
  intro pins s σ H D I h;refine wpAny_Try_except ?_;refine b7 (hb (X.pn++pins) (fun e bA=>wpAny (model X.prog X.w) X.A (noteFrame e X.env) (fun _ iK=>wpAny (model X.prog X.w) X.A (setFlight e none) (fun _ nA=>wpAny (model X.prog X.w) X.A (handleBy e X.env (h₀::hs)) (SP X pins D) X.xe nA) X.xe iK) X.xe bA)
    (fun aN cls dc H'=>∃C,cls = .ref C/\th D aN C dc H') (fun pK aN H' s' u vZ I' Yk=>?_) [] s σ H D (Yj I) h) (fun fl s1 q=>?_) fun _ _ z=>z
  · refine Yd (DW I.ok I') x.st x.fr Yk fun e cls dc H2 h' hu I2 met hE=>?_
    subst hu;obtain⟨C,rfl,Yl⟩:=hE;exact hh pins _ aN H2 D e C dc I2 met Yl
  · cases fl with
    | next=>
      obtain⟨aN,H',J,q⟩:=q;exact mz ⟨aN,H',DW I.ok J,q⟩
    | brk=>
      obtain⟨aN,H',J,q⟩:=q;exact⟨aN,H',DW I.ok J,q⟩
    | cont=>
      obtain⟨aN,H',J,q⟩:=q;exact⟨aN,H',DW I.ok J,q⟩
    | ret u=>
      obtain⟨v,aN,H',J,r,q⟩:=q;exact⟨v,aN,H',DW I.ok J,r,q⟩
theorem Pf:PH X [] Yh:=fun _ _ _ _ _ _ _ _ _ _ h=>h.elim
theorem Pg (xf:Ke X) (hg:Gl X x) (hm:X.mg x=some (.ref Dc)) (cd:mV X.K Dc) (hN:X.N.Nodup) (hi:X.N[i]? = some n) (hl:X.env.scope.names.lookup n=some .local)
    (Kl:∀v xe,nN (X.iY v xe) (xP::r8) ts) (hr:PH X rest yM) (iO:(x == ("__debug__" : Str))=false:=by decide) :
    PH X (.ExceptHandler (some (.Name x p)) (some n) (xP::r8) lI::rest) (Kf X.K i Dc ts yM):=by
  intro pins s σ H D e C dc I met h;obtain⟨oe,vs,T,oT,Km,he,hc,rZ,hd,h1,uB,hT,dT,h3,F1,F2⟩:=met;obtain⟨b,hb,h⟩:=h;refine wpAny_handleBy_cons (codeAny_handlers_test (yp (X:=X.iY (.ref e) X.xe) (GR I) hg hm ?_ iO)) (by intro q;cases q);refine O9 (K:=X.K) I.fX he hc cd hb ?_;cases b with
  | false=>
    rw[aq (by decide)] at h;exact hr pins s σ H D e C dc I ⟨oe,vs,T,oT,Km,he,hc,rZ,hd,h1,uB,hT,dT,h3,F1,F2⟩ h
  | true=>
    rw[av rfl] at h;refine codeAny_handlers_suite_as ?_;refine wpAny_setFlight_none he hd h1 hT dT (fM.mp h3).1 ?_;have mQ:∀b,b≠T->(s.heap.update T (Obj.mapFields (·.setIfInBounds 3 .none))).get? b=s.heap.get? b:=fun b hb=>cA _ _ (aC hb)
    have I1:Inv X pins σ H { s with heap:=s.heap.update T (Obj.mapFields (·.setIfInBounds 3 .none)) }:=I.rR (t':=s.toks) (ch:=[T]) (fun b o hb q=>by rw[mQ b (fun z=>hb (by simp[z]))];exact q) fun b hb=>by rw[ji.mp hb];exact F2
    have yO:=(mQ e uB.symm).trans he;have I2:=I1.DV (a:=e) (o:=qY e C dc) F1 xf.ex ⟨⟨oe,vs,yO,hc,rZ,hd⟩,⟨oe,yO⟩,fun g1 g2 ⟨J9,BC,q1,q2⟩ kk=>⟨J9,BC,kk _ q1,q2⟩⟩;refine Bg I2 hN hi (.inl hl) (v:=.ref e) rfl (fun s2 I3=>?_) (.inr hl);refine bR (Kl (.ref e) _ pins s2 _ _ (Pc i D) (GR I3) (h e F1.1)) fun fl s3 q=>?_
    cases fl with
    | next=>
      obtain⟨aN,H',J,q⟩:=q;exact GQ (yN I.ok J) hN hi hl fun s5 J5=>⟨_,H',J5,q⟩
    | brk=>
      obtain⟨aN,H',J,q⟩:=q;exact GQ (yN I.ok J) hN hi hl fun s5 J5=>⟨_,H',J5,q⟩
    | cont=>
      obtain⟨aN,H',J,q⟩:=q;exact GQ (yN I.ok J) hN hi hl fun s5 J5=>⟨_,H',J5,q⟩
    | ret u=>
      obtain⟨v,aN,H',J,r,q⟩:=q;exact GQ (yN I.ok J) hN hi hl fun s5 J5=>⟨v,_,H',J5,r,q⟩
theorem Ym (xf:Ke X) (hg:Gl X x) (hm:X.mg x=some (.ref Dc)) (cd:mV X.K Dc)
    (Kl:∀v xe,nN (X.iY v xe) (xP::r8) ts) (hr:PH X rest yM) (iO:(x == ("__debug__" : Str))=false:=by decide) :
    PH X (.ExceptHandler (some (.Name x p)) none (xP::r8) lI::rest) (Kg X.K Dc ts yM):=by
  intro pins s σ H D e C dc I met h;obtain⟨oe,vs,T,oT,Km,he,hc,rZ,hd,h1,uB,hT,dT,h3,F1,F2⟩:=met;obtain⟨b,hb,h⟩:=h;refine wpAny_handleBy_cons (codeAny_handlers_test (yp (X:=X.iY (.ref e) X.xe) (GR I) hg hm ?_ iO)) (by intro q;cases q);refine O9 (K:=X.K) I.fX he hc cd hb ?_;cases b with
  | false=>
    rw[aq (by decide)] at h;exact hr pins s σ H D e C dc I ⟨oe,vs,T,oT,Km,he,hc,rZ,hd,h1,uB,hT,dT,h3,F1,F2⟩ h
  | true=>
    rw[av rfl] at h;refine codeAny_handlers_suite ?_;refine wpAny_setFlight_none he hd h1 hT dT (fM.mp h3).1 ?_;have mQ:∀b,b≠T->(s.heap.update T (Obj.mapFields (·.setIfInBounds 3 .none))).get? b=s.heap.get? b:=fun b hb=>cA _ _ (aC hb)
    have I1:Inv X pins σ H { s with heap:=s.heap.update T (Obj.mapFields (·.setIfInBounds 3 .none)) }:=I.rR (t':=s.toks) (ch:=[T]) (fun b o hb q=>by rw[mQ b (fun z=>hb (by simp[z]))];exact q) fun b hb=>by rw[ji.mp hb];exact F2
    refine bR (Kl (.ref e) _ pins _ _ _ D (GR I1) h) fun fl s3 q=>?_
    cases fl with
    | next=>
      obtain⟨aN,H',J,q⟩:=q;exact⟨_,H',yN I.ok J,q⟩
    | brk=>
      obtain⟨aN,H',J,q⟩:=q;exact⟨_,H',yN I.ok J,q⟩
    | cont=>
      obtain⟨aN,H',J,q⟩:=q;exact⟨_,H',yN I.ok J,q⟩
    | ret u=>
      obtain⟨v,aN,H',J,r,q⟩:=q;exact⟨v,_,H',yN I.ok J,r,q⟩
end
end L2
namespace L2
def BE (K:aE) (C:PySem.Addr):Prop:=∃bm,nX K C bm/\d7 bm
end L2
namespace L2
open PySem
def GS (K:aE) (C:ah):Bool:=match K.lookup C with
  | some ⟨.type t,_,.cls cd,sl⟩=>t == "type" && ((match cd.mro with | .ref c::bm=>c == C&&(bm.contains (.type "ValueError")&&(bm.contains (.type "BaseException")&&(!bm.contains (.type "AttributeError") && !bm.contains (.type "NameError")))) | _=>false)&&(!cd.hasDel &&
      (match sl.toList with | [_,_,_,_,some (.builtin i),_]=>i == "ValueError.__new__" | _=>false)))
  | _=>false
theorem Yn {K:aE}{C:ah}(h:GS K C=true):BE K C:=by
  unfold GS at h;split at h
  · rename_i t dd cd sl hk;rw[g9,g9,g9] at h;obtain⟨h1,h2,h3,h4⟩:=h;split at h2
    · rename_i c bm hm;split at h4
      · rename_i k0 k1 k2 k3 i k5 hs;simp only [g9,fC,Bool.not_eq_true'] at h1 h2 h3 h4;obtain⟨rfl,a1,a2,a3,a4⟩:=h2;subst h1 h4;refine⟨bm,⟨cd.name,cd.qualname,cd.ns,cd.bases,cd.hasDict,cd.slotNames,cd.subclasses,cd.abstract,cd.collection,dd,k0,k1,k2,k3,k5,?_⟩,⟨a1,a2,a3,a4⟩⟩;rw[hk];obtain⟨x1,x2,x3,x4,x5,x6,x7,x8,x9,y1,y2⟩:=cd;dsimp only at hm h3;subst hm h3;obtain⟨l⟩:=sl;dsimp only at hs;subst hs;rfl
      · cases h4
    · cases h2
  · cases h
end L2
namespace L2
open PySem PySem.Spec PyProof.Rows
structure pY (K:aE) (C:ah):Prop where
  ga:PySem.W.findIn K (.ref C) "__getattribute__" = some (some (.builtin "BaseException.__getattribute__"))
  gn:PySem.W.findIn K (.ref C) "__getattr__" = some none
  bx:PySem.W.mroIn K C (.type "BaseException")=some true
  hd:PySem.W.hasDictIn K C=true
section
variable {prog:aP}{w:World}{A:Around}{E:aA}{s:au}{K:aE}{x C:ah}{ox:Obj}{od:Option Obj}{name:Str}{v:ai}{expr:Bool}{Q:aA}
theorem Yo {Qf:Prop}(X:K.In s.heap) (I:PySem.W.InstAt s.heap x ox C od) (g:pY K C)
    (h:wpAny (model prog w) A.in1 (Builtin.«object.__getattribute__» ⟨[.ref x,.str name s.toks],[]⟩)
      (fun fin s'=>match fin with | .done (.ret v)=>wpAny (model prog w) A (handedOut v) Q E s' | _=>False) (fun _ _=>False) { s with toks:=s.toks+1 }) :
    wpAny (model prog w) A (getAttr (.ref x) name expr) Q E s:=by
  have FB:=PySem.F.attrBase_ValueError;refine aj (wpAny_mkText (dO (aj (I.type _ _ _ _ (fun _ _ e=>e) (aj (PySem.W.looks_findIn X g.ga _ _ _ _ (fun _ _ e=>e) ?_))))));dsimp only;rw[show (onTheHeap (Value.ref C)&&Value.builtin "BaseException.__getattribute__" == Value.builtin "object.__getattribute__")=false from by rw[show (Value.builtin "BaseException.__getattribute__" == Value.builtin "object.__getattribute__")=false from by decide +kernel,Bool.and_false],aq (by decide)];refine aj (PySem.W.looks_hook (mc:=.ref C) X (r:=none) (by rw[av (show onTheHeap (Value.ref C)=true from rfl)];exact g.gn) _ _ _ _ (fun _ _ e=>e) (aj (mE (dO ?_))));unfold callGetattribute;rw[show (expr&&onTheHeap (Value.builtin "BaseException.__getattribute__"))=false from by cases expr<;>rfl,aq (by decide)];unfold boundAndCalled;rw[FB.ga.bind];refine aj (aD ?_);show wpAny _ _ (call (.builtin "BaseException.__getattribute__") [.ref x,.str name s.toks]) _ _ _;refine eE ?_;refine kX FB.ga.plain PySem.F.entry_bexc_ga ?_;refine @PySem.W.check_slot (model prog w) _ _ { s with toks:=s.toks+1 } "BaseException.__getattribute__" "BaseException" "__getattribute__" (.ref x) [.str name s.toks] [] _ (by decide +kernel) (by decide +kernel) (I.type.andThen (PySem.W.looks_mroIn X g.bx)) (PySem.F.args_bexc_ga (.ref x) (.str name s.toks)) ?_;refine b7 h (fun fin s' z=>?_) fun _ _ z=>z.elim
  rcases fin with (_ | _ | _ | _) | _<;>first | exact z | exact z.elim
theorem Ph (X:K.In s.heap) (I:PySem.W.InstAt s.heap x ox C od) (g:pY K C)
    (hf:PySem.W.findObj K C od name=some (.value v)) (hh:PySem.W.handedIn v=true) (h:Q v { s with toks:=s.toks+1 }):wpAny (model prog w) A (getAttr (.ref x) name expr) Q E s:=by
  refine Yo (Qf:=True) X I g ?_;obtain⟨hh',g,d,t,os⟩:=s;have L0:=I.type (M:=model prog w);have L1:=PySem.W.looks_find (M:=model prog w) X I hf;unfold Builtin.«object.__getattribute__»;refine aj (aD (aj (aD (aj (L0.at (aj (L1.at ?_)))))));refine aD ?_;show wpAny _ _ (handedOut v) _ _ _;rw[PySem.W.handedOut_of hh];exact aD h
end
def Pj (K:aE) (ta:TE) (f:Str):TE:=fun σ H Q=>ta σ H fun x H1=>∃a C d fs v,x = .ref a/\H1 a=some (qY a C (some d))/\H1 d=some (.xd fs)/\pY K C/\bQ K C f/\fs.lookup f=some v/\Q v H1
section
variable {X:Cx}{pins:aG}{σ:St}{H:Hp}{s:au}{a C d:ah}{fs:List (Str×V)}{f:Str}{v:V}{A:Around}{E:aA}
theorem Yp {b:Bool}{Q:aA}(I:Inv X pins σ H s) (e:H a=some (qY a C (some d))) (ed:H d=some (.xd fs)) (c:pY X.K C) (n:bQ X.K C f) (l:fs.lookup f=some v)
    (h:∀u s',Inv X pins σ H s'->RelV v u->Q u s'):wpAny (model X.prog X.w) A (getAttr (.ref a) f b) Q E s:=by
  obtain⟨⟨oe,vs,h1,h2,h3,h4⟩,_,_⟩:=(show bG X.prog X.w H s.heap a (qY a C (some d)) from I.bu a _ e);obtain⟨mA,ns,r⟩:=(show bG X.prog X.w H s.heap d (.xd fs) from I.bu d _ ed);obtain⟨u,hu,ru⟩:=gg.some_of (v:=v) (o:=mA f) (by rw[←l];exact r f);obtain⟨od,ho,hl⟩:=Ig ns;have J:PySem.W.InstAt s.heap a oe C (some od):=⟨h1,h2,by unfold PySem.W.notCls;rw[h4],by rw[h3];exact ho⟩;exact Ph I.fX J c (PySem.W.findObj_own c.hd n rfl (by rw[hl,hu])) (Im ru) (h u _ (I.tok _) ru)
end
section
variable {X:Cx}{e:Expr}{f:Str}{pos:Pos}{ta:TE}
theorem Yq (he:PE X e ta) (hb:attributeBase e f X.env (eval e X.env)=eval e X.env):PE X (.Attribute e f pos) (Pj X.K ta f):=by
  intro pins s σ H Q I h;refine Ip hb (bR (he pins s σ H _ I h) fun u s1 aT=>?_);obtain⟨x,H1,I1,rx,a,C,d,fs,v,ex,ea,ed,c,n,l,q⟩:=aT;subst ex;obtain rfl:u=Value.ref a:=rx;exact Yp I1 ea ed c n l fun u' s2 I2 ru=>⟨v,H1,I2,ru,q⟩
end
end L2
namespace L2
open PySem
def xQ (C:ah) (o:Obj):Bool:=(match o with
  | ⟨.type t,_,.cls cd,sl⟩=>t == "type" && ((match cd.mro with | .ref c::bm=>c == C&&(bm.contains (.type "ValueError")&&(bm.contains (.type "BaseException")&&(!bm.contains (.type "AttributeError") && !bm.contains (.type "NameError")))) | _=>false)&&(!cd.hasDel &&
      (match sl.toList with | [_,_,_,_,some (.builtin i),_]=>i == "ValueError.__new__" | _=>false)))
  | _=>false)&&(match o.data with | .cls cd=>wJ cd.mro | _=>false)
theorem Pk {K:aE}{C:ah}{c0:ai}{dd:Option ah}{cd:ClassData}{sl:Array (Option ai)}(l:K.lookup C=some ⟨c0,dd,.cls cd,sl⟩) (h:xQ C ⟨c0,dd,.cls cd,sl⟩=true):GS K C=true/\J6 K C=true:=by
  unfold xQ at h;rw[g9] at h;refine⟨?_,?_⟩
  · unfold GS;rw[l];cases c0<;>first | exact h.1 | (have:=h.1;cases this)
  · unfold J6 PySem.W.clsIn;rw[l];exact h.2
theorem r9 {K:aE}{C:ah}{c0:ai}{dd:Option ah}{cd:ClassData}{sl:Array (Option ai)}(l:K.lookup C=some ⟨c0,dd,.cls cd,sl⟩) (h:xQ C ⟨c0,dd,.cls cd,sl⟩=true) (h1:PySem.W.hasDictIn K C=true)
    (h2:PySem.W.findIn K (.ref C) "__setattr__" = some (some (.builtin "object.__setattr__"))):sY K C:=⟨h1,(Pk l h).2,h2⟩
theorem vh {K:aE}{C:ah}{c0:ai}{dd:Option ah}{cd:ClassData}{sl:Array (Option ai)}(l:K.lookup C=some ⟨c0,dd,.cls cd,sl⟩) (h:xQ C ⟨c0,dd,.cls cd,sl⟩=true):BE K C:=Yn (Pk l h).1
end L2
namespace L2
open PySem PySem.Spec PyProof.Rows
section
variable {X:Cx}{k:Nat}{C:ah}{ps:List Str}{sp:Sp}{E:XK}{x:Str}{p pos bO:Pos}{e:Expr}{es:List Expr}{t:TA}
theorem Pn (M:jK X.prog X.w X.K X.mg X.base C "__init__" ps k sp) (xo:BE X.K C) (hr:b8 (k+1) X.A) (xe:nI X E) (hg:Gl X x) (hm:X.mg x=some (.ref C)) (BD:ps.length<=1000) (ha:PA X (e::es) t)
    (iO:(x == ("__debug__" : Str))=false:=by decide) (he:starEach (e::es) X.env=(false,eval e X.env)::starEach es X.env:=by rfl) (gH:(backTo bO (starEach es X.env)).any (·.1)=false:=by rfl) :
    PS X (.Raise (some (.Call (.Name x p) (e::es) [] bO)) none pos) (O8 C sp [] E (fun _ _ _=>False) t):=by
  obtain⟨f,fd,m,b,F⟩:=M;obtain⟨bm,xo,U⟩:=xo;exact Yb ⟨xo,U,m.at_,m.fn⟩ F hr xe (fun _ _ _ _ _ _ _ z=>z.elim) hg hm (.all b) .nil BD ha iO he gH
end
theorem Po {X:Cx}{e:Expr}{f:Str}{pos:Pos}{ta:TE}(K:aE) (h:X.K=K) (he:PE X e ta) (hb:attributeBase e f X.env (eval e X.env)=eval e X.env):PE X (.Attribute e f pos) (Pj K ta f):=h▸Yq he hb
open Sem (wp)
namespace Rv
theorem slot_next:Slot "list_reverseiterator" "__next__" "list_reverseiterator.__next__":=
  .of (owner:="list_reverseiterator") (n:="__next__") (by rw[typeLookup_type,qD];kernel_rfl) (by decide +kernel) (by decide +kernel) (by decide +kernel)
    (by first | exact .inl (by decide +kernel) | exact .inr (by decide +kernel)) (by rw[jF];kernel_rfl)
theorem nY:Slot "list_reverseiterator" "__iter__" "list_reverseiterator.__iter__":=
  .of (owner:="list_reverseiterator") (n:="__iter__") (by rw[typeLookup_type,qD];kernel_rfl) (by decide +kernel) (by decide +kernel) (by decide +kernel)
    (by first | exact .inl (by decide +kernel) | exact .inr (by decide +kernel)) (by rw[jF];kernel_rfl)
theorem entry_next:entryFor table "list_reverseiterator.__next__" = some Builtin.«list_reverseiterator.__next__»:=entryFor_of_tree (by kernel_rfl)
theorem qZ:entryFor table "list_reverseiterator.__iter__" = some Builtin.«dict_keyiterator.__iter__»:=
  entryFor_alias (id':="dict_keyiterator.__iter__") (by kernel_rfl) (by first | rfl | decide +kernel | (unfold String.splitOn;simp +decide [String.splitOnAux])) (by decide +kernel) (by kernel_rfl)
theorem owner:Manifest.owners.lookup (String.ofList ['r','o','t','a','r','e','t','i','e','s','r','e','v','e','r','_','t','s','i','l'].reverse)=some Manifest.sig_list_reverseiterator:=by kernel_rfl
theorem args_next (a:ai):argsOk "list_reverseiterator.__next__" ⟨[a],[]⟩:=by
  unfold argsOk;rw[signature?_of (id:="list_reverseiterator.__next__") (n:="__txen__".toList) (o:="rotaretiesrever_tsil".toList) (by kernel_rfl) owner]
  kernel_rfl
theorem sZ (a:ai):argsOk "list_reverseiterator.__iter__" ⟨[a],[]⟩:=by
  unfold argsOk;rw[signature?_of (id:="list_reverseiterator.__iter__") (n:="__reti__".toList) (o:="rotaretiesrever_tsil".toList) (by kernel_rfl) owner]
  kernel_rfl
theorem mro_reversed:mroOf (.type "reversed")=pure [.type "reversed",.type "object"]:=by rw[mroOf_type];kernel_rfl
theorem Yr:typeLookup (.type "reversed") "__new__" = pure (some (.builtin "reversed.__new__")):=by rw[typeLookup_type,qD];kernel_rfl
theorem made:Bind.madeBy (.type "reversed")=pure (some "reversed.__new__"):=madeBy_type mro_reversed Yr (by decide +kernel)
theorem typeCall (a:ai):checkTypeCall "reversed" ⟨[a],[]⟩=pure ():=by kernel_rfl
theorem xR (a:ai):checkBuiltinCall "reversed.__new__" ⟨[.type "reversed",a],[]⟩=pure ():=by kernel_rfl
theorem gC:entryFor table "reversed.__new__" = some Builtin.«reversed.__new__»:=entryFor_of_tree (by kernel_rfl)
theorem Au:isSubtype (.type "list_reverseiterator") (.type "reversed")=pure false:=by rw[jF];kernel_rfl
theorem sub_self:isSubtype (.type "reversed") (.type "reversed")=pure true:=by rw[jF];kernel_rfl
theorem vm:isSubtype (.type "dict") (.type "dict")=pure true:=by rw[jF];kernel_rfl
end Rv
def iS (h:Heap) (it l:ah) (j:Int):Prop:=∃o,h.get? it=some o/\o.cls = .type "list_reverseiterator"/\o.data = .fields #[.ref l,.int j 0]
theorem iS.typeIs {s:au}{it l:ah}{j:Int}(x:iS s.heap it l j):s.TypeIs (.ref it) "list_reverseiterator":=let ⟨o,ho,hc,_⟩:=x;⟨o,ho,hc⟩
theorem iS.at {h h':Heap}{it l:ah}{j:Int}(x:iS h it l j) (e:∀o,h.get? it=some o->h'.get? it=some o):iS h' it l j:=let ⟨o,ho,r⟩:=x;⟨o,e _ ho,r⟩
section
variable {prog:aP}{w:World}{A:Around}{E:aA}{s:au}
theorem Pp {it l:ah}{j:Int}{Q:aA}(hit:iS s.heap it l j) (h:Q (.ref it) s):wpAny (model prog w) A (pyIter (.ref it)) Q E s:=by
  refine wpAny_pyIter_slot hit.typeIs Rv.nY (jR Rv.nY hit.typeIs Rv.qZ ?_ (Rv.sZ _));show wpAny _ _ (ret (.ref it)) _ _ s;exact aD ⟨_,rfl,"list_reverseiterator",_,hit.typeIs,Rv.slot_next.lookup,h⟩
theorem Ys {it l:ah}{j:Nat}{items:Array ai}{x:ai}{Q:Option ai->au->Prop}(hit:iS s.heap it l (j:Int)) (hl:s.heap.IsList l items) (hx:items[j]? = some x)
    (hQ:∀h',iS h' it l ((j:Int)-1)->Heap.SameBut it s.heap h'->Q (some x) { s with heap:=h' }):wpAny (model prog w) A (pyNext (.ref it)) Q E s:=by
  obtain⟨o,ho,hc,hd⟩:=id hit;obtain⟨ol,Yt,_,nl,Yu⟩:=hl;unfold pyNext;refine aj (mE (oF (name:=Str.ofString "__next__") hit.typeIs Rv.slot_next (jR Rv.slot_next hit.typeIs Rv.entry_next ?_ (Rv.args_next _))));show wpAny _ _ (field (.ref it) 1 >>= _) _ _ s;refine aj (gM ho hd (x:=.int j 0) rfl ?_);show wpAny _ _ (if (j:Int)<0 then _ else _) _ _ s;rw[aq (by lia)];show wpAny _ _ (field (.ref it) 0 >>= _) _ _ s;refine aj (gM ho hd (x:=.ref l) rfl ?_);refine aj (ie Yt Yu ?_);simp only [Int.toNat_natCast,hx];refine aj (iI ho hd (by simp) (aD ⟨x,rfl,aD (hQ _ ?_ (Heap.SameBut.update ..))⟩));exact⟨_,c7 _ ho (jO (jj hd _)),(Obj.cls_mapFields ..).trans hc,by rw[jj hd];simp[rawInt]⟩
theorem Yv {it l:ah}{j:Int}{Q:Option ai->au->Prop}(hh:A.handled=none) (hit:iS s.heap it l j) (hj:j<0)
    (hQ:∀h',(∀b o,s.heap.get? b=some o->h'.get? b=some o)->Q none { s with heap:=h' }):wpAny (model prog w) A (pyNext (.ref it)) Q E s:=by
  obtain⟨o,ho,hc,hd⟩:=id hit;unfold pyNext;refine aj (mE (oF (name:=Str.ofString "__next__") hit.typeIs Rv.slot_next (jR Rv.slot_next hit.typeIs Rv.entry_next ?_ (Rv.args_next _))));show wpAny _ _ (field (.ref it) 1 >>= _) _ _ s;refine aj (gM ho hd (x:=.int j 0) rfl ?_);show wpAny _ _ (if j<0 then _ else _) _ _ s;rw[av hj];refine aj (gc (aj ?_));show wpAny _ _ (newExc (.type "StopIteration") [] >>= _) _ _ _;refine aj ?_;simp only [newExc,newTuple];refine aj (g8 ?_ (by size_fits));refine aj (m:=firstArgMember _ _) (kH (a:=Value.none) (by first | rfl | (simp only [firstArgMember];rfl)) ?_);refine g8 ?_ (by size_fits);simp only [raiseNew];refine aj (wpAny_handled ?_);rw[show A.in1.handled=none from hh];refine aj (aD (wpAny_throw ?_));refine aj (kB (T:="StopIteration") (b:=true) ⟨_,bH _ rfl,rfl⟩ isSubtype_stop ?_);exact aD (hQ _ fun b o e=>bq _ (bq _ e))
end
def BF (K:aE) (a:ah) (xs:List V):It:=
  ⟨fun i H=>aI K H a xs/\i<xs.length,fun i H x H'=>H'=H/\xs.reverse[i]? = some x,fun i _=>xs.length<=i⟩
theorem Yw {P:aP}{w:World}{K:aE}{tg:Expr}(a it:ah) (xs:List V):Turn P w K tg (BF K a xs) [it] it (fun i h=>iS h it a ((xs.length:Int)-1-i)) where
  mem:=by simp
  obj:=fun i h st b hb=>by
    have e:b=it:=by simpa using hb
    subst e;obtain⟨o,e,c,d⟩:=st;exact⟨o,e,fun v z=>by rw[d] at z;cases z⟩
  keep:=fun i h h' st k=>st.at fun o e=>k it (by simp) o e
  item:=by
    intro X hP hw hK hc i pins s σ H E I hf st hg;subst hP hw hK;obtain⟨hq,hi⟩:=hg;obtain⟨its,rv,p,hz⟩:=I.list hq;have hx:xs[xs.length-1-i]? = some (xs[xs.length-1-i]'(by lia)):=aU _;obtain⟨u,hu,ru⟩:=rv.get hx;obtain⟨f0,f1,f2,f3,f4,f5⟩:=hf it (by simp);have ej:(xs.length:Int)-1-i=((xs.length-1-i:Nat):Int):=by lia
    rw[ej] at st;refine Ys st p.isList (x:=u) (by simpa using hu) fun h' pN sb=>?_
    have I1:Inv X pins σ H { s with heap:=h' }:=I.turned (t':=s.toks) (fun b o hb e=>(sb.2 b hb).trans e) f0 f1 f3 f4 f5;obtain⟨o,e,c,d⟩:=id pN;refine⟨u,rfl,Fo (s:={ s with heap:=h' }) e c d (by decide) ⟨_,H,I1,ru,⟨rfl,?_⟩,?_,fun b hb=>(hf b hb).1⟩⟩
    · rw[List.getElem?_reverse hi];exact hx
    · show iS h' it a ((xs.length:Int)-1-(i+1:Nat));have:(xs.length:Int)-1-(i+1:Nat)=((xs.length-1-i:Nat):Int)-1:=by lia
      rw[this];exact pN
  done:=by
    intro X hP hw hK hc i pins s σ H E I hf st hg;subst hP hw hK;have hg:xs.length<=i:=hg;exact Yv (I.ok.hd hc) st (by lia) fun h' eb=>⟨rfl,I.kept (t':=s.toks) eb⟩
  self:=fun _ _ _ _ _ st h=>Pp st h
def BG (l:ah) (n:Nat):Obj:={ cls:=.type "list_reverseiterator",data:=.fields #[.ref l,rawInt ((n:Int)-1)] }
theorem Yx (l:ah) (items:Array ai) :
    Meets (Builtin.«list.__reversed__» ⟨[.ref l],[]⟩) (fun _ R s=>s.heap.IsList l items/\R (.ok (.ret (.ref s.heap.objs.size))) { s with heap:=s.heap.push (BG l items.size) }):=
  .of_wp fun prog w A R s h=>by
    obtain⟨hl,h⟩:=h;obtain⟨o,ho,hc,n,hd⟩:=hl
    wp_walk
    rw[hd]
    wp_walk
    exact⟨_,rfl,h⟩
theorem Yy (l:ah) (items:Array ai) :
    Meets (Builtin.«reversed.__new__» ⟨[.type "reversed",.ref l],[]⟩) (fun _ R s=>s.heap.IsList l items/\R (.ok (.ret (.ref s.heap.objs.size))) { s with heap:=s.heap.push (BG l items.size) }):=
  .of_wp fun prog w A R s h=>by
    obtain⟨hl,h⟩:=h;have hT:=hl.typeIs;have hk:=oM.lookup;have hb:=oM.bind (.ref l);have sub:=Rv.sub_self
    wp_walk
    refine fk (kX oM.plain F.entry_list_reversed (oM.check _ _ _ _ _ _ _ _ hT (F.args_list_reversed_1 _) (Yx l items prog w A.in1
      (wants (fun v s1=>v = .ref s.heap.objs.size/\s1 = { s with heap:=s.heap.push (BG l items.size) }) (fun e s'=>R (.error e) s')) s ⟨hl,rfl,rfl⟩))) fun r s1 hr=>?_
    cases r with
    | error e=>exact hr
    | ok fl=>
      cases fl with
      | ret obj=>
        obtain⟨rfl,rfl⟩:=hr;exact aD ⟨_,rfl,h⟩
      | _=>exact hr.elim
section
variable {prog:aP}{w:World}{A:Around}{E:aA}{s:au}
theorem Yz {l:ah}{items:Array ai}{Q:aA}(hl:s.heap.IsList l items)
    (h:Q (.ref s.heap.objs.size) { s with heap:=s.heap.push (BG l items.size) }):wpAny (model prog w) A (call (.type "reversed") [.ref l]) Q E s:=by
  have hct:=Rv.typeCall (.ref l);have Pq:=Rv.made;have YA:=Rv.mro_reversed;refine eE (codeAny_of_tree ?_);show wpAny (model prog w) _ (callAny (.type "reversed") _) _ _ _;refine aD ⟨Code.quiet_builtin _ (by decide +kernel),ic F.entry_type_call ?_⟩;rw[Around.under_plain (weight_type_call_type "reversed" [.ref l] []) (units_type_call_type "reversed" [.ref l] [])];have h1:(Value.type "reversed" == Value.type "type")=false:=by decide +kernel
  have h2:((Manifest.find? "reversed").bind (·.mro.findSome? fun t=>(Manifest.find? t).bind fun b=>if b.noNew then some true else if b.attrs.any (·.1 == "__new__") then some false else none)).getD false=false:=by decide +kernel
  repeat (any_goals first | wp_step | assumption)
  refine fk (kX (by decide +kernel) Rv.gC (kH (Rv.xR _) (Yy l items prog w A.in1
    (wants (fun obj s1=>obj = .ref s.heap.objs.size/\s1 = { s with heap:=s.heap.push (BG l items.size) }) E) s ⟨hl,rfl,rfl⟩))) fun r s1 hr=>?_
  cases r with
  | error e=>exact hr
  | ok fl=>
    cases fl with
    | ret obj=>
      obtain⟨rfl,rfl⟩:=hr;have hT:({ s with heap:=s.heap.push (BG l items.size) }:au).TypeIs (.ref s.heap.objs.size) "list_reverseiterator":=⟨_,bH _ rfl,rfl⟩;have YB:=Rv.Au
      repeat (any_goals first | wp_step | assumption)
    | _=>exact hr.elim
end
def DX (K:aE) (te:TE):TI:=fun σ H R=>te σ H fun x H1=>∃l xs,x = .ref l/\aI K H1 l xs/\R (BF K l xs) H1
section
variable {X:Cx}{tg:Expr}
theorem YC {e:Expr}{te:TE}{p pos:Pos}(hg:Gl X "reversed") (hm:X.mg "reversed" = none) (he:PE X e te) (hs:starEach [e] X.env = [(false,eval e X.env)]:=by rfl) :
    PI X tg (.Call (.Name "reversed" p) [e] [] pos) (DX X.K te):=by
  intro pins s σ H R I h;refine Call_ (zE I hg hm boot_reversed (ou (bR (zc he zf hs pos pins s σ H (fun vs H1=>match vs with | [x]=>∃l xs,x = .ref l/\aI X.K H1 l xs/\R (BF X.K l xs) H1 | _=>False) I h) fun us s1 aT=>?_) (by rw[hs];rfl) rfl));obtain⟨vs,H1,I1,r1,q1⟩:=aT
  match vs,q1 with
  | [x],q1=>
    obtain⟨l,xs,rfl,hl,q⟩:=q1;obtain⟨u,rfl,ru⟩:=pO r1;cases ru;obtain⟨its,rv,pl,hz⟩:=I1.list hl;have hn:=rv.length;refine Yz pl.isList (Pp (j:=(its.toArray.size:Int)-1) ⟨_,bH _ rfl,rfl,rfl⟩ ?_);refine⟨s1.heap.objs.size,[s1.heap.objs.size],_,_,H1,rfl,I1.kept (t':=s1.toks) fun b o e=>bq _ e,Yw l _ xs,⟨_,bH _ rfl,rfl,?_⟩,fun b hb=>?_,q⟩
    · show Data.fields #[.ref l,rawInt ((its.toArray.size:Int)-1)] = .fields #[.ref l,.int ((xs.length:Int)-1-(0:Nat)) 0];rw[bV,hn];simp[rawInt]
    · have e:b=s1.heap.objs.size:=by simpa using hb
      subst e;exact I1.pM (aH _) (I1.bu.fresh (aH _))
theorem YD {e:Expr}{te:TE}{p pos:Pos}(K:aE) (h:X.K=K) (hg:Gl X "reversed") (hm:X.mg "reversed" = none) (he:PE X e te) (hs:starEach [e] X.env = [(false,eval e X.env)]:=by rfl) :
    PI X tg (.Call (.Name "reversed" p) [e] [] pos) (DX K te):=h▸YC hg hm he hs
theorem YE {K:aE}{a:ah}{xs:List V}{g:TG}{tb:TS}{D:Ends}{σ:St}{H:Hp}(Pv:Nat->St->Hp->Prop) (h0:Pv 0 σ H) (hl:∀i σ H,i<=xs.length->Pv i σ H->aI K H a xs)
    (hs:∀i x σ H,xs.reverse[i]? = some x->Pv i σ H->g x σ H fun nj H2=>tb { D with nx:=Pv (i+1),ct:=Pv (i+1),bk:=D.nx } nj H2) (hd:∀σ H,Pv xs.length σ H->D.nx σ H) :
    ∃W:Nat->Nat->St->Hp->Prop,(∃m,W 0 m σ H)/\∀i m σ H,W i m σ H->
      ((BF K a xs).stop i H/\D.nx σ H)\/((BF K a xs).go i H/\∃N:St->Hp->Prop,(∀aN H',N aN H'->∃m',m'<m/\W (i+1) m' aN H')/\∀x H',(BF K a xs).uL i H x H'->g x σ H' fun nj H2=>tb { D with nx:=N,ct:=N,bk:=D.nx } nj H2):=by
  refine⟨fun i m σ H=>m=xs.length-i/\i<=xs.length/\Pv i σ H,⟨xs.length,by simp,c6 _,h0⟩,?_⟩;rintro i m σ H ⟨rfl,hi,p⟩;have q:=hl i σ H hi p
  by_cases dz:i<xs.length
  · refine .inr ⟨⟨q,dz⟩,Pv (i+1),fun aN H' p'=>⟨xs.length-(i+1),by lia,rfl,dz,p'⟩,fun x H' y=>?_⟩;obtain⟨e,y⟩:=y;subst e;exact hs i x σ _ y p
  · have e:i=xs.length:=by lia
    subst e;exact .inl ⟨aH _,hd σ H p⟩
end
theorem YF (a b:ah) (ha:(a == sysModules)=false) (hb:(b == sysModules)=false) (es:Array DictEntry) (ep wW:Nat) :
    Meets (Builtin.«dict.__ne__» ⟨[.ref a,.ref b],[]⟩) (fun _ R s=>j0 s.heap a es ep/\j0 s.heap b #[] wW/\R (.ok (.ret (.bool (!decide (es.size=0))))) s):=
  .of_wp fun prog w A R s h=>by
    obtain⟨h1,h2,h⟩:=h;have t1:=h1.typeIs;have t2:=h2.typeIs;obtain⟨o1,g1,c1,d1⟩:=h1;obtain⟨o2,g2,c2,d2⟩:=h2;have sub:=Rv.vm
    wp_walk
    rw[d1];refine aD ?_;show wpAny _ _ (dictEntries b >>= _) _ _ _;refine aj (oV g2 d2 ?_)
    by_cases e:es.size=0
    · rw[aq (by rw[e];simp)];rw[aR e] at h;have e':es = #[]:=Array.eq_empty_of_size_eq_zero e;subst e';refine aj (o7 g1 d1 ?_);simp
      wp_walk
      exact⟨_,rfl,h⟩
    · rw[av (by simp[e])];rw[bg e] at h;refine aj (gc (aD ?_));exact aD ⟨_,rfl,h⟩
section
variable {X:Cx}
theorem YG (hu:X.A.units+9<cLine):jJ X (compareOp .NotEq) (fun x y H Q=>∃p q kvs,x = .ref p/\y = .ref q/\Rd H p (.dK kvs)/\H q=some (.dK [])/\Q (.bl (!decide (kvs = []))) H):=by
  intro pins s σ H x y v u Q I rx ry h;obtain⟨p,q,kvs,rfl,rfl,hp,hq,k⟩:=h;cases rx;cases ry;obtain⟨z,hs,vs,rel,o,es,ep,e,ex,dt,kk,pr,nd⟩:=wc I.bu hp;obtain⟨z',C4,BC,Kn,o',yl,wW,e',HF,YH,kk',YI,nd'⟩:=wc I.bu (.inl hq);have l1:kvs.length=vs.length:=Paired.length rel;have l2:es.size=vs.length:=by rw[←pr.length];simp
  have l3 : [].length=BC.length:=Paired.length Kn;have l4:yl.size=BC.length:=by rw[←YI.length];simp
  have e0:yl = #[]:=Array.eq_empty_of_size_eq_zero (by rw[l4,←l3];rfl);subst e0;refine richCompare_meets_room (op:=.NotEq) ⟨o,e,ex.1⟩ ⟨o',e',HF.1⟩ PySem.F.slot_dict_ne PySem.F.entry_dict_ne (PySem.F.args_dict_ne_2 _ _) (YF p q hs C4 es ep wW) ⟨⟨o,e,ex,dt⟩,⟨o',e',HF,YH⟩,?_⟩ (by lia);refine⟨(fun x=>nomatch x),.bl (!decide (kvs = [])),H,I,?_,k⟩;show Value.bool _=Value.bool _
  congr 2
  exact jm.mpr ⟨fun z=>List.eq_nil_of_length_eq_zero (by lia),fun z=>by rw[z] at l1;simp at l1;lia⟩
end
section
variable {X:Cx}
theorem Ko (K:aE) (hK:X.K=K):jJ X (binaryOp .Add) (fun x y H Q=>∃l b xs zs,x = .ref l/\y = .ref b/\aI K H l xs/\aI K H b zs/\xs.length+zs.length<=sizeLine/\∀p,H p=none->Q (.ref p) (upd H p (.lst (xs++zs)))):=by
  subst hK;intro pins s σ H x y v u Q I rx ry h;obtain⟨l,b,xs,zs,rfl,rfl,hH,hB,hz,q⟩:=h;cases rx;cases ry;obtain⟨its,r,hl,z⟩:=I.list hH;obtain⟨dB,r2,lF,z2⟩:=I.list hB;have e1:=r.length;have e2:=r2.length;obtain⟨⟨cls,dd,data,sl⟩,ho,hc,n,hd⟩:=hl.isList;obtain⟨⟨IA,FF,data2,FG⟩,zP,yw,n2,hd2⟩:=lF.isList;simp only at hc hd yw hd2;subst hc hd yw hd2;have e:its.toArray++dB.toArray=(its++dB).toArray:=by simp
  refine concat_meets ⟨_,ho,rfl⟩ ⟨_,zP,rfl⟩ noFill_list_add seq_list_add PySem.F.slot_list_add PySem.F.entry_list_add (PySem.F.args_list_add_2 _ _) (list_addW l b its.toArray dB.toArray n n2 dd FF sl FG (by rw[bV,bV];lia)) ⟨ho,zP,?_⟩;rw[e];exact⟨.ref _,_,I.zT (t':=s.toks) (r.append r2) (by rw[bK];lia),rfl,q _ I.fresh⟩
end
section
variable {P:aP}{w:World}{K:aE}{mg:Str->Option ai}{base:Heap}
theorem fH.x {x:Str}{ps:List Str}{k:Nat}{sp:Sp}(F:fH P w K mg base x ps k sp):jM P w K mg base x ps k sp:=by
  obtain⟨f,fd,a,kp,lk,b,F⟩:=F;refine⟨f,fd,a,kp,lk,b,F.len,fun A outer s H args us vs Q E hr he hb hv hs=>?_⟩;refine fk (F.run A outer s H args us vs Q E hr he hb hv hs) fun r s' hq=>?_
  cases r with
  | ok fl=>
    cases fl with
    | ret u=>exact hq
    | next=>exact False.elim hq
    | brk=>exact False.elim hq
    | cont=>exact False.elim hq
  | error e=>exact False.elim hq
theorem jM.or {x:Str}{ps:List Str}{k:Nat}{Pr Pu:Sp}(F:jM P w K mg base x ps k Pr) (G:jM P w K mg base x ps k Pu):jM P w K mg base x ps k (fun vs H Q E=>Pr vs H Q E\/Pu vs H Q E):=by
  obtain⟨f,fd,a,kp,⟨oc,od,lE,lk⟩,b,F⟩:=F;obtain⟨f',Vl,a',C8,⟨Vm,Vn,Jk,FY⟩,b',G⟩:=G;have e:f=f':=Value.ref.inj (cD (a.symm.trans a'));subst e;have e2:=cD (lk.symm.trans FY);injection e2 with _ _ h _
  injection h with h
  subst h;refine⟨f,fd,a,kp,⟨oc,od,lE,lk⟩,b,fun vs H Q E h=>h.elim (F.len vs H Q E) (G.len vs H Q E),fun A outer s H args us vs Q E hr he hb hv hs=>?_⟩;rcases hs with hs | hs
  · exact F.run A outer s H args us vs Q E hr he hb hv hs
  · exact G.run A outer s H args us vs Q E hr he hb hv hs
end
end L2
namespace PySem
open Sem (wp)
end PySem
namespace L2
open PySem PySem.Spec PyProof.Rows
section
variable {X:Cx}
theorem YJ {C:ah}{ps:List Str}{k:Nat}{sp:Sp}{x:Str}{p pos:Pos}{e:Expr}{es:List Expr}{t:TA}(F:jK X.prog X.w X.K X.mg X.base C "__init__" ps k sp) (YK:PySem.W.makesIn X.K C=true) (hk:PySem.W.keepIn X.K (.ref C)=true) (hr:b8 (k+1) X.A) (hg:Gl X x) (hm:X.mg x=some (.ref C)) (ha:PA X (e::es) t) (iO:(x == ("__debug__" : Str))=false:=by decide)
    (he:starEach (e::es) X.env=(false,eval e X.env)::starEach es X.env:=by rfl) (gH:(backTo pos (starEach es X.env)).any (·.1)=false:=by rfl) :
    PE X (.Call (.Name x p) (e::es) [] pos) (MG C sp [] E0 t):=by
  obtain⟨f,fd,a,b,G⟩:=F;exact TY ⟨YK,a.at_,a.fn,hk⟩ G hr hg hm (.all b) .nil FT ha iO he gH
end
section
variable {X:Cx}
inductive Av:HO->Prop where
  | k {kvs:List (Key×V)}:Av (.dK kvs)
  | t {kvs:List (List Key×V)}:Av (.dT kvs)
variable {tg:Expr}
end
section
variable {P:aP}{w:World}{K:aE}{mg:Str->Option ai}{base:Heap}
def mW (P:aP) (w:World) (K:aE) (mg:Str->Option ai) (base:Heap) (CX:ql) (C:ah) (m:Str) (ps:List Str) (k:Nat) (sp:Sp):Prop:=
  ∃(f:ah) (fd:FuncData),Meth K C m f/\(∃oc od lE,K.lookup f=some ⟨oc,od,.func fd,lE⟩)/\(∀us:List ai,us.length=ps.length->bindArgs fd ⟨us,[]⟩=pure (ps.zip us))/\i8 P w K mg base CX k f fd ps sp
theorem sS.sd {C:ah}{qual m:Str}{st:Stmt}{N ps:List Str}{k:Nat}{sp:Sp}(D:sS K C qual m st ps) (S:aF N ps (zo st)) (len:∀vs H Q E,sp vs H Q E->vs.length=ps.length)
    (jX:∀(f:ah) (bY:ai) (A:Around) (outer:List Env) (s:au) (H:Hp) (vs:List V) (Q:VK) (E:XK),b8 k (A.deeper (envOfC qual (zo st) s.heap.objs.size f bY))->sp vs H Q E->
      ∃t,nN (mJ qL P w K mg base N qual (zo st) f bY A outer s H E).zF (uu st) t/\t { nx:=fun _ H'=>Q .cQ H',rt:=Q } (start N vs) H):mW P w K mg base qL C m ps (k+1) sp:=by
  obtain⟨f,fd,F,a,b⟩:=D;obtain⟨oc,od,kV,doc,pm,an,bY,ct,lE,e,lk,pL⟩:=id F.ex;exact⟨f,fd,a,⟨oc,od,lE,e▸lk⟩,b,F.ok S len (jX f)⟩
theorem mW.m {C:ah}{m:Str}{ps:List Str}{k:Nat}{sp:Sp}(F:mW P w K mg base qL C m ps k sp):jK P w K mg base C m ps k sp:=by
  obtain⟨f,fd,a,_,b,F⟩:=F;exact⟨f,fd,a,b,F⟩
end
section
open SeqAt
end
end L2
namespace Dm
open PySem PySem.NumText L2
def tu (fs:List cI) (af:List ah):List (Key×V):=List.zipWith (fun f a=>((Sum.inr f.n:Key),V.ref a)) fs af
theorem YL {fs:List cI}{af:List ah}(h:af.length=fs.length):(tu fs af).map (·.1)=fs.map fun f=>(Sum.inr f.n:Key):=by
  unfold tu
  induction fs generalizing af with
  | nil=>cases af<;>rfl
  | cons f r ih=>
    cases af with
    | nil=>simp at h
    | cons a r'=>rw[List.zipWith_cons_cons,dJ,dJ,ih (by simpa using h)]
theorem Pw {fs:List cI}{af:List ah}(h:af.length=fs.length):(tu fs af).map (·.2)=af.map V.ref:=by
  unfold tu
  induction fs generalizing af with
  | nil=>cases af with
    | nil=>rfl
    | cons a r=>simp at h
  | cons f r ih=>
    cases af with
    | nil=>simp at h
    | cons a r'=>rw[List.zipWith_cons_cons,dJ,dJ,ih (by simpa using h)]
theorem Px {fs:List cI}{af:List ah}(h:af.length=fs.length) {x:Str}:(Sum.inr x:Key)∈(tu fs af).map (·.1)↔x∈fs.map cI.n:=by
  rw[YL h,aM,aM];constructor
  · rintro ⟨f,hf,e⟩;exact⟨f,hf,jH e⟩
  · rintro ⟨f,hf,e⟩;exact⟨f,hf,by rw[e]⟩
theorem YM {fs:List cI}{af:List ah}{f:cI}{a:ah}(h:af.length=fs.length) (hn:f.n ∉ fs.map cI.n):putK (tu fs af) (Sum.inr f.n:Key) (.ref a)=tu (fs++[f]) (af++[a]):=by
  rw[IK _ (BA fun z=>hn ((Px h).mp z))];unfold tu;rw[List.zipWith_append (by lia)];rfl
structure cG (C:ah) (H:Hp) (p pm du dt df:ah) (lo hi:Int) (us:List Str) (ts:List aS) (fs:List cI) (af:List ah):Prop where
  ob:∃dx,H p=some (.ins C dx (mT (.ref pm) du dt df))
  m:H pm=some (.tup [.int lo,.int hi])
  u:H du=some (.dK (dU us))
  t:H dt=some (.dT (uA (ts.map bP)))
  f:H df=some (.dK (tu fs af))
  ft:bT H af (fs.map gk)
  nu:du≠df
structure jt (us:List Str) (ts:List aS) (fs:List cI):Prop where
  nd:us.Nodup
  nm:∀x∈us,nG x=true
  tok:∀t∈ts,lS us t
  Aw:ts.Nodup
  se:∀f∈fs,JH us f
  Ax:(fs.map cI.n).Nodup
section
variable {C:ah}{H H':Hp}{p pm du dt df:ah}{lo hi:Int}{us k9:List Str}{ts cR:List aS}{fs gG:List cI}{af lT:List ah}
theorem jt.tw (h:jt us ts fs):∀vs∈ts.map bP,∀v∈vs,Wd v:=fun vs hv=>by
  obtain⟨u,hu,rfl⟩:=aM.mp hv;exact ((h.tok u hu).ok.words h.nm).1
theorem cG.j6 (h:cG C H p pm du dt df lo hi us ts fs af):af.length=fs.length:=by have:=h.ft.len;rw[ay] at this;exact this
theorem cG.same (h:cG C H p pm du dt df lo hi us ts fs af) (s:ak H H'):cG C H' p pm du dt df lo hi us ts fs af:=by
  obtain⟨dx,e⟩:=h.ob;exact⟨⟨dx,s _ _ e⟩,s _ _ h.m,s _ _ h.u,s _ _ h.t,s _ _ h.f,h.ft.same s,h.nu⟩
theorem cG.lst (h:cG C H p pm du dt df lo hi us ts fs af) {q:ah}{xs ys:List V}(e:H q=some (.lst xs)):cG C (upd H q (.lst ys)) p pm du dt df lo hi us ts fs af:=by
  obtain⟨dx,e1⟩:=h.ob;have st:∀b o,H b=some o->o≠.lst xs->upd H q (.lst ys) b=some o:=fun b o eb ne=>by
    rw[zg (fun z=>?_)]
    · exact eb
    · rw[z,e] at eb;exact ne (cD eb).symm
  exact⟨⟨dx,st _ _ e1 (by intro z;cases z)⟩,st _ _ h.m (by intro z;cases z),st _ _ h.u (by intro z;cases z),st _ _ h.t (by intro z;cases z),st _ _ h.f (by intro z;cases z),h.ft.dR (fun b xs eb=>st _ _ eb (by intro z;cases z)),h.nu⟩
theorem cG.Kp (h:cG C H p pm du dt df lo hi us ts fs af):cG C (upd H du (.dK (dU k9))) p pm du dt df lo hi k9 ts fs af:=by
  obtain⟨dx,e1⟩:=h.ob;have st:∀b o,H b=some o->o≠.dK (dU us)->upd H du (.dK (dU k9)) b=some o:=fun b o eb ne=>by
    rw[zg (fun z=>?_)]
    · exact eb
    · rw[z,h.u] at eb;exact ne (cD eb).symm
  exact⟨⟨dx,st _ _ e1 (by intro z;cases z)⟩,st _ _ h.m (by intro z;cases z),zd,st _ _ h.t (by intro z;cases z),by rw[zg h.nu.symm];exact h.f,h.ft.dR (fun b xs eb=>st _ _ eb (by intro z;cases z)),h.nu⟩
theorem cG.Ay (h:cG C H p pm du dt df lo hi us ts fs af):cG C (upd H dt (.dT (uA (cR.map bP)))) p pm du dt df lo hi us cR fs af:=by
  obtain⟨dx,e1⟩:=h.ob;have st:∀b o,H b=some o->o≠.dT (uA (ts.map bP))->upd H dt (.dT (uA (cR.map bP))) b=some o:=fun b o eb ne=>by
    rw[zg (fun z=>?_)]
    · exact eb
    · rw[z,h.t] at eb;exact ne (cD eb).symm
  exact⟨⟨dx,st _ _ e1 (by intro z;cases z)⟩,st _ _ h.m (by intro z;cases z),st _ _ h.u (by intro z;cases z),zd,st _ _ h.f (by intro z;cases z),h.ft.dR (fun b xs eb=>st _ _ eb (by intro z;cases z)),h.nu⟩
theorem cG.Az (h:cG C H p pm du dt df lo hi us ts fs af) (ft:bT H lT (gG.map gk)):cG C (upd H df (.dK (tu gG lT))) p pm du dt df lo hi us ts gG lT:=by
  obtain⟨dx,e1⟩:=h.ob;have st:∀b o,H b=some o->o≠.dK (tu fs af)->upd H df (.dK (tu gG lT)) b=some o:=fun b o eb ne=>by
    rw[zg (fun z=>?_)]
    · exact eb
    · rw[z,h.f] at eb;exact ne (cD eb).symm
  exact⟨⟨dx,st _ _ e1 (by intro z;cases z)⟩,st _ _ h.m (by intro z;cases z),by rw[zg h.nu];exact h.u,st _ _ h.t (by intro z;cases z),zd,ft.dR (fun b xs eb=>st _ _ eb (by intro z;cases z)),h.nu⟩
end
theorem YN {K:aE}{H:Hp}{n:Nat}{A B:ah}{as bs:List ah}{gs:List (List Str)}(hA:H A=some (.lst (as.map V.ref))) (hB:H B=some (.lst (bs.map V.ref))) (ta:Paired (fun c g=>H c=some (.lst (g.map V.str))) as gs) (tb:Paired (fun c g=>H c=some (.lst (g.map V.str))) bs gs):cU K H (n+1+1) (.ref A) (.ref B) true:=by
  have la:=Paired.length ta;have lb:=Paired.length tb;refine cU.Al (aI.of hA) (aI.of hB) (by rw[ay,ay];lia) fun i x y ex ey=>?_
  rw[aX] at ex ey;cases e1:as[i]? with
  | none=>rw[e1] at ex;cases ex
  | some a=>
    rw[e1] at ex;cases ex;cases e2:bs[i]? with
    | none=>rw[e2] at ey;cases ey
    | some b=>
      rw[e2] at ey;cases ey;obtain⟨g,hg,h1⟩:=Paired.get' ta e1;obtain⟨g',Py,h2⟩:=Paired.get' tb e2;rw[hg] at Py;cases Py;exact cU.uX (aI.of h1) (aI.of h2) JL
def tD (keys:List Str) (lv:Str->Nat) (n:Nat):List (List Str):=(List.range n).map fun j=>keys.filter (gS lv j)
theorem YO (keys:List Str) (lv:Str->Nat) (n:Nat):(tD keys lv n).length=n:=by unfold tD;rw[ay,iG]
theorem YQ {ln:Ln}{M:List Str}{lv qT:Str->Nat}{n n':Nat}(h:Lv ln M lv n) (h':Lv ln M qT n'):tD M lv n=tD M qT n':=by
  have en:=h.DS h';subst en;unfold tD;refine fQ fun j _=>?_
  refine List.filter_congr fun x hx=>?_
  unfold gS;rw[h.uniq h' _ x hx rfl]
theorem YR {H:Hp}{keys:List Str}{lv:Str->Nat}:∀{n:Nat}{cs:List ah},cs.length=n->(∀(j:Nat) c,cs[j]? = some c->H c=some (.lst ((keys.filter (gS lv j)).map V.str)))->Paired (fun c row=>H c=some (.lst (row.map V.str))) cs (tD keys lv n):=by
  have go:∀(cs:List ah) (rs:List (List Str)),cs.length=rs.length->(∀(j:Nat) c r,cs[j]? = some c->rs[j]? = some r->H c=some (.lst (r.map V.str)))->Paired (fun c row=>H c=some (.lst (row.map V.str))) cs rs:=by
    intro cs
    induction cs with
    | nil=>
      intro rs hl _;cases rs with
      | nil=>exact .nil
      | cons r rs=>cases hl
    | cons c cs ih=>
      intro rs hl h;cases rs with
      | nil=>cases hl
      | cons r rs=>exact .cons (h 0 c r rfl rfl) (ih rs (Nat.succ.inj hl) fun j c r h1 h2=>h (j+1) c r h1 h2)
  intro n cs hl h;refine go cs _ (by rw[YO];exact hl) fun j c r h1 h2=>?_
  unfold tD at h2;rw[aX] at h2;have hj:j<n:=by
    have:=iV h1;lia
  rw[oO hj] at h2;cases h2;exact h j c h1
theorem YS {ns:List Int}{a b:Nat}:∃cs:List Int,kJ (ns.map V.int) (some (a:Int)) (some (b:Int))=cs.map V.int/\cs.length<=b-a:=by
  refine⟨((ns.drop (HT.nv (ns.map V.int).length 0 (some (a:Int)))).take (HT.nv (ns.map V.int).length (ns.map V.int).length (some (b:Int))-HT.nv (ns.map V.int).length 0 (some (a:Int)))),?_,?_⟩
  · unfold kJ;rw[List.map_take,List.map_drop]
  · rw[bI,List.length_drop];unfold HT.nv;dsimp only;rw[aq (by lia),aq (by lia),ay];lia
theorem YT {us k9:List Str}{ts cR:List aS}(p:k9.Perm us) (h:∀y z,Nb cR y z↔Nb ts y z):mS k9 cR=mS us ts:=by
  unfold mS zk nU;rw[DK h,Ob p]
def YU (t:aS) (y z:Str):Prop:=t.k=gR/\((t.a=y/\t.b=z)\/(t.b=y/\t.a=z))
theorem Pz {ts:List aS}{y z:Str}:Nb ts y z↔∃t∈ts,YU t y z:=Iff.rfl
abbrev Tr:=aS×ah
abbrev Rw:=Str->List (Str×Tr)
def bZ (ts:List aS) (z:List Tr):Rw:=fun k=>(z.filter fun p=>decide (p.1.k≠gR/\aO ts p.1.a=k)).map fun p=>(aO ts p.1.b,p)
theorem PB {ts:List aS}{z:List Tr}{k:Str}:cX ts z k=(bZ ts z k).map fun q=>(q.1,q.2.2):=by unfold cX bZ;rw[dj];rfl
theorem kO {ts:List aS}{z:List Tr}{k l:Str}{b:Tr}:(l,b)∈bZ ts z k↔b∈z/\b.1.k≠gR/\aO ts b.1.a=k/\aO ts b.1.b=l:=by
  unfold bZ;rw[aM];constructor
  · rintro ⟨p,hp,e⟩;rw[cL,gx] at hp;cases e;exact⟨hp.1,hp.2.1,hp.2.2,rfl⟩
  · rintro ⟨h1,h2,h3,h4⟩;exact⟨b,by rw[cL,gx];exact⟨h1,h2,h3⟩,by rw[h4]⟩
abbrev d8:=Int×Str×List Tr
inductive Up (R:Rw) (F:Str->IS->Prop):Str->d8->Prop
  | bare {k:Str}{m:IS}(h:F k m):Up R F k (m.1,m.2,[])
  | up {k l:Str}{c:d8}{b:Tr}(u:Up R F l c) (h:(l,b)∈R k):Up R F k (c.1+eX b.1,c.2.1,c.2.2++[b])
inductive Dn (R:Rw) (F:Str->IS->Prop):Str->d8->Prop
  | bare {k:Str}{m:IS}(h:F k m):Dn R F k (m.1,m.2,[])
  | dn {k l:Str}{c:d8}{b:Tr}(u:Dn R F k c) (h:(l,b)∈R k):Dn R F l (c.1-eX b.1,c.2.1,b::c.2.2)
def j7 (R:Rw) (F:Str->IS->Prop) (k:Str) (m:Int):Prop:=(∃c,Up R F k c/\c.1=m)/\∀c,Up R F k c->c.1<=m
def j8 (R:Rw) (F:Str->IS->Prop) (k:Str) (m:Int):Prop:=(∃c,Dn R F k c/\c.1=m)/\∀c,Dn R F k c->m<=c.1
variable {R:Rw}{F G:Str->IS->Prop}{k:Str}{keys:List Str}
theorem j7.uniq {m n:Int}(h:j7 R F k m) (h':j7 R F k n):m=n:=by
  obtain⟨⟨c,u,e⟩,a⟩:=h;obtain⟨⟨c',u',e'⟩,a'⟩:=h';have h1:=a _ u';have h2:=a' _ u;lia
theorem j8.uniq {m n:Int}(h:j8 R F k m) (h':j8 R F k n):m=n:=by
  obtain⟨⟨c,u,e⟩,a⟩:=h;obtain⟨⟨c',u',e'⟩,a'⟩:=h';have h1:=a _ u';have h2:=a' _ u;lia
theorem YV {f:Str->Int}(h0:∀k m,F k m->k∈keys->m.1<=f k) (cl:∀k l b,(l,b)∈R k->k∈keys/\l∈keys) (h1:∀k l b,(l,b)∈R k->f l+eX b.1<=f k) {c:d8}(hk:k∈keys) (u:Up R F k c):c.1<=f k:=by
  induction u with
  | bare h=>exact h0 _ _ h hk
  | up u h ih=>
    have:=ih (cl _ _ _ h).2;have:=h1 _ _ _ h;show _+_<=_;lia
theorem YW {f:Str->Int}(h0:∀k m,F k m->k∈keys->f k<=m.1) (cl:∀k l b,(l,b)∈R k->k∈keys/\l∈keys) (h1:∀k l b,(l,b)∈R k->f l<=f k-eX b.1) {c:d8}(hk:k∈keys) (u:Dn R F k c):f k<=c.1:=by
  induction u with
  | bare h=>exact h0 _ _ h hk
  | dn u h ih=>
    have:=ih (cl _ _ _ h).1;have:=h1 _ _ _ h;show _<=_-_;lia
theorem YX {d:d8}(hd:Dn R G k d):∀{c:d8},Up R F k c->d.1<c.1->∃k' c' m,(k'=k\/∃l b,(l,b)∈R k')/\Up R F k' c'/\G k' m/\m.1<c'.1:=by
  induction hd with
  | bare h=>exact fun u hl=>⟨_,_,_,.inl rfl,u,h,hl⟩
  | @dn k l c b u h ih=>
    intro c' u' hl;have hl:c.1-eX b.1<c'.1:=hl;obtain⟨k',YY,m,h1,h2⟩:=ih (u'.up h) (show c.1<c'.1+eX b.1 by lia);refine⟨k',YY,m,?_,h2⟩;rcases h1 with rfl | h1
    · exact .inr ⟨_,_,h⟩
    · exact .inr h1
theorem PD {f g:Str->Int}(cl:∀k l b,(l,b)∈R k->k∈keys/\l∈keys) (hf:∀k∈keys,j7 R F k (f k)) (hg:∀k∈keys,j8 R G k (g k)):(∃k∈keys,g k<f k)↔∃k∈keys,∃c m,Up R F k c/\G k m/\m.1<c.1:=by
  constructor
  · rintro ⟨k,hk,hl⟩;obtain⟨⟨c,u,e⟩,_⟩:=hf k hk;obtain⟨⟨d,v,e'⟩,_⟩:=hg k hk;obtain⟨k',c',m,h1,h2,h3,h4⟩:=YX v u (by lia);refine⟨k',?_,c',m,h2,h3,h4⟩;rcases h1 with rfl | ⟨l,b,h⟩
    · exact hk
    · exact (cl _ _ _ h).1
  · rintro ⟨k,hk,c,m,u,h,hl⟩;have h1:=(hf k hk).2 _ u;have h2:=(hg k hk).2 _ (Dn.bare h);exact⟨k,hk,by have h2:g k<=m.1:=h2;lia⟩
theorem Rc.cons {ln:Ln}{k l:Str}{r:ah}(e:(l,r)∈ln k):∀{n:Nat}{s:Str},Rc ln l n s->Rc ln k (n+1) s
  | 0,s,h=>by rw[h.zero];exact Rc.step Rc.refl e
  | n+1,s,h=>by
    obtain⟨u,r',h1,h2⟩:=h.succ;exact (Rc.cons e h1).step h2
theorem Rc.short {ln:Ln}{keys:List Str}(cl:∀k∈keys,∀l r,(l,r)∈ln k->l∈keys) (nr:iA ln keys) {k s:Str}{n:Nat}(hk:k∈keys) (h:Rc ln k n s):n<keys.length:=by
  obtain⟨rs,w,e⟩:=h;obtain⟨vs,v0,v1,st⟩:=w.seq;rw[e] at v1 st;have hk:∀i,i<=n->vs i∈keys:=by
    intro i
    induction i with
    | zero=>intro _;rw[v0];exact hk
    | succ i ih=>
      intro hi;obtain⟨r,_,q⟩:=st i (by lia);exact cl _ (ih (by lia)) _ _ q
  have go:∀i d,i+d<=n->Rc ln (vs i) d (vs (i+d)):=by
    intro i d
    induction d with
    | zero=>intro _;exact Rc.refl
    | succ d ih=>
      intro hi;obtain⟨r,_,q⟩:=st (i+d) (by lia);exact (ih (by lia)).step q
  have main:∀i j,i<j->j<=n->vs i≠vs j:=fun i j qk hj e=>by
    have:=go i (j-i) (by lia);rw[show i+(j-i)=j by lia,←e] at this;exact nr _ (hk i (by lia)) _ (by lia) this
  have nd:((List.range (n+1)).map vs).Nodup:=Gh fun i j hi hj e=>by
    rcases mh i j with c | c | c
    · exact absurd e (main i j c (by lia))
    · exact c
    · exact absurd e.symm (main j i c (by lia))
  have:=uw (us:=keys) nd fun x hx=>by
    obtain⟨i,hi,rfl⟩:=aM.mp hx;exact hk i (by have:=dH.mp hi;lia)
  rw[ay,iG] at this;lia
def tE (R:Rw):Ln:=fun k=>(R k).map fun q=>(q.1,q.2.2)
theorem BH {l:Str}{b:Tr}(h:(l,b)∈R k):(l,b.2)∈tE R k:=aM.mpr ⟨(l,b),h,rfl⟩
theorem YZ {l:Str}{r:ah}(h:(l,r)∈tE R k):∃t,(l,(t,r))∈R k:=by
  obtain⟨⟨l',t,r'⟩,h',e⟩:=aM.mp h;cases e;exact⟨t,h'⟩
theorem Up.rc {c:d8}(u:Up R F k c):∃s,Rc (tE R) k c.2.2.length s:=by
  induction u with
  | bare h=>exact⟨_,Rc.refl⟩
  | up u h ih=>
    obtain⟨s,q⟩:=ih;refine⟨s,?_⟩;show Rc _ _ (_++[_]).length _;rw[bK];exact Rc.cons (BH h) q
theorem Dn.rc {c:d8}(cl:∀k l b,(l,b)∈R k->k∈keys/\l∈keys) (u:Dn R F k c) (hk:k∈keys):∃s∈keys,Rc (tE R) s c.2.2.length k:=by
  induction u with
  | bare h=>exact⟨_,hk,Rc.refl⟩
  | dn u h ih=>
    obtain⟨s,hs,q⟩:=ih (cl _ _ _ h).1;exact⟨s,hs,q.step (BH h)⟩
theorem PF (cl:∀k l b,(l,b)∈R k->k∈keys/\l∈keys):∀k∈keys,∀l r,(l,r)∈tE R k->l∈keys:=fun k _ l r h=>by
  obtain⟨t,h⟩:=YZ h;exact (cl _ _ _ h).2
theorem Up.short {c:d8}(cl:∀k l b,(l,b)∈R k->k∈keys/\l∈keys) (nr:iA (tE R) keys) (hk:k∈keys) (u:Up R F k c):c.2.2.length<keys.length:=by
  obtain⟨s,q⟩:=u.rc;exact q.short (PF cl) nr hk
theorem Dn.short {c:d8}(cl:∀k l b,(l,b)∈R k->k∈keys/\l∈keys) (nr:iA (tE R) keys) (hk:k∈keys) (u:Dn R F k c):c.2.2.length<keys.length:=by
  obtain⟨s,hs,q⟩:=u.rc cl hk;exact q.short (PF cl) nr hs
structure nJ (R:Rw) (F:Str->IS->Prop) (keys:List Str) (n:Nat) (M:List Str) (v:Str->d8):Prop where
  nd:M.Nodup
  sub:∀k∈M,k∈keys
  is:∀k∈M,Up R F k (v k)/\(v k).2.2.length=n
  all:∀k∈keys,∀c,Up R F k c->c.2.2.length=n->k∈M/\c.1<=(v k).1
theorem nJ.zero {v:Str->d8}(nd:keys.Nodup) (h:∀k∈keys,(v k).2.2 = []/\F k ((v k).1,(v k).2.1)) (hu:∀k m m',F k m->F k m'->m.1=m'.1):nJ R F keys 0 keys v:=by
  refine⟨nd,fun _ h=>h,fun k hk=>⟨?_,by rw[(h k hk).1];rfl⟩,fun k hk c u e=>⟨hk,?_⟩⟩
  · have:=Up.bare (R:=R) (h k hk).2;rw[←(h k hk).1] at this;exact this
  · cases u with
    | bare h'=>exact Int.le_of_eq (hu _ _ _ h' (h k hk).2)
    | up u h'=>
      have e:(_++[_]).length=0:=e;simp at e
structure nK (R:Rw) (M:List Str) (v:Str->d8) (k:Str) (z:List (Str×Tr)) (has:Prop) (c:d8):Prop where
  no:¬has->∀l b,(l,b)∈z->l ∉ M
  yes:has->∃l b,(l,b)∈z/\l∈M/\c=((v l).1+eX b.1,(v l).2.1,(v l).2.2++[b])
  max:has->∀l b,(l,b)∈z->l∈M->(v l).1+eX b.1<=c.1
theorem nJ.next {n:Nat}{M M':List Str}{v v':Str->d8}(cl:∀k l b,(l,b)∈R k->k∈keys/\l∈keys) (r:nJ R F keys n M v) (nd:M'.Nodup) (sub:∀k∈M',k∈keys) (h:∀k∈keys,nK R M v k (R k) (k∈M') (v' k)):nJ R F keys (n+1) M' v':=by
  refine⟨nd,sub,fun k hk=>?_,fun k hk c u e=>?_⟩
  · obtain⟨l,b,h1,h2,h3⟩:=(h k (sub k hk)).yes hk;obtain⟨u,e⟩:=r.is l h2;rw[h3];refine⟨u.up h1,?_⟩;show (_++[_]).length=_;rw[bK,e];rfl
  · cases u with
    | bare h'=>exact absurd e (by show ¬([]:List Tr).length=n+1;simp)
    | @up _ l c b u h'=>
      have e:(c.2.2++[b]).length=n+1:=e;rw[bK] at e;have e:c.2.2.length+1=n+1:=e;obtain⟨h1,h2⟩:=r.all l (cl _ _ _ h').2 c u (by lia);have hM:k∈M':=e7 fun z=>(h k hk).no z l b h' h1
      refine⟨hM,?_⟩;have:=(h k hk).max hM l b h' h1;show c.1+_<=_;lia
theorem nJ.stop {n:Nat}{v:Str->d8}(cl:∀k l b,(l,b)∈R k->k∈keys/\l∈keys) (r:nJ R F keys n [] v):∀k∈keys,∀c,Up R F k c->c.2.2.length<n:=by
  have no:∀k∈keys,∀c,Up R F k c->c.2.2.length≠n:=fun k hk c u e=>fT (r.all k hk c u e).1
  intro k hk c u
  induction u with
  | bare h=>
    have:=no _ hk _ (Up.bare h);show 0<n;have:(0:Nat)≠n:=this;lia
  | @up k l c b u h ih=>
    have h1:=ih (cl _ _ _ h).2;have h2:=no _ hk _ (u.up h);have h2:(c.2.2++[b]).length≠n:=h2;show (c.2.2++[b]).length<n;rw[bK] at h2 ⊢;have h2:c.2.2.length+1≠n:=h2;show c.2.2.length+1<n;lia
def cJ (H0 H:Hp) (a:ah) (c:d8):Prop:=∃l,H a=some (.tup [.int c.1,.str c.2.1,.ref l])/\H l=some (.lst (c.2.2.map fun p=>V.ref p.2))/\H0 l=none
def Y0 (fz:Bool) (o:Obj) (keys:List Str) (ad:Str->ah):HO:=if fz then .gp o (.dK (dV keys fun k=>.ref (ad k))) else .dK (dV keys fun k=>.ref (ad k))
section
variable {H0 H H':Hp}{a pd:ah}{c:d8}
theorem cJ.same (h:cJ H0 H a c) (s:ak H H'):cJ H0 H' a c:=by
  obtain⟨l,h1,h2,h3⟩:=h;exact⟨l,s _ _ h1,s _ _ h2,h3⟩
theorem cJ.put {kv:List (Key×V)}{o:HO}(h:cJ H0 H a c) (hd:H pd=some (.dK kv)):cJ H0 (upd H pd o) a c:=by
  obtain⟨l,h1,h2,h3⟩:=h;exact⟨l,by rw[zg (lO h1 hd (by intro z;cases z))];exact h1,by rw[zg (lO h2 hd (by intro z;cases z))];exact h2,h3⟩
theorem cJ.any (h:cJ H0 H a c):cJ (fun _=>none) H a c:=by
  obtain⟨l,h1,h2,_⟩:=h;exact⟨l,h1,h2,rfl⟩
theorem cJ.old {H1:Hp}(h:cJ H1 H a c) (s:ak H0 H1):cJ H0 H a c:=by
  obtain⟨l,h1,h2,h3⟩:=h;exact⟨l,h1,h2,s.free h3⟩
end
theorem Y3 {H:Hp}{pd:ah}{ob:Obj}{keys:List Str}{f:Str->V}(h:H pd=some (.gp ob (.dK (dV keys f)))) {k:Str}(hk:k ∉ keys):cz H pd (.str k) none:=.inl ⟨_,Sum.inr k,.inr ⟨ob,h⟩,rfl,(Af hk).symm⟩
theorem wK {ts:List aS}{z:List Tr}:cX ts z=tE (bZ ts z):=funext fun k=>PB
theorem Y4 {ts:List aS}{z:List Tr}{k:Str}:(bZ ts z k).length<=z.length:=by
  unfold bZ;rw[ay];exact fO _ _
theorem Kq {K:aE}{H:Hp}{p pu pt:ah}{x y:V}{us:List Str}{az:List ah}{ts:List aS}(h:nH K H p pu pt x y us az ts) {k l:Str}{b:Tr}(hb:(l,b)∈bZ ts (ts.zip az) k):H b.2=some (.tup (bP b.1))/\lS us b.1:=by
  have hz:=(kO.mp hb).1;obtain⟨i,hi⟩:=e9.mp hz;obtain⟨h1,h2⟩:=jf.mp hi;exact⟨uz h.tt h2 (by rw[aX,h1];rfl),h.ok _ (aZ h1)⟩
theorem AA {us:List Str}{ts:List aS}{az:List ah}(ht:∀t∈ts,t.a∈us/\t.b∈us):∀k l b,(l,b)∈bZ ts (ts.zip az) k->k∈zk ts (aL us)/\l∈zk ts (aL us):=fun k l b h=>by
  obtain⟨h1,h2,h3,h4⟩:=kO.mp h;have hm:=(iE (a:=b.1) (b:=b.2) h1).1;rw[←h3,←h4];exact⟨Dt ht (ht _ hm).1,Dt ht (ht _ hm).2⟩
theorem Kr {R:Rw}{k l:Str}{r:ah}{j:Nat}(h:(tE R k)[j]? = some (l,r)):∃t,(R k)[j]? = some (l,(t,r)):=by
  unfold tE at h;rw[aX] at h;cases e:(R k)[j]? with
  | none=>rw[e] at h;cases h
  | some q=>
    rw[e] at h;obtain⟨l',t,r'⟩:=q;cases h;exact⟨t,rfl⟩
theorem Ks {R:Rw}{k:Str}:(tE R k).length=(R k).length:=by unfold tE;rw[ay]
section
variable {R:Rw}{M:List Str}{v:Str->d8}{k:Str}{z:List (Str×Tr)}{has xS:Prop}{c c':d8}{l:Str}{b:Tr}
theorem nK.nil (h:¬has):nK R M v k [] has c:=⟨fun _ l b h=>(fT h).elim,fun h'=>absurd h' h,fun h'=>absurd h' h⟩
theorem rj {α:Type}{xs:List α}{x y:α}(h:y∈xs++[x]):y∈xs\/y=x:=by
  rcases br.mp h with h | h
  · exact .inl h
  · exact .inr (by simpa using h)
theorem nK.skip (h:nK R M v k z has c) (hl:l ∉ M):nK R M v k (z++[(l,b)]) has c:=by
  refine⟨fun hn l' b' h'=>?_,fun hy=>?_,fun hy l' b' h' hm=>?_⟩
  · rcases rj h' with h' | h'
    · exact h.no hn l' b' h'
    · cases h';exact hl
  · obtain⟨l',b',h1,h2⟩:=h.yes hy;exact⟨l',b',cT _ h1,h2⟩
  · rcases rj h' with h' | h'
    · exact h.max hy l' b' h' hm
    · cases h';exact absurd hm hl
theorem nK.dR (h:nK R M v k z has c) (hh:has) (le:(v l).1+eX b.1<=c.1):nK R M v k (z++[(l,b)]) has c:=by
  refine⟨fun hn=>absurd hh hn,fun hy=>?_,fun hy l' b' h' hm=>?_⟩
  · obtain⟨l',b',h1,h2⟩:=h.yes hy;exact⟨l',b',cT _ h1,h2⟩
  · rcases rj h' with h' | h'
    · exact h.max hy l' b' h' hm
    · cases h';exact le
theorem nK.take (h:nK R M v k z has c) (hl:l∈M) (hh:xS) (ge:has->c.1<(v l).1+eX b.1) (e:c'=((v l).1+eX b.1,(v l).2.1,(v l).2.2++[b])):nK R M v k (z++[(l,b)]) xS c':=by
  subst e;refine⟨fun hn=>absurd hh hn,fun hy=>⟨l,b,by simp,hl,rfl⟩,fun hy l' b' h' hm=>?_⟩;show _<=(v l).1+eX b.1;rcases rj h' with h' | h'
  · by_cases hc:has
    · have:=h.max hc l' b' h' hm;have:=ge hc;lia
    · exact absurd hm (h.no hc l' b' h')
  · cases h';exact gK _
theorem nK.congr (h:nK R M v k z has c) (e:has↔xS) (e':c=c'):nK R M v k z xS c':=by
  subst e';exact⟨fun hn=>h.no fun z=>hn (e.mp z),fun hy=>h.yes (e.mpr hy),fun hy=>h.max (e.mpr hy)⟩
end
structure mX (R:Rw) (F:Str->IS->Prop) (keys done:List Str) (v:Str->d8):Prop where
  is:∀k∈keys,Up R F k (v k)
  ge:∀k∈keys,∀m,F k m->m.1<=(v k).1
  le:∀k∈done,∀l b,(l,b)∈R k->(v l).1+eX b.1<=(v k).1
structure mY (R:Rw) (F:Str->IS->Prop) (keys done:List Str) (v:Str->d8):Prop where
  is:∀k∈keys,Dn R F k (v k)
  ge:∀k∈keys,∀m,F k m->(v k).1<=m.1
  le:∀k∈done,∀l b,(l,b)∈R k->(v l).1<=(v k).1-eX b.1
section
variable {R:Rw}{F:Str->IS->Prop}{keys done:List Str}{v:Str->d8}
theorem mX.lo (h:mX R F keys done v) (cl:∀k l b,(l,b)∈R k->k∈keys/\l∈keys) (all:∀k∈keys,k∈done) {k:Str}(hk:k∈keys):j7 R F k (v k).1:=
  ⟨⟨_,h.is k hk,rfl⟩,fun c u=>YV (f:=fun z=>(v z).1) (keys:=keys) (fun k m hf hk=>h.ge k hk m hf) cl (fun k l b hb=>h.le k (all k (cl _ _ _ hb).1) l b hb) hk u⟩
theorem mY.hi (h:mY R F keys done v) (cl:∀k l b,(l,b)∈R k->k∈keys/\l∈keys) (all:∀k∈keys,k∈done) {k:Str}(hk:k∈keys):j8 R F k (v k).1:=
  ⟨⟨_,h.is k hk,rfl⟩,fun c u=>YW (f:=fun z=>(v z).1) (keys:=keys) (fun k m hf hk=>h.ge k hk m hf) cl (fun k l b hb=>h.le k (all k (cl _ _ _ hb).1) l b hb) hk u⟩
end
theorem xT {ts:List aS}{fs:List cI}{lo y:Int}{k:Str}:xG ts fs lo k<=y↔lo<=y/\∀f∈fs,aO ts f.u=k->f.lo<=y:=by
  unfold xG
  induction fs generalizing lo with
  | nil=>simp
  | cons f fs ih=>
    rw[List.foldl_cons,ih]
    by_cases e:aO ts f.u=k
    · rw[av e];unfold Ov;constructor
      · rintro ⟨h1,h2⟩;refine⟨by split at h1<;>lia,fun g hg e'=>?_⟩;rcases aJ.mp hg with rfl | hg
        · split at h1<;>lia
        · exact h2 g hg e'
      · rintro ⟨h1,h2⟩;have:=h2 f (by simp) e;exact⟨by split<;>lia,fun g hg e'=>h2 g (bz _ hg) e'⟩
    · rw[aq e];constructor
      · rintro ⟨h1,h2⟩;refine⟨h1,fun g hg e'=>?_⟩;rcases aJ.mp hg with rfl | hg
        · exact absurd e' e
        · exact h2 g hg e'
      · rintro ⟨h1,h2⟩;exact⟨h1,fun g hg e'=>h2 g (bz _ hg) e'⟩
theorem vn {ts:List aS}{fs:List cI}{hi y:Int}{k:Str}:y<=GD ts fs hi k↔y<=hi/\∀f∈fs,aO ts f.u=k->y<=f.hi:=by
  unfold GD
  induction fs generalizing hi with
  | nil=>simp
  | cons f fs ih=>
    rw[List.foldl_cons,ih]
    by_cases e:aO ts f.u=k
    · rw[av e];unfold Ow;constructor
      · rintro ⟨h1,h2⟩;refine⟨by split at h1<;>lia,fun g hg e'=>?_⟩;rcases aJ.mp hg with rfl | hg
        · split at h1<;>lia
        · exact h2 g hg e'
      · rintro ⟨h1,h2⟩;have:=h2 f (by simp) e;exact⟨by split<;>lia,fun g hg e'=>h2 g (bz _ hg) e'⟩
    · rw[aq e];constructor
      · rintro ⟨h1,h2⟩;refine⟨h1,fun g hg e'=>?_⟩;rcases aJ.mp hg with rfl | hg
        · exact absurd e' e
        · exact h2 g hg e'
      · rintro ⟨h1,h2⟩;exact⟨h1,fun g hg e'=>h2 g (bz _ hg) e'⟩
def lJ (ts:List aS) (lo:Int) (z:Fz) (k:Str) (m:IS):Prop:=xE (wG lo (eK ts z k)) m
def lK (ts:List aS) (hi:Int) (z:Fz) (k:Str) (m:IS):Prop:=xF (wH hi (eK ts z k)) m
theorem PJ {ts:List aS}{fs:List cI}{af:List ah}{k:Str}(hl:af.length=fs.length) (P:cI->Prop):(∀p∈eK ts (fs.zip af) k,P p.1)↔∀f∈fs,aO ts f.u=k->P f:=by
  unfold eK;constructor
  · intro h f hf e;obtain⟨b,hb⟩:=Ox (bs:=af) hl f hf;exact h (f,b) (cL.mpr ⟨hb,aR e⟩)
  · intro h p hp;rw[cL,gx] at hp;exact h p.1 (iE (a:=p.1) (b:=p.2) hp.1).1 hp.2
theorem lJ.low {ts:List aS}{fs:List cI}{af:List ah}{lo:Int}{k:Str}{m:IS}(hl:af.length=fs.length) (h:lJ ts lo (fs.zip af) k m):m.1=xG ts fs lo k:=by
  have h1:=fun y=>WY h y
  have h2:=fun y=>(h1 y).trans ((and_congr_right fun _=>PJ hl (fun f=>f.lo<=y)).trans xT.symm)
  have a:=(h2 m.1).mp (gK _);have b:=(h2 (xG ts fs lo k)).mpr (gK _);lia
theorem lK.high {ts:List aS}{fs:List cI}{af:List ah}{hi:Int}{k:Str}{m:IS}(hl:af.length=fs.length) (h:lK ts hi (fs.zip af) k m):m.1=GD ts fs hi k:=by
  have h1:=fun y=>WZ h y
  have h2:=fun y=>(h1 y).trans ((and_congr_right fun _=>PJ hl (fun f=>y<=f.hi)).trans vn.symm)
  have a:=(h2 m.1).mp (gK _);have b:=(h2 (GD ts fs hi k)).mpr (gK _);lia
section
variable {R:Rw}{F:Str->IS->Prop}{keys done:List Str}{v:Str->d8}{u:Str}{c:d8}
theorem mX.set (h:mX R F keys done v) (hu:u ∉ done) (low:∀k∈done,∀l b,(l,b)∈R k->l≠u) (up:Up R F u c) (gt:(v u).1<=c.1):mX R F keys done (fun z=>if z=u then c else v z):=by
  refine⟨fun k hk=>?_,fun k hk m hm=>?_,fun k hk l b hb=>?_⟩
  · by_cases e:k=u
    · rw[av e,e];exact up
    · rw[aq e];exact h.is k hk
  · by_cases e:k=u
    · rw[av e];have:=h.ge k hk m hm;rw[e] at this;lia
    · rw[aq e];exact h.ge k hk m hm
  · rw[aq (low k hk l b hb),aq (fun z=>hu (z▸hk):¬k=u)];exact h.le k hk l b hb
theorem mX.snoc (h:mX R F keys done v) (hz:∀l b,(l,b)∈R u->(v l).1+eX b.1<=(v u).1):mX R F keys (done++[u]) v:=
  ⟨h.is,h.ge,fun k hk l b hb=>by
    rcases rj hk with z | z
    · exact h.le k z l b hb
    · rw[z] at hb ⊢;exact hz l b hb⟩
theorem mY.set (h:mY R F keys done v) (hu:u ∉ done) (dn:Dn R F u c) (lt:c.1<=(v u).1):mY R F keys done (fun z=>if z=u then c else v z):=by
  refine⟨fun k hk=>?_,fun k hk m hm=>?_,fun k hk l b hb=>?_⟩
  · by_cases e:k=u
    · rw[av e,e];exact dn
    · rw[aq e];exact h.is k hk
  · by_cases e:k=u
    · rw[av e];have:=h.ge k hk m hm;rw[e] at this;lia
    · rw[aq e];exact h.ge k hk m hm
  · have h1:=h.le k hk l b hb;rw[aq (fun z=>hu (z▸hk):¬k=u)]
    by_cases e:l=u
    · rw[av e];rw[e] at h1;lia
    · rw[aq e];exact h1
theorem mY.snoc (h:mY R F keys done v) (hz:∀l b,(l,b)∈R u->(v l).1<=(v u).1-eX b.1):mY R F keys (done++[u]) v:=
  ⟨h.is,h.ge,fun k hk l b hb=>by
    rcases rj hk with z | z
    · exact h.le k z l b hb
    · rw[z] at hb ⊢;exact hz l b hb⟩
end
theorem Bn.keep {H H':Hp}{pc pd:ah}{ob:Obj}{kv:List (Key×V)}{keys:List Str}{ln:Ln}{ad:Str->ah}{bs:Str->List ah}(b:Bn H pd ob keys ln ad bs) (AB:H pc=some (.dK kv)) (kp:∀b o,b≠pc->H b=some o->H' b=some o):Bn H' pd ob keys ln ad bs:=
  ⟨kp _ _ (lO b.d AB (by intro z;cases z)) b.d,fun k hk=>kp _ _ (lO (b.l k hk) AB (by intro z;cases z)) (b.l k hk),fun k hk=>Paired.gP (b.e k hk) fun _ _ h=>kp _ _ (lO h AB (by intro z;cases z)) h⟩
theorem PL {ln:Ln}{keys os:List Str}(O:Ord ln keys os) {i:Nat}{u:Str}(hu:os[i]? = some u):u ∉ os.take i/\(∀l r,(l,r)∈ln u->l≠u)/\∀k∈os.take i,∀l r,(l,r)∈ln k->l≠u:=by
  have hi:=iV hu;have fr:u ∉ os.take i:=by
    have:=u0 O.nd i hi;rw[show os[i]=u from (bU.mp hu).2] at this;exact this
  refine⟨fr,fun l r h z=>fr (z▸O.low i u hu l r h),fun k hk l r h z=>?_⟩;obtain⟨j,hj⟩:=e9.mp hk;rw[List.getElem?_take] at hj;split at hj
  · have:=O.low j k hj l r h;rw[z] at this;exact fr ((List.take_prefix_take_left (kG (by assumption))).subset this)
  · cases hj
theorem Y5 {ln:Ln}{keys os:List Str}(O:Ord ln keys os) {i:Nat}{u:Str}(hu:os.reverse[i]? = some u):u ∉ os.reverse.take i/\∀l r,(l,r)∈ln u->l ∉ os.reverse.take i/\l≠u:=by
  have hi:=iV hu;rw[l9] at hi;rw[List.getElem?_reverse hi] at hu;have lo:=PL O hu;have Ku:∀x∈os.take (os.length-1-i+1),x ∉ os.reverse.take i:=fun x hx hr=>by
    rw[List.take_reverse,List.mem_reverse] at hr;have e:os.length-1-i+1=os.length-i:=by lia
    rw[e] at hx;have nd:=O.nd;rw[←l7 (os.length-i) os,fS] at nd;exact nd.2.2 x hx x hr rfl
  have tk:os.take (os.length-1-i+1)=os.take (os.length-1-i)++[u]:=by rw[aQ,hu];rfl
  rw[tk] at Ku;exact⟨Ku u (by simp),fun l r h=>⟨Ku l (cT _ (O.low _ u hu l r h)),lo.2.1 l r h⟩⟩
def Y6 (R:Rw) (F G:Str->IS->Prop) (keys:List Str):Prop:=∀k∈keys,∀c m,Up R F k c->G k m->c.1<=m.1
def Y7 (R:Rw) (F G:Str->IS->Prop) (keys:List Str) (c:d8) (w:Str):Prop:=∃k m,k∈keys/\Up R F k c/\G k m/\m.2=w/\m.1<c.1/\∀k'∈keys,∀c' m',Up R F k' c'->G k' m'->c'.2.2.length<c.2.2.length->c'.1<=m'.1
def Y8 (H:Hp) (q:ah) (c:d8) (w:Str):Prop:=∃l,H q=some (.tup [.str c.2.1,.ref l,.str w])/\H l=some (.lst (c.2.2.map fun p=>V.ref p.2))
def vo (lo hi:Int) (us:List Str) (az:List ah) (ts:List aS) (af:List ah) (fs:List cI):Prop:=Y6 (bZ ts (ts.zip az)) (lJ ts lo (fs.zip af)) (lK ts hi (fs.zip af)) (zk ts (aL us))
def sj (lo hi:Int) (us:List Str) (az:List ah) (ts:List aS) (af:List ah) (fs:List cI) (c:d8) (w:Str):Prop:=Y7 (bZ ts (ts.zip az)) (lJ ts lo (fs.zip af)) (lK ts hi (fs.zip af)) (zk ts (aL us)) c w
section
variable {lo hi:Int}{us:List Str}{az:List ah}{ts:List aS}{af:List ah}{fs:List cI}{f g:Str->Int}
theorem Y9 (lB:∀t∈ts,t.a∈us/\t.b∈us) (hf:∀k∈zk ts (aL us),j7 (bZ ts (ts.zip az)) (lJ ts lo (fs.zip af)) k (f k)) (hg:∀k∈zk ts (aL us),j8 (bZ ts (ts.zip az)) (lK ts hi (fs.zip af)) k (g k)) (no:vo lo hi us az ts af fs):∀k∈zk ts (aL us),f k<=g k:=fun k hk=>by
  refine Int.not_lt.mp fun z=>?_
  obtain⟨k',fK,c,m,u,h,hl⟩:=(PD (AA lB) hf hg).mp ⟨k,hk,z⟩;have:=no k' fK c m u h;lia
theorem Za (lB:∀t∈ts,t.a∈us/\t.b∈us) (hf:∀k∈zk ts (aL us),j7 (bZ ts (ts.zip az)) (lJ ts lo (fs.zip af)) k (f k)) (hg:∀k∈zk ts (aL us),j8 (bZ ts (ts.zip az)) (lK ts hi (fs.zip af)) k (g k)) {c:d8}{w:Str}(r:sj lo hi us az ts af fs c w):∃k∈zk ts (aL us),g k<f k:=by
  obtain⟨k,m,hk,u,h,_,hl,_⟩:=r;exact (PD (AA lB) hf hg).mpr ⟨k,hk,c,m,u,h,hl⟩
end
inductive AD where
  | unit (x:Str)
  | drop (x:Str)
  | yP (t:aS)
  | pZ (t:aS)
  | find (f:cI)
  | move (n x:Str)
  | vp (n:Str)
structure SD where
  us:List Str
  ts:List aS
  fs:List cI
def DY (x:Str) (t:aS):Bool:=xq (.str x) [.str t.a,.str t.b]
def Kv (x:Str) (f:cI):Bool:=decide (V.str x=V.str f.u)
def Kw (ts:List aS) (fs:List cI) (x:Str):Bool:=ts.any (DY x)||fs.any (Kv x)
inductive After:AD->SD->SD->Prop where
  | unit {s:SD}{x:Str}(h:x ∉ s.us):After (.unit x) s ⟨s.us++[x],s.ts,s.fs⟩
  | drop {s:SD}{x:Str}{j:Nat}(h:s.us[j]? = some x) (hu:Kw s.ts s.fs x=false):After (.drop x) s ⟨s.us.eraseIdx j,s.ts,s.fs⟩
  | yP {s:SD}{t:aS}(h1:t.a∈s.us) (h2:t.b∈s.us) (h3:t ∉ s.ts):After (.yP t) s ⟨s.us,s.ts++[t],s.fs⟩
  | pZ {s:SD}{t:aS}{j:Nat}(h:s.ts[j]? = some t):After (.pZ t) s ⟨s.us,s.ts.eraseIdx j,s.fs⟩
  | find {s:SD}{f:cI}(h1:f.n ∉ s.fs.map cI.n) (h2:f.u∈s.us):After (.find f) s ⟨s.us,s.ts,s.fs++[f]⟩
  | move {s:SD}{f:cI}{x:Str}{j:Nat}(h:s.fs[j]? = some f) (h2:x∈s.us):After (.move f.n x) s ⟨s.us,s.ts,s.fs.set j ⟨f.n,x,f.lo,f.hi⟩⟩
  | vp {s:SD}{f:cI}{j:Nat}(h:s.fs[j]? = some f):After (.vp f.n) s ⟨s.us,s.ts,s.fs.eraseIdx j⟩
inductive iT (xs ms:List Str):AD->Prop where
  | unit {x:Str}(h:x∈xs):iT xs ms (.unit x)
  | drop {x:Str}(h:x∈xs):iT xs ms (.drop x)
  | yP {t:aS}(h:lS xs t):iT xs ms (.yP t)
  | pZ {t:aS}(h:lS xs t):iT xs ms (.pZ t)
  | find {f:cI}(h:JH xs f) (hm:f.n∈ms):iT xs ms (.find f)
  | move {n x:Str}(hm:n∈ms) (h:x∈xs):iT xs ms (.move n x)
  | vp {n:Str}(hm:n∈ms):iT xs ms (.vp n)
theorem lS.into {xs us:List Str}{t:aS}(h:lS xs t) (h1:t.a∈us) (h2:t.b∈us):lS us t:=by
  obtain⟨k,a,b,g⟩:=t;refine⟨?_,h1,h2⟩;have:=h.ok;unfold bP at this ⊢;cases g with
  | none=>
    cases this with
    | plain hk _ _=>exact .plain hk h1 h2
  | some g=>
    cases this with
    | after _ _ g0 g1=>exact .after h1 h2 g0 g1
theorem After.ok {xs ms:List Str}{d:AD}{s s':SD}(nm:∀x∈xs,nG x=true) (h:After d s s') (hd:iT xs ms d) (ok:jt s.us s.ts s.fs):jt s'.us s'.ts s'.fs:=by
  cases h with
  | @unit _ x h=>
    cases hd with
    | unit hx=>
      refine⟨?_,fun y hy=>?_,fun t ht=>(ok.tok t ht).mono fun y hy=>cT _ hy,ok.Aw,fun f hf=>?_,ok.Ax⟩
      · rw[fS];exact⟨ok.nd,by simp,fun a ha b hb e=>by simp at hb;subst hb;subst e;exact h ha⟩
      · rcases br.mp hy with hy | hy
        · exact ok.nm y hy
        · have:y=x:=by simpa using hy
          rw[this];exact nm _ hx
      · have:=ok.se f hf;exact⟨this.n,cT _ this.u,this.le,this.lo,this.hi⟩
  | @drop _ x j h hu=>
    have sub:=qE s.us j;have keep:∀y∈s.us,y≠x->y∈s.us.eraseIdx j:=fun y hy ne=>by
      obtain⟨i,hi,e⟩:=List.getElem_of_mem hy;rw[List.mem_eraseIdx_iff_getElem];refine⟨i,hi,fun z=>ne ?_,e⟩;subst z;rw[aU hi,e] at h;exact cD h
    have PM:∀t∈s.ts,t.a≠x/\t.b≠x:=fun t ht=>by
      have h1:s.ts.any (DY x)=false:=by
        unfold Kw at hu;simp only [Bool.or_eq_false_iff] at hu;exact hu.1
      have h2:DY x t=false:=by
        rw[List.any_eq_false] at h1;exact Bool.eq_false_iff.mpr (h1 t ht)
      constructor
      · intro z;rw[←z] at h2;unfold DY xq at h2;simp[nQ] at h2
      · intro z;rw[←z] at h2;unfold DY xq at h2;simp[nQ] at h2
    have Zb:∀f∈s.fs,f.u≠x:=fun f hf z=>by
      have h1:s.fs.any (Kv x)=false:=by
        unfold Kw at hu;simp only [Bool.or_eq_false_iff] at hu;exact hu.2
      rw[List.any_eq_false] at h1;refine h1 f hf ?_;unfold Kv;rw[z];exact aR rfl
    refine⟨ok.nd.sublist sub,fun y hy=>ok.nm y (sub.subset hy),fun t ht=>?_,ok.Aw,fun f hf=>?_,ok.Ax⟩
    · have:=ok.tok t ht;exact this.into (keep _ this.a (PM t ht).1) (keep _ this.b (PM t ht).2)
    · have:=ok.se f hf;exact⟨this.n,keep _ this.u (Zb f hf),this.le,this.lo,this.hi⟩
  | @yP _ t h1 h2 h3=>
    cases hd with
    | yP ht=>
      refine⟨ok.nd,ok.nm,fun u hu=>?_,?_,ok.se,ok.Ax⟩
      · rcases br.mp hu with hu | hu
        · exact ok.tok u hu
        · have:u=t:=by simpa using hu
          rw[this];exact ht.into h1 h2
      · rw[fS];exact⟨ok.Aw,by simp,fun a ha b hb e=>by simp at hb;subst hb;subst e;exact h3 ha⟩
  | @pZ _ t j h=>
    have sub:=qE s.ts j;exact⟨ok.nd,ok.nm,fun u hu=>ok.tok u (sub.subset hu),ok.Aw.sublist sub,ok.se,ok.Ax⟩
  | @find _ f h1 h2=>
    cases hd with
    | find hf=>
      refine⟨ok.nd,ok.nm,ok.tok,ok.Aw,fun g hg=>?_,?_⟩
      · rcases br.mp hg with hg | hg
        · exact ok.se g hg
        · have:g=f:=by simpa using hg
          rw[this];exact⟨hf.n,h2,hf.le,hf.lo,hf.hi⟩
      · show ((s.fs++[f]).map cI.n).Nodup;rw[aV,fS];exact⟨ok.Ax,by simp,fun a ha b hb e=>by simp at hb;subst hb;subst e;exact h1 ha⟩
  | @move _ f x j h h2=>
    have hf:=ok.se f (aZ h);refine⟨ok.nd,ok.nm,ok.tok,ok.Aw,fun g hg=>?_,?_⟩
    · rcases List.mem_or_eq_of_mem_set hg with hg | hg
      · exact ok.se g hg
      · rw[hg];exact⟨hf.n,h2,hf.le,hf.lo,hf.hi⟩
    · show ((s.fs.set j ⟨f.n,x,f.lo,f.hi⟩).map cI.n).Nodup;rw[List.map_set];have:(s.fs.map cI.n).set j f.n=s.fs.map cI.n:=by
        apply oW;intro i;rw[List.getElem?_set];split
        · rename_i e;subst e;split
          · rw[aX,h];rfl
          · rename_i hl;rw[ay] at hl;exact absurd (bU.mp h).1 hl
        · rfl
      rw[this];exact ok.Ax
  | @vp _ f j h=>
    have sub:=qE s.fs j;exact⟨ok.nd,ok.nm,ok.tok,ok.Aw,fun g hg=>ok.se g (sub.subset hg),ok.Ax.sublist (sub.map _)⟩
structure fD (K:aE) (H:Hp) (pu pt pf:ah) (s:SD) (at' ag:List ah):Prop where
  u:H pu=some (.lst (s.us.map V.str))
  t:H pt=some (.lst (at'.map V.ref))
  tt:bT H at' (s.ts.map bP)
  f:H pf=some (.lst (ag.map V.ref))
  ff:bT H ag (s.fs.map gk)
  n1:pu≠pt
  n2:pu≠pf
  n3:pt≠pf
section
variable {K:aE}{H H':Hp}{pu pt pf:ah}{s:SD}{at' ag:List ah}
theorem fD.same (h:fD K H pu pt pf s at' ag) (e:ak H H'):fD K H' pu pt pf s at' ag:=⟨e _ _ h.u,e _ _ h.t,h.tt.same e,e _ _ h.f,h.ff.same e,h.n1,h.n2,h.n3⟩
theorem fD.keep (h:fD K H pu pt pf s at' ag) (k:∀b xs,H b=some (.lst xs)->H' b=some (.lst xs)) (kt:∀b xs,H b=some (.tup xs)->H' b=some (.tup xs)):fD K H' pu pt pf s at' ag:=⟨k _ _ h.u,k _ _ h.t,h.tt.dR kt,k _ _ h.f,h.ff.dR kt,h.n1,h.n2,h.n3⟩
theorem fD.Ky (h:fD K H pu pt pf s at' ag):at'.length=s.ts.length:=by have:=h.tt.len;rw[ay] at this;exact this
theorem fD.j6 (h:fD K H pu pt pf s at' ag):ag.length=s.fs.length:=by have:=h.ff.len;rw[ay] at this;exact this
end
section
variable {K:aE}{H:Hp}{pu pt pf:ah}{s:SD}{at' ag:List ah}
theorem fD.Ay (h:fD K H pu pt pf s at' ag) (ts:List aS) (at2:List ah) (tt:bT H at2 (ts.map bP)):fD K (upd H pt (.lst (at2.map V.ref))) pu pt pf ⟨s.us,ts,s.fs⟩ at2 ag:=
  ⟨by rw[zg h.n1];exact h.u,zd,tt.dR (rT h.t),by rw[zg h.n3.symm];exact h.f,h.ff.dR (rT h.t),h.n1,h.n2,h.n3⟩
theorem fD.Az (h:fD K H pu pt pf s at' ag) (fs:List cI) (Kz:List ah) (ff:bT H Kz (fs.map gk)):fD K (upd H pf (.lst (Kz.map V.ref))) pu pt pf ⟨s.us,s.ts,fs⟩ at' Kz:=
  ⟨by rw[zg h.n2];exact h.u,by rw[zg h.n3];exact h.t,h.tt.dR (rT h.f),zd,ff.dR (rT h.f),h.n1,h.n2,h.n3⟩
end
section
variable {K:aE}
theorem DZ {H:Hp}{n:Nat}{A B:ah}{as bs:List ah}{gq:List (List V)}(hA:H A=some (.lst (as.map V.ref))) (hB:H B=some (.lst (bs.map V.ref))) (ta:bT H as gq) (tb:bT H bs gq) (fl:∀ws∈gq,∀v∈ws,ny v=true):cU K H (n+2) (.ref A) (.ref B) true:=by
  have l1:=ta.len;have l2:=tb.len;refine cU.Al (n:=n+1) (aI.of hA) (aI.of hB) (by rw[ay,ay];lia) fun i x y ex ey=>?_
  rw[aX] at ex ey;cases e1:as[i]? with
  | none=>rw[e1] at ex;cases ex
  | some u=>
    cases e2:bs[i]? with
    | none=>rw[e2] at ey;cases ey
    | some v=>
      rw[e1] at ex;rw[e2] at ey;cases ex;cases ey;obtain⟨ws,h1,h2⟩:=Paired.get' ta e1;obtain⟨ws',h3,h4⟩:=Paired.get' tb e2;rw[h1] at h3;cases h3;have hf:=fl ws (aZ h1);have:=cU.uW (K:=K) (n:=n) (bF.of h2) (bF.of h4) hf hf
      rwa [Jm hf] at this
theorem PN {H:Hp}{tl g1 g2 pm a1 a2 a3 pu pt pf:ah}{lo hi:Int}{s:SD}{xU af at' ag:List ah}(qx:H tl=some (.tup [.ref pm,.ref a1,.ref a2,.ref a3])) (Zc:H g2=some (.tup [.ref g1,.ref pu,.ref pt,.ref pf])) (hm:H pm=some (.tup [.int lo,.int hi])) (Zd:H g1=some (.tup [.int lo,.int hi]))
    (h1:H a1=some (.lst (s.us.map V.str))) (h2:H a2=some (.lst (xU.map V.ref))) (t2:bT H xU (s.ts.map bP)) (h3:H a3=some (.lst (af.map V.ref))) (t3:bT H af (s.fs.map gk)) (L:fD K H pu pt pf s at' ag) (ok:jt s.us s.ts s.fs):cU K H 8 (.ref tl) (.ref g2) true:=by
  refine cU.yD (bF.of qx) (bF.of Zc) rfl (fun i x y ex ey=>?_)
  match i,ex,ey with
  | 0,ex,ey=>
    cases ex;cases ey;have fl:∀v∈[V.int lo,V.int hi],ny v=true:=fun v hv=>by
      simp at hv;rcases hv with rfl | rfl<;>rfl
    have:=cU.uW (K:=K) (n:=6) (bF.of hm) (bF.of Zd) fl fl
    rwa [Jm fl] at this
  | 1,ex,ey=>
    cases ex;cases ey;exact cU.uX (aI.of h1) (aI.of L.u) JL
  | 2,ex,ey=>
    cases ex;cases ey;exact DZ (n:=5) h2 L.t t2 L.tt fun ws hw v hv=>(ok.tw ws hw v hv).flat
  | 3,ex,ey=>
    cases ex;cases ey;refine DZ (n:=5) h3 L.f t3 L.ff fun ws hw v hv=>?_
    obtain⟨f,_,rfl⟩:=aM.mp hw;unfold gk at hv;simp at hv;rcases hv with rfl | rfl | rfl | rfl<;>rfl
  | i+4,ex,ey=>cases ex
end
section
variable {C:ah}{K:aE}{H H':Hp}{p pm du dt df ps pu pt pf:ah}{lo hi:Int}{xs:List Str}{s s':SD}{n:Nat}
theorem fD.dict {at' ag:List ah}(h:fD K H pu pt pf s at' ag) {b:ah}{u w:HO}(e:H b=some u) (hu:Av u):fD K (upd H b w) pu pt pf s at' ag:=
  h.keep (fun c xs ec=>by rw[zg (lO ec e (fun z=>by rw[←z] at hu;cases hu))];exact ec) (fun c xs ec=>by rw[zg (lO ec e (fun z=>by rw[←z] at hu;cases hu))];exact ec)
end
def tF (ln nZ:Ln):Prop:=∀x l r,(l,r)∈ln x->∃r',(l,r')∈nZ x
section
variable {ln nZ:Ln}{keys:List Str}
theorem D0 (h:tF ln nZ) {s:Str}:∀{n:Nat}{v:Str},Rc ln s n v->Rc nZ s n v
  | 0,v,q=>by rw[q.zero];exact Rc.refl
  | n+1,v,q=>by
    obtain⟨u,r,a,b⟩:=q.succ;obtain⟨r',b'⟩:=h _ _ _ b;exact (D0 h a).step b'
theorem PR (h:tF nZ ln) (nr:iA ln keys):iA nZ keys:=fun s hs j hj q=>nr s hs j hj (D0 h q)
theorem PU (h:tF ln nZ) (h':tF nZ ln) {as bs:List ah}(g:lH ln keys as) (g':lH nZ keys bs):as.length<=bs.length:=by
  rcases g' with ⟨e,g'⟩ | ⟨e,⟨s,hs,w⟩,_⟩
  · rcases g with ⟨e',_⟩ | ⟨e',⟨s,hs,w⟩,n⟩
    · rw[e,e'];exact aH _
    · exact absurd (D0 h ⟨_,w,rfl⟩) (g' s hs _ (iC.mpr e'))
  · rcases g with ⟨e',n⟩ | ⟨_,_,n⟩
    · rw[e'];exact c6 _
    · exact ku fun c=>n s hs _ (iC.mpr e) c (D0 h' ⟨_,w,rfl⟩)
theorem D3 {α:Type}{zs:List α}{i:Nat}{z:α}(nd:zs.Nodup) (h:zs[i]? = some z):z ∉ zs.take i:=fun q=>by
  obtain⟨j,hj,e⟩:=List.getElem_of_mem q;rw[List.getElem_take] at e;rw[bI] at hj;obtain⟨hi,e2⟩:=bU.mp h;exact kT.mp nd j i (by lia) hi (by lia) (by rw[e,e2])
theorem Ze (h:tF ln nZ) (h':tF nZ ln) {os xg:List Str}(O:Ord ln keys os) (O':Ord nZ keys xg) (p:os.Perm keys) (p':xg.Perm keys):os=xg:=by
  have hl:os.length=xg.length:=by rw[p.length_eq,p'.length_eq]
  have e:∀i,os.take i=xg.take i:=by
    intro i
    induction i with
    | zero=>rfl
    | succ i ih=>
      by_cases hi:i<os.length
      · obtain⟨o,e1⟩:∃o,os[i]? = some o:=⟨_,aU hi⟩;obtain⟨o',e2⟩:∃o',xg[i]? = some o':=⟨_,aU (hl▸hi)⟩;have c1:=O.least i o e1 o' (p'.mem_iff.mp (aZ e2)) (by rw[ih];exact D3 O'.nd e2) fun l r q=>by
          obtain⟨r',q'⟩:=h _ _ _ q;rw[ih];exact O'.low i o' e2 l r' q'
        have c2:=O'.least i o' e2 o (p.mem_iff.mp (aZ e1)) (by rw[←ih];exact D3 O.nd e1) fun l r q=>by
          obtain⟨r',q'⟩:=h' _ _ _ q;rw[←ih];exact O.low i o e1 l r' q'
        have:o=o':=oA fun ne=>c1 (JX ne c2)
        rw[aQ,aQ,ih,e1,e2,this]
      · rw[ki (by lia),ki (by lia)] at ih ⊢;exact ih
  have:=e os.length
  rwa [bD,hl,bD] at this
theorem PV (h:tF ln nZ) {x y:Str}(b:kM ln x y):kM nZ x y:=by
  obtain⟨j,a,q⟩:=b;exact⟨j,a,D0 h q⟩
theorem PX (h:tF ln nZ) (h':tF nZ ln) {p:SS}(d:GI ln keys p):GI nZ keys p:=by
  obtain⟨a,⟨r,q⟩,c⟩:=d;exact⟨a,h _ _ _ q,fun ⟨t,x,y⟩=>c ⟨t,PV h' x,PV h' y⟩⟩
theorem Zf (h:tF ln nZ) (h':tF nZ ln) {lv:Str->Nat}{n:Nat}(L:Lv ln keys lv n):Lv nZ keys lv n:=by
  have m:∀{l l':Ln}(_:tF l l') (x:Str) (y:Int),y∈qv lv (l x)->y∈qv lv (l' x):=fun hh x y hy=>by
    obtain⟨⟨a,r⟩,hq,e⟩:=aM.mp hy;obtain⟨r',q'⟩:=hh _ _ _ hq;exact aM.mpr ⟨(a,r'),q',e⟩
  refine⟨fun x hx l r q=>?_,fun x hx=>?_,L.lt,L.all⟩
  · obtain⟨r',q'⟩:=h' _ _ _ q;exact L.cl x hx l r' q'
  · rcases L.mx x hx with ⟨a,b⟩ | ⟨a,b⟩
    · refine .inl ⟨List.eq_nil_iff_forall_not_mem.mpr fun y hy=>?_,b⟩;have:=m h' x y hy;rw[a] at this;cases this
    · exact .inr ⟨m h x _ a,fun y hy=>b y (m h' x y hy)⟩
end
theorem D4 {ts cR:List aS}(p:ts.Perm cR) (y z:Str):Nb ts y z↔Nb cR y z:=by
  rw[Pz,Pz];exact⟨fun ⟨t,a,b⟩=>⟨t,p.mem_iff.mp a,b⟩,fun ⟨t,a,b⟩=>⟨t,p.mem_iff.mpr a,b⟩⟩
theorem GU {α:Type}:∀{ts:List α}{az:List ah}{t:α},az.length=ts.length->t∈ts->∃r,(t,r)∈ts.zip az
  | [],_,_,_,h=>nomatch h
  | x::ts,[],_,e,_=>nomatch e
  | x::ts,r::az,t,e,h=>by
    rcases aJ.mp h with rfl | h
    · exact⟨r,fR ..⟩
    · obtain⟨r',q⟩:=GU (Nat.succ.inj e) h;exact⟨r',bz _ q⟩
section
variable {ts cR:List aS}{az gD:List ah}{us k9:List Str}{fs gG:List cI}{af lT:List ah}{lo hi:Int}{k:Str}
theorem PY (p:ts.Perm cR) (eT:gD.length=cR.length):tF (cX ts (ts.zip az)) (cX cR (cR.zip gD)):=fun x l r q=>by
  obtain⟨t,hz,hk,ha,hb⟩:=j4.mp q;obtain⟨r',D5⟩:=GU eT (p.mem_iff.mp (iE hz).1);have e:=DK (D4 p);exact⟨r',j4.mpr ⟨t,D5,hk,by rw[←e];exact ha,by rw[←e];exact hb⟩⟩
theorem PZ (p:ts.Perm cR) (eT:gD.length=cR.length) {l:Str}{b:Tr}(q:(l,b)∈bZ ts (ts.zip az) k):∃b',(l,b')∈bZ cR (cR.zip gD) k/\b'.1=b.1:=by
  obtain⟨hz,hk,ha,hb⟩:=kO.mp q;obtain⟨r',D5⟩:=GU eT (p.mem_iff.mp (iE hz).1);have e:=DK (D4 p);exact⟨(b.1,r'),kO.mpr ⟨D5,hk,by rw[←e];exact ha,by rw[←e];exact hb⟩,rfl⟩
theorem P0 (p:ts.Perm cR) (pf:fs.Perm gG) (eT:lT.length=gG.length) {q:cI×ah}(h:q∈eK ts (fs.zip af) k):∃q'∈eK cR (gG.zip lT) k,q'.1=q.1:=by
  obtain⟨hz,hk⟩:=cL.mp h;obtain⟨r',D5⟩:=GU eT (pf.mem_iff.mp (iE (a:=q.1) (b:=q.2) hz).1);exact⟨(q.1,r'),cL.mpr ⟨D5,by rw[←DK (D4 p)];exact hk⟩,rfl⟩
theorem P1 (p:ts.Perm cR) (pf:fs.Perm gG) (eT:lT.length=gG.length) {q:IS}(h:q∈wG lo (eK ts (fs.zip af) k)):q∈wG lo (eK cR (gG.zip lT) k):=by
  rcases aJ.mp h with rfl | h
  · exact fR ..
  · obtain⟨x,hx,rfl⟩:=aM.mp h;obtain⟨y,hy,e⟩:=P0 p pf eT hx;exact bz _ (aM.mpr ⟨y,hy,by rw[e]⟩)
theorem P4 (p:ts.Perm cR) (pf:fs.Perm gG) (eT:lT.length=gG.length) {q:IS}(h:q∈wH hi (eK ts (fs.zip af) k)):q∈wH hi (eK cR (gG.zip lT) k):=by
  rcases aJ.mp h with rfl | h
  · exact fR ..
  · obtain⟨x,hx,rfl⟩:=aM.mp h;obtain⟨y,hy,e⟩:=P0 p pf eT hx;exact bz _ (aM.mpr ⟨y,hy,by rw[e]⟩)
theorem P5 (p:ts.Perm cR) (pf:fs.Perm gG) (pF:gD.length=cR.length) (hl:af.length=fs.length) (eT:lT.length=gG.length) {c:d8}(u:Up (bZ ts (ts.zip az)) (lJ ts lo (fs.zip af)) k c):∃c',Up (bZ cR (cR.zip gD)) (lJ cR lo (gG.zip lT)) k c'/\c'.1=c.1:=by
  induction u with
  | bare h=>exact⟨_,.bare ⟨P1 p pf eT h.1,fun q hq=>h.2 q (P1 p.symm pf.symm hl hq)⟩,rfl⟩
  | up u h ih=>
    obtain⟨c',u',e⟩:=ih;obtain⟨b',hb,e2⟩:=PZ p pF h;refine⟨_,.up u' hb,?_⟩;show c'.1+eX b'.1=_+_;rw[e,e2]
theorem P6 (p:ts.Perm cR) (pf:fs.Perm gG) (pF:gD.length=cR.length) (hl:af.length=fs.length) (eT:lT.length=gG.length) {c:d8}(u:Dn (bZ ts (ts.zip az)) (lK ts hi (fs.zip af)) k c):∃c',Dn (bZ cR (cR.zip gD)) (lK cR hi (gG.zip lT)) k c'/\c'.1=c.1:=by
  induction u with
  | bare h=>exact⟨_,.bare ⟨P4 p pf eT h.1,fun q hq=>h.2 q (P4 p.symm pf.symm hl hq)⟩,rfl⟩
  | dn u h ih=>
    obtain⟨c',u',e⟩:=ih;obtain⟨b',hb,e2⟩:=PZ p pF h;refine⟨_,.dn u' hb,?_⟩;show c'.1-eX b'.1=_-_;rw[e,e2]
theorem P7 (p:ts.Perm cR) (pf:fs.Perm gG) (ha:az.length=ts.length) (pF:gD.length=cR.length) (hl:af.length=fs.length) (eT:lT.length=gG.length) {m:Int}(h:j7 (bZ ts (ts.zip az)) (lJ ts lo (fs.zip af)) k m):j7 (bZ cR (cR.zip gD)) (lJ cR lo (gG.zip lT)) k m:=by
  obtain⟨⟨c,u,e⟩,a⟩:=h;obtain⟨c',u',e'⟩:=P5 p pf pF hl eT u;refine⟨⟨c',u',by rw[e',e]⟩,fun d v=>?_⟩;obtain⟨d',v',f'⟩:=P5 p.symm pf.symm ha eT hl v;have:=a _ v';lia
theorem P8 (p:ts.Perm cR) (pf:fs.Perm gG) (ha:az.length=ts.length) (pF:gD.length=cR.length) (hl:af.length=fs.length) (eT:lT.length=gG.length) {m:Int}(h:j8 (bZ ts (ts.zip az)) (lK ts hi (fs.zip af)) k m):j8 (bZ cR (cR.zip gD)) (lK cR hi (gG.zip lT)) k m:=by
  obtain⟨⟨c,u,e⟩,a⟩:=h;obtain⟨c',u',e'⟩:=P6 p pf pF hl eT u;refine⟨⟨c',u',by rw[e',e]⟩,fun d v=>?_⟩;obtain⟨d',v',f'⟩:=P6 p.symm pf.symm ha eT hl v;have:=a _ v';lia
theorem P9 (pu:us.Perm k9) (p:ts.Perm cR):zk ts (aL us)=zk cR (aL k9):=by
  unfold zk;rw[DK (D4 p),Ob pu]
end
abbrev KA:=Str×Int×Int
def D6 (q:KA):List V:=[.str q.1,.int q.2.1,.int q.2.2]
structure D7 where
  ones:List (List Str)
  n:Nat
  os:Option (List Str)
  qs:List SS
  rows:List (List Str)
  sp:Option (List KA)
structure sq (lo hi:Int) (us:List Str) (az:List ah) (ts:List aS) (af:List ah) (fs:List cI) (A:D7):Prop where
  one:A.ones=mS us ts
  n:∃rs,lH (cX ts (ts.zip az)) (zk ts (aL us)) rs/\A.n=rs.length
  no:¬iA (cX ts (ts.zip az)) (zk ts (aL us))->A.os=none/\A.qs = []/\A.rows = []/\A.sp=none
  os:iA (cX ts (ts.zip az)) (zk ts (aL us))->∃os,A.os=some os/\Ord (cX ts (ts.zip az)) (zk ts (aL us)) os/\os.Perm (zk ts (aL us))
  qs:iA (cX ts (ts.zip az)) (zk ts (aL us))->A.qs.Pairwise (fun a b=>gT a b=true)/\∀p,p∈A.qs↔GI (cX ts (ts.zip az)) (zk ts (aL us)) p
  rows:iA (cX ts (ts.zip az)) (zk ts (aL us))->∃lv n,Lv (cX ts (ts.zip az)) (zk ts (aL us)) lv n/\A.rows=tD (zk ts (aL us)) lv n
  sp:iA (cX ts (ts.zip az)) (zk ts (aL us))->(∃f g:Str->Int,(∀k∈zk ts (aL us),j7 (bZ ts (ts.zip az)) (lJ ts lo (fs.zip af)) k (f k))/\(∀k∈zk ts (aL us),j8 (bZ ts (ts.zip az)) (lK ts hi (fs.zip af)) k (g k))/\vo lo hi us az ts af fs/\A.sp=some ((zk ts (aL us)).map fun k=>(k,f k,g k)))\/∃c w,sj lo hi us az ts af fs c w/\A.sp=none
section
variable {ts cR:List aS}{az gD:List ah}{us k9:List Str}{fs gG:List cI}{af lT:List ah}{lo hi:Int}{A A':D7}
theorem Qa (lB:∀t∈ts,t.a∈us/\t.b∈us) (xV:∀t∈cR,t.a∈k9/\t.b∈k9) (pu:us.Perm k9) (p:ts.Perm cR) (pf:fs.Perm gG) (ha:az.length=ts.length) (pF:gD.length=cR.length) (hl:af.length=fs.length) (eT:lT.length=gG.length) {f g:Str->Int}
    (F:∀k∈zk ts (aL us),j7 (bZ ts (ts.zip az)) (lJ ts lo (fs.zip af)) k (f k)) (G:∀k∈zk ts (aL us),j8 (bZ ts (ts.zip az)) (lK ts hi (fs.zip af)) k (g k)) (no:vo lo hi us az ts af fs) {c:d8}{w:Str}(r:sj lo hi k9 gD cR lT gG c w):False:=by
  have ek:=P9 pu p;obtain⟨k,hk,h⟩:=Za xV (f:=f) (g:=g) (fun k hk=>P7 p pf ha pF hl eT (F k (by rw[ek];exact hk))) (fun k hk=>P8 p pf ha pF hl eT (G k (by rw[ek];exact hk))) r;have:=Y9 lB F G no k (by rw[ek];exact hk);lia
theorem Zg (lB:∀t∈ts,t.a∈us/\t.b∈us) (xV:∀t∈cR,t.a∈k9/\t.b∈k9) (pu:us.Perm k9) (p:ts.Perm cR) (pf:fs.Perm gG) (ha:az.length=ts.length) (pF:gD.length=cR.length) (hl:af.length=fs.length) (eT:lT.length=gG.length)
    (h:sq lo hi us az ts af fs A) (h':sq lo hi k9 gD cR lT gG A'):A=A':=by
  have ek:=P9 pu p;have l1:=PY (az:=az) p pF;have l2:=PY (az:=gD) p.symm ha;have e1:A.ones=A'.ones:=by rw[h.one,h'.one];exact (YT pu.symm fun y z=>(D4 p y z).symm).symm
  have e2:A.n=A'.n:=by
    obtain⟨rs,r,e⟩:=h.n;obtain⟨rs',r',e'⟩:=h'.n;rw[←ek] at r';rw[e,e'];exact Nat.le_antisymm (PU l1 l2 r r') (PU l2 l1 r' r)
  have e:A.os=A'.os/\A.qs=A'.qs/\A.rows=A'.rows/\A.sp=A'.sp:=by
    by_cases nr:iA (cX ts (ts.zip az)) (zk ts (aL us))
    · have uC:iA (cX cR (cR.zip gD)) (zk cR (aL k9)):=by rw[←ek];exact PR l2 nr
      refine⟨?_,?_,?_,?_⟩
      · obtain⟨os,e,O,q⟩:=h.os nr;obtain⟨xg,e',O',q'⟩:=h'.os uC;rw[←ek] at O' q';rw[e,e',Ze l1 l2 O O' q q']
      · obtain⟨a,b⟩:=h.qs nr;obtain⟨a',b'⟩:=h'.qs uC;rw[←ek] at b';exact OQ a a' fun x=>by rw[b,b'];exact⟨PX l1 l2,PX l2 l1⟩
      · obtain⟨lv,n,L,e⟩:=h.rows nr;obtain⟨qT,n',L',e'⟩:=h'.rows uC;rw[←ek] at L' e';rw[e,e'];exact YQ L (Zf l2 l1 L')
      · rcases h.sp nr with ⟨f,g,F,G,no,e⟩ | ⟨c,w,r,e⟩
        · rcases h'.sp uC with ⟨f',g',F',G',Qc,e'⟩ | ⟨c',w',r',e'⟩
          · rw[e,e',←ek];refine bX some (fQ fun k hk=>?_);rw[(P7 p pf ha pF hl eT (F k hk)).uniq (F' k (by rw[←ek];exact hk)),(P8 p pf ha pF hl eT (G k hk)).uniq (G' k (by rw[←ek];exact hk))]
          · exact (Qa lB xV pu p pf ha pF hl eT F G no r').elim
        · rcases h'.sp uC with ⟨f',g',F',G',Qc,e'⟩ | ⟨c',w',r',e'⟩
          · exact (Qa xV lB pu.symm p.symm pf.symm pF ha eT hl F' G' Qc r).elim
          · rw[e,e']
    · have uC:¬iA (cX cR (cR.zip gD)) (zk cR (aL k9)):=fun z=>nr (by rw[←ek] at z;exact PR l1 z)
      obtain⟨a,b,c,d⟩:=h.no nr;obtain⟨a',b',c',d'⟩:=h'.no uC;rw[a,b,c,d,a',b',c',d'];exact⟨rfl,rfl,rfl,rfl⟩
  obtain⟨a,b,c,d⟩:=e;cases A;cases A';simp only at e1 e2 a b c d;rw[e1,e2,a,b,c,d]
end
theorem Qd {H:Hp}{f g:Str->Int}:∀{as:List ah}{ks:List Str},Paired (fun a k=>H a=some (.tup [.str k,.int (f k),.int (g k)])) as ks->Paired (fun a q=>H a=some (.tup (D6 q))) as (ks.map fun k=>(k,f k,g k))
  | _,_,.nil=>.nil
  | _,_,.cons h t=>.cons h (Qd t)
theorem KC {H:Hp}:∀{as:List ah}{qs:List KA},Paired (fun a q=>H a=some (.tup (D6 q))) as qs->bT H as (qs.map D6)
  | _,_,.nil=>.nil
  | _,_,.cons h t=>.cons h (KC t)
section
variable {K:aE}{H:Hp}
theorem D8 {n:Nat}{v:V}(h:ny v=true):cU K H n v v true:=by
  have:=cU.flat (K:=K) (H:=H) (n:=n) h h
  rwa [FZ h] at this
end
section
variable {ts:List aS}{az:List ah}{us:List Str}{fs:List cI}{af:List ah}{lo hi:Int}
theorem Zh {c c':d8}{w w':Str}(r:sj lo hi us az ts af fs c w) (r':sj lo hi us az ts af fs c' w'):c.2.2.length=c'.2.2.length:=by
  obtain⟨k,m,hk,u,g,_,lt,mi⟩:=r;obtain⟨k',m',fK,u',g',_,lt',Zi⟩:=r';have h1:¬c.2.2.length<c'.2.2.length:=fun z=>by
    have:=Zi k hk c m u g z;lia
  have h2:¬c'.2.2.length<c.2.2.length:=fun z=>by
    have:=mi k' fK c' m' u' g' z;lia
  lia
theorem Zj {z:Fz}{k:Str}{m:IS}(nm:∀p∈z,nG p.1.n=true) (h:lJ ts lo z k m) (e:m.2 = ""):m.1=lo:=by
  rcases aJ.mp h.1 with q | q
  · rw[q]
  · obtain⟨p,hp,rfl⟩:=aM.mp q;have:=nm p (cL.mp hp).1;rw[show p.1.n = "" from e] at this;exact absurd this (by decide +kernel)
theorem Zk {z:Fz}{k:Str}{m:IS}(nm:∀p∈z,nG p.1.n=true) (h:lK ts hi z k m) (e:m.2 = ""):m.1=hi:=by
  rcases aJ.mp h.1 with q | q
  · rw[q]
  · obtain⟨p,hp,rfl⟩:=aM.mp q;have:=nm p (cL.mp hp).1;rw[show p.1.n = "" from e] at this;exact absurd this (by decide +kernel)
theorem Zl {c:d8}{w:Str}(lh:lo<=hi) (nm:∀f∈fs,nG f.n=true) (r:sj lo hi us az ts af fs c w):¬(c.2.1 = ""/\w = ""/\c.2.2 = []):=fun ⟨e1,e2,e3⟩=>by
  obtain⟨k,m,hk,u,g,e,lt,_⟩:=r;have nz:∀p∈fs.zip af,nG p.1.n=true:=fun p hp=>nm p.1 (iE (a:=p.1) (b:=p.2) hp).1
  have hm:=Zk nz g (by rw[e,e2]);cases u with
  | bare h=>
    have:=Zj nz h e1;have lt:m.1<_:=lt;lia
  | up u h=>simp at e3
end
inductive Kd where
  | p6 (xs:List Str)
  | rows (gs:List (List Str))
  | eF (gq:List (List V))
def gE (H:Hp) (a:ah):Kd->List ah->Prop
  | .p6 xs,ms=>H a=some (.lst (xs.map V.str))/\ms = []
  | .rows gs,ms=>H a=some (.lst (ms.map V.ref))/\Paired (fun c g=>H c=some (.lst (g.map V.str))) ms gs
  | .eF gq,ms=>ms = []/\∃as:List ah,H a=some (.lst (as.map V.ref))/\bT H as gq/\∀ws∈gq,∀v∈ws,ny v=true
theorem gE.same {H H':Hp}{a:ah}{k:Kd}{ms:List ah}(h:gE H a k ms) (s:ak H H'):gE H' a k ms:=by
  cases k with
  | p6 xs=>exact⟨s _ _ h.1,h.2⟩
  | rows gs=>exact⟨s _ _ h.1,Paired.mono h.2 fun _ _ _ z=>s _ _ z⟩
  | eF gq=>
    obtain⟨e,as,h1,h2,h3⟩:=h;exact⟨e,as,s _ _ h1,h2.same s,h3⟩
theorem Zm {K:aE}{H:Hp}{a b:ah}{k:Kd}{ms su:List ah}{n:Nat}(h:gE H a k ms) (h':gE H b k su):cU K H (n+2) (.ref a) (.ref b) true:=by
  cases k with
  | p6 xs=>exact cU.uX (aI.of h.1) (aI.of h'.1) JL
  | rows gs=>exact YN h.1 h'.1 h.2 h'.2
  | eF gq=>
    obtain⟨_,as,h1,h2,h3⟩:=h;obtain⟨_,as',wC,JK,_⟩:=h';exact DZ h1 wC h2 JK h3
theorem Zn {ts:List aS}{z:List Tr}{s:Str}{rs:List ah}{l:Str}(w:Wk (cX ts z) s rs l):∀r∈rs,∃t,(t,r)∈z:=by
  induction w with
  | nil=>intro r hr;cases hr
  | snoc w h ih=>
    intro r hr;rcases br.mp hr with hr | hr
    · exact ih r hr
    · simp at hr;subst hr;rw[PB] at h;obtain⟨q,hq,e⟩:=aM.mp h;cases e;exact⟨q.2.1,(kO.mp (show (q.1,q.2)∈_ from hq)).1⟩
theorem Qe {ts:List aS}{z:List Tr}{keys:List Str}{rs:List ah}(h:lH (cX ts z) keys rs):∀r∈rs,∃t,(t,r)∈z:=by
  rcases h with ⟨rfl,_⟩ | ⟨_,⟨s,_,w⟩,_⟩
  · intro r hr;cases hr
  · exact Zn w
theorem Zo {ts:List aS}{z:List Tr}{F:Str->IS->Prop}{k:Str}{c:d8}(u:Up (bZ ts z) F k c):∀p∈c.2.2,p∈z:=by
  induction u with
  | bare h=>intro p hp;cases hp
  | up u h ih=>
    intro p hp;rcases br.mp hp with hp | hp
    · exact ih p hp
    · simp at hp;subst hp;exact (kO.mp h).1
theorem KD {H:Hp}{az:List ah}{ts:List aS}(h:bT H az (ts.map bP)) {t:aS}{r:ah}(q:(t,r)∈ts.zip az):∃ws,H r=some (.tup ws):=by
  obtain⟨i,hi⟩:=e9.mp q;obtain⟨h1,h2⟩:=jf.mp hi;exact⟨_,uz h h2 (by rw[aX,h1];rfl)⟩
structure An where
  a:ah
  vs:List V
  ms:List ah
def p7 (H:Hp) (v:V):Prop:=(∃s,v = .str s)\/∃b ws,v = .ref b/\H b=some (.tup ws)
theorem p7.keep {H H':Hp}{v:V}(h:p7 H v) (s:∀b ws,H b=some (.tup ws)->H' b=some (.tup ws)):p7 H' v:=by
  rcases h with ⟨x,e⟩ | ⟨b,ws,e,h⟩
  · exact .inl ⟨x,e⟩
  · exact .inr ⟨b,ws,e,s _ _ h⟩
def gU (H:Hp) (x:An):Prop:=H x.a=some (.lst x.vs)/\x.vs.length<=900/\((x.ms = []/\∀v∈x.vs,p7 H v)\/(x.vs=x.ms.map V.ref/\∀m∈x.ms,∃xs:List Str,xs.length<=900/\H m=some (.lst (xs.map V.str))))
theorem gU.same {H H':Hp}{x:An}(h:gU H x) (s:ak H H'):gU H' x:=by
  obtain⟨h1,h2,h⟩:=h;refine⟨s _ _ h1,h2,?_⟩;rcases h with ⟨e,h⟩ | ⟨e,h⟩
  · exact .inl ⟨e,fun v hv=>(h v hv).keep fun b ws z=>s _ _ z⟩
  · exact .inr ⟨e,fun m hm=>let ⟨xs,l,z⟩:=h m hm;⟨xs,l,s _ _ z⟩⟩
def cM (xs:List An):List ah:=xs.flatMap fun x=>x.a::x.ms
theorem n9 {x:An}{xs:List An}:cM (x::xs)=x.a::x.ms++cM xs:=by unfold cM;rw[List.flatMap_cons]
theorem GV {xs ys:List An}:cM (xs++ys)=cM xs++cM ys:=by unfold cM;rw[List.flatMap_append]
theorem Zp {xs:List An}{x:An}(h:x∈xs):x.a∈cM xs/\∀m∈x.ms,m∈cM xs:=by
  unfold cM;exact⟨List.mem_flatMap.mpr ⟨x,h,fR ..⟩,fun m hm=>List.mem_flatMap.mpr ⟨x,h,bz _ hm⟩⟩
theorem Zq {xs:List An}{i:Nat}{x:An}(nd:(cM xs).Nodup) (h:xs[i]? = some x):x.a ∉ cM (xs.take i)/\x.a ∉ x.ms/\x.ms.Nodup/\∀m∈x.ms,m ∉ cM (xs.take i):=by
  have e:xs=xs.take i++(x::xs.drop (i+1)):=by
    obtain⟨hi,e⟩:=bU.mp h;rw[←e,←List.drop_eq_getElem_cons hi,l7]
  rw[e,GV,n9] at nd;obtain⟨_,n2,n3⟩:=fS.mp nd;have n4:=(fS.mp n2).1;refine⟨fun z=>n3 _ z _ (by simp) rfl,(fV.mp n4).1,(fV.mp n4).2,fun m hm z=>n3 _ z m (by simp[hm]) rfl⟩
theorem Zr {H:Hp}{xs:List An}(h:∀x∈xs,gU H x):∀d∈cM xs,∃ys,H d=some (.lst ys):=by
  intro d hd;unfold cM at hd;obtain⟨x,hx,hd⟩:=List.mem_flatMap.mp hd;obtain⟨h1,_,h2⟩:=h x hx;rcases aJ.mp hd with rfl | hd
  · exact⟨_,h1⟩
  · rcases h2 with ⟨e,_⟩ | ⟨_,h2⟩
    · rw[e] at hd;cases hd
    · obtain⟨ys,_,z⟩:=h2 d hd;exact⟨_,z⟩
theorem Zs {xs:List An}{i:Nat}{x:An}(h:xs[i]? = some x):cM (xs.take (i+1))=cM (xs.take i)++(x.a::x.ms):=by
  rw[aQ,h,GV];show _++cM [x]=_;rw[n9];show _++(x.a::x.ms++[])=_;rw[dg]
theorem gE.len {H:Hp}{a:ah}{k:Kd}{ms:List ah}{vs:List V}(h:gE H a k ms) (e:H a=some (.lst vs)):(ms = []/\∀v∈vs,p7 H v)\/(vs=ms.map V.ref/\∀m∈ms,∃g:List Str,H m=some (.lst (g.map V.str))):=by
  cases k with
  | p6 xs=>
    obtain⟨h1,h2⟩:=h;rw[h1] at e;cases e;exact .inl ⟨h2,fun v hv=>let ⟨z,_,q⟩:=aM.mp hv;.inl ⟨z,q.symm⟩⟩
  | rows gs=>
    obtain⟨h1,h2⟩:=h;rw[h1] at e;cases e;refine .inr ⟨rfl,fun m hm=>?_⟩;obtain⟨j,hj⟩:=e9.mp hm;obtain⟨g,_,q⟩:=Paired.get' h2 hj;exact⟨g,q⟩
  | eF gq=>
    obtain⟨h1,as,h2,h3,_⟩:=h;rw[h2] at e;cases e;refine .inl ⟨h1,fun v hv=>?_⟩;obtain⟨b,hb,rfl⟩:=aM.mp hv;obtain⟨j,hj⟩:=e9.mp hb;obtain⟨ws,_,q⟩:=Paired.get' h3 hj;exact .inr ⟨b,ws,rfl,q⟩
def Cp (H H':Hp) (S:List ah) (v y:V):Prop:=(p7 H v/\y=v)\/∃(m m':ah) (xs:List Str),v = .ref m/\y = .ref m'/\H m=some (.lst (xs.map V.str))/\H' m'=some (.lst (xs.map V.str))/\H m'=none/\m' ∉ S
theorem Cp.same {H H' H2:Hp}{S:List ah}{v y:V}(h:Cp H H' S v y) (s:∀b o,b ∉ S->H' b=some o->H2 b=some o):Cp H H2 S v y:=by
  rcases h with h | ⟨m,m',xs,e1,e2,h1,h2,h3,h4⟩
  · exact .inl h
  · exact .inr ⟨m,m',xs,e1,e2,h1,s _ _ h4 h2,h3,h4⟩
theorem Qg {H H':Hp}{S:List ah}:∀{ms:List ah}{gs:List (List Str)}{ys:List V},Paired (fun c g=>H c=some (.lst (g.map V.str))) ms gs->Paired (Cp H H' S) (ms.map V.ref) ys->∃su:List ah,ys=su.map V.ref/\Paired (fun c g=>H' c=some (.lst (g.map V.str))) su gs/\∀m∈su,H m=none/\m ∉ S
  | [],_,_,.nil,.nil=>⟨[],rfl,.nil,by simp⟩
  | m::ms,_,_,.cons h t,.cons c r=>by
    obtain⟨su,e,p,n⟩:=Qg t r;rcases c with ⟨lf,_⟩ | ⟨m1,m',xs,e1,e2,h1,h2,h3⟩
    · rcases lf with ⟨x,z⟩ | ⟨b,ws,z,q⟩
      · cases z
      · cases z;rw[h] at q;cases q
    · cases e1;rw[h] at h1;have h1:=HO.lst.inj (cD h1);refine⟨m'::su,by rw[e2,e];rfl,.cons (by rw[h1];exact h2) p,fun z hz=>?_⟩;rcases aJ.mp hz with rfl | hz
      · exact h3
      · exact n z hz
theorem KG {H H':Hp}{S:List ah}:∀{vs ys:List V},(∀v∈vs,p7 H v)->Paired (Cp H H' S) vs ys->ys=vs
  | [],_,_,.nil=>rfl
  | v::vs,_,hl,.cons c r=>by
    rw[KG (fun v hv=>hl v (bz _ hv)) r];rcases c with ⟨_,e⟩ | ⟨m1,m',xs,e1,e2,h1,h2,h3⟩
    · rw[e]
    · rcases hl v (fR ..) with ⟨x,z⟩ | ⟨b,ws,z,q⟩
      · rw[e1] at z;cases z
      · rw[e1] at z;cases z;rw[h1] at q;cases q
theorem Zt {H H':Hp}{S:List ah}{a s:ah}{k:Kd}{ms:List ah}{vs ys:List V}(h:gE H a k ms) (e:H a=some (.lst vs)) (c:Paired (Cp H H' S) vs ys) (hs:H' s=some (.lst ys)) (tp:∀b ws,H b=some (.tup ws)->H' b=some (.tup ws)):∃su,gE H' s k su/\∀m∈su,H m=none/\m ∉ S:=by
  have lf:=h.len e;cases k with
  | p6 xs=>
    obtain⟨h1,h2⟩:=h;rw[h1] at e;cases e;rcases lf with ⟨_,lf⟩ | ⟨q,_⟩
    · rw[KG lf c] at hs;exact⟨[],⟨hs,rfl⟩,by simp⟩
    · rw[h2] at q;have:xs = []:=by cases xs with
        | nil=>rfl
        | cons x xs=>cases q
      subst this;cases c;exact⟨[],⟨hs,rfl⟩,by simp⟩
  | rows gs=>
    obtain⟨h1,h2⟩:=h;rw[h1] at e;cases e;obtain⟨su,e,p,n⟩:=Qg h2 c;rw[e] at hs;exact⟨su,⟨hs,p⟩,n⟩
  | eF gq=>
    obtain⟨h1,as,h2,h3,h4⟩:=h;rw[h2] at e;cases e;rcases lf with ⟨_,lf⟩ | ⟨q,_⟩
    · rw[KG lf c] at hs;exact⟨[],⟨rfl,as,hs,Paired.mono h3 fun _ _ _ z=>tp _ _ z,h4⟩,by simp⟩
    · rw[h1] at q;have:as = []:=by cases as with
        | nil=>rfl
        | cons x xs=>cases q
      subst this;cases c;cases h3;exact⟨[],⟨rfl,[],hs,.nil,h4⟩,by simp⟩
theorem gE.keep {H G:Hp}{s:ah}{k:Kd}{ms D:List ah}(h:gE H s k ms) (kp:∀b o,H b=some o->b ∉ D->G b=some o) (h1:s ∉ D) (h2:∀m∈ms,m ∉ D) (h3:∀d∈D,∃ys,H d=some (.lst ys)):gE G s k ms:=by
  cases k with
  | p6 xs=>exact⟨kp _ _ h.1 h1,h.2⟩
  | rows gs=>
    refine⟨kp _ _ h.1 h1,?_⟩;have h':=h.2;clear h
    induction h' with
    | nil=>exact .nil
    | cons a t ih=>exact .cons (kp _ _ a (h2 _ (fR ..))) (ih fun m hm=>h2 m (bz _ hm))
  | eF gq=>
    obtain⟨e,as,a,b,c⟩:=h;refine⟨e,as,kp _ _ a h1,Paired.mono b fun _ _ _ z=>kp _ _ z fun hd=>?_,c⟩;obtain⟨ys,q⟩:=h3 _ hd;rw[z] at q;cases q
def D9 (A:D7):List Kd:=.rows A.ones::match A.os with
  | none=>[]
  | some os=>.p6 os :: .eF (A.qs.map fun p=>[.str p.1,.str p.2]) :: .rows A.rows::match A.sp with
    | none=>[]
    | some qs=>[.eF (qs.map D6)]
def GW (lo hi:Int) (us:List Str) (az:List ah) (ts:List aS) (af:List ah) (fs:List cI) (a b:Str) (xs:List ah):Prop:=
  ((¬iA (cX ts (ts.zip az)) (zk ts (aL us))\/vo lo hi us az ts af fs)/\a = ""/\b = ""/\xs = [])\/(iA (cX ts (ts.zip az)) (zk ts (aL us))/\∃c w,sj lo hi us az ts af fs c w/\a=c.2.1/\b=w/\xs=c.2.2.map Prod.snd)
theorem KH {lo hi:Int}{us:List Str}{az:List ah}{ts:List aS}{af:List ah}{fs:List cI}(no:vo lo hi us az ts af fs) {c:d8}{w:Str}(r:sj lo hi us az ts af fs c w):False:=by
  obtain⟨k,m,hk,u,g,_,lt,_⟩:=r;have:=no k hk c m u g;lia
theorem Zu {lo hi:Int}{us:List Str}{az:List ah}{ts:List aS}{af:List ah}{fs:List cI}{a b a' b':Str}{xs GX:List ah}(h:GW lo hi us az ts af fs a b xs) (h':GW lo hi us az ts af fs a' b' GX):xs.length=GX.length:=by
  rcases h with ⟨n,_,_,e⟩ | ⟨nr,c,w,r,_,_,e⟩<;>rcases h' with ⟨n',_,_,e'⟩ | ⟨uC,c',w',r',_,_,e'⟩
  · rw[e,e']
  · rcases n with n | n
    · exact absurd uC n
    · exact (KH n r').elim
  · rcases n' with n | n
    · exact absurd nr n
    · exact (KH n r).elim
  · rw[e,e',ay,ay];exact Zh r r'
structure p8 (H:Hp) (p:ah) (n1 n2 n3:Nat) (ks:List Kd) (ss:List ah) (oh:List (List ah)):Prop where
  p:H p=some (.lst (.int n1 :: .int n2 :: .int n3::ss.map V.ref))
  l1:ss.length=ks.length
  l2:oh.length=ks.length
  k:∀(i:Nat) s k ms,ss[i]? = some s->ks[i]? = some k->oh[i]? = some ms->gE H s k ms
theorem p8.same {H H':Hp}{p:ah}{n1 n2 n3:Nat}{ks:List Kd}{ss:List ah}{oh:List (List ah)}(h:p8 H p n1 n2 n3 ks ss oh) (s:ak H H'):p8 H' p n1 n2 n3 ks ss oh:=⟨s _ _ h.p,h.l1,h.l2,fun i a k ms e1 e2 e3=>(h.k i a k ms e1 e2 e3).same s⟩
theorem Zv {K:aE}{H:Hp}{p p':ah}{n1 n2 n3:Nat}{ks:List Kd}{ss GY:List ah}{oh Ea:List (List ah)}{n:Nat}(h:p8 H p n1 n2 n3 ks ss oh) (h':p8 H p' n1 n2 n3 ks GY Ea):cU K H (n+3) (.ref p) (.ref p') true:=by
  have a1:=h.l1;have a2:=h'.l1;have b1:=h.l2;have b2:=h'.l2;refine cU.Al (n:=n+2) (aI.of h.p) (aI.of h'.p) (by simp;lia) fun i x y ex ey=>?_
  match i,ex,ey with
  | 0,ex,ey=>cases ex;cases ey;exact D8 rfl
  | 1,ex,ey=>cases ex;cases ey;exact D8 rfl
  | 2,ex,ey=>cases ex;cases ey;exact D8 rfl
  | i+3,ex,ey=>
    have ex:(ss.map V.ref)[i]? = some x:=ex;have ey:(GY.map V.ref)[i]? = some y:=ey;rw[aX] at ex ey;cases e1:ss[i]? with
    | none=>rw[e1] at ex;cases ex
    | some s=>
      cases e2:GY[i]? with
      | none=>rw[e2] at ey;cases ey
      | some s'=>
        rw[e1] at ex;rw[e2] at ey;cases ex;cases ey;have hi:=(bU.mp e1).1;exact Zm (h.k i s _ _ e1 (aU (by lia)) (aU (by lia))) (h'.k i s' _ _ e2 (aU (by lia)) (aU (by lia)))
structure Nw (H0 H:Hp) (D:List ah):Prop where
  nd:D.Nodup
  old:∀d∈D,H0 d=none
  new:∀d∈D,∃ys,H d=some (.lst ys)
theorem Nw.same {H0 H H':Hp}{D:List ah}(h:Nw H0 H D) (s:ak H H'):Nw H0 H' D:=⟨h.nd,h.old,fun d hd=>let ⟨ys,z⟩:=h.new d hd;⟨ys,s _ _ z⟩⟩
theorem Nw.add {H0 H H':Hp}{D D':List ah}(h:Nw H0 H D) (s0:ak H0 H) (h':Nw H H' D') (s:ak H H'):Nw H0 H' (D++D'):=by
  refine⟨fS.mpr ⟨h.nd,h'.nd,fun a ha b hb e=>?_⟩,fun d hd=>?_,fun d hd=>?_⟩
  · obtain⟨ys,z⟩:=h.new a ha;rw[e,h'.old b hb] at z;cases z
  · rcases br.mp hd with hd | hd
    · exact h.old d hd
    · exact s0.free (h'.old d hd)
  · rcases br.mp hd with hd | hd
    · obtain⟨ys,z⟩:=h.new d hd;exact⟨ys,s _ _ z⟩
    · exact h'.new d hd
theorem Nw.one {H H':Hp}{d:ah}{ys:List V}(h:H d=none) (h':H' d=some (.lst ys)):Nw H H' [d]:=⟨by simp,by simpa using h,fun x hx=>by simp at hx;subst hx;exact⟨ys,h'⟩⟩
theorem Nw.many {H H':Hp}{d:ah}{ds:List ah}{ys:List V}{gs:List (List Str)}(h:H d=none) (h2:∀a∈ds,H a=none) (n1:d ∉ ds) (n2:ds.Nodup) (h':H' d=some (.lst ys)) (p:Paired (fun c g=>H' c=some (.lst (g.map V.str))) ds gs):Nw H H' (d::ds):=by
  refine⟨fV.mpr ⟨n1,n2⟩,fun x hx=>?_,fun x hx=>?_⟩
  · rcases aJ.mp hx with rfl | hx
    · exact h
    · exact h2 x hx
  · rcases aJ.mp hx with rfl | hx
    · exact⟨_,h'⟩
    · obtain⟨j,hj⟩:=e9.mp hx;obtain⟨g,_,q⟩:=Paired.get' p hj;exact⟨_,q⟩
theorem Nw.turn {H0 H:Hp}{D D':List ah}(h:Nw H0 H D) (p:D.Perm D'):Nw H0 H D':=⟨p.nodup h.nd,fun d hd=>h.old d (p.mem_iff.mpr hd),fun d hd=>h.new d (p.mem_iff.mpr hd)⟩
theorem Nw.out {H0 H:Hp}{D:List ah}{q:ah}(h:Nw H0 H D) (hq:H q=none):q ∉ D:=fun z=>by
  obtain⟨ys,e⟩:=h.new q z;rw[hq] at e;cases e
theorem Qh {H:Hp}{a:ah}{ms:List ah}{gs:List (List Str)}(h:H a=some (.lst (ms.map V.ref))) (p:Paired (fun c g=>H c=some (.lst (g.map V.str))) ms gs) (l1:ms.length<=900) (l2:∀g∈gs,g.length<=900):gU H ⟨a,ms.map V.ref,ms⟩:=by
  refine⟨h,by rw[ay];exact l1,.inr ⟨rfl,fun m hm=>?_⟩⟩;obtain⟨j,hj⟩:=e9.mp hm;obtain⟨g,hg,q⟩:=Paired.get' p hj;exact⟨g,l2 g (aZ hg),q⟩
theorem BI {H:Hp}{a:ah}{rs:List ah}(h:H a=some (.lst (rs.map V.ref))) (l:rs.length<=900) (t:∀r∈rs,∃ws,H r=some (.tup ws)):gU H ⟨a,rs.map V.ref,[]⟩:=
  ⟨h,by rw[ay];exact l,.inl ⟨rfl,fun v hv=>let ⟨r,hr,e⟩:=aM.mp hv;let ⟨ws,q⟩:=t r hr;.inr ⟨r,ws,e.symm,q⟩⟩⟩
theorem Zw {H:Hp}{a:ah}{xs:List Str}(h:H a=some (.lst (xs.map V.str))) (l:xs.length<=900):gU H ⟨a,xs.map V.str,[]⟩:=
  ⟨h,by rw[ay];exact l,.inl ⟨rfl,fun v hv=>let ⟨r,_,e⟩:=aM.mp hv;.inl ⟨r,e.symm⟩⟩⟩
theorem Qi {H:Hp}{as:List ah}{gq:List (List V)}(t:bT H as gq):∀r∈as,∃ws,H r=some (.tup ws):=fun r hr=>let ⟨ws,_,q⟩:=t.get hr;⟨ws,q⟩
theorem Qj {us:List Str}{ts:List aS}(h:us.length<64):(mS us ts).length<=900/\∀g∈mS us ts,g.length<=900:=by
  have h1:=(Ae us).length_eq;unfold mS;refine⟨?_,fun g hg=>?_⟩
  · rw[ay];unfold zk;have:=fO (fun x=>decide (aO ts x=x)) (aL us);lia
  · obtain⟨k,_,rfl⟩:=aM.mp hg;unfold nU;have:=fO (fun x=>decide (aO ts x=k)) (aL us);lia
theorem Zx {keys:List Str}{lv:Str->Nat}{n:Nat}(h:keys.length<=900):∀g∈tD keys lv n,g.length<=900:=fun g hg=>by
  unfold tD at hg;obtain⟨k,_,rfl⟩:=aM.mp hg;exact cy (fO _ _) h
theorem Zy {lo hi:Int}{us:List Str}{az:List ah}{ts:List aS}{af:List ah}{fs:List cI}{c:d8}{w:Str}(ends:∀t∈ts,t.a∈us/\t.b∈us) (nr:iA (cX ts (ts.zip az)) (zk ts (aL us))) (kl:(zk ts (aL us)).length<=63) (ri:sj lo hi us az ts af fs c w):c.2.2.length<=900:=by
  obtain⟨k,m,hk,u,_⟩:=ri;rw[wK] at nr;have:=u.short (AA (az:=az) ends) nr hk;lia
theorem yQ {l a1 a2:ah}{A Z:List ah}:([l]++A++[a1]++[a2]++Z).Perm (A++(a1::[]++(a2::[]++(l::[]++Z)))):=by
  simp only [jk,List.singleton_append,mw,mD];rw[show A++a1::a2::l::Z=(A++[a1,a2])++l::Z by simp,show l::(A++a1::a2::Z)=l::((A++[a1,a2])++Z) by simp];exact List.perm_middle.symm
theorem Zz {K:aE}{H:Hp}{r t l e:ah}{a b:Str}{rl:List ah}{n:Nat}(hr:bF K H r [.str a,.ref l,.str b]) (ht:bF K H t [.str "",.ref e,.str ""]) (hl:aI K H l (rl.map V.ref)) (he:aI K H e []):cU K H (n+2) (.ref r) (.ref t) (decide (a = ""/\rl = []/\b = "")):=by
  have ev:∀x:Str,nQ (.str x) (.str "")=decide (x = ""):=fun x=>by
    by_cases h:x = ""
    · subst h;rw[aR rfl];exact FZ rfl
    · rw[bg h];simp[nQ,h]
  have:=cU.tup (n:=n+1) (fun i=>match i with | 0=>decide (a = "") | 1=>decide (rl = []) | _=>decide (b = "")) hr ht fun i x y ex ey=>by
    match i,ex,ey with
    | 0,ex,ey=>
      cases ex;cases ey;have:=cU.flat (K:=K) (H:=H) (n:=n+1) (x:=.str a) (y:=.str "") rfl rfl;rw[ev] at this;exact this
    | 1,ex,ey=>
      cases ex;cases ey;have:=cU.qP (n:=n) hl he;rw[show decide (rl.map V.ref = [])=decide (rl = []) from jm.mpr List.map_eq_nil_iff] at this;exact this
    | 2,ex,ey=>
      cases ex;cases ey;have:=cU.flat (K:=K) (H:=H) (n:=n+1) (x:=.str b) (y:=.str "") rfl rfl;rw[ev] at this;exact this
    | i+3,ex,ey=>cases ex
  have e2:(List.range (min [V.str a,.ref l,.str b].length [V.str "",.ref e,.str ""].length)).all (fun i=>match i with | 0=>decide (a = "") | 1=>decide (rl = []) | _=>decide (b = ""))=decide (a = ""/\rl = []/\b = ""):=by
    show (decide (a = "")&&(decide (rl = [])&&(decide (b = "")&&true)))=_;rw[Bool.and_true,Bool.decide_and,Bool.decide_and]
  rw[e2,show ([V.str a,.ref l,.str b].length == [V.str "",.ref e,.str ""].length)=true from rfl,Bool.and_true] at this;exact this
end Dm
namespace L2
open PySem PySem.Spec PyProof.Rows
end L2
namespace Dm
open PySem PySem.NumText L2
end Dm
namespace L2
open PySem PySem.Spec PyProof.Rows
section
variable {prog:aP}{w:World}{A:Around}{E:aA}{s:au}{env:Env}{bm:List ai}
theorem ZA {x:Str}{C:ah}{vI:ai}{np bO:Pos}{a:PySem.Expr}{as:List PySem.Expr}{Q:aA}(U:d7 bm)
    (nh:starEach (a::as) env=(false,eval a env)::starEach as env) (gH:(backTo bO (starEach as env)).any (·.1)=false)
    (k:wpAny (model prog w) A (eval (.Name x np) env) (fun f s1=>f = .ref C/\wpAny (model prog w) A (spliced (backTo bO (starEach (a::as) env)))
      (fun us s2=>us.length<=sizeLine/\mU s2.heap C bm/\PySem.W.Looks (model prog w) s2.heap (typeLookup (.ref C) "__init__") (some (vI))/\(∀self,PySem.W.Looks (model prog w) s2.heap (bindSpecial (vI) self) (vI,[self]))/\
        ∀h' e,s2.heap.objs.size<=e->Heap.MadeExcOf s2.heap h' e (.ref C) us->wpAny (model prog w) (A.under (.builtin "type.__call__" ⟨.ref C::us,[]⟩)) (call (vI) (.ref e::us))
          (fun r s3=>r = .none/\Q (.ref e) s3) E { s2 with heap:=h' }) E s1) E s) :
    wpAny (model prog w) A (eval (.Call (.Name x np) (a::as) [] bO) env) Q E s:=by
  refine wpAny_Call_ofName (b7 k (fun f s1 k1=>?_) fun _ _ z=>z);obtain⟨rfl,k1⟩:=k1;unfold callWith;have any:(backTo bO (starEach (a::as) env)).any (·.1)=false:=by
    rw[nh];show (false||(backTo bO (starEach as env)).any (·.1))=false;rw[gH];rfl
  rw[nh] at k1 ⊢;refine aj (dO (l8 (b7 k1 (fun us s2 k2=>aj (iJ ?_)) fun _ _ z=>z)));obtain⟨hz,xo,lk,bd,go⟩:=k2;obtain⟨hp,g,d,tk,os⟩:=s2;rw[nh] at any;simp only [any];have J3:=xo;obtain⟨a1,a2,a3,a4,a5,a6,a7,a8,a9,b1,b2,b3,b4,b5,b6,o⟩:=J3;refine aj (wpAny_keeperOf_exc o ?_);refine aj (OY U xo hz lk bd fun h' e hs hm=>b7 (go h' e hs hm) (fun r s3 q=>?_) fun _ _ z=>z);exact⟨q.1,aj (dO (wpAny_point (aD q.2)))⟩
end
def ZC (C:ah) (sp:Sp) (t:TA):TE:=fun σ H Q=>t σ H fun vs H1=>∀e,H1 e=none->sp (.ref e::vs) (upd H1 e (c5 e C none)) (fun v H2=>v = .cQ/\∃dc,H2 e=some (c5 e C dc)/\Q (.ref e) H2) (fun _ _ _=>False)
section
variable {X:Cx}{k:Nat}{C:ah}{ps:List Str}{sp:Sp}{x:Str}{p pos bO:Pos}{e:Expr}{es:List Expr}{t:TA}
theorem Qk (M:jK X.prog X.w X.K X.mg X.base C "__init__" ps k sp) (xo:BE X.K C) (hr:b8 (k+1) X.A) (hg:Gl X x) (hm:X.mg x=some (.ref C)) (BD:ps.length<=1000) (ha:PA X (e::es) t)
    (iO:(x == ("__debug__" : Str))=false:=by decide) (he:starEach (e::es) X.env=(false,eval e X.env)::starEach es X.env:=by rfl) (gH:(backTo bO (starEach es X.env)).any (·.1)=false:=by rfl) :
    PE X (.Call (.Name x p) (e::es) [] bO) (ZC C sp t):=by
  obtain⟨f,fd,m,b,F⟩:=M;obtain⟨bm,xo,U⟩:=xo;intro pins s σ H Q I h;refine ZA (vI:=.ref f) U he gH (yp I hg hm ⟨rfl,bR (ha bO pins s σ H _ I h) fun us s2 aT=>?_⟩ iO);obtain⟨vs,H1,I1,r,q⟩:=aT;have fr:∀a,s2.heap.objs.size<=a->H1 a=none:=fun a h=>I1.bu.fresh h
  have q0:=q _ (fr _ (aH _));have l0:=F.len _ _ _ _ q0;rw[fh] at l0;have rl:=r.length;refine⟨by rw[dW];lia,xo.in I1.fX,PySem.W.looks_findIn I1.fX m.at_,fun self=>PySem.W.bind_fn I1.fX self (fC.mp m.fn),fun h' ex hs DU=>?_⟩;have hq:=q ex (fr ex hs);obtain⟨t0,h1,_,_⟩:=DU.there;have I2:=I1.laid (a:=ex) (o:=c5 ex C none) (h':=h') (t':=s2.toks) DU.keeps hs (GP h1 rfl rfl rfl rfl rfl);have r2:Vals (V.ref ex::vs) (Value.ref ex::us):=.cons rfl r;have hl:(Value.ref ex::us++[]).length=ps.length:=by
    have e:=r2.length;rw[F.len _ _ _ _ hq] at e;rw[dg];exact e.symm
  have bb:=(Binds.all b:Binds X.K fd ps []) _ (Value.ref ex::us) I2.fX hl;rw[dg] at bb;refine eE (fk (F.run _ X.stack _ _ ⟨Value.ref ex::us,[]⟩ (Value.ref ex::us) _ _ (fun _ _ _=>False) (hr.make C us []) (I2.uO.make C us []) bb r2 hq) fun r s' nP=>?_);cases r with
  | error e=>exact False.elim nP
  | ok fl=>
    cases fl with
    | ret u=>
      obtain⟨v,H',I3,rv,ev,dc,Kc,hE⟩:=I2.after nP;subst ev;exact⟨rv,.ref ex,H',I3,rfl,hE⟩
    | next=>exact False.elim nP
    | brk=>exact False.elim nP
    | cont=>exact False.elim nP
end
def ZD (K:aE) (ta:TE) (f:Str):TE:=fun σ H Q=>ta σ H fun x H1=>∃a C d fs v,x = .ref a/\H1 a=some (c5 a C (some d))/\H1 d=some (.xd fs)/\pY K C/\bQ K C f/\fs.lookup f=some v/\Q v H1
section
variable {X:Cx}{pins:aG}{σ:St}{H:Hp}{s:au}{a C d:ah}{fs:List (Str×V)}{f:Str}{v:V}{A:Around}{E:aA}
theorem ZE {b:Bool}{Q:aA}(I:Inv X pins σ H s) (e:H a=some (c5 a C (some d))) (ed:H d=some (.xd fs)) (c:pY X.K C) (n:bQ X.K C f) (l:fs.lookup f=some v)
    (h:∀u s',Inv X pins σ H s'->RelV v u->Q u s'):wpAny (model X.prog X.w) A (getAttr (.ref a) f b) Q E s:=by
  obtain⟨⟨oe,vs,t0,h1,h2,h3,h4,_,_⟩,_,_⟩:=(show bG X.prog X.w H s.heap a (c5 a C (some d)) from I.bu a _ e);obtain⟨mA,ns,r⟩:=(show bG X.prog X.w H s.heap d (.xd fs) from I.bu d _ ed);obtain⟨u,hu,ru⟩:=gg.some_of (v:=v) (o:=mA f) (by rw[←l];exact r f);obtain⟨od,ho,hl⟩:=Ig ns;have J:PySem.W.InstAt s.heap a oe C (some od):=⟨h1,h2,by unfold PySem.W.notCls;rw[h4],by rw[h3];exact ho⟩;exact Ph I.fX J c (PySem.W.findObj_own c.hd n rfl (by rw[hl,hu])) (Im ru) (h u _ (I.tok _) ru)
end
theorem Ql {X:Cx}{e:Expr}{f:Str}{pos:Pos}{ta:TE}(K:aE) (hK:X.K=K) (he:PE X e ta) (hb:attributeBase e f X.env (eval e X.env)=eval e X.env):PE X (.Attribute e f pos) (ZD K ta f):=by
  subst hK;intro pins s σ H Q I h;refine Ip hb (bR (he pins s σ H _ I h) fun u s1 aT=>?_);obtain⟨x,H1,I1,rx,a,C,d,fs,v,ex,ea,ed,c,n,l,q⟩:=aT;subst ex;obtain rfl:u=Value.ref a:=rx;exact ZE I1 ea ed c n l fun u' s2 I2 ru=>⟨v,H1,I2,ru,q⟩
section
variable {X:Cx}{pos:Pos}
theorem sset {i:Nat}{x:Str}{e:Expr}{te:TE}{pos':Pos}(hN:X.N.Nodup) (he:PE X e te) (hi:X.N[i]? = some x:=by rfl) (hx:Loc X.env.scope x:=by first | exact Or.inl rfl | exact Or.inr rfl) (hs:swapsWith e (some (.Name x pos')) pos.line X.env=pure false:=by rfl) (hf:X.fn x=true\/X.env.scope.names.lookup x=some .local:=by first | exact .inl rfl | exact .inr rfl | assumption):PS X (.Assign [.Name x pos'] e pos) (w4 te (zw i)):=SW hN hi hx he hs hf
theorem fZ {i:Nat}{x:Str}(hN:X.N.Nodup) (hi:X.N[i]? = some x:=by rfl) (hx:Loc X.env.scope x:=by first | exact Or.inl rfl | exact Or.inr rfl) (hf:X.fn x=true\/X.env.scope.names.lookup x=some .local:=by first | exact .inl rfl | exact .inr rfl | assumption):PG X (.Name x pos) (zw i):=sN hN hi hx hf
theorem ck {a b:Expr}{ta tb:TE}{r:R2}(hr:zQ X r) (ha:PE X a ta) (hb:PE X b tb) (hs:MS b:=by exact fun _ _=>rfl):PE X (.Subscript a b pos) (Cr r ta tb):=Uc hr ha hb hs
end
section
variable {X:Cx}{x:Str}{ps:List Str}{k:Nat}{sp:Sp}{e:Expr}{es:List Expr}{t:TA}{p pos:Pos}
theorem cu (F:fH X.prog X.w X.K X.mg X.base x ps k sp) (ha:PA X (e::es) t) (hr:b8 k X.A:=by exact b8.mono (by assumption) (by decide)) (hg:Gl X x:=by rfl) (iO:(x == ("__debug__" : Str))=false:=by decide)
    (he:starEach (e::es) X.env=(false,eval e X.env)::starEach es X.env:=by rfl) (gH:(backTo pos (starEach es X.env)).any (·.1)=false:=by rfl):PE X (.Call (.Name x p) (e::es) [] pos) (FD sp [] E0 t):=Vk F hr hg ha iO he gH
end
theorem eY {N P:List Str}{sc:Scope}(h1:sc.kind = .function:=by rfl) (h2:sc.isCoroutine=false:=by rfl) (h3:sc.isGenerator=false:=by rfl) (h4:N.Nodup:=by decide +kernel) (h5:N.take P.length=P:=by rfl) (h6:∀x∈P,sc.names.lookup x=some .local\/sc.names.lookup x=some .cell:=by decide +kernel) (h7:∀y∈sc.names,y.2≠.free:=by decide +kernel):aF N P sc:=⟨h1,h2,h3,h4,h5,h6,h7⟩
end L2
namespace LK64
open PySem L2 Dm PySem.NumText
def top (i:Nat):Stmt:=PySem.Challenge.pw_digmatrix_k64_told_and_changed.main.body.getD i (.Pass ⟨0,0,0,0⟩)
structure Tx (K:aE) (mg:Str->Option ai) (w:World) (C_Dig:ah) (zn:ah) (zp:ah) (zi:ah) (zr:ah) (zq:ah):Prop where
 ZF:mg "Dig" = some (.ref C_Dig)
 lU:rP K C_Dig
 ZG:PySem.W.makesIn K C_Dig=true
 ZH:PySem.W.keepIn K (.ref C_Dig)=true
 Qm:bQ K C_Dig "frame"
 Eb:bQ K C_Dig "units"
 GZ:bQ K C_Dig "ties"
 G0:bQ K C_Dig "finds"
 ZI:sS K C_Dig "Dig.__init__" "__init__" (qo (top 8) 0) ["self","first","last"]
 ZJ:sS K C_Dig "Dig.add_unit" "add_unit" (qo (top 8) 1) ["self","name"]
 ZK:sS K C_Dig "Dig.add_tie" "add_tie" (qo (top 8) 3) ["self","tie"]
 ZL:sS K C_Dig "Dig.add_find" "add_find" (qo (top 8) 5) ["self","name","unit","low","high"]
 ZM:sS K C_Dig "Dig.telling" "telling" (qo (top 8) 8) ["self"]
 ZN:sS K C_Dig "Dig.seek_unit" "seek_unit" (qo (top 8) 9) ["self","name"]
 Qn:mg "DigError" = some (.ref zn)
 Qo:yL K zn
 G5:mg "Round" = some (.ref zp)
 Qp:mV K zp
 ZO:sY K zp
 KI:BE K zp
 Qq:pY K zp
 ZP:sS K zp "Round.__init__" "__init__" (qo (top 3) 0) ["self","ties"]
 KJ:bQ K zp "ties"
 KL:mg "NoDating" = some (.ref zi)
 ZQ:mV K zi
 ZR:sY K zi
 KN:BE K zi
 Qs:pY K zi
 ZS:sS K zi "NoDating.__init__" "__init__" (qo (top 4) 0) ["self","row"]
 KO:bQ K zi "row"
 zz5:mg "Twice" = some (.ref zr)
 zz2:mg "NoUnit" = some (.ref zq)
 Qt:PySem.W.mroIn K zp (.ref zp)=some true
 ZT:PySem.W.mroIn K zp (.ref zi)=some false
 ZU:PySem.W.mroIn K zi (.ref zi)=some true
 ZV:Df K mg "one_names" (top 10) ["units","ties"]
 ZW:Df K mg "join_ones" (top 11) ["names","first","second"]
 ZX:Df K mg "ones" (top 12) ["units","ties"]
 ZY:Df K mg "ties_beneath" (top 13) ["telling"]
 ZZ:Df K mg "shortest_round" (top 15) ["telling"]
 Z0:Df K mg "round_through" (top 16) ["start","beneath"]
 Qu:Df K mg "refuse_round" (top 17) ["telling"]
 Qv:Df K mg "order" (top 18) ["telling"]
 Z1:Df K mg "least_free" (top 19) ["beneath","placed"]
 Z2:Df K mg "rests_on" (top 20) ["lowers","placed"]
 Z3:Df K mg "all_beneath" (top 22) ["telling"]
 Z4:Df K mg "drawn" (top 23) ["telling"]
 Z5:Df K mg "lies_between" (top 24) ["depths","upper","lower"]
 Z6:Df K mg "levels" (top 26) ["telling"]
 Z7:Df K mg "gap_of" (top 28) ["tie"]
 Z8:Df K mg "finds_within" (top 29) ["telling"]
 Z9:Df K mg "floors" (top 30) ["telling"]
 zoa:Df K mg "ceilings" (top 31) ["telling"]
 ziq:Df K mg "bare_chains" (top 32) ["bounds"]
 zuh:Df K mg "led_up" (top 33) ["chain","tie"]
 ze7:Df K mg "one_tie_longer" (top 34) ["beneath","chains"]
 ze8:Df K mg "impossible_row" (top 35) ["telling"]
 ze9:Df K mg "refuse_undated" (top 36) ["telling"]
 zli:Df K mg "chains_up" (top 38) ["telling"]
 zir:Df K mg "chains_down" (top 39) ["telling"]
 zob:Df K mg "led_down" (top 40) ["chain","tie"]
 zxq:Df K mg "spans" (top 42) ["telling"]
 zg5:Df K mg "_law_cell_at" (top 44) ["_law_script","_law_k"]
 zlj:Df K mg "_law_part" (top 45) ["_law_cell","_law_k","_law_many"]
 zka:Df K mg "_law_names" (top 46) ["_law_one","_law_other","_law_many"]
 zoc:Df K mg "_law_tie" (top 47) ["_law_names_here","_law_cell"]
 zlk:Df K mg "_law_find" (top 48) ["_law_marks","_law_units","_law_many","_law_cell"]
 zkb:Df K mg "_law_frame" (top 49) ["_law_cell"]
 zod:Df K mg "_law_dig" (top 50) ["_law_script","_law_names_here","_law_marks","_law_frame_here"]
 zkc:Df K mg "_law_round" (top 51) ["_law_telling"]
 zoe:Df K mg "_law_row" (top 52) ["_law_telling"]
 zg6:Df K mg "_law_answers" (top 53) ["_law_telling"]
 zll:Df K mg "_law_seen" (top 54) ["_law_answers_here"]
 zdu:Df K mg "_law_made_by_hand" (top 55) ["_law_ties"]
 z08:Df K mg "law" (top 56) ["_law_script"]
 min:mg "min" = none
 list:mg "list" = none
 sorted:mg "sorted" = none
 all:mg "all" = none
 any:mg "any" = none
 reversed:mg "reversed" = none
 range:mg "range" = none
 len:mg "len" = none
 max:mg "max" = none
 isinstance:mg "isinstance" = none
theorem Tx.ex {K:aE}{mg:Str->Option ai}{w:World}{C_Dig:ah}{zn:ah}{zp:ah}{zi:ah}{zr:ah}{zq:ah}(T:Tx K mg w C_Dig zn zp zi zr zq):∃C_Dig,∃zn,∃zp,∃zi,∃zr,∃zq,Tx K mg w C_Dig zn zp zi zr zq:=⟨_,_,_,_,_,_,T⟩
theorem eU:aF ["units","ties","names","unit","tie"] ["units","ties"] (zo (top 10)):=eY
theorem gW:aF ["names","first","second","least","unit"] ["names","first","second"] (zo (top 11)):=eY
theorem lV:aF ["units","ties","names","members","unit"] ["units","ties"] (zo (top 12)):=eY
theorem cN:aF ["telling","names","beneath","members","tie"] ["telling"] (zo (top 13)):=eY
theorem bL:aF ["telling","beneath","shortest","name","ties"] ["telling"] (zo (top 15)):=eY
theorem aY:aF ["start","beneath","met","ways","longer","name","ties","lower","tie"] ["start","beneath"] (zo (top 16)):=eY
theorem c8:aF ["telling","ties"] ["telling"] (zo (top 17)):=eY
theorem gF:aF ["telling","beneath","placed"] ["telling"] (zo (top 18)):=eY
theorem ju:aF ["beneath","placed","free"] ["beneath","placed"] (zo (top 19)):=eY
theorem zk9:aF ["lowers","placed"] ["lowers","placed"] (zo (top 20)):=eY
theorem cE:aF ["telling","straight","depths","name","lower","tie"] ["telling"] (zo (top 22)):=eY
theorem fE:aF ["telling","straight","depths","pairs","name","lower","tie"] ["telling"] (zo (top 23)):=eY
theorem zf8:aF ["depths","upper","lower"] ["depths","upper","lower"] (zo (top 24)):=eY
theorem eZ:aF ["telling","beneath","numbers","rows","name","number"] ["telling"] (zo (top 26)):=eY
theorem zrj:aF ["tie"] ["tie"] (zo (top 28)):=eY
theorem cO:aF ["telling","names","within","members","find"] ["telling"] (zo (top 29)):=eY
theorem iZ:aF ["telling","within","starts","name"] ["telling"] (zo (top 30)):=eY
theorem f9:aF ["telling","within","ends","name"] ["telling"] (zo (top 31)):=eY
theorem fF:aF ["bounds","chains","name"] ["bounds"] (zo (top 32)):=eY
theorem zrk:aF ["chain","tie"] ["chain","tie"] (zo (top 33)):=eY
theorem bM:aF ["beneath","chains","longer","name","lower","tie","chain"] ["beneath","chains"] (zo (top 34)):=eY
theorem bN:aF ["telling","beneath","ends","chains","name"] ["telling"] (zo (top 35)):=eY
theorem gb:aF ["telling","row"] ["telling"] (zo (top 36)):=eY
theorem cK:aF ["telling","beneath","chains","name","lower","tie","chain"] ["telling"] (zo (top 38)):=eY
theorem bW:aF ["telling","beneath","chains","name","lower","tie","chain"] ["telling"] (zo (top 39)):=eY
theorem zla:aF ["chain","tie"] ["chain","tie"] (zo (top 40)):=eY
theorem mZ:aF ["telling","ups","downs"] ["telling"] (zo (top 42)):=eY
theorem zf9:aF ["_law_script","_law_k"] ["_law_script","_law_k"] (zo (top 44)):=eY
theorem zj5:aF ["_law_cell","_law_k","_law_many"] ["_law_cell","_law_k","_law_many"] (zo (top 45)):=eY
theorem bh:aF ["_law_one","_law_other","_law_many","_law_signs","_law_size","_law_at","_law_names_here","_law_k","_law_name","_law_j","_law_number"] ["_law_one","_law_other","_law_many"] (zo (top 46)):=eY
theorem cY:aF ["_law_names_here","_law_cell","_law_one","_law_other","_law_kind","_law_gap"] ["_law_names_here","_law_cell"] (zo (top 47)):=eY
theorem eV:aF ["_law_marks","_law_units","_law_many","_law_cell","_law_low","_law_high"] ["_law_marks","_law_units","_law_many","_law_cell"] (zo (top 48)):=eY
theorem jv:aF ["_law_cell","_law_some"] ["_law_cell"] (zo (top 49)):=eY
theorem cH:aF ["_law_script","_law_names_here","_law_marks","_law_frame_here","_law_dig_here","_law_units","_law_ties","_law_finds","_law_name","_law_cell","_law_tie_here"] ["_law_script","_law_names_here","_law_marks","_law_frame_here"] (zo (top 50)):=eY
theorem d9:aF ["_law_telling","_law_told","e"] ["_law_telling"] (zo (top 51)):=eY
theorem eB:aF ["_law_telling","_law_told","e"] ["_law_telling"] (zo (top 52)):=eY
theorem cP:aF ["_law_telling","_law_row_here","_law_answers_here"] ["_law_telling"] (zo (top 53)):=eY
theorem eW:aF ["_law_answers_here","_law_seen_here","_law_answer","_law_part_here"] ["_law_answers_here"] (zo (top 54)):=eY
theorem cj:aF ["_law_ties","_law_handed","_law_one","_law_other"] ["_law_ties"] (zo (top 55)):=eY
theorem eO:aF ["_law_script","_law_names_here","_law_marks","_law_dig_here","_law_due","_law_telling","_law_k","_law_answers_here","_law_seen_here","_law_answer","_law_part_here"] ["_law_script"] (zo (top 56)):=eY
theorem zel:aF ["self","ties"] ["self","ties"] (zo (qo (top 3) 0)):=eY
theorem zde:aF ["self","row"] ["self","row"] (zo (qo (top 4) 0)):=eY
theorem zga:aF ["self","first","last"] ["self","first","last"] (zo (qo (top 8) 0)):=eY
theorem zgb:aF ["self","name"] ["self","name"] (zo (qo (top 8) 1)):=eY
theorem zgr:aF ["self","tie"] ["self","tie"] (zo (qo (top 8) 3)):=eY
theorem zgc:aF ["self","name","unit","low","high"] ["self","name","unit","low","high"] (zo (qo (top 8) 5)):=eY
theorem zgs:aF ["self"] ["self"] (zo (qo (top 8) 8)):=eY
theorem ze0:aF ["self","name"] ["self","name"] (zo (qo (top 8) 9)):=eY
section
variable {P:aP}{w:World}{K:aE}{mg:Str->Option ai}{base:Heap}{C_Dig:ah}{zn:ah}{zp:ah}{zi:ah}{zr:ah}{zq:ah}
local macro_rules | `(tactic| walk_at "rd")=>`(tactic| repeat (first | refine⟨_,rfl,?_⟩ | refine⟨_,_,rfl,rfl,?_⟩ | refine⟨_,_,_,rfl,?_⟩))
local macro_rules | `(tactic| walk_at "rd")=>`(tactic| repeat (first | refine⟨_,rfl,?_⟩ | refine⟨_,_,rfl,rfl,?_⟩ | refine⟨_,_,_,rfl,?_⟩))
inductive vq (vs:List V) (H:Hp) (Q:VK):Prop
 | mk (a:ah) (ns:List Int) (i:Int) (_:vs = [.ref a,.int i]) (_:aI K H a (ns.map V.int)) (_:0<=i) (_:Q (.int (uY ns i)) H)
def zxb:Sp:=fun vs H Q _=>vq (K:=K) vs H Q
theorem BJ (T:Tx K mg w C_Dig zn zp zi zr zq):fH P w K mg base "_law_cell_at" ["_law_script","_law_k"] 1 (zxb (K:=K)):=by
 refine T.zg5.has zf9 (fun vs H Q E h=>?_) (fun f bY A outer s H vs Q E hr h=>?_)
 ·obtain⟨a,ns,i,rfl,_⟩:=h;rfl
 ·obtain⟨a,ns,i,rfl,ha,h0,k⟩:=h;refine⟨_,(ze (iM (iU Bl (pv 1) (k6 (wg K rfl) (by rfl) T.len dQ (zc (pv 0) zf)) (iy _)) (zj (fG (ck (mO K rfl) (pv 0) (pv 1)))) i6)
   (zj (fG zm))),?_⟩
  refine⟨_,rfl,_,rfl,a,_,rfl,.inl ha,_,_,rfl,rfl,_,rfl,?_⟩;refine dF (fun c=>?_) (fun c=>?_)
  ·have c:=bC c;rw[ay] at c;have hi:i.toNat<ns.length:=by lia
   refine⟨_,rfl,_,rfl,a,_,i,.int (uY ns i),rfl,rfl,ha,?_,k⟩;have e:uY ns i=ns[i.toNat]:=by unfold uY;rw[cV,aU hi];rfl
   have:=pP (xs:=ns.map V.int) (j:=i.toNat) (v:=.int (uY ns i)) (by rw[e];simp[hi]);rw[oQ h0] at this;exact this
  ·have c:¬i<((ns.map V.int).length:Int):=fun z=>c (aR z)
   rw[ay] at c;have e:uY ns i=0:=by unfold uY;rw[cV,qC (by lia)];rfl
   rw[e] at k;exact k
def zxc:Sp:=fun vs H Q _=>∃c k m:Int,vs = [.int c,.int k,.int m]/\0<m/\Q (.int (pt c k m)) H
theorem qy (T:Tx K mg w C_Dig zn zp zi zr zq):fH P w K mg base "_law_part" ["_law_cell","_law_k","_law_many"] 1 zxc:=by
 refine T.zlj.has zj5 (fun vs H Q E h=>?_) (fun f bY A outer s H vs Q E hr h=>?_)
 ·obtain⟨c,i,m,rfl,_⟩:=h;rfl
 ·obtain⟨c,i,m,rfl,hm,k⟩:=h;refine⟨_,(zj (fG (fJ w6 (fJ w6 (fJ Ct (fJ w6 (fJ Ct (fJ um (fJ w6 (pv 0) zm) zm) (fJ um zm (fJ Ct zm (pv 1)))) zm) (fJ um (pv 1) zm)) zm) (pv 2)))),?_⟩;have b1:=jE c (show (99991:Int)≠0 by decide);have b2:=jx c (show (0:Int)<99991 by decide);have b3:=jE ((c%99991+17) * (48271+7919 * i)) (show (65537:Int)≠0 by decide);have b4:=jx ((c%99991+17) * (48271+7919 * i)) (show (0:Int)<65537 by decide)
  walk_at "rd"
  refine⟨(by decide:(0:Int)<99991),?_⟩
  walk_at "rd"
  refine⟨.inl ⟨by decide,by decide⟩,?_⟩
  walk_at "rd"
  refine⟨.inl ⟨by lia,by lia⟩,?_⟩
  walk_at "rd"
  refine⟨(by decide:(0:Int)<65537),?_⟩
  walk_at "rd"
  refine⟨.inl ⟨by lia,by lia⟩,?_⟩
  walk_at "rd"
  refine⟨(by decide:(0:Int)<8191),?_⟩
  walk_at "rd"
  exact⟨hm,k⟩
theorem Ec (z:Int) (one at':Int) (k j:Nat) (h:z=uZ one at' k j):jY dw.cps.toList (z%37)=some (qt one at' k j):=by
 obtain⟨h0,h1⟩:=sU z;subst h;have:=pP (xs:=co dw) (j:=(uZ one at' k j%37).toNat) (v:=qt one at' k j) (by unfold qt;rw[cV,aU h1];rfl);rw[oQ h0] at this;exact this
def KP (l:List Nat) (size:Int):V->V
 | .int z=>.str (Txt.slice (nS l) none (some (size-z)))
 | _=>.cQ
def ztw:Sp:=fun vs H Q _=>∃(one other:Int) (n:Nat),vs = [.int one,.int other,.int n]/\n<=37/\∀(p:ah) (xs:List Str) (H':Hp),xs.length=n->xs.Nodup->(∀x∈xs,nG x=true)->H p=none->H' p=some (.lst (xs.map V.str))->ak H H'->Q (.ref p) H'
theorem Qw (T:Tx K mg w C_Dig zn zp zi zr zq):fH P w K mg base "_law_names" ["_law_one","_law_other","_law_many"] 2 ztw:=by
 refine T.zka.has bh (fun vs H Q E h=>?_) (fun f bY A outer s H vs Q E hr h=>?_)
 ·obtain⟨one,other,n,rfl,_⟩:=h;rfl
 ·obtain⟨one,other,n,rfl,KQ,k⟩:=h;refine⟨_,(ze (sset (i:=3) bh.nd jI)
   (ze (sset (i:=4) bh.nd (fJ um zm (cu (qy T) (zc (pv 0) (zc zm (zc zm zf))))))
   (ze (sset (i:=5) bh.nd (cu (qy T) (zc (pv 1) (zc zm (zc (pv 4) zf)))))
   (ze (sset (i:=6) bh.nd (iz zf))
   (ze (iN bE rfl (HY (by rfl) T.range (zc (pv 2) zf)) (fZ (i:=7) bh.nd) (ze (sset (i:=8) bh.nd jI)
    (ze (iN bE rfl (HY (by rfl) T.range (zc (pv 4) zf)) (fZ (i:=9) bh.nd) (ze (sset (i:=10) bh.nd (cu (qy T) (zc (pv 0) (zc (fJ um (pv 9) zm) (zc zm zf)))))
     (ze (iM (iU vY (pv 9) (pv 5) (iy _)) (zj (sset (i:=10) bh.nd (fJ um (pv 10) (pv 7)))) i6)
     (zj (sset (i:=8) bh.nd (fJ Tp (pv 8) (ck Ug (pv 3) (fJ w6 (pv 10) zm))))))))
    (zj (i7 (pV K rfl PySem.F.plainAttrs_list PySem.F.slot_list_append PySem.F.type_list_append pQ (pv 6) (zc (pv 8) zf)))))))
   (ze (iM (PW.pt (Ci (iU Tn (pv 4) (pv 2) (iy _)) (Cg (iU vY (fJ w6 (pv 1) zm) zm (iy _))))) (zj (fG (yz (own:=["_law_k"]) (cap:=["_law_names_here","_law_size"]) (ix:=[6,4]) (pG:=zo (top 46)) rfl ⟨rfl,by decide +kernel,by decide +kernel,by decide +kernel,by decide +kernel⟩ rfl (HY (by rfl) T.range (zc (pv 2) zf)) (fun _ _ _ _=>sN (i:=0) (show List.Nodup (["_law_k","_law_names_here","_law_size"]:List Str) by decide +kernel) rfl (Or.inl rfl)) (fun _ _ _ _=>xy) (fun _ _ _ _=>(CF Vi (ck (mO K rfl) (pv 1) zm) FH (Bm (fJ My (pv 2) (pv 0)))))))) i6)
   (zj (fG (pv 6))))))))),?_⟩
  walk_at "rd"
  refine⟨by decide,?_⟩
  walk_at "rd"
  obtain⟨s1,s2⟩:=qR one 0 12 (by decide);have hs:∃size:Nat,1+pt one 0 12=(size:Int)/\1<=size/\size<=12:=⟨(1+pt one 0 12).toNat,by lia,by lia,by lia⟩;obtain⟨size,es,z1,z2⟩:=hs;rw[es];refine⟨by lia,?_⟩;obtain⟨a1,a2⟩:=qR other 1 (size:Int) (by lia);generalize pt other 1 (size:Int)=at' at a1 a2;refine⟨by decide,fun p hp=>?_⟩;refine⟨_,rfl,(n:Int),rfl,by lia,by lia,Ia (lo:=0) (n:=n) (fun i σ H'=>∃v7 v8 v9 v10,σ = [some (.int one),some (.int other),some (.int n),some (.str dw),some (.int size),some (.int at'),some (.ref p),v7,v8,v9,v10]/\ak H H'/\
   H' p=some (.lst (((List.range i).map fun k=>nS (rS one at' k size)).map V.str))) ⟨none,none,none,none,(by rw[←es];rfl),ak.new hp,zd⟩ ?_ ?_⟩
  ·rintro i σ H1 hi ⟨v7,v8,v9,v10,rfl,q1,q2⟩;simp only [Int.zero_add];refine⟨_,rfl,(size:Int),rfl,by lia,by lia,Ia (lo:=0) (n:=size) (fun j σ H2=>∃v9 v10,σ = [some (.int one),some (.int other),some (.int n),some (.str dw),some (.int size),some (.int at'),some (.ref p),some (.int i),some (.str (nS ((List.range j).map (qt one at' i)))),v9,v10]/\H2=H1)
    ⟨v9,v10,by rw[VI];rfl,rfl⟩ ?_ ?_⟩
   ·rintro j σ H2 hj ⟨v9,v10,rfl,rfl⟩;simp only [Int.zero_add]
    walk_at "rd"
    refine⟨by decide,?_⟩;refine⟨_,rfl,_,rfl,rfl,_,rfl,?_⟩;refine dF (fun c=>?_) (fun c=>?_)
    all_goals
     walk_at "rd"
     refine⟨(by decide:(0:Int)<37),dw,_,qt one at' i j,rfl,rfl,by decide,?_,?_⟩
    ·refine Ec _ one at' i j ?_;have c:=bC c;have c:(j:Int)=at':=V.int.inj c;unfold uZ;rw[av c]
    ·refine⟨_,_,rfl,rfl,?_,some (.int j),some (.int (pt one ((j:Int)+2) 37+i)),?_,rfl⟩
     ·rw[Gi,ay,iG];exact cy (show j+1<=100 by lia) (by decide)
     ·rw[show (⟨#[qt one at' i j]⟩:Str)=nS [qt one at' i j] from rfl,NT,List.range_succ,aV];rfl
    ·refine Ec _ one at' i j ?_;have c:¬(j:Int)=at':=fun z=>c (aR (bX V.int z))
     unfold uZ;rw[aq c]
    ·refine⟨_,_,rfl,rfl,?_,some (.int j),some (.int (pt one ((j:Int)+2) 37)),?_,rfl⟩
     ·rw[Gi,ay,iG];exact cy (show j+1<=100 by lia) (by decide)
     ·rw[show (⟨#[qt one at' i j]⟩:Str)=nS [qt one at' i j] from rfl,NT,List.range_succ,aV];rfl
   ·rintro σ H2 ⟨v9,v10,rfl,rfl⟩;refine⟨_,rfl,.inl ⟨rfl,_,aI.of q2⟩,_,rfl,p,_,_,rfl,rfl,q2,?_,?_⟩
    ·rw[ay,ay,iG];exact zx (by lia)
    ·refine⟨_,_,_,_,rfl,q1.upd hp,?_⟩;rw[zd,List.range_succ,aV,aV];rfl
  ·rintro σ H1 ⟨v7,v8,v9,v10,rfl,q1,q2⟩;obtain⟨n1,n2,n3⟩:=XD (n:=n) KQ (one:=one) a1 a2 z1 z2;have fin:Q (.ref p) H1:=k p _ H1 n3 n1 n2 hp q2 q1;refine⟨_,rfl,_,rfl,_,_,rfl,rfl,_,rfl,?_⟩;refine dF (fun c=>?_) (fun c=>?_)
   ·have c:=bC c
    walk_at "rd"
    refine⟨(by decide:(0:Int)<2),?_⟩;refine⟨rfl,_,rfl,?_⟩;refine dF (fun c2=>?_) (fun c2=>?_)
    ·obtain⟨m1,m2,m3⟩:=XE (n:=n) (one:=one) (at':=at') (size:=size) (by lia) z2;refine⟨_,rfl,(n:Int),rfl,by lia,by lia,fun D hD=>?_⟩;have npD:p≠D:=zh q2 hD;refine Nm (Nl (lo:=0) (n:=n)) (fun _=>true) (KP (rS one at' 0 size) size) (fun _=>trivial) (by rw[ay,iG];exact qQ (by lia)) (fun v hv ys Q' q=>q) (fun v hv _ ys Q' q=>?_) ?_
     ·obtain⟨z,hz,rfl⟩:=aM.mp hv;refine⟨_,rfl,p,_,0,.str (nS (rS one at' 0 size)),rfl,rfl,aI.of (by rw[zg npD];exact q2),(by have hz:=dH.mp hz;exact pP (j:=0) (by rw[aX,aX,oO (by lia)];rfl)),?_⟩;refine⟨_,rfl,_,rfl,_,_,rfl,rfl,_,rfl,_,rfl,?_,q⟩;rw[Gi,Aa];exact cy z2 (by decide)
     ·refine k D _ _ m3 m1 m2 (q1.free hD) ?_ (q1.trans (ak.new hD));rw[zd]
      congr 2
      unfold DR;rw[List.filter_eq_self.mpr (fun _ _=>rfl),dj,dj];apply fQ;intro i hi;have hi:=dH.mp hi;show V.str (Txt.slice (nS (rS one at' 0 size)) none (some ((size:Int)-(0+(i:Int)))))=V.str (nS ((rS one at' 0 size).take (size-i)));rw[VJ _ _ (by lia) (by rw[Aa];lia)]
      congr 3
      lia
    ·exact⟨_,rfl,fin⟩
   ·exact i9 ⟨_,rfl,fin⟩
theorem c58:zL 10 58:=⟨by decide,by decide,by decide⟩
theorem AE:zL 10 59:=⟨by decide,by decide,by decide⟩
theorem Ed:(0:Int)<10 ^ (59:Int).toNat:=by decide
def Ef:List V:=[.str "over",.str "cuts",.str "fills",.str "after",.str "after",.str "same"]
theorem ztx {i:Int}(h0:0<=i) (h1:i<6):∃kd:Str,jY Ef i=some (.str kd)/\(kd = "after"\/kd∈Dr):=by
 have h:i=0\/i=1\/i=2\/i=3\/i=4\/i=5:=by lia
 rcases h with rfl | rfl | rfl | rfl | rfl | rfl
 ·exact⟨_,rfl,.inr (by decide +kernel)⟩
 ·exact⟨_,rfl,.inr (by decide +kernel)⟩
 ·exact⟨_,rfl,.inr (by decide +kernel)⟩
 ·exact⟨_,rfl,.inl rfl⟩
 ·exact⟨_,rfl,.inl rfl⟩
 ·exact⟨_,rfl,.inr (by decide +kernel)⟩
theorem znw:(Str.ofString "same" : Str)∈Dr:=by decide +kernel
theorem Qx {xs:List Str}{i:Nat}(h:i<xs.length):jY (xs.map V.str) (i:Int)=some (.str xs[i]):=pP (by simp[h])
inductive tG (vs:List V) (H:Hp) (Q:VK):Prop
 | mk (pn:ah) (us:List Str) (c:Int) (_:vs = [.ref pn,.int c]) (_:aI K H pn (us.map V.str)) (_:1<=us.length) (_:∀(p:ah) (t:aS) (H':Hp),lS us t->H p=none->H' p=some (.tup (bP t))->ak H H'->Q (.ref p) H')
def zty:Sp:=fun vs H Q _=>tG (K:=K) vs H Q
theorem znx (T:Tx K mg w C_Dig zn zp zi zr zq):fH P w K mg base "_law_tie" ["_law_names_here","_law_cell"] 3 (zty (K:=K)):=by
 refine T.zoc.has cY (fun vs H Q E h=>?_) (fun f bY A outer s H vs Q E hr h=>?_)
 ·obtain⟨pn,us,c,rfl,_⟩:=h;rfl
 ·obtain⟨pn,us,c,rfl,hn,m1,k⟩:=h;refine⟨_,(ze (sset (i:=2) cY.nd (cu (qy T) (zc (pv 1) (zc zm (zc (k6 (wg K rfl) (by rfl) T.len dQ (zc (pv 0) zf)) zf)))))
   (ze (sset (i:=3) cY.nd (cu (qy T) (zc (pv 1) (zc zm (zc (k6 (wg K rfl) (by rfl) T.len dQ (zc (pv 0) zf)) zf)))))
   (ze (iM (iU Cw (cu (qy T) (zc (pv 1) (zc zm (zc zm zf)))) zm (iy _)) (zj (SX (i:=2) (j:=3) rfl cY.nd rfl rfl (by decide) rfl rfl (zc (k6 (Tq rfl) (by rfl) T.max PyProof.Rows.boot_max (zc (pv 2) (zc (pv 3) zf))) (zc (k6 (Tt rfl) (by rfl) T.min qF (zc (pv 2) (zc (pv 3) zf))) zf)) rfl)) i6)
   (ze (sset (i:=4) cY.nd (ck (mO K rfl) (iz (zc jI (zc jI (zc jI (zc jI (zc jI (zc jI zf))))))) (cu (qy T) (zc (pv 1) (zc zm (zc zm zf))))))
   (ze (iM (PW.pt (Ci (iU vY (pv 2) (pv 3) (iy _)) (Cg (iU Cw (cu (qy T) (zc (pv 1) (zc zm (zc zm zf)))) zm (iy _))))) (zj (sset (i:=4) cY.nd jI)) i6)
   (ze (iM (iU vY (pv 4) jI (iy _)) (ze (sset (i:=5) cY.nd (ck (mO K rfl) (iz (zc (cu (qy T) (zc (pv 1) (zc zm (zc zm zf)))) (zc (fJ w6 (fJ Ct (pv 1) zm) (fJ Cu zm zm)) zf))) (fJ Tf (cu (qy T) (zc (pv 1) (zc zm (zc zm zf)))) zm)))
    (zj (fG (jq (zc (pv 4) (zc (ck (mO K rfl) (pv 0) (pv 2)) (zc (ck (mO K rfl) (pv 0) (pv 3)) (zc (pv 5) zf)))))))) i6)
   (zj (fG (jq (zc (pv 4) (zc (ck (mO K rfl) (pv 0) (pv 2)) (zc (ck (mO K rfl) (pv 0) (pv 3)) zf)))))))))))),?_⟩
  have hm:(0:Int)<(us.length:Int):=by lia
  refine⟨_,rfl,_,rfl,pn,_,rfl,.inl hn,?_⟩;rw[ay];refine⟨_,_,_,rfl,hm,?_⟩;obtain⟨a0,ea,la⟩:∃a:Nat,pt c 2 us.length=(a:Int)/\a<us.length:=⟨(pt c 2 us.length).toNat,by have:=qR c 2 us.length hm;lia,by have:=qR c 2 us.length hm;lia⟩;rw[ea]
  try dsimp only [zw]
  refine⟨_,rfl,_,rfl,pn,_,rfl,.inl hn,?_⟩;rw[ay];refine⟨_,_,_,rfl,hm,?_⟩;obtain⟨b0,eb,lb⟩:∃a:Nat,pt c 3 us.length=(a:Int)/\a<us.length:=⟨(pt c 3 us.length).toNat,by have:=qR c 3 us.length hm;lia,by have:=qR c 3 us.length hm;lia⟩;rw[eb]
  try dsimp only [zw]
  refine JM (fun aN=>∃a b:Nat,aN = [some (.ref pn),some (.int c),some (.int a),some (.int b),none,none]/\a<us.length/\b<us.length)
   (decide ((0:Int)<pt c 7 4)) (fun Q' hQ=>⟨_,rfl,_,_,_,rfl,by decide,_,_,rfl,rfl,_,rfl,hQ⟩)
   (fun e=>⟨_,⟨if (b0:Int) > a0 then b0 else a0,if (b0:Int)<a0 then b0 else a0,rfl,by split<;>lia,by split<;>lia⟩,fun h=>⟨_,rfl,_,rfl,_,_,rfl,_,rfl,_,rfl,_,_,rfl,_,_,rfl,?_⟩⟩)
   (fun e=>⟨_,⟨a0,b0,rfl,la,lb⟩,fun h=>h⟩) ?_
  ·have e1:(if (b0:Int) > a0 then (b0:Int) else a0)=((if (b0:Int) > a0 then b0 else a0:Nat):Int):=by split<;>rfl
   have e2:(if (b0:Int)<a0 then (b0:Int) else a0)=((if (b0:Int)<a0 then b0 else a0:Nat):Int):=by split<;>rfl
   rw[e1,e2];exact h
  clear la lb ea eb;rintro aN ⟨a,b,rfl,Eg,hbm⟩;dsimp only;refine⟨(by show 6<=sizeLine;decide),fun p1 uy=>?_⟩;refine⟨_,rfl,_,_,_,rfl,by decide,?_⟩;obtain⟨kd,ek,hk⟩:=ztx (qR c 4 6 (by decide)).1 (qR c 4 6 (by decide)).2;have s1:ak H (upd H p1 (.lst Ef)):=ak.new uy;refine⟨p1,Ef,_,_,rfl,rfl,aI.of zd,ek,?_⟩
  try dsimp only [zw]
  show zG _ _ _ _ (upd H p1 (.lst Ef));generalize upd H p1 (.lst Ef)=H1 at s1;have xa:=Qx (xs:=us) (i:=a) Eg;have xb:=Qx (xs:=us) (i:=b) hbm;have ma:us[a]∈us:=jl _;have mb:us[b]∈us:=jl _;refine JM (fun aN=>∃yR:Str,aN = [some (.ref pn),some (.int c),some (.int a),some (.int b),some (.str yR),none]/\(yR = "after"\/yR∈Dr))
   (decide (V.int a=V.int b)&&decide ((0:Int)<pt c 8 6)) (fun Q' hQ=>?_) (fun e=>⟨_,⟨"same",rfl,.inr znw⟩,fun h=>h⟩) (fun e=>⟨_,⟨kd,rfl,hk⟩,fun h=>h⟩) ?_
  ·refine⟨_,rfl,_,rfl,rfl,_,rfl,?_⟩;generalize decide (V.int (a:Int)=V.int (b:Int))=bb at hQ;cases bb with
   | false=>exact i9 hQ
   | true=>
    refine nB ?_;exact⟨_,rfl,_,_,_,rfl,by decide,_,_,rfl,rfl,_,rfl,hQ⟩
  clear hk ek;rintro aN ⟨yR,rfl,fK⟩;dsimp only;refine⟨_,rfl,rfl,_,rfl,?_⟩;refine dF (fun c3=>?_) (fun c3=>?_)
  ·have c3:yR = "after":=V.str.inj (bC c3);refine⟨_,rfl,_,_,_,rfl,by decide,?_⟩;refine⟨_,rfl,_,_,rfl,rfl,.inr ⟨by decide,by decide⟩,_,_,rfl,rfl,AE,_,_,rfl,rfl,Ed,(by show 2<=sizeLine;decide),fun p2 uq=>?_⟩;obtain⟨z,ez⟩:∃z,z=c * 48271%10 ^ (59:Int).toNat:=⟨_,rfl⟩;have z0:=jE (c * 48271) (show (10 ^ (59:Int).toNat:Int)≠0 by decide);have z1:=jx (c * 48271) Ed;have e59:(10:Int) ^ (59:Int).toNat=10 ^ 59:=rfl;rw[←ez] at z0 z1;rw[e59] at z1;have s3:=ak.new (o:=.lst [.int (pt c 5 9),.int z]) uq;refine⟨_,rfl,_,_,_,rfl,by decide,_,_,rfl,rfl,⟨by decide,by decide⟩,?_⟩;obtain⟨d1,d2⟩:=qR c 5 9 (by decide);obtain⟨d3,d4⟩:=qR c 6 9 (by decide);obtain⟨v,hv,Cz⟩:=VQ (u:=.int (pt c 5 9)) (v:=.int z) (i:=pt c 6 9 / 8) (by lia) (by lia);obtain⟨g,rfl,g0,g1⟩:∃g:Int,v = .int g/\0<=g/\qu g:=by
    rcases Cz with rfl | rfl
    ·exact⟨_,rfl,d1,by unfold qu;lia⟩
    ·exact⟨_,rfl,z0,by unfold qu;lia⟩
   refine⟨p2,_,_,_,rfl,rfl,aI.of (by rw[ez];exact zd),hv,?_⟩
   try dsimp only [zw]
   rw[←ez];have n3:=s1.trans s3;refine⟨_,rfl,_,rfl,_,rfl,pn,_,_,_,rfl,rfl,n3.seq hn,xa,_,rfl,_,rfl,pn,_,_,_,rfl,rfl,n3.seq hn,xb,_,rfl,(by show 4<=sizeLine;decide),fun p3 yS=>?_⟩;have tok:jr us (bP ⟨yR,us[a],us[b],some g⟩):=by rw[c3];exact .after ma mb g0 g1
   exact k p3 _ _ ⟨tok,ma,mb⟩ (n3.free yS) zd (n3.trans (ak.new yS))
  ·have c3:¬yR = "after":=fun z=>c3 (aR (bX V.str z))
   refine⟨_,rfl,_,rfl,_,rfl,pn,_,_,_,rfl,rfl,s1.seq hn,xa,_,rfl,_,rfl,pn,_,_,_,rfl,rfl,s1.seq hn,xb,(by show 3<=sizeLine;decide),fun p3 yS=>?_⟩;have tok:jr us (bP ⟨yR,us[a],us[b],none⟩):=.plain (fK.resolve_left c3) ma mb;exact k p3 _ _ ⟨tok,ma,mb⟩ (s1.free yS) zd (s1.trans (ak.new yS))
theorem zxd {x y z u:V}{i:Int}(h0:0<=i) (h1:i<4):∃w,jY [x,y,z,u] i=some w/\(w=x\/w=y\/w=z\/w=u):=by
 have h:i=0\/i=1\/i=2\/i=3:=by lia
 rcases h with rfl | rfl | rfl | rfl
 ·exact⟨_,rfl,.inl rfl⟩
 ·exact⟨_,rfl,.inr (.inl rfl)⟩
 ·exact⟨_,rfl,.inr (.inr (.inl rfl))⟩
 ·exact⟨_,rfl,.inr (.inr (.inr rfl))⟩
def zny:Sp:=fun vs H Q _=>∃c:Int,vs = [.int c]/\∀(p:ah) (lo hi:Int) (H':Hp),qu lo->qu hi->lo<=hi->H p=none->H' p=some (.tup [.int lo,.int hi])->ak H H'->Q (.ref p) H'
theorem zj7 (T:Tx K mg w C_Dig zn zp zi zr zq):fH P w K mg base "_law_frame" ["_law_cell"] 2 zny:=by
 refine T.zkb.has jv (fun vs H Q E h=>?_) (fun f bY A outer s H vs Q E hr h=>?_)
 ·obtain⟨c,rfl,_⟩:=h;rfl
 ·obtain⟨c,rfl,k⟩:=h;refine⟨_,(ze (sset (i:=1) jv.nd (iz (zc (jq (zc (yt yu zm) (zc zm zf))) (zc (jq (zc zm (zc zm zf))) (zc (jq (zc (yt yu (fJ Cu zm zm)) (zc (fJ um (fJ Cu zm zm) (fJ Cu zm zm)) zf))) (zc (jq (zc zm (zc zm zf))) zf))))))
   (zj (fG (ck (mO K rfl) (pv 1) (cu (qy T) (zc (pv 0) (zc zm (zc zm zf)))))))),?_⟩
  refine⟨_,rfl,(by show 2<=sizeLine;decide),fun p1 uy=>?_⟩;have s1:=ak.new (o:=.tup [.int (-5),.int 70]) uy;refine⟨(by show 2<=sizeLine;decide),fun p2 uq=>?_⟩;have s2:=ak.new (o:=.tup [.int 0,.int 9999]) uq;refine⟨_,_,rfl,rfl,AE,_,rfl,_,_,rfl,rfl,AE,_,_,rfl,rfl,c58,_,_,rfl,rfl,(by show 2<=sizeLine;decide),fun p3 yS=>?_⟩;have s3:=ak.new (o:=.tup [.int (-10 ^ (59:Int).toNat),.int (10 ^ (59:Int).toNat+10 ^ (58:Int).toNat)]) yS;refine⟨(by show 2<=sizeLine;decide),fun p4 p9=>?_⟩;have s4:=ak.new (o:=.tup [.int 0,.int 40]) p9;refine⟨(by show 4<=sizeLine;decide),fun p5 Eh=>?_⟩;have s5:=ak.new (o:=.lst [.ref p1,.ref p2,.ref p3,.ref p4]) Eh;obtain⟨v,hv,Cz⟩:=zxd (x:=.ref p1) (y:=.ref p2) (z:=.ref p3) (u:=.ref p4) (qR c 12 4 (by decide)).1 (qR c 12 4 (by decide)).2;refine⟨_,rfl,_,rfl,_,_,_,rfl,by decide,p5,_,_,_,rfl,rfl,aI.of zd,hv,?_⟩;have q:=s1.trans (s2.trans (s3.trans (s4.trans s5)));rcases Cz with rfl | rfl | rfl | rfl
  ·exact k _ _ _ _ (by unfold qu;decide) (by unfold qu;decide) (by decide) uy (s5 _ _ (s4 _ _ (s3 _ _ (s2 _ _ zd)))) q
  ·exact k _ _ _ _ (by unfold qu;decide) (by unfold qu;decide) (by decide) (s1.free uq) (s5 _ _ (s4 _ _ (s3 _ _ zd))) q
  ·exact k _ _ _ _ (by unfold qu;decide) (by unfold qu;decide) (by decide) (s1.free (s2.free yS)) (s5 _ _ (s4 _ _ zd)) q
  ·exact k _ _ _ _ (by unfold qu;decide) (by unfold qu;decide) (by decide) (s1.free (s2.free (s3.free p9))) (s5 _ _ zd) q
inductive rm (vs:List V) (H:Hp) (Q:VK):Prop
 | mk (pk pu:ah) (ms us:List Str) (m c:Int) (mk:Str) (_:vs = [.ref pk,.ref pu,.int m,.int c]) (_:aI K H pk (ms.map V.str)) (_:aI K H pu (us.map V.str)) (_:us≠[]) (_:us.length<=900) (_:jY (ms.map V.str) m=some (.str mk)) (_:nG mk=true) (_:∀(p:ah) (f:cI) (H':Hp),JH us f->f.n=mk->H p=none->H' p=some (.tup (gk f))->ak H H'->Q (.ref p) H')
def zrm:Sp:=fun vs H Q _=>rm (K:=K) vs H Q
theorem z07 {us:List Str}{i:Int}(h0:0<=i) (h1:i<us.length):∃x∈us,jY (us.map V.str) i=some (.str x):=by
 obtain⟨j,rfl⟩:∃j:Nat,i=(j:Int):=⟨i.toNat,by lia⟩;have hj:j<us.length:=by lia
 exact⟨us[j],jl _,pP (by rw[aX,aU hj];rfl)⟩
theorem zxe {zs:List Str}{c k:Int}(h:zs≠[]):∃z∈zs,jY (zs.map V.str) (pt c k (zs.map V.str).length)=some (.str z):=by
 have l1:=iC.mpr h;have hb:=qR c k ((zs.map V.str).length:Int) (by rw[ay];lia);rw[ay] at hb ⊢;exact z07 hb.1 hb.2
theorem zlb (T:Tx K mg w C_Dig zn zp zi zr zq):fH P w K mg base "_law_find" ["_law_marks","_law_units","_law_many","_law_cell"] 2 (zrm (K:=K)):=by
 refine T.zlk.has eV (fun vs H Q E h=>?_) (fun f bY A outer s H vs Q E hr h=>?_)
 ·obtain⟨pk,pu,ms,us,m,c,mk,rfl,_⟩:=h;rfl
 ·obtain⟨pk,pu,ms,us,m,c,mk,rfl,hk,cZ,mP,lu,am,hm,k⟩:=h;refine⟨_,(ze (sset (i:=4) eV.nd (cu (qy T) (zc (pv 3) (zc zm (zc zm zf)))))
   (ze (sset (i:=5) eV.nd (fJ um (pv 4) (cu (qy T) (zc (pv 3) (zc zm (zc zm zf))))))
   (ze (iM (iU vY (cu (qy T) (zc (pv 3) (zc zm (zc zm zf)))) zm (iy _)) (zj (sset (i:=5) eV.nd (fJ um (pv 5) (fJ w6 (fJ Ct (pv 3) zm) (fJ Cu zm zm))))) i6)
   (zj (fG (jq (zc (ck (mO K rfl) (pv 0) (pv 2)) (zc (ck (mO K rfl) (pv 1) (cu (qy T) (zc (pv 3) (zc zm (zc (k6 (wg K rfl) (by rfl) T.len dQ (zc (pv 1) zf)) zf))))) (zc (pv 4) (zc (pv 5) zf)))))))))),?_⟩
  obtain⟨a1,a2⟩:=qR c 9 40 (by decide);obtain⟨b1,b2⟩:=qR c 11 60 (by decide);obtain⟨x,hx,ex⟩:=zxe (c:=c) (k:=2) mP;refine⟨_,rfl,_,_,_,rfl,by decide,?_⟩
  try dsimp only [zw]
  refine⟨_,rfl,_,rfl,_,_,_,rfl,by decide,_,_,rfl,rfl,?_⟩
  try dsimp only [zw]
  refine JM (fun aN=>∃z:Int,aN = [some (.ref pk),some (.ref pu),some (.int m),some (.int c),some (.int (pt c 9 40)),some (.int (pt c 9 40+pt c 11 60+z))]/\0<=z/\z<10 ^ 59) (decide (pt c 10 6=1)) (fun Q' hQ=>?_) (fun hb=>?_) (fun hb=>?_) ?_
  ·refine⟨_,rfl,_,_,_,rfl,by decide,rfl,_,rfl,?_⟩;rw[show decide (V.int (pt c 10 6)=V.int 1)=decide (pt c 10 6=1) from jm.mpr ⟨fun z=>V.int.inj z,fun z=>bX V.int z⟩];exact hQ
  ·have z0:=jE (c * 48271) (show ((10:Int) ^ (59:Int).toNat)≠0 by decide);have z1:=jx (c * 48271) (show (0:Int)<(10:Int) ^ (59:Int).toNat by decide);exact⟨_,⟨c * 48271%10 ^ (59:Int).toNat,rfl,z0,z1⟩,fun h=>⟨_,rfl,_,rfl,_,_,rfl,rfl,.inr ⟨by decide,by decide⟩,_,_,rfl,rfl,⟨by decide,by decide,by decide⟩,_,_,rfl,rfl,(by decide:(0:Int)<10 ^ (59:Int).toNat),_,_,rfl,rfl,h⟩⟩
  ·exact⟨[some (.ref pk),some (.ref pu),some (.int m),some (.int c),some (.int (pt c 9 40)),some (.int (pt c 9 40+pt c 11 60))],⟨0,by rw[Int.add_zero],by decide,by decide⟩,fun h=>h⟩
  rintro aN ⟨z,rfl,z0,z1⟩
  try unfold wZ
  try dsimp only
  refine⟨_,rfl,_,rfl,pk,_,_,_,rfl,rfl,hk,am,_,rfl,_,rfl,_,rfl,pu,_,rfl,.inl cZ,_,_,_,rfl,by rw[ay];have:=iC.mpr mP;lia,pu,_,_,_,rfl,rfl,cZ,ex,_,rfl,_,rfl,by show 4<=sizeLine;decide,fun p hp=>?_⟩;exact k p ⟨mk,x,pt c 9 40,pt c 9 40+pt c 11 60+z⟩ _ ⟨hm,hx,by show pt c 9 40<=pt c 9 40+pt c 11 60+z;lia,by show (pt c 9 40).natAbs<10 ^ 60;lia,by show (pt c 9 40+pt c 11 60+z).natAbs<10 ^ 60;lia⟩ rfl hp zd (ak.new hp)
theorem Qy {H:Hp}:∀{as:List ah}{ts:List (List V)},(∀ws∈ts,∀v∈ws,Wd v)->Gf H as (uA ts)->bT H as ts
 | [],[],_,_=>.nil
 | a::as,ws::ts,hw,.cons h t=>by
  have h:H a=some (.tup ((ws.map kW).map kV)):=h;rw[GJ (hw ws (fR ..))] at h;exact .cons h (Qy (fun vs hv=>hw vs (bz _ hv)) t)
inductive tH (vs:List V) (H:Hp) (Q:VK):Prop
 | mk (p pm du dt df:ah) (lo hi:Int) (us:List Str) (ts:List aS) (fs:List cI) (af:List ah) (x:Str) (_:vs = [.ref p,.str x]) (_:cG C_Dig H p pm du dt df lo hi us ts fs af) (_:x∈us) (_:Q .cQ H)
def Qz:Sp:=fun vs H Q _=>tH (C_Dig:=C_Dig) vs H Q
theorem ze1 (T:Tx K mg w C_Dig zn zp zi zr zq):mW P w K mg base qL C_Dig "seek_unit" ["self","name"] 1 (Qz (C_Dig:=C_Dig)):=by
 refine T.ZN.sd ze0 (fun vs H Q E h=>?_) (fun f bY A outer s H vs Q E hr h=>?_)
 ·obtain⟨p,pm,du,dt,df,lo,hi,us,ts,fs,af,x,rfl,_⟩:=h;rfl
 ·obtain⟨p,pm,du,dt,df,lo,hi,us,ts,fs,af,x,rfl,R,hx,k⟩:=h;have hu:=k7 hr;refine⟨_,(zj (iM (wY (FO hu (pv 1) (uN (pv 0) rfl))) (zj Ck) i6)),?_⟩;obtain⟨dx,h1⟩:=R.ob;refine⟨_,rfl,_,rfl,p,C_Dig,dx,_,_,rfl,h1,T.lU,T.Eb,GL _ _ _ _,du,_,rfl,cz.k (k:=Sum.inr x) R.u,_,rfl,?_⟩;rw[Xw (qX.mpr hx)];exact i9 k
theorem KR (T:Tx K mg w C_Dig zn zp zi zr zq):jK P w K mg base C_Dig "seek_unit" ["self","name"] 1 (Qz (C_Dig:=C_Dig)):=(ze1 T).m
inductive tK (vs:List V) (H:Hp) (Q:VK):Prop
 | mk (p dx:ah) (lo hi:Int) (_:vs = [.ref p,.int lo,.int hi]) (_:H p=some (.ins C_Dig dx [])) (_:∀(pm du dt df:ah) (H':Hp),H du=none->H dt=none->H df=none->cG C_Dig H' p pm du dt df lo hi [] [] [] []->(∀b o,H b=some o->b≠p->H' b=some o)->Q .cQ H')
def ztz:Sp:=fun vs H Q _=>tK (C_Dig:=C_Dig) vs H Q
theorem zgt (T:Tx K mg w C_Dig zn zp zi zr zq):jK P w K mg base C_Dig "__init__" ["self","first","last"] 1 (ztz (C_Dig:=C_Dig)):=by
 refine T.ZI.has zga (fun vs H Q E h=>?_) (fun f bY A outer s H vs Q E hr h=>?_)
 ·obtain⟨p,dx,lo,hi,rfl,_⟩:=h;rfl
 ·obtain⟨p,dx,lo,hi,rfl,hp,k⟩:=h;refine⟨_,(ze (FA (pv 0) (jq (zc (pv 1) (zc (pv 2) zf))) rfl)
   (ze (FA (pv 0) pR rfl)
   (ze (FA (pv 0) M0 rfl)
   (zj (FA (pv 0) pR rfl))))),?_⟩
  refine⟨_,rfl,_,rfl,(by show 2<=sizeLine;decide),fun pm Ei=>?_⟩;have n0:p≠pm:=zh hp Ei;have tm:=ak.new (o:=.tup [.int lo,.int hi]) Ei;have Ej:=tm _ _ hp;have em:upd H pm (.tup [.int lo,.int hi]) pm=some (.tup [.int lo,.int hi]):=zd;generalize upd H pm (.tup [.int lo,.int hi])=G at tm Ej em;refine⟨_,rfl,p,C_Dig,dx,[],rfl,Ej,T.lU,T.Qm,(by show 0<1000;decide),?_⟩;intro du QA;have n1:p≠du:=zh zd QA;refine⟨_,rfl,p,C_Dig,dx,_,rfl,by rw[zg n1,zd],T.lU,T.Eb,(by show 1<1000;decide),?_⟩;intro dt Ar;have n2:p≠dt:=zh zd Ar;refine⟨_,rfl,p,C_Dig,dx,_,rfl,by rw[zg n2,zd],T.lU,T.GZ,?_,?_⟩
  ·exact gZ (CA _ _ _) (by show 1+1<1000;decide)
  intro df ur;have n3:p≠df:=zh zd ur;refine⟨_,rfl,p,C_Dig,dx,_,rfl,by rw[zg n3,zd],T.lU,T.G0,?_,?_⟩
  ·exact gZ (CA _ _ _) (gZ (o5 (CA _ _ _)) (by show 1+1+1<1000;decide))
  have a0:∀{b:ah}{o:HO}{G:Hp},upd G p o b=none->b≠p->G b=none:=fun h n=>by rwa [zg n] at h
  have f1:G du=none:=a0 QA n1.symm;have e1:upd (upd (upd G p (.ins C_Dig dx (bS "frame" (.ref pm) []))) du (.dK [])) p (.ins C_Dig dx (bS "units" (.ref du) (bS "frame" (.ref pm) []))) du=some (.dK []):=by rw[zg n1.symm,zd]
  have KS:du≠dt:=zh e1 Ar;have f2:G dt=none:=by
   have:=a0 Ar n2.symm;rw[zg KS.symm] at this;exact a0 this n2.symm
  have e2:=zh (H:=upd (upd (upd (upd (upd G p (.ins C_Dig dx (bS "frame" (.ref pm) []))) du (.dK [])) p (.ins C_Dig dx (bS "units" (.ref du) (bS "frame" (.ref pm) [])))) dt (.dT [])) p (.ins C_Dig dx (bS "ties" (.ref dt) (bS "units" (.ref du) (bS "frame" (.ref pm) []))))) (a:=dt) (b:=df) (o:=.dT []) (by rw[zg n2.symm,zd]) ur;have e3:=zh (H:=upd (upd (upd (upd (upd G p (.ins C_Dig dx (bS "frame" (.ref pm) []))) du (.dK [])) p (.ins C_Dig dx (bS "units" (.ref du) (bS "frame" (.ref pm) [])))) dt (.dT [])) p (.ins C_Dig dx (bS "ties" (.ref dt) (bS "units" (.ref du) (bS "frame" (.ref pm) []))))) (a:=du) (b:=df) (o:=.dK []) (by rw[zg n1.symm,zg KS,e1]) ur;have f3:G df=none:=by
   have:=a0 ur n3.symm;rw[zg e2.symm] at this;have:=a0 this n3.symm;rw[zg e3.symm] at this;exact a0 this n3.symm
  have fin:∀b o,G b=some o->b≠p->upd (upd (upd (upd (upd (upd (upd G p (.ins C_Dig dx (bS "frame" (.ref pm) []))) du (.dK [])) p (.ins C_Dig dx (bS "units" (.ref du) (bS "frame" (.ref pm) [])))) dt (.dT [])) p (.ins C_Dig dx (bS "ties" (.ref dt) (bS "units" (.ref du) (bS "frame" (.ref pm) []))))) df (.dK [])) p (.ins C_Dig dx (bS "finds" (.ref df) (bS "ties" (.ref dt) (bS "units" (.ref du) (bS "frame" (.ref pm) []))))) b=some o:=fun b o e hb=>by
   rw[zg hb,zg (zh e f3),zg hb,zg (zh e f2),zg hb,zg (zh e f1),zg hb];exact e
  refine k pm du dt df _ (tm.free f1) (tm.free f2) (tm.free f3) ⟨⟨dx,?_⟩,?_,?_,?_,?_,.nil,e3⟩ fun b o e hb=>fin b o (tm _ _ e) hb
  ·rw[zd,Xx]
  ·exact fin pm _ em n0.symm
  ·rw[zg n1.symm,zg e3,zg n1.symm,zg KS,e1];rfl
  ·rw[zg n2.symm,zg e2,zg n2.symm,zd];rfl
  ·rw[zg n3.symm,zd];rfl
inductive vt (vs:List V) (H:Hp) (Q:VK):Prop
 | mk (p pm du dt df:ah) (lo hi:Int) (us:List Str) (ts:List aS) (fs:List cI) (af:List ah) (x:Str) (_:vs = [.ref p,.str x]) (_:cG C_Dig H p pm du dt df lo hi us ts fs af) (_:x ∉ us) (_:us.length<=900) (_:Q .cQ (upd H du (.dK (dU (us++[x])))))
def QB:Sp:=fun vs H Q _=>vt (C_Dig:=C_Dig) vs H Q
theorem zgd (T:Tx K mg w C_Dig zn zp zi zr zq):mW P w K mg base qL C_Dig "add_unit" ["self","name"] 1 (QB (C_Dig:=C_Dig)):=by
 refine T.ZJ.sd zgb (fun vs H Q E h=>?_) (fun f bY A outer s H vs Q E hr h=>?_)
 ·obtain⟨p,pm,du,dt,df,lo,hi,us,ts,fs,af,x,rfl,_⟩:=h;rfl
 ·obtain⟨p,pm,du,dt,df,lo,hi,us,ts,fs,af,x,rfl,R,hn,hl,k⟩:=h;have hu:=k7 hr;refine⟨_,(ze (iM (wY (Br hu (pv 1) (uN (pv 0) rfl))) (zj Ck) i6)
   (zj (nR hu (uN (pv 0) rfl) (pv 1) wX rfl))),?_⟩
  obtain⟨dx,h1⟩:=R.ob;refine⟨_,rfl,_,rfl,p,C_Dig,dx,_,_,rfl,h1,T.lU,T.Eb,GL _ _ _ _,du,_,rfl,cz.k (k:=Sum.inr x) R.u,_,rfl,?_⟩;rw[BA (fun z=>hn (qX.mp z))];refine i9 ⟨_,rfl,p,C_Dig,dx,_,_,rfl,h1,T.lU,T.Eb,GL _ _ _ _,_,rfl,du,_,rfl,eG.k (k:=Sum.inr x) R.u ?_,?_⟩
  ·unfold dU;rw[ay];exact zx (by lia)
  ·rw[Xz hn];exact k
theorem zgu (T:Tx K mg w C_Dig zn zp zi zr zq):jK P w K mg base C_Dig "add_unit" ["self","name"] 1 (QB (C_Dig:=C_Dig)):=(zgd T).m
inductive vz (vs:List V) (H:Hp) (Q:VK):Prop
 | mk (p pm du dt df a:ah) (lo hi:Int) (us:List Str) (ts:List aS) (fs:List cI) (af:List ah) (t:aS) (_:vs = [.ref p,.ref a]) (_:cG C_Dig H p pm du dt df lo hi us ts fs af) (_:jt us ts fs) (_:H a=some (.tup (bP t))) (_:lS us t) (_:t ∉ ts) (_:ts.length<=900) (_:Q .cQ (upd H dt (.dT (uA ((ts++[t]).map bP)))))
def QC:Sp:=fun vs H Q _=>vz (C_Dig:=C_Dig) vs H Q
theorem zgv (T:Tx K mg w C_Dig zn zp zi zr zq):mW P w K mg base qL C_Dig "add_tie" ["self","tie"] 2 (QC (C_Dig:=C_Dig)):=by
 refine T.ZK.sd zgr (fun vs H Q E h=>?_) (fun f bY A outer s H vs Q E hr h=>?_)
 ·obtain⟨p,pm,du,dt,df,a,lo,hi,us,ts,fs,af,t,rfl,_⟩:=h;rfl
 ·obtain⟨p,pm,du,dt,df,a,lo,hi,us,ts,fs,af,t,rfl,R,ok,ha,tok,hn,hl,k⟩:=h;have hu:=k7 hr;refine⟨_,(ze (i7 (Bw (KR T) T.lU (hr.mono (by decide)) (pv 0) (zc (ck (zv K rfl) (pv 1) zm) zf)))
   (ze (i7 (Bw (KR T) T.lU (hr.mono (by decide)) (pv 0) (zc (ck (zv K rfl) (pv 1) zm) zf)))
   (ze (iM (wY (Br hu (pv 1) (uN (pv 0) rfl))) (zj Ck) i6)
   (zj (nR hu (uN (pv 0) rfl) (pv 1) wX rfl))))),?_⟩
  obtain⟨dx,h1⟩:=R.ob;have hw:=(tok.ok.words ok.nm).1;have pF:H a=some (.tup (((bP t).map kW).map kV)):=by rw[GJ hw];exact ha
  refine⟨_,rfl,p,dx,_,rfl,h1,xJ _ _ _ _ (by decide +kernel),_,rfl,a,_,_,_,rfl,rfl,bF.of ha,Jy t,p,pm,du,dt,df,lo,hi,us,ts,fs,af,t.a,rfl,R,tok.a,?_⟩
  try dsimp only
  refine⟨_,rfl,p,dx,_,rfl,h1,xJ _ _ _ _ (by decide +kernel),_,rfl,a,_,_,_,rfl,rfl,bF.of ha,Jz t,p,pm,du,dt,df,lo,hi,us,ts,fs,af,t.b,rfl,R,tok.b,?_⟩
  try dsimp only
  have nt:bP t ∉ ts.map bP:=fun z=>by
   obtain⟨u,hu,e⟩:=aM.mp z;exact hn (V6 e▸hu)
  refine⟨_,rfl,_,rfl,p,C_Dig,dx,_,_,rfl,h1,T.lU,T.GZ,J1 _ _ _ _,dt,_,rfl,cz.t R.t pF,_,rfl,?_⟩;rw[BA (fun z=>nt ((OV ok.tw hw).mp z))];refine i9 ⟨_,rfl,p,C_Dig,dx,_,_,rfl,h1,T.lU,T.GZ,J1 _ _ _ _,_,rfl,dt,_,rfl,eG.t R.t pF ?_,?_⟩
  ·unfold uA;rw[ay,ay];exact zx (by lia)
  ·rw[XA ok.tw hw nt,show ts.map bP++[bP t]=(ts++[t]).map bP by rw[aV];rfl];exact k
theorem zii (T:Tx K mg w C_Dig zn zp zi zr zq):jK P w K mg base C_Dig "add_tie" ["self","tie"] 2 (QC (C_Dig:=C_Dig)):=(zgv T).m
inductive vA (vs:List V) (H:Hp) (Q:VK):Prop
 | mk (p pm du dt df:ah) (lo hi:Int) (us:List Str) (ts:List aS) (fs:List cI) (af:List ah) (f:cI) (_:vs = [.ref p,.str f.n,.str f.u,.int f.lo,.int f.hi]) (_:cG C_Dig H p pm du dt df lo hi us ts fs af) (_:f.n ∉ fs.map cI.n) (_:f.u∈us) (_:fs.length<=900) (_:∀a,H a=none->Q .cQ (upd (upd H a (.tup (gk f))) df (.dK (tu (fs++[f]) (af++[a])))))
def QD:Sp:=fun vs H Q _=>vA (C_Dig:=C_Dig) vs H Q
theorem zge (T:Tx K mg w C_Dig zn zp zi zr zq):mW P w K mg base qL C_Dig "add_find" ["self","name","unit","low","high"] 2 (QD (C_Dig:=C_Dig)):=by
 refine T.ZL.sd zgc (fun vs H Q E h=>?_) (fun f bY A outer s H vs Q E hr h=>?_)
 ·obtain⟨p,pm,du,dt,df,lo,hi,us,ts,fs,af,f,rfl,_⟩:=h;rfl
 ·obtain⟨p,pm,du,dt,df,lo,hi,us,ts,fs,af,f,rfl,R,hn,cZ,hl,k⟩:=h;have hu:=k7 hr;refine⟨_,(ze (iM (wY (Br hu (pv 1) (uN (pv 0) rfl))) (zj Ck) i6)
   (ze (i7 (Bw (KR T) T.lU (hr.mono (by decide)) (pv 0) (zc (pv 2) zf)))
   (zj (nR hu (uN (pv 0) rfl) (pv 1) (jq (zc (pv 1) (zc (pv 2) (zc (pv 3) (zc (pv 4) zf))))) rfl)))),?_⟩
  obtain⟨dx,h1⟩:=R.ob;refine⟨_,rfl,_,rfl,p,C_Dig,dx,_,_,rfl,h1,T.lU,T.G0,J2 _ _ _ _,df,_,rfl,cz.k (k:=Sum.inr f.n) R.f,_,rfl,?_⟩;rw[BA (fun z=>hn ((Px R.j6).mp z))];refine i9 ⟨_,rfl,p,dx,_,rfl,h1,xJ _ _ _ _ (by decide +kernel),_,rfl,p,pm,du,dt,df,lo,hi,us,ts,fs,af,f.u,rfl,R,cZ,?_⟩
  try dsimp only
  refine⟨_,rfl,_,rfl,_,rfl,_,rfl,(by show 4<=sizeLine;decide),fun a ha=>?_⟩;have t1:=ak.new (o:=.tup (gk f)) ha;have R1:=R.same t1;refine⟨_,rfl,p,C_Dig,dx,_,_,rfl,t1 _ _ h1,T.lU,T.G0,J2 _ _ _ _,_,rfl,df,_,rfl,eG.k (k:=Sum.inr f.n) R1.f ?_,?_⟩
  ·have:=bX List.length (Pw R.j6);rw[ay,ay] at this;rw[this,R.j6];exact zx (by lia)
  ·rw[YM R.j6 hn];exact k a ha
theorem zgw (T:Tx K mg w C_Dig zn zp zi zr zq):jK P w K mg base C_Dig "add_find" ["self","name","unit","low","high"] 2 (QD (C_Dig:=C_Dig)):=(zge T).m
inductive tN (vs:List V) (H:Hp) (Q:VK):Prop
 | mk (p pm du dt df:ah) (lo hi:Int) (us:List Str) (ts:List aS) (fs:List cI) (af:List ah) (_:vs = [.ref p]) (_:cG C_Dig H p pm du dt df lo hi us ts fs af) (_:jt us ts fs) (_:∀(tl pu pt pf:ah) (at':List ah) (H':Hp),H tl=none->H pu=none->H pt=none->H pf=none->H' tl=some (.tup [.ref pm,.ref pu,.ref pt,.ref pf])->H' pu=some (.lst (us.map V.str))->H' pt=some (.lst (at'.map V.ref))->bT H' at' (ts.map bP)->H' pf=some (.lst (af.map V.ref))->pu≠pt->pu≠pf->pt≠pf->ak H H'->Q (.ref tl) H')
def zt0:Sp:=fun vs H Q _=>tN (C_Dig:=C_Dig) vs H Q
theorem KU (T:Tx K mg w C_Dig zn zp zi zr zq):jK P w K mg base C_Dig "telling" ["self"] 1 (zt0 (C_Dig:=C_Dig)):=by
 refine T.ZM.has zgs (fun vs H Q E h=>?_) (fun f bY A outer s H vs Q E hr h=>?_)
 ·obtain⟨p,pm,du,dt,df,lo,hi,us,ts,fs,af,rfl,_⟩:=h;rfl
 ·obtain⟨p,pm,du,dt,df,lo,hi,us,ts,fs,af,rfl,R,ok,k⟩:=h;refine⟨_,(zj (fG (jq (zc (uN (pv 0) rfl) (zc (uP (Ge rfl) (by rfl) T.list gw (zc (uN (pv 0) rfl) zf)) (zc (uP (VA rfl) (by rfl) T.list gw (zc (uN (pv 0) rfl) zf)) (zc (uP (NI rfl) (by rfl) T.list gw (zc (Jo K rfl PySem.F.plainAttrs_dict PySem.F.slot_dict_values PySem.F.type_dict_values NH (uN (pv 0) rfl)) zf)) zf))))))),?_⟩;obtain⟨dx,h1⟩:=R.ob;refine⟨_,rfl,p,C_Dig,dx,_,_,rfl,h1,T.lU,T.Qm,Xy _ _ _ _,?_⟩;refine⟨_,rfl,p,C_Dig,dx,_,_,rfl,h1,T.lU,T.Eb,GL _ _ _ _,du,_,rfl,R.u,fun pu Ek=>?_⟩;have s1:=ak.new (o:=.lst ((dU us).map fun kv=>kV kv.1)) Ek;have e1:upd H pu (.lst ((dU us).map fun kv=>kV kv.1)) pu=some (.lst (us.map V.str)):=by
   rw[zd];unfold dU;rw[dj];rfl
  generalize upd H pu (.lst ((dU us).map fun kv=>kV kv.1))=H1 at s1 e1;refine⟨_,rfl,p,C_Dig,dx,_,_,rfl,s1 _ _ h1,T.lU,T.GZ,J1 _ _ _ _,dt,_,rfl,s1 _ _ R.t,fun jw as kt AF=>?_⟩;have tt:=Qy ok.tw kt;have s2:=ak.new (o:=.lst (as.map V.ref)) AF;have q2:=s1.trans s2;have hf:=R.f;refine⟨_,rfl,p,C_Dig,dx,_,_,rfl,q2 _ _ h1,T.lU,T.G0,J2 _ _ _ _,.inr (.inr (.inl ⟨rfl,.inl ⟨_,q2 _ _ hf⟩⟩)),df,_,rfl,rfl,q2 _ _ hf,fun pv KW=>?_⟩;have s3:=ak.new (o:=Dq pv df) KW;refine⟨pv,df,_,rfl,zd,s3 _ _ (q2 _ _ hf),fun pf tO=>?_⟩;rw[Pw R.j6];have s4:=ak.new (o:=.lst (af.map V.ref)) tO;have q4:=q2.trans (s3.trans s4);refine⟨(by show 4<=sizeLine;decide),fun tl qx=>?_⟩;have s5:=ak.new (o:=.tup [.ref pm,.ref pu,.ref jw,.ref pf]) qx;have g1:=s2 _ _ e1;have g2:upd H1 jw (.lst (as.map V.ref)) jw=_:=zd;have n1:pu≠jw:=zh e1 AF;have n2:pu≠pf:=zh (s3 _ _ g1) tO;have n3:jw≠pf:=zh (s3 _ _ g2) tO;exact k tl pu jw pf as _ (q4.free qx) Ek (s1.free AF) ((q2.trans s3).free tO) zd (s5 _ _ (s4 _ _ (s3 _ _ g1))) (s5 _ _ (s4 _ _ (s3 _ _ g2))) (tt.same (s2.trans (s3.trans (s4.trans s5)))) (s5 _ _ zd) n1 n2 n3 (q4.trans s5)
inductive vB (vs:List V) (H:Hp) (Q:VK):Prop
 | mk (pd:ah) (us:List Str) (cF:Str->Str) (f s:Str) (_:vs = [.ref pd,.str f,.str s]) (_:H pd=some (.dK (dN us cF))) (_:us.Nodup) (_:us.length<=1000) (_:∀H':Hp,H' pd=some (.dK (dN us (jn cF f s)))->(∀b o,b≠pd->H b=some o->H' b=some o)->Q .cQ H')
def zxf:Sp:=fun vs H Q _=>vB vs H Q
theorem zlc (T:Tx K mg w C_Dig zn zp zi zr zq):fH P w K mg base "join_ones" ["names","first","second"] 1 zxf:=by
 refine T.ZW.has gW (fun vs H Q E h=>?_) (fun f bY A outer s H vs Q E hr h=>?_)
 ·obtain⟨pd,us,cF,f,s,rfl,_⟩:=h;rfl
 ·obtain⟨pd,us,cF,f,s',rfl,hd,nd,hl,k⟩:=h;have hu:=k7 hr;refine⟨_,(ze (sset (i:=3) gW.nd (k6 (Wh rfl) (by rfl) T.min qF (zc (pv 1) (zc (pv 2) zf))))
   (zj (iN bE rfl (zz K rfl (uP (Ge rfl) (by rfl) T.list gw (zc (pv 0) zf))) (fZ (i:=4) gW.nd) (zj (iM (iU (Vt K rfl) (zy hu (pv 0) (pv 4) (fun _ _=>rfl)) (jq (zc (pv 1) (zc (pv 2) zf))) (by with_unfolding_all rfl)) (zj (nR hu (pv 0) (pv 4) (pv 3) rfl)) i6))))),?_⟩
  refine⟨_,rfl,_,rfl,_,_,rfl,?_⟩;refine⟨_,rfl,pd,_,rfl,hd,fun l eT=>?_⟩;rw[VZ];have yH:pd≠l:=zh hd eT;refine⟨l,rfl,⟨_,aI.of zd⟩,lQ (xs:=us.map V.str) (fun i σ H'=>∃v4,σ = [some (.ref pd),some (.str f),some (.str s'),some (.str (mR f s')),v4]/\(∀b o,b≠pd->H b=some o->H' b=some o)/\H' l=some (.lst (us.map V.str))/\
   H' pd=some (.dK (dN us fun x=>if x∈us.take i then jn cF f s' x else cF x)))
   ⟨none,rfl,fun b o _ e=>ak.new eT _ _ e,zd,?_⟩ (fun i σ H' _ h=>by obtain⟨_,_,_,q,_⟩:=h;exact aI.of q) ?_ ?_⟩
  ·rw[zg yH,hd,Gm (f:=fun x=>if x∈us.take 0 then jn cF f s' x else cF x) (g:=cF) fun x _=>by simp]
  ·rintro i x σ H1 hx ⟨v4,rfl,kp,nV,pD⟩;rw[aX] at hx;cases eu:us[i]? with
   | none=>rw[eu] at hx;cases hx
   | some u=>
    rw[eu] at hx;cases hx;have cZ:u∈us:=aZ eu;have hi:=iV eu;have jc:u ∉ us.take i:=by
     have:=u0 nd i hi;rw[show us[i]=u from (bU.mp eu).2] at this;exact this
    have hg:=cz.k (k:=Sum.inr u) pD;rw[Ac cZ,aq jc] at hg;dsimp only [zw];refine zZ (decide (cF u=f\/cF u=s')) (fun Q' hQ=>?_) (fun H2 t2=>?_)
    ·refine⟨_,rfl,_,rfl,pd,_,rfl,hg,_,rfl,_,rfl,(by show 2<=sizeLine;decide),fun p hp=>?_⟩;refine⟨p,_,rfl,.inr (bF.of zd),rfl,rfl,_,rfl,?_⟩;have e:xq (.str (cF u)) [.str f,.str s']=decide (cF u=f\/cF u=s'):=by
      rw[show ([.str f,.str s']:List V) = [f,s'].map V.str from rfl,Xs];apply jm.mpr;simp
     show Q' (xq (.str (cF u)) [.str f,.str s']) _;rw[e];exact hQ _ (ak.new hp)
    ·have hd2:=t2 _ _ pD;have QE:∀b o,b≠pd->H b=some o->H2 b=some o:=fun b o n e=>t2 _ _ (kp b o n e)
     refine dF (fun c=>?_) (fun c=>?_)
     ·have c:=bC c;refine⟨_,rfl,_,rfl,_,rfl,pd,_,rfl,eG.k (k:=Sum.inr u) hd2 (by rw[N4];exact zx hl),?_⟩;refine⟨_,rfl,fun b o n e=>by rw[zg n];exact QE b o n e,?_,?_⟩
      ·rw[zg yH.symm];exact t2 _ _ nV
      ·rw[zd,VX cZ]
       congr 2
       refine Gm fun z hz=>?_
       have ht:z∈us.take (i+1)↔z∈us.take i\/z=u:=by
        rw[aQ,eu];simp
       by_cases e:z=u
       ·subst e;rw[av rfl,av (ht.mpr (.inr rfl))];exact (av c).symm
       ·rw[aq e]
        by_cases e2:z∈us.take i
        ·rw[av e2,av (ht.mpr (.inl e2))]
        ·rw[aq e2,aq (fun q=>(ht.mp q).elim e2 e)]
     ·have c:¬(cF u=f\/cF u=s'):=fun z=>c (aR z)
      refine⟨_,rfl,QE,t2 _ _ nV,?_⟩;rw[hd2]
      congr 2
      refine Gm fun z hz=>?_
      have ht:z∈us.take (i+1)↔z∈us.take i\/z=u:=by
       rw[aQ,eu];simp
      by_cases e:z=u
      ·subst e;rw[aq jc,av (ht.mpr (.inr rfl))];exact (aq c).symm
      ·by_cases e2:z∈us.take i
       ·rw[av e2,av (ht.mpr (.inl e2))]
       ·rw[aq e2,aq (fun q=>(ht.mp q).elim e2 e)]
  ·rintro σ H1 ⟨v4,rfl,kp,nV,pD⟩;refine k _ ?_ kp;rw[pD,ay,bD]
   congr 2
   exact Gm fun z hz=>av hz
inductive xW (vs:List V) (H:Hp) (Q:VK):Prop
 | mk (pu pt:ah) (us:List Str) (az:List ah) (ts:List aS) (_:vs = [.ref pu,.ref pt]) (_:aI K H pu (us.map V.str)) (_:aI K H pt (az.map V.ref)) (_:bT H az (ts.map bP)) (_:us.Nodup) (_:us.length<=1000) (_:(∀t∈ts,t.a∈us/\t.b∈us)) (_:∀(pd:ah) (H':Hp),H pd=none->H' pd=some (.dK (dN us (aO ts)))->ak H H'->Q (.ref pd) H')
def zzu:Sp:=fun vs H Q _=>xW (K:=K) vs H Q
theorem KY (T:Tx K mg w C_Dig zn zp zi zr zq):fH P w K mg base "one_names" ["units","ties"] 2 (zzu (K:=K)):=by
 refine T.ZV.has eU (fun vs H Q E h=>?_) (fun f bY A outer s H vs Q E hr h=>?_)
 ·obtain⟨pu,pt,us,az,ts,rfl,_⟩:=h;rfl
 ·obtain⟨pu,pt,us,az,ts,rfl,vC,nW,tp,nd,hl,lB,k⟩:=h;have hu:=k7 hr;refine⟨_,(ze (sset (i:=2) eU.nd pR)
   (ze (iN bE rfl (zz K rfl (pv 0)) (fZ (i:=3) eU.nd) (zj (nR hu (pv 2) (pv 3) (pv 3) rfl)))
   (ze (iN bE rfl (zz K rfl (pv 1)) (fZ (i:=4) eU.nd) (zj (iM (iU vY (ck (zv K rfl) (pv 4) zm) jI (iy _)) (zj (i7 (cu (zlc T) (zc (pv 2) (zc (zy hu (pv 2) (ck (zv K rfl) (pv 4) zm) (fun _ _=>rfl)) (zc (zy hu (pv 2) (ck (zv K rfl) (pv 4) zm) (fun _ _=>rfl)) zf)))))) i6)))
   (zj (fG (pv 2)))))),?_⟩
  have hlen:az.length=ts.length:=by have:=tp.len;rw[ay] at this;exact this
  refine fun pd gm=>?_
  have s0:=ak.new (o:=.dK []) gm;refine⟨_,rfl,pu,rfl,⟨_,s0.seq vC⟩,lQ (xs:=us.map V.str) (fun i σ H'=>∃v3,σ = [some (.ref pu),some (.ref pt),some (.ref pd),v3,none]/\ak H H'/\H' pd=some (.dK (dN (us.take i) id)))
   ⟨none,rfl,s0,zd⟩ (fun i σ H' _ h=>by obtain⟨_,_,q,_⟩:=h;exact q.seq vC) ?_ ?_⟩
  ·rintro i x σ H1 hx ⟨v3,rfl,q,hd⟩;rw[aX] at hx;cases eu:us[i]? with
   | none=>rw[eu] at hx;cases hx
   | some u=>
    rw[eu] at hx;cases hx;have hi:=iV eu;have jc:u ∉ us.take i:=by
     have:=u0 nd i hi;rw[show us[i]=u from (bU.mp eu).2] at this;exact this
    dsimp only [zw];refine⟨_,rfl,_,rfl,_,rfl,pd,_,rfl,eG.k (k:=Sum.inr u) hd (by rw[N4,bI];exact zx (by lia)),?_⟩;refine⟨_,rfl,q.upd gm,?_⟩;rw[zd,aQ,eu]
    congr 2
    exact VY jc
  ·rintro σ H1 ⟨v3,rfl,q,hd⟩;rw[ay,bD] at hd;refine⟨_,rfl,pt,rfl,⟨_,q.seq nW⟩,lQ (xs:=az.map V.ref) (fun i σ H'=>∃v4,σ = [some (.ref pu),some (.ref pt),some (.ref pd),v3,v4]/\ak H H'/\H' pd=some (.dK (dN us (aO (ts.take i)))))
    ⟨none,rfl,q,hd⟩ (fun i σ H' _ h=>by obtain⟨_,_,q,_⟩:=h;exact q.seq nW) ?_ ?_⟩
   ·rintro i x σ H2 hx ⟨v4,rfl,q2,hd2⟩;obtain⟨r,t,rfl,ht,_,hr⟩:=Jw tp hx;have El:=q2 _ _ hr;have nE:=lB t (aZ ht);dsimp only [zw];refine⟨_,rfl,r,_,_,_,rfl,rfl,bF.of El,Jx t,rfl,_,rfl,?_⟩;refine dF (fun c=>?_) (fun c=>?_)
    ·have c:t.k=gR:=V.str.inj (bC c);have g1:=cz.k (k:=Sum.inr t.a) hd2;have g2:=cz.k (k:=Sum.inr t.b) hd2;rw[Ac nE.1] at g1;rw[Ac nE.2] at g2;refine⟨_,rfl,_,rfl,_,rfl,r,_,_,_,rfl,rfl,bF.of El,Jy t,pd,_,rfl,g1,_,rfl,_,rfl,r,_,_,_,rfl,rfl,bF.of El,Jz t,pd,_,rfl,g2,?_⟩;refine⟨pd,us,_,_,_,rfl,hd2,nd,hl,fun H3 gX kp=>?_⟩;refine⟨_,rfl,fun b o e=>kp b o (zh e gm) (q2 b o e),?_⟩;rw[gX,N2 ht];unfold xC;rw[av c]
    ·have c:¬t.k=gR:=fun z=>c (aR (bX V.str z))
     refine⟨_,rfl,q2,?_⟩;rw[hd2,N2 ht];unfold xC;rw[aq c]
   ·rintro σ H2 ⟨v4,rfl,q2,hd2⟩;rw[ay,hlen,bD] at hd2;exact⟨_,rfl,k pd _ gm hd2 q2⟩
abbrev Em (H:Hp):List ah->List (List Str)->Prop:=Paired fun a g=>H a=some (.lst (g.map V.str))
theorem QF {H:Hp}{ad:Str->ah}{g:Str->List Str}:∀{ks:List Str},(∀k∈ks,H (ad k)=some (.lst ((g k).map V.str)))->Em H (ks.map ad) (ks.map g)
 | [],_=>.nil
 | k::r,h=>.cons (h k (by simp)) (QF fun z hz=>h z (bz _ hz))
inductive vD (vs:List V) (H:Hp) (Q:VK):Prop
 | mk (pu pt:ah) (us:List Str) (az:List ah) (ts:List aS) (_:vs = [.ref pu,.ref pt]) (_:aI K H pu (us.map V.str)) (_:aI K H pt (az.map V.ref)) (_:bT H az (ts.map bP)) (_:us.Nodup) (_:us.length<64) (_:(∀t∈ts,t.a∈us/\t.b∈us)) (_:∀(p:ah) (as:List ah) (H':Hp),H p=none->(∀a∈as,H a=none)->p ∉ as->as.Nodup->H' p=some (.lst (as.map V.ref))->Em H' as (mS us ts)->ak H H'->Q (.ref p) H')
def zxg:Sp:=fun vs H Q _=>vD (K:=K) vs H Q
theorem KZ (T:Tx K mg w C_Dig zn zp zi zr zq):fH P w K mg base "ones" ["units","ties"] 3 (zxg (K:=K)):=by
 refine T.ZX.has lV (fun vs H Q E h=>?_) (fun f bY A outer s H vs Q E hr h=>?_)
 ·obtain⟨pu,pt,us,az,ts,rfl,_⟩:=h;rfl
 ·obtain⟨pu,pt,us,az,ts,rfl,vC,nW,tp,nd,hl,lB,k⟩:=h;have hu:=k7 hr;refine⟨_,(ze (sset (i:=2) lV.nd (cu (KY T) (zc (pv 0) (zc (pv 1) zf))))
   (ze (sset (i:=3) lV.nd pR)
   (ze (iN bE rfl (zz K rfl (k6 (Ol (K:=K) rfl) (by rfl) T.sorted qz (zc (pv 0) zf))) (fZ (i:=4) lV.nd) (zj (i7 (pV K rfl PySem.F.plainAttrs_list PySem.F.slot_list_append PySem.F.type_list_append pQ (Wl (pv 3) (zy hu (pv 2) (pv 4) (fun _ _=>rfl)) (iz zf) ⟨rfl,rfl,rfl,rfl⟩) (zc (pv 4) zf)))))
   (zj (fG (uP (NI rfl) (by rfl) T.list gw (zc (Jo K rfl PySem.F.plainAttrs_dict PySem.F.slot_dict_values PySem.F.type_dict_values NH (pv 3)) zf))))))),?_⟩
  refine⟨_,rfl,_,rfl,pu,pt,us,az,ts,rfl,vC,nW,tp,nd,by lia,lB,fun pn H1 G6 hn s1=>?_⟩
  try dsimp only [zw]
  refine fun pd gm=>?_
  have s2:=ak.new (o:=.dK []) gm;refine⟨_,rfl,pu,us,rfl,(s1.trans s2).seq vC,hl,fun l ms eT pm rs=>?_⟩;have em:=Gp pm rs;subst em;have s3:=ak.new (o:=.lst ((aL us).map V.str)) eT;have sy:H pd=none:=s1.free gm;have fl:H l=none:=(s1.trans s2).free eT;have n1:pd≠l:=zh zd eT;have n2:pn≠pd:=zh hn gm;have n3:pn≠l:=zh (s2 _ _ hn) eT;refine⟨l,rfl,⟨_,aI.of zd⟩,lQ (xs:=(aL us).map V.str) (fun i σ H'=>∃v4 ad,σ = [some (.ref pu),some (.ref pt),some (.ref pn),some (.ref pd),v4]/\ak H H'/\H' l=some (.lst ((aL us).map V.str))/\H' pn=some (.dK (dN us (aO ts)))/\
   H' pd=some (.dK (dV (zk ts ((aL us).take i)) fun k=>.ref (ad k)))/\(∀k∈zk ts ((aL us).take i),H' (ad k)=some (.lst ((nU ts ((aL us).take i) k).map V.str))/\H (ad k)=none/\ad k≠pd/\ad k≠l/\ad k≠pn)/\
   (∀k∈zk ts ((aL us).take i),∀k'∈zk ts ((aL us).take i),ad k=ad k'->k=k'))
   ⟨none,fun _=>0,rfl,s1.trans (s2.trans s3),zd,s3 _ _ (s2 _ _ hn),s3 _ _ zd,(fun k hk=>by simp[zk] at hk),fun k hk=>by simp[zk] at hk⟩ (fun i σ H' _ h=>by obtain⟨_,_,_,_,q,_⟩:=h;exact aI.of q) ?_ ?_⟩
  ·rintro i v σ H2 hx ⟨v4,ad,rfl,q,lF,rO,hd2,tP,yT⟩;rw[aX] at hx;cases eu:(aL us)[i]? with
   | none=>rw[eu] at hx;cases hx
   | some u=>
    rw[eu] at hx;cases hx;have cZ:u∈us:=j3.mp (aZ eu);have hi:=iV eu;have hkl:(zk ts ((aL us).take i)).length<=63:=by
     have h1:(zk ts ((aL us).take i)).length<=((aL us).take i).length:=fO _ _;have h2:((aL us).take i).length<=(aL us).length:=by rw[bI];lia
     rw[JD] at h2;lia
    have hgl:∀k,(nU ts ((aL us).take i) k).length<=63:=fun k=>by
     have h1:(nU ts ((aL us).take i) k).length<=((aL us).take i).length:=fO _ _;have h2:((aL us).take i).length<=(aL us).length:=by rw[bI];lia
     rw[JD] at h2;lia
    have g:=cz.k (k:=Sum.inr u) rO;rw[Ac cZ] at g;obtain⟨K0,K1⟩:=V4 (ts:=ts) nd eu
    try dsimp only [zw]
    refine⟨_,rfl,pd,rfl,.inl ⟨_,.inl hd2⟩,_,rfl,_,rfl,pn,_,rfl,g,by decide,fun q0 aT=>?_⟩;have t0:=ak.new (o:=.lst []) aT;have gX:=t0 _ _ hd2;have nq:pd≠q0:=zh hd2 aT;refine⟨_,Sum.inr (aO ts u),gX,rfl,by rw[jL];exact zx (by lia),fun v hv=>?_,fun hv=>?_⟩
    ·have lG:aO ts u∈zk ts ((aL us).take i):=e7 fun z=>by rw[Af z] at hv;cases hv
     rw[pB lG] at hv;cases hv;obtain⟨h1,h2,h3,h4,h5⟩:=tP _ lG;have mP:¬aO ts u=u:=fun e=>by rw[e] at lG;exact K0 lG
     have wC:=t0 _ _ h1;refine⟨.inl ⟨rfl,_,aI.of wC⟩,_,rfl,ad (aO ts u),_,_,rfl,rfl,wC,by rw[ay];exact zx (by have:=hgl (aO ts u);lia),?_⟩;have ks:zk ts ((aL us).take (i+1))=zk ts ((aL us).take i):=by rw[Oc eu,aq mP,dg]
     refine⟨_,ad,rfl,(q.trans t0).upd h2,?_,?_,?_,?_,?_⟩
     ·rw[zg (aC h4)];exact t0 _ _ lF
     ·rw[zg (aC h5)];exact t0 _ _ rO
     ·rw[zg (aC h3),ks];exact gX
     ·rw[ks];intro k hk;obtain⟨b1,b2,b3,b4,b5⟩:=tP k hk;refine⟨?_,b2,b3,b4,b5⟩;rw[JE eu]
      by_cases e:aO ts u=k
      ·subst e;rw[av rfl,zd,aV];rfl
      ·rw[aq e,dg,zg (fun z=>e (yT _ lG _ hk z.symm))];exact t0 _ _ b1
     ·rw[ks];exact yT
    ·have lG:aO ts u ∉ zk ts ((aL us).take i):=fun z=>by rw[pB z] at hv;cases hv
     have he:aO ts u=u:=e7 fun z=>lG (V2 nd lB eu z)
     rw[he];rw[he] at lG;have e3:upd (upd H2 q0 (.lst [])) pd (.dK (putK (dV (zk ts ((aL us).take i)) fun k=>.ref (ad k)) (Sum.inr u) (.ref q0))) q0=some (.lst []):=by rw[zg (aC nq),zd]
     refine⟨.inl ⟨rfl,_,aI.of e3⟩,_,rfl,q0,_,_,rfl,rfl,e3,by decide,?_⟩;have ks:zk ts ((aL us).take (i+1))=zk ts ((aL us).take i)++[u]:=by rw[Oc eu,av he]
     have nl:l≠q0:=zh lF aT;have nn:pn≠q0:=zh rO aT;have yU:H q0=none:=q.free aT;refine⟨_,fun z=>if z=u then q0 else ad z,rfl,((q.trans t0).upd sy).upd yU,?_,?_,?_,?_,?_⟩
     ·rw[zg nl,zg (aC n1)];exact t0 _ _ lF
     ·rw[zg nn,zg n2];exact t0 _ _ rO
     ·rw[zg nq,zd,wB lG,ks]
      congr 2
      refine sW fun z hz=>?_
      dsimp only
      by_cases e:z=u
      ·rw[av e,av e]
      ·rw[aq e,aq e]
     ·rw[ks];intro k hk;dsimp only
      by_cases e:k=u
      ·subst e;rw[av rfl];refine⟨?_,yU,aC nq,aC nl,aC nn⟩;rw[zd,JE eu,av he,K1 he];rfl
      ·rw[aq e];have fK:k∈zk ts ((aL us).take i):=by
        rcases br.mp hk with h | h
        ·exact h
        ·exact absurd (by simpa using h) e
       obtain⟨b1,b2,b3,b4,b5⟩:=tP k fK;refine⟨?_,b2,b3,b4,b5⟩;have nk:ad k≠q0:=zh b1 aT;rw[zg nk,zg b3,JE eu,aq (fun z=>e (z.symm.trans he)),dg];exact t0 _ _ b1
     ·rw[ks];intro k hk k' fK z;dsimp only at z;have sA:∀z,z∈zk ts ((aL us).take i)++[u]->z≠u->z∈zk ts ((aL us).take i):=fun z hz e=>by
       rcases br.mp hz with h | h
       ·exact h
       ·exact absurd (by simpa using h) e
      by_cases e:k=u
      ·by_cases e':k'=u
       ·rw[e,e']
       ·rw[av e,aq e'] at z;have:=(tP k' (sA _ fK e')).1;exact absurd z.symm (zh this aT)
      ·by_cases e':k'=u
       ·rw[aq e,av e'] at z;have:=(tP k (sA _ hk e)).1;exact absurd z (zh this aT)
       ·rw[aq e,aq e'] at z;exact yT k (sA _ hk e) k' (sA _ fK e') z
  ·rintro σ H2 ⟨v4,ad,rfl,q,lF,rO,hd2,tP,yT⟩;rw[ay,bD] at hd2 tP yT;refine⟨_,rfl,.inr (.inr (.inl ⟨rfl,.inl ⟨_,hd2⟩⟩)),pd,_,rfl,rfl,hd2,fun pv KW=>?_⟩;have s3:=ak.new (o:=Dq pv pd) KW;refine⟨pv,pd,_,rfl,zd,s3 _ _ hd2,fun pf tO=>?_⟩;rw[V1];have em:(zk ts (aL us)).map (fun k=>V.ref (ad k))=((zk ts (aL us)).map ad).map V.ref:=by rw[dj];rfl
   rw[em];have s4:=ak.new (o:=.lst (((zk ts (aL us)).map ad).map V.ref)) tO;have q4:=s3.trans s4;have knd:(zk ts (aL us)).Nodup:=(JC nd).sublist (ko ..);refine k pf ((zk ts (aL us)).map ad) _ (q.free (s3.free tO)) (fun a ha=>?_) (fun z=>?_) ?_ zd (QF fun x hx=>q4 _ _ (tP x hx).1) (q.trans q4)
   ·obtain⟨x,hx,rfl⟩:=aM.mp ha;exact (tP x hx).2.1
   ·obtain⟨x,hx,e⟩:=aM.mp z;have:=s3 _ _ (tP x hx).1;rw[e,tO] at this;cases this
   ·clear tP hd2 s4 q4 em;generalize zk ts (aL us)=ks at yT knd
    induction ks with
    | nil=>exact List.nodup_nil
    | cons x r ih=>
     rw[fV] at knd;rw[dJ,fV];refine⟨fun z=>?_,ih (fun a ha b hb=>yT a (bz _ ha) b (bz _ hb)) knd.2⟩;obtain⟨y,hy,e⟩:=aM.mp z;have:=yT y (bz _ hy) x (by simp) e;subst this;exact knd.1 hy
inductive tQ (vs:List V) (H:Hp) (Q:VK):Prop
 | mk (p pu pt:ah) (x y:V) (us:List Str) (az:List ah) (ts:List aS) (_:vs = [.ref p]) (_:nH K H p pu pt x y us az ts) (_:∀(pd:ah) (ob:Obj) (ad:Str->ah) (bs:Str->List ah) (H':Hp),ak H H'->H pd=none->Bn H' pd ob (zk ts (aL us)) (cX ts (ts.zip az)) ad bs->Q (.ref pd) H')
def zt1:Sp:=fun vs H Q _=>tQ (K:=K) vs H Q
theorem xX (T:Tx K mg w C_Dig zn zp zi zr zq):fH P w K mg base "ties_beneath" ["telling"] 4 (zt1 (K:=K)):=by
 refine T.ZY.has cN (fun vs H Q E h=>?_) (fun f bY A outer s H vs Q E hr h=>?_)
 ·obtain⟨p,pu,pt,x,y,us,az,ts,rfl,_⟩:=h;rfl
 ·obtain⟨p,pu,pt,x,y,us,az,ts,rfl,hT,k⟩:=h;have hu:=k7 hr;refine⟨_,(ze (sset (i:=1) cN.nd (cu (KY T) (zc (ck (zv K rfl) (pv 0) zm) (zc (ck (zv K rfl) (pv 0) zm) zf))))
   (ze (sset (i:=2) cN.nd pR)
   (ze (iN bE rfl (zz K rfl (cu (KZ T) (zc (ck (zv K rfl) (pv 0) zm) (zc (ck (zv K rfl) (pv 0) zm) zf)))) (fZ (i:=3) cN.nd) (zj (nR hu (pv 2) (ck (mO K rfl) (pv 3) zm) (iz zf) rfl)))
   (ze (iN bE rfl (zz K rfl (ck (zv K rfl) (pv 0) zm)) (fZ (i:=4) cN.nd) (zj (iM (iU Tj (ck (zv K rfl) (pv 4) zm) jI (iy _)) (zj (i7 (pV K rfl PySem.F.plainAttrs_list PySem.F.slot_list_append PySem.F.type_list_append pQ (zy hu (pv 2) (zy hu (pv 1) (ck (zv K rfl) (pv 4) zm) (fun _ _=>rfl)) (fun _ _=>rfl)) (zc (jq (zc (zy hu (pv 1) (ck (zv K rfl) (pv 4) zm) (fun _ _=>rfl)) (zc (pv 4) zf))) zf)))) i6)))
   (zj (yI (fG (pv 2)))))))),?_⟩
  have lB:=hT.ends;obtain⟨hp,vC,nW,tp,nd,hl,tl,_⟩:=hT;have hlen:az.length=ts.length:=by have:=tp.len;rw[ay] at this;exact this
  refine⟨_,rfl,p,_,_,_,rfl,rfl,hp,rfl,_,rfl,p,_,_,_,rfl,rfl,hp,rfl,pu,pt,us,az,ts,rfl,vC,nW,tp,nd,by lia,lB,fun pn H1 G6 hn s1=>?_⟩
  try dsimp only [zw]
  refine fun pd gm=>?_
  have s2:=ak.new (o:=.dK []) gm;have q2:=s1.trans s2;refine⟨_,rfl,p,_,_,_,rfl,rfl,q2.tup hp,rfl,_,rfl,p,_,_,_,rfl,rfl,q2.tup hp,rfl,pu,pt,us,az,ts,rfl,q2.seq vC,q2.seq nW,tp.same q2,nd,hl,lB,fun po as H3 AG fas En K2 tR Eo s3=>?_⟩;have G7:=s3 _ _ (s2 _ _ hn);have gX:=s3 _ _ (zd (H:=H1) (a:=pd) (o:=.dK []));have q3:=q2.trans s3;have sy:H pd=none:=s1.free gm;have G8:pn≠pd:=zh hn gm;have lk:as.length=(zk ts (aL us)).length:=by have:=Paired.length Eo;unfold mS at this;rw[ay] at this;exact this
  have AH:(zk ts (aL us)).length<=63:=by
   have:=JG (us:=us) (ts:=ts) nd;unfold mS at this;rw[ay] at this;lia
  have hz:∀{i:Nat}{t:aS}{r:ah},ts[i]? = some t->az[i]? = some r->(ts.zip az)[i]? = some (t,r):=fun h1 h2=>jf.mpr ⟨h1,h2⟩
  generalize ek:zk ts (aL us)=keys at lk AH k;have knd:keys.Nodup:=ek▸u9 nd;have K3:mS us ts=keys.map (nU ts (aL us)):=by unfold mS;rw[ek]
  refine⟨po,rfl,⟨_,aI.of tR⟩,lQ (xs:=as.map V.ref) (fun i σ H'=>∃(v3:Option V) (ad:Str->ah),σ = [some (.ref p),some (.ref pn),some (.ref pd),v3,none]/\(∀b o,b≠pd->H3 b=some o->H' b=some o)/\
   H' pd=some (.dK (dV (keys.take i) fun k=>.ref (ad k)))/\(∀k∈keys.take i,H' (ad k)=some (.lst [])/\H3 (ad k)=none)/\(∀k∈keys.take i,∀k'∈keys.take i,ad k=ad k'->k=k'))
   ⟨none,fun _=>0,rfl,fun b o _ e=>e,gX,(fun k hk=>by simp at hk),fun k hk=>by simp at hk⟩ (fun i σ H' _ h=>by obtain⟨_,_,_,q,_⟩:=h;exact aI.of (q _ _ (lO tR gX (by simp)) tR)) ?_ ?_⟩
  ·rintro i v σ H4 hx ⟨v3,ad,rfl,kp,kg,je,inj⟩;obtain⟨r,g,rfl,hg,Ep,hr⟩:=vc Eo hx;rw[K3,aX] at hg;cases eu:keys[i]? with
   | none=>rw[eu] at hg;cases hg
   | some u=>
    rw[eu] at hg;cases hg;have cZ:u∈keys:=aZ eu;have hi:=iV eu;have jc:u ∉ keys.take i:=by
     have:=u0 knd i hi;rw[show keys[i]=u from (bU.mp eu).2] at this;exact this
    obtain⟨gr,K7⟩:=Of (us:=us) (ts:=ts) nd (k:=u) (ek▸cZ);rw[K7] at hr;have Er:=kp _ _ (lO hr gX (by simp)) hr
    try dsimp only [zw]
    refine⟨by decide,fun q0 aT=>?_⟩;have t0:=ak.new (o:=.lst []) aT;have gv:=t0 _ _ kg;have nq:pd≠q0:=zh kg aT;refine⟨_,rfl,_,rfl,r,_,_,_,rfl,rfl,aI.of (t0 _ _ Er),Gb,pd,_,rfl,eG.k (k:=Sum.inr u) gv (by rw[jL,bI];exact zx (by lia)),?_⟩;have fq:H3 q0=none:=by
     cases e:H3 q0 with
     | none=>rfl
     | some o=>rw[kp _ _ (aC nq) e] at aT;cases aT
    refine⟨_,fun z=>if z=u then q0 else ad z,rfl,fun b o n e=>by rw[zg n];exact t0 _ _ (kp b o n e),?_,?_,?_⟩
    ·rw[zd,wB jc,aQ,eu]
     congr 2
     refine sW fun z hz=>?_
     dsimp only
     by_cases e:z=u
     ·rw[av e,av e]
     ·rw[aq e,aq e]
    ·intro k hk;rw[aQ,eu,br] at hk;dsimp only
     by_cases e:k=u
     ·rw[av e];exact⟨by rw[zg (aC nq),zd],fq⟩
     ·rw[aq e];have fK:k∈keys.take i:=hk.elim id fun z=>absurd (by simpa using z) e
      obtain⟨h1,h2⟩:=je k fK;refine⟨?_,h2⟩;rw[zg (fun z=>by rw[z,kg] at h1;cases h1)];exact t0 _ _ h1
    ·intro k hk k' fK e;rw[aQ,eu,br] at hk fK;dsimp only at e
     by_cases c1:k=u<;>by_cases c2:k'=u
     ·rw[c1,c2]
     ·rw[av c1,aq c2] at e;have h2:=(je k' (fK.elim id fun z=>absurd (by simpa using z) c2)).1;rw[←e,aT] at h2;cases h2
     ·rw[aq c1,av c2] at e;have h2:=(je k (hk.elim id fun z=>absurd (by simpa using z) c1)).1;rw[e,aT] at h2;cases h2
     ·rw[aq c1,aq c2] at e;exact inj k (hk.elim id fun z=>absurd (by simpa using z) c1) k' (fK.elim id fun z=>absurd (by simpa using z) c2) e
  ·rintro σ H4 ⟨v3,ad,rfl,kp,kg,je,inj⟩;rw[ay,lk,bD] at kg je inj;have xY:∀{H':Hp},(∀b o,b≠pd->H3 b=some o->H' b=some o)->ak H H':=fun C8 b o e=>C8 b o (zh e sy) (q3 _ _ e)
   have q4:=xY kp;refine⟨_,rfl,p,_,_,_,rfl,rfl,q4.tup hp,rfl,pt,rfl,⟨_,q4.seq nW⟩,lQ (xs:=az.map V.ref) (fun i σ H'=>∃(v4:Option V) (bs:Str->List ah),σ = [some (.ref p),some (.ref pn),some (.ref pd),v3,v4]/\(∀b o,b≠pd->H3 b=some o->H' b=some o)/\
    H' pd=some (.dK (dV keys fun k=>.ref (ad k)))/\∀k∈keys,H' (ad k)=some (.lst ((bs k).map V.ref))/\Paired (fun b (p:Str×ah)=>H' b=some (.tup [.str p.1,.ref p.2])) (bs k) (cX ts ((ts.zip az).take i) k))
    ⟨none,fun _=>[],rfl,kp,kg,fun k hk=>⟨(je k hk).1,.nil⟩⟩ (fun i σ H' _ h=>by obtain⟨_,_,_,q,_⟩:=h;exact (xY q).seq nW) ?_ ?_⟩
   ·rintro i x σ H5 hx ⟨v4,bs,rfl,kh,gv,nM⟩;obtain⟨r,t,rfl,ht,Ep,hr⟩:=Jw tp hx;have q5:=xY kh;have uD:=q5 _ _ hr;have nE:=lB t (aZ ht);have hit:=iV ht;have G9:=hz ht Ep
    try dsimp only [zw]
    refine⟨_,rfl,r,_,_,_,rfl,rfl,bF.of uD,Jx t,rfl,_,rfl,?_⟩;refine dF (fun c=>?_) (fun c=>?_)
    ·have c:t.k≠gR:=by
      intro z;simp[z,gR] at c
     have g1:=cz.k (k:=Sum.inr t.a) (kh _ _ G8 G7);have g2:=cz.k (k:=Sum.inr t.b) (kh _ _ G8 G7);rw[Ac nE.1] at g1;rw[Ac nE.2] at g2;have xZ:aO ts t.a∈keys:=ek▸Dt lB nE.1;have g3:=cz.k (k:=Sum.inr (aO ts t.a)) gv;rw[pB xZ] at g3;obtain⟨qa,K8⟩:=nM _ xZ;refine⟨_,rfl,_,rfl,_,rfl,r,_,_,_,rfl,rfl,bF.of uD,Jy t,pn,_,rfl,g1,pd,_,rfl,g3,?_⟩;refine⟨.inl ⟨rfl,_,aI.of qa⟩,_,rfl,_,rfl,r,_,_,_,rfl,rfl,bF.of uD,Jz t,pn,_,rfl,g2,_,rfl,(by show 2<=sizeLine;decide),fun b0 vE=>?_⟩;have t0:=ak.new (o:=.tup [.str (aO ts t.b),.ref r]) vE;have AI:=t0 _ _ qa;have lb:(bs (aO ts t.a)).length<=900:=by
      have h1:=Paired.length K8;have h2:=Gv (ts:=ts) (z:=(ts.zip az).take i) (k:=aO ts t.a);rw[bI,ia] at h2;lia
     refine⟨ad (aO ts t.a),_,_,rfl,rfl,AI,by rw[ay];exact zx (by lia),?_⟩;have st:∀b vs,H5 b=some (.tup vs)->upd (upd H5 b0 (.tup [.str (aO ts t.b),.ref r])) (ad (aO ts t.a)) (.lst ((bs (aO ts t.a)).map V.ref++[.ref b0])) b=some (.tup vs):=fun b vs e=>rT AI _ _ (t0 _ _ e)
     refine⟨_,fun z=>if z=aO ts t.a then bs z++[b0] else bs z,rfl,fun b o n e=>?_,?_,fun k hk=>?_⟩
     ·rw[zg (fun z=>by rw[z,(je _ xZ).2] at e;cases e)];exact t0 _ _ (kh b o n e)
     ·rw[zg (fun z=>by rw[←z,gv] at qa;cases qa)];exact t0 _ _ gv
     ·obtain⟨b1,b2⟩:=nM k hk;have QG:=Paired.gP b2 fun b p e=>st b _ e
      rw[Og G9];dsimp only
      by_cases e:k=aO ts t.a
      ·subst e;rw[av rfl,av ⟨c,rfl⟩];refine⟨by rw[zd,aV];rfl,Paired.snoc QG ?_⟩;exact rT AI _ _ zd
      ·rw[aq e,aq (fun z=>e z.2.symm),dg];refine⟨?_,QG⟩;rw[zg (fun z=>e (inj _ hk _ xZ z))];exact t0 _ _ b1
    ·have c:t.k=gR:=by
      simpa[gR] using c
     refine⟨_,bs,rfl,kh,gv,fun k hk=>?_⟩;rw[Og G9,aq (fun z=>z.1 c),dg];exact nM k hk
   ·rintro σ H5 ⟨v4,bs,rfl,kh,gv,nM⟩;rw[ay] at nM;have ez:(ts.zip az).take az.length=ts.zip az:=ki (by rw[ia];lia);rw[ez] at nM;refine .inr ⟨pd,_,gv,fun ob=>⟨_,rfl,k pd ob ad bs _ ?_ sy ⟨zd,fun k hk=>?_,fun k hk=>?_⟩⟩⟩
    ·exact (xY kh).upd sy
    ·obtain⟨b1,b2⟩:=nM k hk;rw[zg (fun z=>by rw[z,gv] at b1;cases b1)];exact b1
    ·obtain⟨b1,b2⟩:=nM k hk;refine Paired.gP b2 fun b p e=>?_
     rw[zg (fun z=>by rw[z,gv] at e;cases e)];exact e
inductive qb (vs:List V) (H:Hp) (Q:VK):Prop
 | mk (s:Str) (pd:ah) (ob:Obj) (keys:List Str) (ln:Ln) (ad:Str->ah) (bs:Str->List ah) (_:vs = [.str s,.ref pd]) (_:Bn H pd ob keys ln ad bs) (_:s∈keys) (_:(∀k∈keys,∀l r,(l,r)∈ln k->l∈keys)) (_:keys.length<=63) (_:∀(p:ah) (rs:List ah) (H':Hp),ak H H'->H p=none->H' p=some (.lst (rs.map V.ref))->rs.length<=64->Oi ln s rs->Q (.ref p) H')
def znz:Sp:=fun vs H Q _=>qb vs H Q
theorem zgf (T:Tx K mg w C_Dig zn zp zi zr zq):fH P w K mg base "round_through" ["start","beneath"] 1 znz:=by
 refine T.Z0.has aY (fun vs H Q E h=>?_) (fun f bY A outer s H vs Q E hr h=>?_)
 ·obtain⟨s',pd,ob,keys,ln,ad,bs,rfl,_⟩:=h;rfl
 ·obtain⟨s',pd,ob,keys,ln,ad,bs,rfl,hB,hs,hc,hk,k⟩:=h;have hu:=k7 hr;refine⟨_,(ze (sset (i:=2) aY.nd pR)
   (ze (sset (i:=3) aY.nd (iz (zc (jq (zc (pv 0) (zc (iz zf) zf))) zf)))
   (ze (Fl bE (iU (Dh K rfl (jZ hr)) (pv 3) (iz zf) (iy _)) (ze (sset (i:=4) aY.nd (iz zf))
    (ze (iN bE rfl (zz K rfl (pv 3)) (wj K rfl rfl (nO (fZ (i:=5) aY.nd) (nO (fZ (i:=6) aY.nd) vW))) (zj (iN bE rfl (zz K rfl (zy hu (pv 1) (pv 5) (fun _ _=>rfl))) (wj K rfl rfl (nO (fZ (i:=7) aY.nd) (nO (fZ (i:=8) aY.nd) vW))) (ze (iM (iU vY (pv 7) (pv 0) (iy _)) (zj (fG (fJ Bo (pv 6) (iz (zc (pv 8) zf))))) i6)
      (zj (iM (wY (FO hu (pv 7) (pv 2))) (ze (nR hu (pv 2) (pv 7) wX rfl)
       (zj (i7 (pV K rfl PySem.F.plainAttrs_list PySem.F.slot_list_append PySem.F.type_list_append pQ (pv 4) (zc (jq (zc (pv 7) (zc (fJ Bo (pv 6) (iz (zc (pv 8) zf))) zf))) zf))))) i6))))))
    (zj (sset (i:=3) aY.nd (pv 4))))))
   (zj (fG (iz zf)))))),?_⟩
  refine fun pm Ei=>?_
  have s0:=ak.new (o:=.dK []) Ei
  try dsimp only [zw]
  refine⟨_,rfl,by decide,fun l0 yV=>?_⟩;have s1:=ak.new (o:=.lst []) yV;refine⟨(by show 2<=sizeLine;decide),fun b0 vE=>?_⟩;have s2:=ak.new (o:=.tup [.str s',.ref l0]) vE;refine⟨(by show 1<=sizeLine;decide),fun pw hpw=>?_⟩;have s3:=ak.new (o:=.lst [.ref b0]) hpw;have q3:=s0.trans (s1.trans (s2.trans s3));have wo:=s3 _ _ (s2 _ _ (s1 _ _ (zd (H:=H) (a:=pm) (o:=.dK []))));have K9:=s3 _ _ (s2 _ _ (zd (H:=upd H pm (.dK [])) (a:=l0) (o:=.lst [])));have Hf:=s3 _ _ (zd (H:=upd (upd H pm (.dK [])) l0 (.lst [])) (a:=b0) (o:=.tup [.str s',.ref l0]));have QH:=zd (H:=upd (upd (upd H pm (.dK [])) l0 (.lst [])) b0 (.tup [.str s',.ref l0])) (a:=pw) (o:=.lst [.ref b0]);generalize upd (upd (upd (upd H pm (.dK [])) l0 (.lst [])) b0 (.tup [.str s',.ref l0])) pw (.lst [.ref b0])=H3 at q3 wo K9 Hf QH;refine⟨fun m σ H'=>∃(v4 v5 v6 v7 v8:Option V) (pw:ah) (wl:List ah) (es:List (Str×List ah)) (d:Nat) (M:List Str),σ = [some (.str s'),some (.ref pd),some (.ref pm),some (.ref pw),v4,v5,v6,v7,v8]/\ak H H'/\H' pm=some (.dK (dV M ig))/\
   H' pw=some (.lst (wl.map V.ref))/\Paired (Oh H') wl es/\(∀e∈es,Wk ln s' e.2 e.1/\e.2.length=d/\e.1∈keys)/\M.Nodup/\(∀v∈M,v∈keys)/\Bf ln s' d M (es.map Prod.fst)/\(es≠[]->d<=M.length)/\
   m=2 * (keys.length-M.length)+(if es = [] then 0 else 1),⟨_,none,none,none,none,none,pw,[b0],[(s',[])],0,[],rfl,q3,wo,QH,.cons ⟨l0,Hf,K9⟩ .nil,?_,by simp,by simp,Bf.zero,fun _=>aH _,rfl⟩,?_⟩
  ·intro e he;have:e=(s',[]):=by simpa using he
   subst this;exact⟨.nil,rfl,hs⟩
  rintro m σ H4 ⟨v4,v5,v6,v7,v8,pw,wl,es,d,M,rfl,q4,hm4,QI,QJ,ok4,wL,AJ,bf,dle,rfl⟩;have lM:M.length<=63:=by have:=uw wL AJ;lia
  refine⟨_,rfl,by decide,fun le hle=>?_⟩;have t5:=ak.new (o:=.lst []) hle;refine⟨pw,le,_,rfl,rfl,cU.qP (aI.of (t5 _ _ QI)) (aI.of zd),_,rfl,?_⟩;have lw:wl.length=es.length:=Paired.length QJ;have q5:=q4.trans t5;have wM:=t5 _ _ hm4;have Hg:=t5 _ _ QI;have QK:Paired (Oh (upd H4 le (.lst []))) wl es:=Paired.gP QJ fun _ _ ⟨q,h1,h2⟩=>⟨q,t5 _ _ h1,t5 _ _ h2⟩
  have t5':=t5;generalize upd H4 le (.lst [])=H5 at q5 wM Hg QK t5';refine dF (fun c=>?_) (fun c=>?_)
  ·have Hh:es≠[]:=fun z=>by
    subst z;have:wl = []:=lZ.mp (by simpa using lw);subst this;simp at c
   have dM:=dle Hh;refine⟨fun aN H'=>∃m',m'<2 * (keys.length-M.length)+(if es = [] then 0 else 1)/\_,fun aN H' h=>h,?_⟩
   try dsimp only [zw]
   refine⟨by decide,fun pl gH=>?_⟩;have t6:=ak.new (o:=.lst []) gH;have yH:pl≠pm:=aC (zh wM gH);have npw:pw≠pm:=lO Hg wM (by simp);have Bk:∀{H':Hp},(∀b o,b≠pm->H5 b=some o->H' b=some o)->ak H H':=fun kp b o e=>kp b o (zh e Ei) (q5 _ _ e)
   refine⟨_,rfl,pw,rfl,⟨_,aI.of (t6 _ _ Hg)⟩,lQ (xs:=wl.map V.ref) (fun i σ H'=>∃(v5 v6 v7 v8:Option V) (ml:List ah) (fs:List (Str×List ah)),σ = [some (.str s'),some (.ref pd),some (.ref pm),some (.ref pw),some (.ref pl),v5,v6,v7,v8]/\
    vd H5 H' pm pl ln s' keys M d ml fs/\∀u∈(es.take i).map Prod.fst,∀v r,(v,r)∈ln u->v≠s'/\v∈M++fs.map Prod.fst)
    ⟨v5,v6,v7,v8,[],[],rfl,⟨fun b o _ e=>t6 _ _ e,?_,zd,.nil,(fun e he=>(fT he).elim),by simpa using wL⟩,fun u hu=>by simp at hu⟩ (fun i σ H' _ h=>by obtain⟨_,_,_,_,_,_,_,g,_⟩:=h;exact aI.of (g.kp _ _ npw Hg)) ?_ ?_⟩
   ·rw[List.map_nil,dg];exact t6 _ _ wM
   ·rintro i x σ H6 hx ⟨u5,u6,u7,u8,ml,fs,rfl,g,cond⟩;obtain⟨b,e,rfl,he,hbw,q,hb,hq⟩:=vc QK hx;have hie:=iV he;have hem:e∈es:=aZ he;obtain⟨wk,La,ek⟩:=ok4 e hem;have nb:b≠pm:=lO hb wM (by simp);have nq:q≠pm:=lO hq wM (by simp);refine⟨b,_,rfl,bF.of (g.kp _ _ nb hb),rfl,_,_,rfl,_,_,rfl,rfl,?_⟩;have B6:=hB.same (Bk g.kp);refine⟨_,rfl,_,rfl,pd,_,rfl,B6.get ek,ad e.1,rfl,⟨_,aI.of (B6.l _ ek)⟩,lQ (xs:=(bs e.1).map V.ref) (fun j σ H'=>∃(v7 v8:Option V) (ml:List ah) (fs:List (Str×List ah)),σ = [some (.str s'),some (.ref pd),some (.ref pm),some (.ref pw),some (.ref pl),some (.str e.1),some (.ref q),v7,v8]/\
     vd H5 H' pm pl ln s' keys M d ml fs/\(∀u∈(es.take i).map Prod.fst,∀v r,(v,r)∈ln u->v≠s'/\v∈M++fs.map Prod.fst)/\∀p∈(ln e.1).take j,p.1≠s'/\p.1∈M++fs.map Prod.fst)
     ⟨u7,u8,ml,fs,rfl,g,cond,by simp⟩ (fun j σ H' _ h=>by obtain⟨_,_,_,_,_,g,_⟩:=h;exact aI.of ((hB.same (Bk g.kp)).l _ ek)) ?_ ?_⟩
    ·rintro j x σ H7 hx ⟨u7,u8,ml,fs,rfl,g,cond,oj⟩;have B7:=hB.same (Bk g.kp);obtain⟨b',⟨l,r⟩,rfl,om,hb',hbt⟩:=vc (B7.e _ ek) hx;have BK:(l,r)∈ln e.1:=aZ om;have qw:l∈keys:=hc _ ek l r BK;refine⟨b',_,rfl,bF.of hbt,rfl,_,_,rfl,_,_,rfl,rfl,?_⟩;have qc:=g.kp _ _ nq hq;have BL:(M++fs.map Prod.fst).length<=63:=by
      have:=uw g.nd (us:=keys) fun v hv=>(br.mp hv).elim (AJ v) fun z=>by
       obtain⟨e',h1,rfl⟩:=aM.mp z;exact (g.ok e' h1).2.2
      lia
     try dsimp only [zw]
     refine⟨_,rfl,_,rfl,rfl,_,rfl,?_⟩;refine dF (fun c1=>?_) (fun c1=>?_)
     ·have c1:l=s':=V.str.inj (bC c1);refine⟨_,rfl,_,rfl,(by show 1<=sizeLine;decide),fun p1 uy=>?_⟩;have w1:=ak.new (o:=.lst [.ref r]) uy;refine⟨q,p1,_,_,rfl,rfl,w1 _ _ qc,zd,by rw[ay];exact qQ (by show e.2.length+1<=1000;lia),fun p2 uq=>?_⟩;have w2:=ak.new (o:=.lst (e.2.map V.ref++[.ref r])) uq;have q7:ak H _:=(Bk g.kp).trans (w1.trans w2);refine k p2 (e.2++[r]) _ q7 (((Bk g.kp).trans w1).free uq) (by rw[zd,aV];rfl) (by rw[bK];show e.2.length+1<=64;lia) (.inr ⟨by simp,c1▸wk.snoc BK,fun j h1 h2=>bf.no j h1 ?_⟩);rw[bK] at h2;have h2:j<e.2.length+1:=h2;lia
     ·have c1:¬l=s':=fun z=>c1 (aR (bX V.str z))
      have g1:=cz.k (k:=Sum.inr l) g.m;refine⟨_,rfl,_,rfl,pm,_,rfl,g1,_,rfl,?_⟩;refine dF (fun c2=>?_) (fun c2=>?_)
      ·have hv:l ∉ M++fs.map Prod.fst:=fun z=>by
        rw[pB z] at c2;cases c2
       refine⟨_,rfl,_,rfl,pm,_,rfl,eG.k (k:=Sum.inr l) g.m (by rw[jL];exact zx (by lia)),?_⟩;rw[JJ hv];have Lb:upd H7 pm (.dK (dV (M++fs.map Prod.fst++[l]) ig)) pl=some (.lst (ml.map V.ref)):=by rw[zg yH];exact g.l
       have BN:upd H7 pm (.dK (dV (M++fs.map Prod.fst++[l]) ig)) q=some (.lst (e.2.map V.ref)):=by rw[zg nq];exact qc
       try dsimp only [zw]
       refine⟨_,rfl,.inl ⟨rfl,_,aI.of Lb⟩,_,rfl,_,rfl,_,rfl,(by show 1<=sizeLine;decide),fun p1 uy=>?_⟩;have w1:=ak.new (o:=.lst [.ref r]) uy;refine⟨q,p1,_,_,rfl,rfl,w1 _ _ BN,zd,by rw[ay];exact qQ (by show e.2.length+1<=1000;lia),fun p2 uq=>?_⟩;have w2:=ak.new (o:=.lst (e.2.map V.ref++[.ref r])) uq;refine⟨(by show 2<=sizeLine;decide),fun b9 hb9=>?_⟩;have w3:=ak.new (o:=.tup [.str l,.ref p2]) hb9;have w:=w1.trans (w2.trans w3);have abx:ml.length<=63:=by
        have h1:ml.length=fs.length:=Paired.length g.w;rw[bK,ay] at BL;lia
       refine⟨pl,_,_,rfl,rfl,w _ _ Lb,by rw[ay];exact zx (by lia),?_⟩;have g':=g.add gH yH hv w (rs:=e.2++[r]) (q:=p2) (b:=b9) (by rw[aV];exact w3 _ _ zd) (aC (zh (w1 _ _ Lb) uq)) zd ⟨wk.snoc BK,by rw[bK,La];rfl,qw⟩;have mm:∀v,v∈M++fs.map Prod.fst->v∈M++(fs++[(l,e.2++[r])]).map Prod.fst:=fun v h=>by
        rw[aV,←jk];exact cT _ h
       refine⟨_,_,_,_,rfl,g',fun u hu v r' h=>⟨(cond u hu v r' h).1,mm _ (cond u hu v r' h).2⟩,NX om (fun p hp=>⟨(oj p hp).1,mm _ (oj p hp).2⟩) ⟨c1,?_⟩⟩;rw[aV,←jk];simp
      ·have hv:l∈M++fs.map Prod.fst:=e7 fun z=>by
        rw[Af z] at c2;exact c2 rfl
       exact⟨_,_,ml,fs,rfl,g,cond,NX om oj ⟨c1,hv⟩⟩
    ·rintro σ H7 ⟨u7,u8,ml,fs,rfl,g,cond,oj⟩;have B7:=hB.same (Bk g.kp);have lb:(bs e.1).length=(ln e.1).length:=Paired.length (B7.e _ ek);rw[ay,lb,bD] at oj;refine⟨_,_,_,_,ml,fs,rfl,g,fun u hu v r h=>?_⟩;rw[List.map_take,aQ,aX,he,br] at hu;rcases hu with hu | hu
     ·exact cond u (by rw[List.map_take];exact hu) v r h
     ·have:u=e.1:=by simpa using hu
      subst this;exact oj (v,r) h
   ·rintro σ H6 ⟨u5,u6,u7,u8,ml,fs,rfl,g,cond⟩;rw[ay,lw,bD] at cond;refine⟨_,rfl,?_⟩
    try dsimp only [zw]
    have Et:∀v∈M++fs.map Prod.fst,v∈keys:=fun v hv=>(br.mp hv).elim (AJ v) fun z=>by
     obtain⟨e',h1,rfl⟩:=aM.mp z;exact (g.ok e' h1).2.2
    have lN:=uw g.nd Et;refine⟨_,?_,_,_,_,_,_,pl,ml,fs,d+1,M++fs.map Prod.fst,rfl,Bk g.kp,g.m,g.l,Paired.gP g.w fun _ _ ⟨q,_,h1,h2⟩=>⟨q,h1,h2⟩,g.ok,g.nd,Et,bf.succ (fun v hv=>?_) cond,fun hf=>?_,rfl⟩
    ·rw[aq Hh,bK,ay] at *;cases fs with
     | nil=>simp
     | cons a r=>
      rw[aq (by simp)];simp only [fh] at *;lia
    ·obtain⟨e',h1,rfl⟩:=aM.mp hv;exact⟨e'.2,(g.ok e' h1).1,(g.ok e' h1).2.1⟩
    ·rw[bK,ay];have:=iC.mpr hf;lia
  ·have Hh:es = []:=by
    have:wl = []:=by simpa using c
    subst this;exact lZ.mp lw.symm
   subst Hh;refine⟨by decide,fun p hp=>?_⟩;exact k p [] _ (q5.trans (ak.new hp)) (q5.free hp) zd (by simp) (.inl ⟨rfl,bf.done⟩)
inductive tS (vs:List V) (H:Hp) (Q:VK):Prop
 | mk (p pu pt:ah) (x y:V) (us:List Str) (az:List ah) (ts:List aS) (_:vs = [.ref p]) (_:nH K H p pu pt x y us az ts) (_:∀(q:ah) (rs:List ah) (H':Hp),ak H H'->H q=none->H' q=some (.lst (rs.map V.ref))->rs.length<=64->lH (cX ts (ts.zip az)) (zk ts (aL us)) rs->Q (.ref q) H')
def zt2:Sp:=fun vs H Q _=>tS (K:=K) vs H Q
theorem Lc (T:Tx K mg w C_Dig zn zp zi zr zq):fH P w K mg base "shortest_round" ["telling"] 5 (zt2 (K:=K)):=by
 refine T.ZZ.has bL (fun vs H Q E h=>?_) (fun f bY A outer s H vs Q E hr h=>?_)
 ·obtain⟨p,pu,pt,x,y,us,az,ts,rfl,_⟩:=h;rfl
 ·obtain⟨p,pu,pt,x,y,us,az,ts,rfl,hT,k⟩:=h;refine⟨_,(ze (sset (i:=1) bL.nd (cu (xX T) (zc (pv 0) zf)))
   (ze (sset (i:=2) bL.nd (iz zf))
   (ze (iN bE rfl (wD (pv 1)) (fZ (i:=3) bL.nd) (ze (sset (i:=4) bL.nd (cu (zgf T) (zc (pv 3) (zc (pv 1) zf))))
    (zj (iM (PW.pt (Ci (iU (Dh K rfl (jZ hr)) (pv 4) (iz zf) (iy _)) (Cg (PW.pt (Mq (iU (yE K rfl (jZ hr)) (pv 2) (iz zf) (iy _)) (Mp (iU Bl (k6 (wg K rfl) (by rfl) T.len dQ (zc (pv 4) zf)) (k6 (wg K rfl) (by rfl) T.len dQ (zc (pv 2) zf)) (iy _)))))))) (zj (sset (i:=2) bL.nd (pv 4))) i6))))
   (zj (fG (pv 2)))))),?_⟩
  have lB:=hT.ends;refine⟨_,rfl,p,pu,pt,x,y,us,az,ts,rfl,hT,fun pd ob ad bs H1 s1 sy hB=>?_⟩;have cl:=Gw (us:=us) (ts:=ts) (az:=az) lB;have lk:=hT.kK;generalize zk ts (aL us)=keys at hB cl lk k;generalize cX ts (ts.zip az)=ln at hB cl k
  try dsimp only [zw]
  refine⟨by decide,fun ps BD=>?_⟩;have s2:=ak.new (o:=.lst []) BD;refine⟨_,rfl,pd,ob,_,rfl,s2 _ _ hB.d,Ah (fun i σ H'=>∃(v3 v4:Option V) (ps:ah) (rs:List ah),σ = [some (.ref p),some (.ref pd),some (.ref ps),v3,v4]/\ak H1 H'/\H ps=none/\H' ps=some (.lst (rs.map V.ref))/\rs.length<=64/\lH ln (keys.take i) rs)
   ⟨none,none,ps,[],rfl,s2,s1.free BD,zd,by simp,by simpa using lH.nil⟩ (fun i σ H' _ h=>by obtain⟨_,_,_,_,_,q,_⟩:=h;exact q _ _ hB.d) ?_ ?_⟩
  ·rintro i kk vv σ H3 hx ⟨v3,v4,ps,rs,rfl,q3,Eu,AK,lr,hR⟩;obtain⟨u,hu,rfl,_⟩:=Ag hx;have c9:u∈keys:=aZ hu
   try dsimp only [zw]
   refine⟨_,rfl,_,rfl,u,pd,ob,keys,ln,ad,bs,rfl,hB.same q3,c9,cl,lk,fun pr xs H4 s4 Ew sC lx hS=>?_⟩;have q4:=q3.trans s4;have AL:=s4 _ _ AK
   try dsimp only [zw]
   refine zZ (decide (xs≠[]/\(rs = []\/xs.length<rs.length))) (fun Q' hQ=>?_) (fun H5 t5=>?_)
   ·refine⟨_,rfl,by decide,fun e1 yO=>?_⟩;have w1:=ak.new (o:=.lst []) yO;refine⟨pr,e1,_,rfl,rfl,cU.qP (aI.of (w1 _ _ sC)) (aI.of zd),_,rfl,?_⟩;refine dF (fun c=>?_) (fun c=>?_)
    ·have c:xs≠[]:=by simpa using c
     refine⟨_,rfl,by decide,fun e2 xO=>?_⟩;have w2:=ak.new (o:=.lst []) xO;have Ex:=w1.trans w2;refine⟨ps,e2,_,rfl,rfl,cU.qP (aI.of (Ex _ _ AL)) (aI.of zd),_,rfl,?_⟩;refine dF (fun c2=>?_) (fun c2=>?_)
     ·have c2:rs = []:=by simpa using c2
      rw[show true=decide (xs≠[]/\(rs = []\/xs.length<rs.length)) from (aR ⟨c,.inl c2⟩).symm];exact hQ _ Ex
     ·have c2:¬rs = []:=by simpa using c2
      refine⟨_,rfl,pr,_,rfl,.inl (aI.of (Ex _ _ sC)),_,rfl,ps,_,rfl,.inl (aI.of (Ex _ _ AL)),_,_,rfl,rfl,_,rfl,?_⟩;have:decide (((xs.map V.ref).length:Int)<((rs.map V.ref).length:Int))=decide (xs≠[]/\(rs = []\/xs.length<rs.length)):=by
       rw[ay,ay];apply jm.mpr;constructor
       ·intro z;exact⟨c,.inr (by lia)⟩
       ·rintro ⟨_,z | z⟩
        ·exact absurd z c2
        ·lia
      rw[←this] at hQ;exact hQ _ Ex
    ·have c:xs = []:=by simpa using c
     rw[show false=decide (xs≠[]/\(rs = []\/xs.length<rs.length)) from (bg fun z=>z.1 c).symm];exact hQ _ w1
   ·have:=hR.step hS;rw[show keys.take i++[u]=keys.take (i+1) by rw[aQ,hu];rfl] at this;refine dF (fun c=>?_) (fun c=>?_)
    ·have c:=bC c;rw[av c] at this;exact⟨_,rfl,_,_,pr,xs,rfl,q4.trans t5,(s1.trans q3).free Ew,t5 _ _ sC,lx,this⟩
    ·have c:¬(xs≠[]/\(rs = []\/xs.length<rs.length)):=fun z=>c (aR z)
     rw[aq c] at this;exact⟨_,_,ps,rs,rfl,q4.trans t5,Eu,t5 _ _ AL,lr,this⟩
  ·rintro σ H3 ⟨v3,v4,ps,rs,rfl,q3,Eu,AK,lr,hR⟩;rw[jL,bD] at hR;exact⟨_,rfl,k ps rs _ (s1.trans q3) Eu AK lr hR⟩
theorem zn0 {α:Type}(f:α->Bool) (l:List α):(l.map f).all id=l.all f:=by rw[List.all_map];rfl
inductive tT (vs:List V) (H:Hp) (Q:VK):Prop
 | mk (pl pp:ah) (bs:List ah) (L:List (Str×ah)) (M:List Str) (_:vs = [.ref pl,.ref pp]) (_:aI K H pl (bs.map V.ref)) (_:Paired (fun b (p:Str×ah)=>H b=some (.tup [.str p.1,.ref p.2])) bs L) (_:H pp=some (.dK (dV M ig))) (_:L.length<=900) (_:∀H',ak H H'->Q (.bl (ux M L)) H')
def zt3:Sp:=fun vs H Q _=>tT (K:=K) vs H Q
theorem zn1 (T:Tx K mg w C_Dig zn zp zi zr zq):fH P w K mg base "rests_on" ["lowers","placed"] 1 (zt3 (K:=K)):=by
 refine T.Z2.has zk9 (fun vs H Q E h=>?_) (fun f bY A outer s H vs Q E hr h=>?_)
 ·obtain⟨pl,pp,bs,L,M,rfl,_⟩:=h;rfl
 ·obtain⟨pl,pp,bs,L,M,rfl,hl,pr,hm,lL,k⟩:=h;have hu:=k7 hr;refine⟨_,(zj (fG (k6 (Vv K rfl rfl) (by rfl) T.all PyProof.Rows.boot_all (zc (yz (own:=["lower","tie"]) (cap:=["placed"]) (ix:=[1]) (pG:=zo (top 20)) rfl ⟨rfl,by decide +kernel,by decide +kernel,by decide +kernel,by decide +kernel⟩ rfl (zz K rfl (pv 0)) (fun _ _ _ _=>wj (n:=2) K rfl rfl (nO (sN (i:=0) (show List.Nodup (["lower","tie","placed"]:List Str) by decide +kernel) rfl (Or.inl rfl)) (nO (sN (i:=1) (show List.Nodup (["lower","tie","placed"]:List Str) by decide +kernel) rfl (Or.inl rfl)) vW))) (fun _ _ _ _=>xy) (fun _ _ _ _=>(Ml (Br hu (pv 0) (pv 2))))) zf)))),?_⟩;have lb:bs.length=L.length:=Paired.length pr;refine⟨_,rfl,pl,rfl,⟨_,hl⟩,fun D hD=>?_⟩;refine yF (C6 (K:=K) (a:=pl) (xs:=bs.map V.ref)) (fun i aN ys H'=>∃w0 w1,aN = [w0,w1,some (.ref pp)]/\ys=((L.take i).map fun p=>decide (p.1∈M)).map V.bl/\ak H H'/\H' D=some (.lst ys))
   ⟨none,none,rfl,by simp,ak.new hD,zd⟩ (fun i aN ys H' h=>?_) (by rw[ay];exact qQ (by lia)) ?_ ?_
  ·obtain⟨_,_,_,rfl,q,hd⟩:=h;refine⟨q.seq hl,hd,?_⟩;rw[ay,ay,bI];lia
  ·rintro i v aN ys H' hx ⟨w0,w1,rfl,rfl,q,hd⟩;obtain⟨b,⟨l,r⟩,rfl,om,_,hb⟩:=vc pr hx;have k8:=iV hx;refine⟨b,_,rfl,bF.of (q _ _ hb),rfl,_,_,rfl,_,_,rfl,rfl,?_⟩
   try dsimp only [zw]
   unfold pT;dsimp only;rw[av rfl];have g:=cz.k (k:=Sum.inr l) (q _ _ hm);refine⟨_,rfl,_,rfl,pp,_,rfl,g,hd,wz k8 ⟨_,_,rfl,?_,q.upd hD,zd⟩⟩;rw[aQ,om,aV,aV]
   congr 1
   show [V.bl (dD (dV M ig) (Sum.inr l)).isSome] = [V.bl (decide (l∈M))]
   by_cases c:l∈M
   ·rw[pB c,aR c];rfl
   ·rw[Af c,bg c];rfl
  rintro aN ys H1 ⟨w0,w1,rfl,rfl,q,hd⟩;rw[ay,lb,bD] at hd;refine⟨D,_,rfl,aI.of hd,?_⟩;rw[zn0];exact k _ q
inductive tU (vs:List V) (H:Hp) (Q:VK):Prop
 | mk (pd pp:ah) (ob:Obj) (keys:List Str) (ln:Ln) (ad:Str->ah) (bs:Str->List ah) (M:List Str) (u:Str) (r:List Str) (_:vs = [.ref pd,.ref pp]) (_:Bn H pd ob keys ln ad bs) (_:H pp=some (.dK (dV M ig))) (_:keys.length<=63) (_:(∀k∈keys,(ln k).length<=900)) (_:sX ln keys M=u::r) (_:∀H',ak H H'->Q (.str u) H')
def zt4:Sp:=fun vs H Q _=>tU vs H Q
theorem zev (T:Tx K mg w C_Dig zn zp zi zr zq):fH P w K mg base "least_free" ["beneath","placed"] 2 zt4:=by
 refine T.Z1.has ju (fun vs H Q E h=>?_) (fun f bY A outer s H vs Q E hr h=>?_)
 ·obtain⟨pd,pp,ob,keys,ln,ad,bs,M,u,r,rfl,_⟩:=h;rfl
 ·obtain⟨pd,pp,ob,keys,ln,ad,bs,M,u,r,rfl,hB,hm,lk,ll,hf,k⟩:=h;have hu:=k7 hr;refine⟨_,(ze (Nk (i:=2) (own:=["name"]) (cap:=["placed","beneath"]) (ix:=[1,0]) (pG:=zo (top 19)) rfl ju.nd rfl rfl rfl ⟨rfl,by decide +kernel,by decide +kernel,by decide +kernel,by decide +kernel⟩ rfl (wD (pv 0)) (fun _ _ _ _=>sN (i:=0) (show List.Nodup (["name","placed","beneath"]:List Str) by decide +kernel) rfl (Or.inl rfl)) (fun _ _ _ _=>U1 (PW.pt (Ci (wY (FO hu (pv 0) (pv 1))) (Cg (Cf (cu (zn1 T) (zc (zy hu (pv 2) (pv 0) (fun _ _=>rfl)) (zc (pv 1) zf)))))))) (fun _ _ _ _=>(pv 0)))
   (zj (fG (ck (mO K rfl) (pv 2) zm)))),?_⟩
  refine⟨_,rfl,pd,ob,_,rfl,hB.d,fun D hD=>?_⟩;refine yF (JO (a:=pd) (ob:=ob) (kvs:=dV keys fun k=>.ref (ad k))) (fun i aN ys H'=>∃w0,aN = [w0,some (.ref pp),some (.ref pd)]/\ys=((keys.take i).filter fun x=>decide (x ∉ M)&&ux M (ln x)).map V.str/\ak H H'/\H' D=some (.lst ys))
   ⟨none,rfl,by simp,ak.new hD,zd⟩ (fun i aN ys H' h=>?_) (by rw[ay,jL];exact qQ (by lia)) ?_ ?_
  ·obtain⟨_,_,rfl,q,hd⟩:=h;refine⟨q _ _ hB.d,hd,?_⟩;rw[ay];exact cy (fO _ _) (by rw[bI];lia)
  ·rintro i v aN ys H1 hx ⟨w0,rfl,rfl,q,hd⟩;have k8:=iV hx;rw[Gu,aX] at hx;cases eu:keys[i]? with
   | none=>rw[eu] at hx;cases hx
   | some z=>
    rw[eu] at hx;cases hx;have hz:z∈keys:=aZ eu;have B1:=hB.same q;have g:=cz.k (k:=Sum.inr z) (q _ _ hm);have no:∀(H2:Hp),ak H1 H2->(decide (z ∉ M)&&ux M (ln z))=false->∃w0',[some (V.str z),some (V.ref pp),some (V.ref pd)] = [w0',some (.ref pp),some (.ref pd)]/\((keys.take i).filter fun x=>decide (x ∉ M)&&ux M (ln x)).map V.str=((keys.take (i+1)).filter fun x=>decide (x ∉ M)&&ux M (ln x)).map V.str/\ak H H2/\H2 D=some (.lst (((keys.take i).filter fun x=>decide (x ∉ M)&&ux M (ln x)).map V.str)):=fun H2 t e=>by
     refine⟨_,rfl,?_,q.trans t,t _ _ hd⟩;rw[aQ,eu,jy,aV];have:(some z).toList.filter (fun x=>decide (x ∉ M)&&ux M (ln x)) = []:=by
      show [z].filter _ = [];rw[List.filter_cons_of_neg (by rw[e];exact bJ)];rfl
     rw[this,List.map_nil,dg]
    try dsimp only [zw]
    refine⟨_,rfl,_,rfl,pp,_,rfl,g,_,rfl,?_⟩;refine dF (fun c=>?_) (fun c=>?_)
    ·have c1:z ∉ M:=fun y=>by rw[pB y] at c;cases c
     refine⟨_,rfl,_,rfl,pd,_,rfl,B1.get hz,_,rfl,ad z,pp,bs z,ln z,M,rfl,aI.of (B1.l z hz),B1.e z hz,q _ _ hm,ll z hz,fun H2 t2=>⟨_,rfl,?_⟩⟩;refine dF (fun c2=>?_) (fun c2=>?_)
     ·refine⟨_,rfl,t2 _ _ hd,wz k8 ⟨_,rfl,?_,(q.trans t2).upd hD,zd⟩⟩;rw[aQ,eu,jy,aV]
      congr 1
      have:(some z).toList.filter (fun x=>decide (x ∉ M)&&ux M (ln x)) = [z]:=by
       show [z].filter _ = [z];rw[List.filter_cons_of_pos (by rw[aR c1,c2];rfl)];rfl
      rw[this];rfl
     ·have c2:ux M (ln z)=false:=by simpa using c2
      exact⟨t2 _ _ hd,wz k8 (no H2 t2 (by rw[c2,Bool.and_false]))⟩
    ·have c1:z∈M:=e7 fun y=>by
      rw[Af y] at c;exact c rfl
     refine⟨hd,wz k8 (no H1 (ak.refl _) ?_)⟩;rw[show decide (z ∉ M)=false from bg (fun y=>y c1),Bool.false_and]
  rintro aN ys H1 ⟨w0,rfl,rfl,q,hd⟩;rw[ay,jL,bD] at hd;have hd:H1 D=some (.lst ((sX ln keys M).map V.str)):=hd;rw[hf] at hd
  try dsimp only [zw]
  exact⟨_,rfl,D,_,_,_,rfl,rfl,aI.of hd,Gb,k _ q⟩
inductive rq (vs:List V) (H:Hp) (Q:VK):Prop
 | mk (p pu pt:ah) (x y:V) (us:List Str) (az:List ah) (ts:List aS) (_:vs = [.ref p]) (_:nH K H p pu pt x y us az ts) (_:iA (cX ts (ts.zip az)) (zk ts (aL us))) (_:∀H',ak H H'->Q .cQ H')
def zrs:Sp:=fun vs H Q _=>rq (K:=K) vs H Q
theorem zgx (T:Tx K mg w C_Dig zn zp zi zr zq):fH P w K mg base "refuse_round" ["telling"] 6 (zrs (K:=K)):=by
 refine T.Qu.has c8 (fun vs H Q E h=>?_) (fun f bY A outer s H vs Q E hr h=>?_)
 ·obtain⟨p,pu,pt,x,y,us,az,ts,rfl,_⟩:=h;rfl
 ·obtain⟨p,pu,pt,x,y,us,az,ts,rfl,hT,nr,k⟩:=h;refine⟨_,(ze (sset (i:=1) c8.nd (cu (Lc T) (zc (pv 0) zf)))
   (zj (iM (iU (Dh K rfl (jZ hr)) (pv 1) (iz zf) (iy _)) (zj Ck) i6))),?_⟩
  refine⟨_,rfl,p,pu,pt,x,y,us,az,ts,rfl,hT,fun q rs H1 s1 fq hq lr R=>?_⟩;have e:rs = []:=e7 fun z=>by
   obtain⟨s',hs,j,hj,r⟩:=R.gQ.mp z;exact nr s' hs j hj r
  subst e
  try dsimp only [zw]
  refine⟨_,rfl,by decide,fun e he=>?_⟩;have s2:=ak.new (o:=.lst []) he;refine⟨q,e,_,rfl,rfl,cU.qP (aI.of (s2 _ _ hq)) (aI.of zd),_,rfl,i9 ?_⟩;exact k _ (s1.trans s2)
inductive tV (vs:List V) (H:Hp) (Q:VK):Prop
 | mk (p pu pt:ah) (x y:V) (us:List Str) (az:List ah) (ts:List aS) (_:vs = [.ref p]) (_:nH K H p pu pt x y us az ts) (_:iA (cX ts (ts.zip az)) (zk ts (aL us))) (_:∀(q:ah) (os:List Str) (H':Hp),ak H H'->H q=none->H' q=some (.lst (os.map V.str))->Ord (cX ts (ts.zip az)) (zk ts (aL us)) os->os.Perm (zk ts (aL us))->Q (.ref q) H')
def QL:Sp:=fun vs H Q _=>tV (K:=K) vs H Q
theorem BO (T:Tx K mg w C_Dig zn zp zi zr zq):fH P w K mg base "order" ["telling"] 7 (QL (K:=K)):=by
 refine T.Qv.has gF (fun vs H Q E h=>?_) (fun f bY A outer s H vs Q E hr h=>?_)
 ·obtain⟨p,pu,pt,x,y,us,az,ts,rfl,_⟩:=h;rfl
 ·obtain⟨p,pu,pt,x,y,us,az,ts,rfl,hT,nr,k⟩:=h;have hu:=k7 hr;refine⟨_,(ze (i7 (cu (zgx T) (zc (pv 0) zf)))
   (ze (sset (i:=1) gF.nd (cu (xX T) (zc (pv 0) zf)))
   (ze (sset (i:=2) gF.nd pR)
   (ze (Fl bE (iU Bl (k6 M9 (by rfl) T.len dQ (zc (pv 2) zf)) (k6 Om (by rfl) T.len dQ (zc (pv 1) zf)) (iy _)) (zj (nR hu (pv 2) (cu (zev T) (zc (pv 1) (zc (pv 2) zf))) wX rfl)))
   (zj (fG (uP (Ge rfl) (by rfl) T.list gw (zc (pv 2) zf)))))))),?_⟩
  refine⟨_,rfl,p,pu,pt,x,y,us,az,ts,rfl,hT,nr,fun H1 s1=>?_⟩;refine⟨_,rfl,p,pu,pt,x,y,us,az,ts,rfl,hT.same s1,fun pd ob ad bs H2 s2 sy hB=>?_⟩;have cl:=Gw (us:=us) (ts:=ts) (az:=az) hT.ends;have lk:=hT.kK;have kn:=u9 (ts:=ts) hT.nd;have kl:=Oe (ts:=ts) hT.nd;have ll:∀k∈zk ts (aL us),(cX ts (ts.zip az) k).length<=900:=fun k _=>by
   have h1:=Gv (ts:=ts) (z:=ts.zip az) (k:=k);have h2:=hT.tl;rw[ia] at h1;lia
  generalize zk ts (aL us)=keys at hB cl lk k nr kn kl ll;generalize cX ts (ts.zip az)=ln at hB cl k nr ll;have q2:=s1.trans s2
  try dsimp only [zw]
  refine fun pp Ey=>?_
  have s3:=ak.new (o:=.dK []) Ey;refine⟨fun m σ H'=>∃os,σ = [some (.ref p),some (.ref pd),some (.ref pp)]/\ak H2 H'/\H' pp=some (.dK (dV os ig))/\Ord ln keys os/\m=keys.length-os.length,⟨_,[],rfl,s3,zd,Ord.nil,rfl⟩,?_⟩;rintro m σ H4 ⟨os,rfl,q4,p9,O,rfl⟩;have B4:=hB.same q4;have lo:=uw O.nd O.sub;refine⟨_,rfl,pp,_,rfl,p9,_,rfl,pd,_,rfl,.inr ⟨_,B4.d⟩,_,_,rfl,rfl,_,rfl,?_⟩;rw[jL,jL];refine dF (fun c=>?_) (fun c=>?_)
  ·have c:=bC c;have hx:∃x∈keys,x ∉ os:=oA fun hn=>by
    have:=uw (us:=os) kn fun x hx=>e7 fun z=>hn ⟨x,hx,z⟩
    lia
   obtain⟨u,r,cZ⟩:∃u r,sX ln keys os=u::r:=by
    cases e:sX ln keys os with
    | nil=>exact absurd e (Wc cl nr hx)
    | cons u r=>exact⟨u,r,rfl⟩
   obtain⟨m1,m2,m3⟩:=iW.mp (show u∈sX ln keys os by rw[cZ];simp);refine⟨fun aN H'=>∃m',m'<keys.length-os.length/\_,fun aN H' h=>h,?_⟩;refine⟨_,rfl,_,rfl,_,rfl,pd,pp,ob,keys,ln,ad,bs,os,u,r,rfl,B4,p9,lk,ll,cZ,fun H5 s5=>?_⟩;refine⟨pp,_,rfl,eG.k (k:=Sum.inr u) (s5 _ _ p9) (by rw[jL];exact zx (by lia)),?_⟩;rw[JJ m2];refine⟨_,?_,os++[u],rfl,(q4.trans s5).upd Ey,zd,O.snoc kl cZ,rfl⟩;rw[bK];show keys.length-(os.length+1)<_;lia
  ·have c:¬((os.length:Int)<(keys.length:Int)):=fun z=>c (aR z)
   have e:os.length=keys.length:=by lia
   refine⟨_,rfl,pp,_,rfl,p9,fun q hq=>?_⟩;rw[Gu];exact k q os _ (q2.trans (q4.trans (ak.new hq))) ((q2.trans q4).free hq) zd O (O.perm kn e)
inductive rA (vs:List V) (H:Hp) (Q:VK):Prop
 | mk (p pu pt:ah) (x y:V) (us:List Str) (az:List ah) (ts:List aS) (_:vs = [.ref p]) (_:nH K H p pu pt x y us az ts) (_:iA (cX ts (ts.zip az)) (zk ts (aL us))) (_:∀(q:ah) (cs:List ah) (lv:Str->Nat) (H':Hp),ak H H'->H q=none->H' q=some (.lst (cs.map V.ref))->cs.length<=63->cs.Nodup->(∀c∈cs,H c=none/\c≠q)->(∀(j:Nat) c,cs[j]? = some c->H' c=some (.lst (((zk ts (aL us)).filter (gS lv j)).map V.str)))->Lv (cX ts (ts.zip az)) (zk ts (aL us)) lv cs.length->Q (.ref q) H')
def zrt:Sp:=fun vs H Q _=>rA (K:=K) vs H Q
theorem zt5 (T:Tx K mg w C_Dig zn zp zi zr zq):fH P w K mg base "levels" ["telling"] 8 (zrt (K:=K)):=by
 refine T.Z6.has eZ (fun vs H Q E h=>?_) (fun f bY A outer s H vs Q E hr h=>?_)
 ·obtain⟨p,pu,pt,x,y,us,az,ts,rfl,_⟩:=h;rfl
 ·obtain⟨p,pu,pt,x,y,us,az,ts,rfl,hT,nr,k⟩:=h;have hu:=k7 hr;refine⟨_,(ze (sset (i:=1) eZ.nd (cu (xX T) (zc (pv 0) zf)))
   (ze (sset (i:=2) eZ.nd pR)
   (ze (sset (i:=3) eZ.nd (iz zf))
   (ze (iN bE rfl (zz K rfl (cu (BO T) (zc (pv 0) zf))) (fZ (i:=4) eZ.nd) (ze (sset (i:=5) eZ.nd (Wy K rfl 0 rfl (by rfl) T.max (yz (own:=["lower","tie"]) (cap:=["numbers"]) (ix:=[2]) (pG:=zo (top 26)) rfl ⟨rfl,by decide +kernel,by decide +kernel,by decide +kernel,by decide +kernel⟩ rfl (zz K rfl (zy hu (pv 1) (pv 4) (fun _ _=>rfl))) (fun _ _ _ _=>wj (n:=2) K rfl rfl (nO (sN (i:=0) (show List.Nodup (["lower","tie","numbers"]:List Str) by decide +kernel) rfl (Or.inl rfl)) (nO (sN (i:=1) (show List.Nodup (["lower","tie","numbers"]:List Str) by decide +kernel) rfl (Or.inl rfl)) vW))) (fun _ _ _ _=>xy) (fun _ _ _ _=>(fJ um (zy hu (pv 2) (pv 0) (fun _ _=>rfl)) zm)))))
    (ze (nR hu (pv 2) (pv 4) (pv 5) rfl)
    (ze (iM (iU vY (pv 5) (k6 (wg K rfl) (by rfl) T.len dQ (zc (pv 3) zf)) (iy _)) (zj (i7 (pV K rfl PySem.F.plainAttrs_list PySem.F.slot_list_append PySem.F.type_list_append pQ (pv 3) (zc (iz zf) zf)))) i6)
    (zj (i7 (pV K rfl PySem.F.plainAttrs_list PySem.F.slot_list_append PySem.F.type_list_append pQ (ck (mO K rfl) (pv 3) (pv 5)) (zc (pv 4) zf))))))))
   (zj (fG (yz (own:=["row"]) (cap:=[]) (ix:=[]) (pG:=zo (top 26)) rfl ⟨rfl,by decide +kernel,by decide +kernel,by decide +kernel,by decide +kernel⟩ rfl (zz K rfl (pv 3)) (fun _ _ _ _=>sN (i:=0) (show List.Nodup (["row"]:List Str) by decide +kernel) rfl (Or.inl rfl)) (fun _ _ _ _=>xy) (fun _ _ _ _=>(k6 (Ol (K:=K) rfl) (by rfl) T.sorted qz (zc (pv 0) zf)))))))))),?_⟩
  refine⟨_,rfl,p,pu,pt,x,y,us,az,ts,rfl,hT,fun pd ob ad bs H1 s1 sy hB=>?_⟩;have lk:=hT.kK;have kn:=u9 (ts:=ts) hT.nd;have kl:=Oe (ts:=ts) hT.nd;have ll:∀k∈zk ts (aL us),(cX ts (ts.zip az) k).length<=900:=fun k _=>by
   have h1:=Gv (ts:=ts) (z:=ts.zip az) (k:=k);have h2:=hT.tl;rw[ia] at h1;lia
  try dsimp only [zw]
  refine fun pn QM=>?_
  have s2:=ak.new (o:=.dK []) QM
  try dsimp only [zw]
  refine⟨by decide,fun pr sC=>?_⟩;have s3:=ak.new (o:=.lst []) sC;have q3:=s1.trans (s2.trans s3);have Ew:H1 pr=none:=s2.free sC;have QN:pn≠pr:=zh zd sC;refine⟨_,rfl,p,pu,pt,x,y,us,az,ts,rfl,hT.same q3,nr,fun q os H4 s4 fq hq O pm=>?_⟩;have hn4:=s4 _ _ (s3 _ _ (zd (H:=H1) (a:=pn) (o:=.dK [])));have Er:=s4 _ _ (zd (H:=upd H1 pn (.dK [])) (a:=pr) (o:=.lst []));have nqn:pn≠q:=zh (s3 _ _ zd) fq;have nqr:pr≠q:=zh zd fq;have fq1:H1 q=none:=(s2.trans s3).free fq;have lo:os.length<=63:=by rw[pm.length_eq];exact lk
  generalize zk ts (aL us)=keys at hB lk k nr kn kl ll O pm;generalize cX ts (ts.zip az)=ln at hB k nr ll O;refine⟨q,rfl,⟨_,aI.of hq⟩,lQ (xs:=os.map V.str) (fun i σ H'=>∃(v4 v5:Option V) (cs:List ah) (lv:Str->Nat),σ = [some (.ref p),some (.ref pd),some (.ref pn),some (.ref pr),v4,v5]/\ak H1 H'/\H' q=some (.lst (os.map V.str))/\
   H' pn=some (.dK (dV (os.take i) fun x=>.int (lv x)))/\H' pr=some (.lst (cs.map V.ref))/\cs.length<=i/\cs.Nodup/\(∀c∈cs,H1 c=none/\c≠pn/\c≠pr/\c≠q)/\
   (∀(j:Nat) c,cs[j]? = some c->H' c=some (.lst (((os.take i).filter (gS lv j)).map V.str)))/\Lv ln (os.take i) lv cs.length)
   ⟨none,none,[],fun _=>0,rfl,s2.trans (s3.trans s4),hq,hn4,Er,aH _,by simp,by simp,by simp,Lv.nil⟩ (fun i σ H' _ h=>by obtain⟨_,_,_,_,_,_,q,_⟩:=h;exact aI.of q) ?_ ?_⟩
  ·rintro i v σ H5 hx ⟨v4,v5,cs,lv,rfl,q5,Ez,Ld,uD,cl,cn,cf,ch,L⟩;rw[aX] at hx;cases eu:os[i]? with
   | none=>rw[eu] at hx;cases hx
   | some u=>
    rw[eu] at hx;cases hx;have cZ:u∈keys:=O.sub u (aZ eu);have vF:=O.low i u eu;have hi:=iV eu;have Le:u ∉ os.take i:=fun z=>by
     have nd:=O.nd;rw[←l7 i os,fS] at nd;refine nd.2.2 u z u ?_ rfl;obtain⟨hi,e⟩:=bU.mp eu;rw[←e];exact List.mem_drop_iff_getElem.mpr ⟨0,by lia,by simp⟩
    have tk:os.take (i+1)=os.take i++[u]:=by rw[aQ,eu];rfl
    have lt:(os.take i).length<=63:=by rw[bI];lia
    have B5:=hB.same q5;have lb:(bs u).length=(ln u).length:=Paired.length (B5.e u cZ);have lu:=ll u cZ
    try dsimp only [zw]
    refine⟨_,rfl,_,rfl,pd,_,rfl,B5.get cZ,ad u,rfl,⟨_,aI.of (B5.l u cZ)⟩,fun D hD=>?_⟩;refine yF (C6 (K:=K) (a:=ad u) (xs:=(bs u).map V.ref)) (fun i' aN ys H'=>∃w0 w1,aN = [w0,w1,some (.ref pn)]/\ys=(qv lv ((ln u).take i')).map V.int/\ak H5 H'/\H' D=some (.lst ys))
     ⟨none,none,rfl,by simp[qv],ak.new hD,zd⟩ (fun i' aN ys H' h=>?_) (by rw[ay];exact qQ (by lia)) ?_ ?_
    ·obtain⟨_,_,_,rfl,q,hd⟩:=h;refine⟨aI.of (q _ _ (B5.l u cZ)),hd,?_⟩;unfold qv;rw[ay,ay,bI];lia
    ·rintro i' v aN ys H' hx ⟨w0,w1,rfl,rfl,q,hd⟩;obtain⟨b,⟨l,r⟩,rfl,om,_,hb⟩:=vc (B5.e u cZ) hx;have k8:=iV hx;have hl:l∈os.take i:=vF l r (aZ om);refine⟨b,_,rfl,bF.of (q _ _ hb),rfl,_,_,rfl,_,_,rfl,rfl,?_⟩
     try dsimp only [zw]
     unfold pT;dsimp only;rw[av rfl];have g:=cz.k (k:=Sum.inr l) (q _ _ Ld);rw[pB hl] at g;refine⟨_,rfl,_,rfl,pn,_,rfl,g,_,_,rfl,rfl,hd,wz k8 ⟨_,_,rfl,?_,q.upd hD,zd⟩⟩;rw[aQ,om];unfold qv;rw[aV,aV];rfl
    rintro aN ys H6 ⟨w0,w1,rfl,rfl,t6,j9⟩;rw[ay,lb,bD] at j9;refine⟨D,_,rfl,aI.of j9,fun m hm=>?_⟩;obtain⟨k',rfl,hk⟩:=L.next vF hm;have L':=L.step Le vF hm hk;have Jb:=t6 _ _ Ld;have hr6:=t6 _ _ uD
    try dsimp only [zw]
    refine⟨_,rfl,_,rfl,_,rfl,pn,_,rfl,eG.k (k:=Sum.inr u) Jb (by rw[jL];exact zx (by lia)),?_⟩;rw[wB Le];have ed:dV (os.take i++[u]) (fun z=>if z=u then V.int (k':Int) else V.int (lv z))=dV (os.take (i+1)) fun x=>V.int (pC lv u k' x):=by
     rw[tk];refine sW fun z _=>?_
     unfold pC;split<;>rfl
    rw[ed];have q7:ak H1 (upd H6 pn (.dK (dV (os.take (i+1)) fun x=>V.int (pC lv u k' x)))):=(q5.trans t6).upd QM;have qc:upd H6 pn (.dK (dV (os.take (i+1)) fun x=>V.int (pC lv u k' x))) q=some (.lst (os.map V.str)):=by rw[zg (aC nqn)];exact t6 _ _ Ez
    have BP:upd H6 pn (.dK (dV (os.take (i+1)) fun x=>V.int (pC lv u k' x))) pr=some (.lst (cs.map V.ref)):=by rw[zg (aC QN)];exact hr6
    have Hi:upd H6 pn (.dK (dV (os.take (i+1)) fun x=>V.int (pC lv u k' x))) pn=some (.dK (dV (os.take (i+1)) fun x=>V.int (pC lv u k' x))):=zd;have Hj:∀(j:Nat) c,cs[j]? = some c->upd H6 pn (.dK (dV (os.take (i+1)) fun x=>V.int (pC lv u k' x))) c=some (.lst (((os.take i).filter (gS lv j)).map V.str)):=fun j c e=>by
     rw[zg (cf c (aZ e)).2.1];exact t6 _ _ (ch j c e)
    generalize upd H6 pn (.dK (dV (os.take (i+1)) fun x=>V.int (pC lv u k' x)))=H7 at q7 qc BP Hi Hj
    try dsimp only
    unfold zG;refine WD (fun aN H'=>∃(uE:List ah),aN = [some (.ref p),some (.ref pd),some (.ref pn),some (.ref pr),some (.str u),some (.int k')]/\ak H1 H'/\H' q=some (.lst (os.map V.str))/\
      H' pn=some (.dK (dV (os.take (i+1)) fun x=>V.int (pC lv u k' x)))/\H' pr=some (.lst (uE.map V.ref))/\uE.length<=i+1/\uE.Nodup/\(∀c∈uE,H1 c=none/\c≠pn/\c≠pr/\c≠q)/\
      (∀(j:Nat) c,uE[j]? = some c->H' c=some (.lst (((os.take i).filter (gS lv j)).map V.str)))/\k'<uE.length/\uE.length=if k'=cs.length then cs.length+1 else cs.length) (decide (k'=cs.length)) (fun Q' hQ=>?_) (fun e hn=>?_) (fun e hn=>?_) ?_
    ·refine⟨_,rfl,_,rfl,pr,_,rfl,.inl (aI.of BP),rfl,_,rfl,?_⟩;have e:decide (V.int (k':Int)=V.int ((cs.map V.ref).length:Int))=decide (k'=cs.length):=by
      rw[jm,ay];constructor
      ·intro z;injection z with z;lia
      ·intro z;rw[z]
     rw[e];exact hQ
    ·have e:=bC e;refine⟨_,rfl,.inl ⟨rfl,_,aI.of BP⟩,by decide,fun q0 aT=>?_⟩;have t0:=ak.new (o:=.lst []) aT;refine⟨pr,_,_,rfl,rfl,t0 _ _ BP,by rw[ay];exact zx (by lia),?_⟩;have yU:H1 q0=none:=q7.free aT;have fp0:H1 pr=none:=Ew;have mp:=aV (f:=V.ref) (l₁:=cs) (l₂:=[q0]);have wN:pr≠q0:=zh BP aT;refine hn _ _ ⟨cs++[q0],rfl,(q7.trans t0).upd fp0,?_,?_,by rw[zd,mp];rfl,by rw[bK];show cs.length+1<=_;lia,?_,fun c hc=>?_,fun j c hc=>?_,by rw[bK];show _<cs.length+1;lia,by rw[av e,bK];rfl⟩
     ·rw[zg (aC nqr)];exact t0 _ _ qc
     ·rw[zg QN];exact t0 _ _ Hi
     ·rw[fS];refine⟨cn,by simp,fun a ha b hb z=>?_⟩;have hb:b=q0:=by simpa using hb
      subst hb;subst z;obtain⟨j,hj⟩:=e9.mp ha;have:=Hj j _ hj;rw[aT] at this;cases this
     ·rcases br.mp hc with hc | hc
      ·exact cf c hc
      ·have hc:c=q0:=by simpa using hc
       subst hc;exact⟨yU,aC (zh Hi aT),aC wN,aC (zh qc aT)⟩
     ·by_cases hj:j<cs.length
      ·rw[lW hj] at hc;rw[zg (cf c (aZ hc)).2.2.1];exact t0 _ _ (Hj j c hc)
      ·rw[kP (by lia)] at hc;have EA:j=cs.length:=by
        have:=iV hc;have:j-cs.length<1:=this;lia
       subst EA;simp at hc;subst hc;rw[zg (aC wN),zd,L.xD (aH _)];rfl
    ·have e:=kY e;exact hn _ _ ⟨cs,rfl,q7,qc,Hi,BP,by lia,cn,cf,Hj,by lia,by rw[aq e]⟩
    ·rintro aN H8 ⟨uE,rfl,q8,BN,hn8,QO,cl8,QS,QT,QU,kc,ec⟩;have fK:uE[k']? = some uE[k']:=aU kc;have hc:=QU k' _ fK;generalize uE[k']=c at fK hc;have Hl:=QT c (aZ fK);refine⟨_,rfl,_,rfl,pr,_,_,.ref c,rfl,rfl,aI.of QO,pP (by rw[aX,fK];rfl),.inl ⟨rfl,_,aI.of hc⟩,_,rfl,c,_,_,rfl,rfl,hc,?_,?_⟩
     ·rw[ay];exact zx (by have:=fO (gS lv k') (os.take i);lia)
     refine⟨_,_,uE,pC lv u k',rfl,q8.upd Hl.1,?_,?_,?_,cl8,QS,QT,fun j d hd=>?_,?_⟩
     ·rw[zg (aC Hl.2.2.2)];exact BN
     ·rw[zg (aC Hl.2.1)];exact hn8
     ·rw[zg (aC Hl.2.2.1)];exact QO
     ·rw[tk,WA Le]
      by_cases e:k'=j
      ·subst e;rw[fK] at hd;cases hd;rw[zd,av rfl,aV];rfl
      ·rw[aq e,dg,zg (fun z=>e (WC QS fK (by rw[←z];exact hd)))];exact QU j d hd
     ·rw[tk,ec];exact L'
  ·rintro σ H5 ⟨v4,v5,cs,lv,rfl,q5,Ez,Ld,uD,cl,cn,cf,ch,L⟩;rw[ay,bD] at ch L;rw[ay] at cl;have Lk:=L.mem fun x=>pm.mem_iff
   try dsimp only [zw]
   refine⟨_,rfl,pr,rfl,⟨_,aI.of uD⟩,fun D hD=>?_⟩;refine yF (C6 (K:=K) (a:=pr) (xs:=cs.map V.ref)) (fun i' aN ys H'=>∃(w0:Option V) (ds:List ah),aN = [w0]/\ys=ds.map V.ref/\ds.length=i'/\ak H5 H'/\H' D=some (.lst ys)/\ds.Nodup/\(∀d∈ds,H5 d=none/\d≠D)/\∀(j:Nat) d,ds[j]? = some d->H' d=some (.lst ((keys.filter (gS lv j)).map V.str)))
    ⟨none,[],rfl,rfl,rfl,ak.new hD,zd,by simp,by simp,by simp⟩ (fun i' aN ys H' h=>?_) (by rw[ay];exact qQ (by lia)) ?_ ?_
   ·obtain⟨_,_,_,rfl,dl,q,hd,_⟩:=h;refine⟨aI.of (q _ _ uD),hd,?_⟩;rw[ay];lia
   ·rintro i' v aN ys H6 hx ⟨w0,ds,rfl,rfl,dl,q,hd,dn,df,dh⟩;have k8:=iV hx;rw[aX] at hx;cases ec:cs[i']? with
    | none=>rw[ec] at hx;cases hx
    | some c=>
     rw[ec] at hx;cases hx;have hc:=q _ _ (ch i' c ec)
     try dsimp only [zw]
     unfold pT;dsimp only;rw[av rfl];refine⟨_,rfl,c,os.filter (gS lv i'),rfl,aI.of hc,by have:=fO (gS lv i') os;lia,fun d ms vU pm' rs=>?_⟩;have em:=Gp pm' rs;subst em;rw[WB pm kl];have t1:=ak.new (o:=.lst ((keys.filter (gS lv i')).map V.str)) vU;have nd:D≠d:=zh hd vU;refine⟨t1 _ _ hd,wz k8 ⟨_,ds++[d],rfl,by rw[aV];rfl,by rw[bK];show ds.length+1=_;lia,(q.trans t1).upd hD,by rw[zd],?_,fun b hb=>?_,fun j b hb=>?_⟩⟩
     ·rw[fS];refine⟨dn,by simp,fun a ha b hb z=>?_⟩;have hb:b=d:=by simpa using hb
      subst hb;subst z;obtain⟨j,hj⟩:=e9.mp ha;have:=dh j _ hj;rw[vU] at this;cases this
     ·rcases br.mp hb with hb | hb
      ·exact df b hb
      ·have hb:b=d:=by simpa using hb
       subst hb;exact⟨q.free vU,aC nd⟩
     ·by_cases hj:j<ds.length
      ·rw[lW hj] at hb;rw[zg (df b (aZ hb)).2];exact t1 _ _ (dh j b hb)
      ·rw[kP (by lia)] at hb;have EA:j=ds.length:=by
        have:=iV hb;have:j-ds.length<1:=this;lia
       subst EA;simp at hb;subst hb;rw[zg (aC nd),zd,dl]
   rintro aN ys H6 ⟨w0,ds,rfl,rfl,dl,q,hd,dn,df,dh⟩;rw[ay] at dl;have f5:=s1.trans q5;refine k D ds lv H6 (f5.trans q) (f5.free hD) hd (by lia) dn (fun c hc=>⟨f5.free (df c hc).1,(df c hc).2⟩) dh ?_;rw[dl];exact Lk
inductive vG (vs:List V) (H:Hp) (Q:VK):Prop
 | mk (p pu pt:ah) (x y:V) (us:List Str) (az:List ah) (ts:List aS) (_:vs = [.ref p]) (_:nH K H p pu pt x y us az ts) (_:iA (cX ts (ts.zip az)) (zk ts (aL us))) (_:∀(pd:ah) (ob:Obj) (os:List Str) (fY:Str->List Str) (ad:Str->ah) (obs:Str->Obj) (H':Hp),ak H H'->H pd=none->Dp H' pd ob os fY ad obs->os.Perm (zk ts (aL us))->(∀k∈zk ts (aL us),(fY k).Nodup/\∀y,y∈fY k↔kM (cX ts (ts.zip az)) k y)->Q (.ref pd) H')
def zxh:Sp:=fun vs H Q _=>vG (K:=K) vs H Q
theorem zij (T:Tx K mg w C_Dig zn zp zi zr zq):fH P w K mg base "all_beneath" ["telling"] 8 (zxh (K:=K)):=by
 refine T.Z3.has cE (fun vs H Q E h=>?_) (fun f bY A outer s H vs Q E hr h=>?_)
 ·obtain⟨p,pu,pt,x,y,us,az,ts,rfl,_⟩:=h;rfl
 ·obtain⟨p,pu,pt,x,y,us,az,ts,rfl,hT,nr,k⟩:=h;have hu:=k7 hr;refine⟨_,(ze (sset (i:=1) cE.nd (cu (xX T) (zc (pv 0) zf)))
   (ze (sset (i:=2) cE.nd pR)
   (ze (iN bE rfl (zz K rfl (cu (BO T) (zc (pv 0) zf))) (fZ (i:=3) cE.nd) (ze (nR hu (pv 2) (pv 3) pR rfl)
    (zj (iN bE rfl (zz K rfl (zy hu (pv 1) (pv 3) (fun _ _=>rfl))) (wj K rfl rfl (nO (fZ (i:=4) cE.nd) (nO (fZ (i:=5) cE.nd) vW))) (ze (nR hu (zy hu (pv 2) (pv 3) (fun _ _=>rfl)) (pv 4) wX rfl)
     (zj (i7 (pV K rfl PySem.F.plainAttrs_dict PySem.F.slot_dict_update PySem.F.type_dict_update Xi (zy hu (pv 2) (pv 3) (fun _ _=>rfl)) (zc (zy hu (pv 2) (pv 4) (fun _ _=>rfl)) zf)))))))))
   (zj (Xn (fG (pv 2))))))),?_⟩
  refine⟨_,rfl,p,pu,pt,x,y,us,az,ts,rfl,hT,fun ps QV aB bB H1 s1 Eu hB=>?_⟩;have lk:=hT.kK;have kn:=u9 (ts:=ts) hT.nd;have cl:=Gw (us:=us) (ts:=ts) (az:=az) hT.ends;have ll:∀k,(cX ts (ts.zip az) k).length<=900:=fun k=>by
   have h1:=Gv (ts:=ts) (z:=ts.zip az) (k:=k);have h2:=hT.tl;rw[ia] at h1;lia
  try dsimp only [zw]
  refine fun pd gm=>?_
  have s2:=ak.new (o:=.dK []) gm;refine⟨_,rfl,p,pu,pt,x,y,us,az,ts,rfl,hT.same (s1.trans s2),nr,fun q os H3 s3 fq hq O pm=>?_⟩;have gX:=s3 _ _ (zd (H:=H1) (a:=pd) (o:=.dK []));have nq:pd≠q:=zh zd fq;have lo:os.length<=63:=by rw[pm.length_eq];exact lk
  generalize zk ts (aL us)=keys at hB lk k nr kn cl O pm;generalize cX ts (ts.zip az)=ln at hB k nr cl ll O;have EB:∀z,z∈os↔z∈keys:=fun z=>pm.mem_iff
  refine⟨q,rfl,⟨_,aI.of hq⟩,lQ (xs:=os.map V.str) (fun i σ H'=>∃(v3 v4 v5:Option V) (fY:Str->List Str) (ad:Str->ah),σ = [some (.ref p),some (.ref ps),some (.ref pd),v3,v4,v5]/\ak H1 H'/\H' q=some (.lst (os.map V.str))/\
    H' pd=some (.dK (dV (os.take i) fun k=>.ref (ad k)))/\(∀k∈os.take i,H' (ad k)=some (.dK (dV (fY k) ig))/\H1 (ad k)=none/\ad k≠pd/\ad k≠q/\(fY k).Nodup/\∀y,y∈fY k↔kM ln k y)/\(∀k∈os.take i,∀k'∈os.take i,ad k=ad k'->k=k'))
   ⟨none,none,none,fun _=>[],fun _=>0,rfl,s2.trans s3,hq,gX,(fun k hk=>by simp at hk),fun k hk=>by simp at hk⟩ (fun i σ H' _ h=>by obtain⟨_,_,_,_,_,_,_,q,_⟩:=h;exact aI.of q) ?_ ?_⟩
  ·rintro i v σ H4 hx ⟨v3,v4,v5,fY,ad,rfl,q4,Lf,kg,je,inj⟩;rw[aX] at hx;cases eu:os[i]? with
   | none=>rw[eu] at hx;cases hx
   | some u=>
    rw[eu] at hx;cases hx;have c9:u∈keys:=(EB u).mp (aZ eu);have hi:=iV eu;have vF:=O.low i u eu;have jc:u ∉ os.take i:=by
     have:=u0 O.nd i hi;rw[show os[i]=u from (bU.mp eu).2] at this;exact this
    have tk:os.take (i+1)=os.take i++[u]:=by rw[aQ,eu];rfl
    have lt:(os.take i).length<=63:=by rw[bI];lia
    try dsimp only [zw]
    refine fun q0 aT=>?_
    have t0:=ak.new (o:=.dK []) aT;have gv:=t0 _ _ kg;refine⟨_,rfl,_,rfl,pd,_,rfl,eG.k (k:=Sum.inr u) gv (by rw[jL];exact zx (by lia)),?_⟩;rw[wB jc];have Ho:q0≠pd:=aC (zh kg aT);have Lg:q0≠q:=aC (zh Lf aT);have yU:H1 q0=none:=q4.free aT;have EC:∀k∈os.take i,ad k≠q0:=fun k hk=>zh (je k hk).1 aT
    have ed:dV (os.take i++[u]) (fun z=>if z=u then V.ref q0 else V.ref (ad z))=dV (os.take (i+1)) fun z=>V.ref (if z=u then q0 else ad z):=by
     rw[tk];refine sW fun z _=>?_
     split<;>rfl
    rw[ed];have q6:ak H1 (upd (upd H4 q0 (.dK [])) pd (.dK (dV (os.take (i+1)) fun z=>V.ref (if z=u then q0 else ad z)))):=(q4.trans t0).upd gm;have j9:upd (upd H4 q0 (.dK [])) pd (.dK (dV (os.take (i+1)) fun z=>V.ref (if z=u then q0 else ad z))) pd=some (.dK (dV (os.take (i+1)) fun z=>V.ref (if z=u then q0 else ad z))):=zd;have QW:upd (upd H4 q0 (.dK [])) pd (.dK (dV (os.take (i+1)) fun z=>V.ref (if z=u then q0 else ad z))) q=some (.lst (os.map V.str)):=by rw[zg (aC nq)];exact t0 _ _ Lf
    have BQ:upd (upd H4 q0 (.dK [])) pd (.dK (dV (os.take (i+1)) fun z=>V.ref (if z=u then q0 else ad z))) q0=some (.dK (dV [] ig)):=by rw[zg Ho,zd];rfl
    have rB:∀k∈os.take i,upd (upd H4 q0 (.dK [])) pd (.dK (dV (os.take (i+1)) fun z=>V.ref (if z=u then q0 else ad z))) (ad k)=some (.dK (dV (fY k) ig)):=fun k hk=>by rw[zg (je k hk).2.2.1];exact t0 _ _ (je k hk).1
    generalize upd (upd H4 q0 (.dK [])) pd (.dK (dV (os.take (i+1)) fun z=>V.ref (if z=u then q0 else ad z)))=H6 at q6 j9 QW BQ rB;have B6:=hB.same q6;have cZ:u∈os.take (i+1):=by rw[tk];simp
    refine⟨_,rfl,_,rfl,ps,_,rfl,B6.get c9,aB u,rfl,⟨_,aI.of (B6.l u c9)⟩,lQ (xs:=(bB u).map V.ref) (fun i' σ H'=>∃(v4 v5:Option V) (M:List Str),σ = [some (.ref p),some (.ref ps),some (.ref pd),some (.str u),v4,v5]/\ak H1 H'/\H' q=some (.lst (os.map V.str))/\H' pd=some (.dK (dV (os.take (i+1)) fun z=>V.ref (if z=u then q0 else ad z)))/\
      (∀k∈os.take i,H' (ad k)=some (.dK (dV (fY k) ig)))/\H' q0=some (.dK (dV M ig))/\M.Nodup/\∀y,y∈M↔∃l r,(l,r)∈(ln u).take i'/\(l=y\/kM ln l y))
     ⟨_,_,[],rfl,q6,QW,j9,rB,BQ,by simp,by simp⟩ (fun i' σ H' _ h=>by obtain⟨_,_,_,_,q,_⟩:=h;exact aI.of (q _ _ (hB.l u c9))) ?_ ?_⟩
    ·rintro i' v σ H7 hx ⟨v4,v5,M,rfl,q7,qc,m8,vH,Lh,Mn,Mm⟩;obtain⟨b,⟨l,r⟩,rfl,om,_,hb⟩:=vc (hB.same q7 |>.e u c9) hx;have Li:(l,r)∈ln u:=aZ om;have hl:l∈os.take i:=vF l r Li;have lu:l≠u:=fun z=>jc (z▸hl)
     obtain⟨_,nV,lF,K9,hln,BK⟩:=je l hl;have Lj:∀y∈M,y∈keys:=fun y hy=>by
      obtain⟨l',r',h1,h2⟩:=(Mm y).mp hy;have eT:=cl u c9 l' r' (jg h1);rcases h2 with rfl | ⟨j,_,h2⟩
      ·exact eT
      ·exact h2.inKeys cl eT
     have lM:M.length<=63:=cy (uw Mn Lj) lk;have qw:l∈keys:=cl u c9 l r Li;have lbl:(fY l).length<=63:=cy (uw hln fun y hy=>by
      obtain⟨j,_,h2⟩:=(BK y).mp hy;exact h2.inKeys cl qw) lk
     have g1:=cz.k (k:=Sum.inr u) m8;rw[pB cZ,av rfl] at g1;refine⟨b,_,rfl,bF.of hb,rfl,_,_,rfl,_,_,rfl,rfl,?_⟩
     try dsimp only [zw]
     refine⟨_,rfl,_,rfl,pd,_,rfl,g1,_,rfl,q0,_,rfl,eG.k (k:=Sum.inr l) Lh (by rw[jL];exact zx (by lia)),?_⟩;rw[OM];have q8:=q7.upd (o:=.dK (dV (fL M l) ig)) yU;have BN:upd H7 q0 (.dK (dV (fL M l) ig)) q=some (.lst (os.map V.str)):=by rw[zg (aC Lg)];exact qc
     have BR:upd H7 q0 (.dK (dV (fL M l) ig)) pd=some (.dK (dV (os.take (i+1)) fun z=>V.ref (if z=u then q0 else ad z))):=by rw[zg (aC Ho)];exact m8
     have ED:∀k∈os.take i,upd H7 q0 (.dK (dV (fL M l) ig)) (ad k)=some (.dK (dV (fY k) ig)):=fun k hk=>by rw[zg (EC k hk)];exact vH k hk
     have Ll:upd H7 q0 (.dK (dV (fL M l) ig)) q0=some (.dK (dV (fL M l) ig)):=zd;generalize upd H7 q0 (.dK (dV (fL M l) ig))=H8 at q8 BN BR ED Ll;have g2:=cz.k (k:=Sum.inr u) BR;rw[pB cZ,av rfl] at g2;have g3:=cz.k (k:=Sum.inr l) BR;rw[pB (show l∈os.take (i+1) by rw[tk];exact cT _ hl),aq lu] at g3;have lp:(fL M l).length<=64:=by
      unfold fL;split
      ·lia
      ·rw[bK];show M.length+1<=64;lia
     refine⟨_,rfl,_,rfl,pd,_,rfl,g2,.inr (.inr (.inl ⟨rfl,.inl ⟨_,Ll⟩⟩)),_,rfl,_,rfl,pd,_,rfl,g3,q0,ad l,_,_,rfl,rfl,aC (EC l hl),Ll,.inl (ED l hl),by rw[jL,jL];lia,?_⟩;rw[ON];refine⟨_,_,By (fL M l) (fY l),rfl,q8.upd yU,by rw[zg (aC Lg)];exact BN,by rw[zg (aC Ho)];exact BR,fun k hk=>by rw[zg (EC k hk)];exact ED k hk,zd,OL (JZ Mn),fun y=>?_⟩;rw[OJ,JY,Mm,BK,aQ,om];constructor
     ·rintro ((⟨l',r',h1,h2⟩ | rfl) | h)
      ·exact⟨l',r',cT _ h1,h2⟩
      ·exact⟨y,r,e8 _ (by simp),.inl rfl⟩
      ·exact⟨l,r,e8 _ (by simp),.inr h⟩
     ·rintro ⟨l',r',h1,h2⟩;rcases br.mp h1 with h1 | h1
      ·exact .inl (.inl ⟨l',r',h1,h2⟩)
      ·have h1:(l',r')=(l,r):=by simpa using h1
       cases h1;rcases h2 with rfl | h2
       ·exact .inl (.inr rfl)
       ·exact .inr h2
    ·rintro σ H7 ⟨v4,v5,M,rfl,q7,qc,m8,vH,Lh,Mn,Mm⟩;have lb:(bB u).length=(ln u).length:=Paired.length (hB.e u c9);rw[ay,lb,bD] at Mm;refine⟨_,_,_,fun z=>if z=u then M else fY z,fun z=>if z=u then q0 else ad z,rfl,q7,qc,m8,fun k hk=>?_,fun k hk k' fK e=>?_⟩
     ·rw[tk,br] at hk;dsimp only
      by_cases c:k=u
      ·rw[av c,av c];refine⟨Lh,yU,Ho,Lg,Mn,fun y=>?_⟩;rw[Mm,c];exact xH.symm
      ·rw[aq c,aq c];have fK:k∈os.take i:=hk.elim id fun z=>absurd (by simpa using z) c
       obtain⟨_,h2⟩:=je k fK;exact⟨vH k fK,h2⟩
     ·rw[tk,br] at hk fK;dsimp only at e
      by_cases c1:k=u<;>by_cases c2:k'=u
      ·rw[c1,c2]
      ·rw[av c1,aq c2] at e;exact absurd e.symm (EC k' (fK.elim id fun z=>absurd (by simpa using z) c2))
      ·rw[aq c1,av c2] at e;exact absurd e (EC k (hk.elim id fun z=>absurd (by simpa using z) c1))
      ·rw[aq c1,aq c2] at e;exact inj k (hk.elim id fun z=>absurd (by simpa using z) c1) k' (fK.elim id fun z=>absurd (by simpa using z) c2) e
  ·rintro σ H4 ⟨v3,v4,v5,fY,ad,rfl,q4,Lf,kg,je,inj⟩;rw[ay,bD] at kg je inj;refine OP (ad:=ad) (f:=fun k=>dV (fY k) ig) os H4 (fun k hk=>(je k hk).1) inj O.nd fun H5 obs h1 h2=>?_
   have gv:H5 pd=some (.dK (dV os fun k=>.ref (ad k))):=by rw[h2 pd fun k hk=>aC (je k hk).2.2.1];exact kg
   have q5:ak H1 H5:=fun b o e=>by
    rw[h2 b fun k hk z=>by rw[z,(je k hk).2.1] at e;cases e];exact q4 b o e
   refine .gp pd _ gv fun ob=>.go ⟨_,rfl,k pd ob os fY ad obs _ ((s1.trans q5).upd (s1.free gm)) (s1.free gm) ⟨zd,fun z hz=>?_⟩ pm fun z hz=>?_⟩
   ·rw[zg (je z hz).2.2.1];exact h1 z hz
   ·exact (je z ((EB z).mpr hz)).2.2.2.2
inductive qd (vs:List V) (H:Hp) (Q:VK):Prop
 | mk (pd:ah) (ob:Obj) (os:List Str) (fY:Str->List Str) (ad:Str->ah) (obs:Str->Obj) (u l:Str) (_:vs = [.ref pd,.str u,.str l]) (_:Dp H pd ob os fY ad obs) (_:u∈os) (_:(∀t∈fY u,t∈os)) (_:(fY u).length<=63) (_:∀H',ak H H'->Q (.bl ((fY u).any fun t=>decide (l∈fY t))) H')
def zn2:Sp:=fun vs H Q _=>qd vs H Q
theorem zgy (T:Tx K mg w C_Dig zn zp zi zr zq):fH P w K mg base "lies_between" ["depths","upper","lower"] 1 zn2:=by
 refine T.Z5.has zf8 (fun vs H Q E h=>?_) (fun f bY A outer s H vs Q E hr h=>?_)
 ·obtain⟨pd,ob,os,fY,ad,obs,u,l,rfl,_⟩:=h;rfl
 ·obtain⟨pd,ob,os,fY,ad,obs,u,l,rfl,hD,cZ,cl,lb,k⟩:=h;have hu:=k7 hr;refine⟨_,(zj (fG (k6 (Xl K rfl rfl) (by rfl) T.any PyProof.Rows.boot_any (zc (yz (own:=["third"]) (cap:=["lower","depths"]) (ix:=[2,0]) (pG:=zo (top 24)) rfl ⟨rfl,by decide +kernel,by decide +kernel,by decide +kernel,by decide +kernel⟩ rfl (wD (zy hu (pv 0) (pv 1) (fun _ _=>rfl))) (fun _ _ _ _=>sN (i:=0) (show List.Nodup (["third","lower","depths"]:List Str) by decide +kernel) rfl (Or.inl rfl)) (fun _ _ _ _=>xy) (fun _ _ _ _=>(Ml (Br hu (pv 1) (zy hu (pv 2) (pv 0) (fun _ _=>rfl)))))) zf)))),?_⟩;refine⟨_,rfl,_,rfl,pd,_,rfl,rW hD.d cZ,ad u,obs u,_,rfl,hD.e u cZ,fun D EE=>?_⟩;refine yF (JO (a:=ad u) (ob:=obs u) (kvs:=dV (fY u) ig)) (fun i aN ys H'=>∃w0,aN = [w0,some (.str l),some (.ref pd)]/\ys=(((fY u).take i).map fun t=>decide (l∈fY t)).map V.bl/\ak H H'/\H' D=some (.lst ys))
   ⟨none,rfl,by simp,ak.new EE,zd⟩ (fun i aN ys H' h=>?_) (by rw[ay,jL];exact qQ (by lia)) ?_ ?_
  ·obtain⟨_,_,rfl,q,hd⟩:=h;refine⟨q _ _ (hD.e u cZ),hd,?_⟩;rw[ay,ay,bI];lia
  ·rintro i v aN ys H' hx ⟨w0,rfl,rfl,q,hd⟩;have k8:=iV hx;rw[Gu,aX] at hx;cases et:(fY u)[i]? with
   | none=>rw[et] at hx;cases hx
   | some t=>
    rw[et] at hx;cases hx;have ht:=cl t (aZ et);have D':=hD.same q
    try dsimp only [zw]
    unfold pT;dsimp only;rw[av rfl];refine⟨_,rfl,_,rfl,_,rfl,pd,_,rfl,rW D'.d ht,ad t,_,rfl,Xp (D'.e t ht) l,hd,wz k8 ⟨_,rfl,?_,q.upd EE,zd⟩⟩;rw[aQ,et,aV,aV]
    congr 1
    show [V.bl (if l∈fY t then some (V.bl true) else none).isSome] = [V.bl (decide (l∈fY t))]
    by_cases c:l∈fY t
    ·rw[av c,aR c];rfl
    ·rw[aq c,bg c];rfl
  rintro aN ys H1 ⟨w0,rfl,rfl,q,hd⟩;rw[ay,jL,bD] at hd;refine⟨D,_,rfl,aI.of hd,?_⟩;rw[List.any_map];exact k _ q
inductive tW (vs:List V) (H:Hp) (Q:VK):Prop
 | mk (p pu pt:ah) (x y:V) (us:List Str) (az:List ah) (ts:List aS) (_:vs = [.ref p]) (_:nH K H p pu pt x y us az ts) (_:ts.length<=60) (_:iA (cX ts (ts.zip az)) (zk ts (aL us))) (_:∀(D:ah) (bs:List ah) (qs:List SS) (H':Hp),ak H H'->H D=none->H' D=some (.lst (bs.map V.ref))->Paired (fun a (p:SS)=>H' a=some (.tup [.str p.1,.str p.2])) bs qs->qs.Pairwise (fun a b=>gT a b=true)->qs.length<64->(∀p,p∈qs↔GI (cX ts (ts.zip az)) (zk ts (aL us)) p)->Q (.ref D) H')
def zt6:Sp:=fun vs H Q _=>tW (K:=K) vs H Q
theorem zxi (T:Tx K mg w C_Dig zn zp zi zr zq):fH P w K mg base "drawn" ["telling"] 9 (zt6 (K:=K)):=by
 refine T.Z4.has fE (fun vs H Q E h=>?_) (fun f bY A outer s H vs Q E hr h=>?_)
 ·obtain⟨p,pu,pt,x,y,us,az,ts,rfl,_⟩:=h;rfl
 ·obtain⟨p,pu,pt,x,y,us,az,ts,rfl,hT,QX,nr,k⟩:=h;have hu:=k7 hr;refine⟨_,(ze (sset (i:=1) fE.nd (cu (xX T) (zc (pv 0) zf)))
   (ze (sset (i:=2) fE.nd (cu (zij T) (zc (pv 0) zf)))
   (ze (sset (i:=3) fE.nd M0)
   (ze (iN bE rfl (wD (pv 1)) (fZ (i:=4) fE.nd) (zj (iN bE rfl (zz K rfl (zy hu (pv 1) (pv 4) (fun _ _=>rfl))) (wj K rfl rfl (nO (fZ (i:=5) fE.nd) (nO (fZ (i:=6) fE.nd) vW))) (zj (iM (Mr (Cf (cu (zgy T) (zc (pv 2) (zc (pv 4) (zc (pv 5) zf)))))) (zj (nR hu (pv 3) (jq (zc (pv 4) (zc (pv 5) zf))) wX rfl)) i6)))))
   (zj (fG (k6 (Xo (K:=K) rfl rfl) (by rfl) T.sorted qz (zc (pv 3) zf)))))))),?_⟩
  refine⟨_,rfl,p,pu,pt,x,y,us,az,ts,rfl,hT,fun ps QV aB bB H1 s1 Eu hB=>?_⟩;have lk:=hT.kK;have kn:=u9 (ts:=ts) hT.nd;have cl:=Gw (us:=us) (ts:=ts) (az:=az) hT.ends;have Lm:=fun (a b:Str)=>V9 (ts:=ts) (az:=az) hT.len (x:=a) (y:=b)
  have lkl:(qS ts).length<=60:=by
   have:(qS ts).length<=ts.length:=by unfold qS;rw[ay];exact fO _ _
   lia
  try dsimp only [zw]
  refine⟨_,rfl,p,pu,pt,x,y,us,az,ts,rfl,hT.same s1,nr,fun pd ob os fY ad obs H2 s2 sy hD pm qe=>?_⟩;generalize zk ts (aL us)=keys at hB lk k nr kn cl pm qe;generalize cX ts (ts.zip az)=ln at hB k nr cl qe Lm;generalize qS ts=lks at Lm lkl;have EB:∀z,z∈os↔z∈keys:=fun z=>pm.mem_iff
  have yc:∀u∈keys,∀t∈fY u,t∈keys:=fun u hu t ht=>by
   obtain⟨j,_,h⟩:=((qe u hu).2 t).mp ht;exact h.inKeys cl hu
  have btw:∀u∈keys,∀l,((fY u).any fun t=>decide (l∈fY t))=true↔∃t,kM ln u t/\kM ln t l:=fun u hu l=>by
   rw[gI];constructor
   ·rintro ⟨t,h1,h2⟩;exact⟨t,((qe u hu).2 t).mp h1,((qe t (yc u hu t h1)).2 l).mp (bC h2)⟩
   ·rintro ⟨t,h1,h2⟩;have wC:=((qe u hu).2 t).mpr h1;exact⟨t,wC,aR (((qe t (yc u hu t wC)).2 l).mpr h2)⟩
  try dsimp only [zw]
  refine fun pp Ey=>?_
  have s3:=ak.new (o:=.dT []) Ey;have B2:=hB.same s2;have bound:∀qs:List SS,qs.Nodup->(∀q∈qs,∃r,(q.2,r)∈ln q.1)->qs.length<=60:=fun qs n h=>by
   have:=OO (us:=lks) n fun q hq=>(Lm q.1 q.2).mpr (h q hq)
   lia
  refine⟨_,rfl,ps,QV,_,rfl,s3 _ _ B2.d,Ah (fun i σ H'=>∃(v4 v5 v6:Option V) (qs:List SS),σ = [some (.ref p),some (.ref ps),some (.ref pd),some (.ref pp),v4,v5,v6]/\ak H2 H'/\H' pp=some (.dT (dP qs))/\qs.Nodup/\∀q:SS,q∈qs↔q.1∈keys.take i/\(∃r,(q.2,r)∈ln q.1)/\¬∃t,kM ln q.1 t/\kM ln t q.2)
   ⟨none,none,none,[],rfl,s3,zd,by simp,by simp⟩ (fun i σ H' _ h=>by obtain⟨_,_,_,_,_,q,_⟩:=h;exact q _ _ B2.d) ?_ ?_⟩
  ·rintro i kk vv σ H4 hx ⟨v4,v5,v6,qs,rfl,q4,p9,qn,qm⟩;obtain⟨u,cZ,rfl,_⟩:=Ag hx;have c9:u∈keys:=aZ cZ;have jc:u ∉ keys.take i:=by
    have hi:=iV cZ;have:=u0 kn i hi;rw[show keys[i]=u from (bU.mp cZ).2] at this;exact this
   have B4:=B2.same q4
   try dsimp only [zw]
   refine⟨_,rfl,_,rfl,ps,_,rfl,B4.get c9,aB u,rfl,⟨_,aI.of (B4.l u c9)⟩,lQ (xs:=(bB u).map V.ref) (fun i' σ H'=>∃(v5 v6:Option V) (qs:List SS),σ = [some (.ref p),some (.ref ps),some (.ref pd),some (.ref pp),some (.str u),v5,v6]/\ak H2 H'/\H' pp=some (.dT (dP qs))/\qs.Nodup/\
     ∀q:SS,q∈qs↔(q.1∈keys.take i/\(∃r,(q.2,r)∈ln q.1)/\¬∃t,kM ln q.1 t/\kM ln t q.2)\/(q.1=u/\(∃r,(q.2,r)∈(ln u).take i')/\¬∃t,kM ln q.1 t/\kM ln t q.2))
    ⟨_,_,qs,rfl,q4,p9,qn,fun q=>by rw[qm];simp⟩ (fun i' σ H' _ h=>by obtain⟨_,_,_,_,q,_⟩:=h;exact aI.of ((B2.same q).l u c9)) ?_ ?_⟩
   ·clear qn qm p9;rintro i' v σ H5 hx ⟨v5,v6,qs,rfl,q5,Eh,qn,qm⟩;obtain⟨b,⟨l,r⟩,rfl,om,_,hb⟩:=vc ((B2.same q5).e u c9) hx;have Li:(l,r)∈ln u:=aZ om;have qin:∀q∈qs,∃r,(q.2,r)∈ln q.1:=fun q hq=>by
     rcases (qm q).mp hq with ⟨_,h,_⟩ | ⟨e,⟨r,h⟩,_⟩
     ·exact h
     ·exact⟨r,by rw[e];exact jg h⟩
    have lq:=bound qs qn qin;refine⟨b,_,rfl,bF.of hb,rfl,_,_,rfl,_,_,rfl,rfl,?_⟩
    try dsimp only [zw]
    have yW:∀q:SS,(q.1=u/\(∃r,(q.2,r)∈(ln u).take (i'+1))/\¬∃t,kM ln q.1 t/\kM ln t q.2)↔(q.1=u/\(∃r,(q.2,r)∈(ln u).take i')/\¬∃t,kM ln q.1 t/\kM ln t q.2)\/(q=(u,l)/\¬∃t,kM ln u t/\kM ln t l):=fun q=>by
     rw[aQ,om];constructor
     ·rintro ⟨e,⟨r',h⟩,n⟩;rcases br.mp h with h | h
      ·exact .inl ⟨e,⟨r',h⟩,n⟩
      ·have h:(q.2,r')=(l,r):=by simpa using h
       have h:=(Prod.mk.inj h).1;refine .inr ⟨Prod.ext e h,?_⟩;rw[←e,←h];exact n
     ·rintro (⟨e,⟨r',h⟩,n⟩ | ⟨rfl,n⟩)
      ·exact⟨e,⟨r',cT _ h⟩,n⟩
      ·exact⟨rfl,⟨r,e8 _ (by simp)⟩,n⟩
    have QY:=btw u c9 l;refine zZ (!((fY u).any fun t=>decide (l∈fY t))) (fun Q' hQ=>?_) (fun H6 s6=>?_)
    ·refine⟨_,rfl,_,rfl,_,rfl,pd,ob,os,fY,ad,obs,u,l,rfl,hD.same q5,(EB u).mpr c9,fun t ht=>(EB t).mpr (yc u c9 t ht),cy (uw (qe u c9).1 (yc u c9)) lk,fun H6 s6=>⟨_,rfl,?_⟩⟩;exact hQ _ s6
    ·have q6:=q5.trans s6;have QZ:=s6 _ _ Eh;refine dF (fun c=>?_) (fun c=>?_)
     ·have nb:¬∃t,kM ln u t/\kM ln t l:=fun z=>by rw[QY.mpr z] at c;cases c
      refine⟨_,rfl,_,rfl,_,rfl,(by show 2<=sizeLine;decide),fun b0 vE=>?_⟩;have t0:=ak.new (o:=.tup [.str u,.str l]) vE;refine⟨pp,_,rfl,eG.t (k:=[Sum.inr u,Sum.inr l]) (t0 _ _ QZ) zd (by unfold dP;rw[ay];exact zx (by lia)),?_⟩;rw[Xr (p:=(u,l))];refine⟨_,_,fL qs (u,l),rfl,(q6.trans t0).upd Ey,zd,JZ qn,fun q=>?_⟩;rw[JY,qm,yW];constructor
      ·rintro ((h | h) | rfl)
       ·exact .inl h
       ·exact .inr (.inl h)
       ·exact .inr (.inr ⟨rfl,nb⟩)
      ·rintro (h | h | ⟨rfl,_⟩)
       ·exact .inl (.inl h)
       ·exact .inl (.inr h)
       ·exact .inr rfl
     ·have yb:∃t,kM ln u t/\kM ln t l:=QY.mp (by simpa using c);refine⟨_,_,qs,rfl,q6,QZ,qn,fun q=>?_⟩;rw[qm,yW];constructor
      ·rintro (h | h)
       ·exact .inl h
       ·exact .inr (.inl h)
      ·rintro (h | h | ⟨_,n⟩)
       ·exact .inl h
       ·exact .inr h
       ·exact absurd yb n
   ·clear qn qm p9;rintro σ H5 ⟨v5,v6,qs,rfl,q5,Eh,qn,qm⟩;have lb:(bB u).length=(ln u).length:=Paired.length (hB.e u c9);rw[ay,lb,bD] at qm;refine⟨_,_,_,qs,rfl,q5,Eh,qn,fun q=>?_⟩;rw[qm,aQ,cZ];constructor
    ·rintro (⟨h1,h2⟩ | ⟨h1,h2⟩)
     ·exact⟨cT _ h1,h2⟩
     ·exact⟨e8 _ (by rw[h1];simp),by rw[←h1] at h2;exact h2⟩
    ·rintro ⟨h1,h2⟩;rcases br.mp h1 with h1 | h1
     ·exact .inl ⟨h1,h2⟩
     ·have h1:q.1=u:=by simpa using h1
      exact .inr ⟨h1,by rw[←h1];exact h2⟩
  ·rintro σ H4 ⟨v4,v5,v6,qs,rfl,q4,p9,qn,qm⟩;rw[jL,bD] at qm;have lq:=bound qs qn fun q hq=>((qm q).mp hq).2.1
   refine⟨_,rfl,pp,_,qs,rfl,.inl p9,Xq qs,qn,by lia,fun D bs rs EE pb Q0 up=>?_⟩;have t5:=ak.new (o:=.lst (bs.map V.ref)) EE;have q3:=s1.trans (s2.trans q4);refine k D bs rs _ (q3.trans t5) (q3.free EE) zd (Paired.gP pb fun a z e=>t5 _ _ e) up (by rw[Q0.length_eq];lia) fun z=>?_
   rw[Q0.mem_iff,qm];rfl
inductive yd (vs:List V) (H:Hp) (Q:VK):Prop
 | mk (r:ah) (t:aS) (us:List Str) (_:vs = [.ref r]) (_:H r=some (.tup (bP t))) (_:lS us t) (_:∀H',ak H H'->Q (.int (eX t)) H')
def zzv:Sp:=fun vs H Q _=>yd vs H Q
theorem Q2 (T:Tx K mg w C_Dig zn zp zi zr zq):fH P w K mg base "gap_of" ["tie"] 1 zzv:=by
 refine T.Z7.has zrj (fun vs H Q E h=>?_) (fun f bY A outer s H vs Q E hr h=>?_)
 ·obtain⟨r,t,us,rfl,_⟩:=h;rfl
 ·obtain⟨r,t,us,rfl,hr,tok,k⟩:=h;refine⟨_,(zj (fG (SM (iU vY (ck (zv K rfl) (pv 0) zm) jI (iy _)) (ck (zv K rfl) (pv 0) zm) zm))),?_⟩;refine⟨_,rfl,r,_,_,_,rfl,rfl,bF.of hr,Jx t,rfl,_,rfl,?_⟩;refine dF (fun c=>?_) (fun c=>?_)
  ·have c:t.k=Gx:=V.str.inj (bC c);exact⟨_,rfl,r,_,_,_,rfl,rfl,bF.of hr,tok.after c,k _ (ak.refl _)⟩
  ·have c:¬t.k=Gx:=fun z=>c (aR (bX V.str z))
   have:=k _ (ak.refl H);rw[tok.plain c] at this;exact this
inductive rC (vs:List V) (H:Hp) (Q:VK):Prop
 | mk (p pm pu pt pf:ah) (lo hi:Int) (us:List Str) (az:List ah) (ts:List aS) (af:List ah) (fs:List cI) (_:vs = [.ref p]) (_:iR K H p pm pu pt pf lo hi us az ts af fs) (_:∀(pd:ah) (ob:Obj) (ad:Str->ah) (H':Hp),ak H H'->H pd=none->Fw H' pd ob (zk ts (aL us)) (eK ts (fs.zip af)) ad->Q (.ref pd) H')
def zru:Sp:=fun vs H Q _=>rC (K:=K) vs H Q
theorem Q3 (T:Tx K mg w C_Dig zn zp zi zr zq):fH P w K mg base "finds_within" ["telling"] 4 (zru (K:=K)):=by
 refine T.Z8.has cO (fun vs H Q E h=>?_) (fun f bY A outer s H vs Q E hr h=>?_)
 ·obtain⟨p,pm,pu,pt,pf,lo,hi,us,az,ts,af,fs,rfl,_⟩:=h;rfl
 ·obtain⟨p,pm,pu,pt,pf,lo,hi,us,az,ts,af,fs,rfl,hF,k⟩:=h;have hu:=k7 hr;refine⟨_,(ze (sset (i:=1) cO.nd (cu (KY T) (zc (ck (zv K rfl) (pv 0) zm) (zc (ck (zv K rfl) (pv 0) zm) zf))))
   (ze (sset (i:=2) cO.nd pR)
   (ze (iN bE rfl (zz K rfl (cu (KZ T) (zc (ck (zv K rfl) (pv 0) zm) (zc (ck (zv K rfl) (pv 0) zm) zf)))) (fZ (i:=3) cO.nd) (zj (nR hu (pv 2) (ck (mO K rfl) (pv 3) zm) (iz zf) rfl)))
   (ze (iN bE rfl (zz K rfl (ck (zv K rfl) (pv 0) zm)) (fZ (i:=4) cO.nd) (zj (i7 (pV K rfl PySem.F.plainAttrs_list PySem.F.slot_list_append PySem.F.type_list_append pQ (zy hu (pv 2) (zy hu (pv 1) (ck (zv K rfl) (pv 4) zm) (fun _ _=>rfl)) (fun _ _=>rfl)) (zc (pv 4) zf)))))
   (zj (yI (fG (pv 2)))))))),?_⟩
  have lB:=hF.iu.ends;have hfl:=hF.j6;have EF:=hF.fl;have hfu:=hF.fu;have Q4:=hF.f;have EG:=hF.ft;obtain⟨hp,vC,nW,tp,nd,hl,tl,_⟩:=hF.iu;have hlen:az.length=ts.length:=by have:=tp.len;rw[ay] at this;exact this
  refine⟨_,rfl,p,_,_,_,rfl,rfl,hp,rfl,_,rfl,p,_,_,_,rfl,rfl,hp,rfl,pu,pt,us,az,ts,rfl,vC,nW,tp,nd,by lia,lB,fun pn H1 G6 hn s1=>?_⟩
  try dsimp only [zw]
  refine fun pd gm=>?_
  have s2:=ak.new (o:=.dK []) gm;have q2:=s1.trans s2;refine⟨_,rfl,p,_,_,_,rfl,rfl,q2.tup hp,rfl,_,rfl,p,_,_,_,rfl,rfl,q2.tup hp,rfl,pu,pt,us,az,ts,rfl,q2.seq vC,q2.seq nW,tp.same q2,nd,hl,lB,fun po as H3 AG fas En K2 tR Eo s3=>?_⟩;have G7:=s3 _ _ (s2 _ _ hn);have gX:=s3 _ _ (zd (H:=H1) (a:=pd) (o:=.dK []));have q3:=q2.trans s3;have sy:H pd=none:=s1.free gm;have G8:pn≠pd:=zh hn gm;have lk:as.length=(zk ts (aL us)).length:=by have:=Paired.length Eo;unfold mS at this;rw[ay] at this;exact this
  have AH:(zk ts (aL us)).length<=63:=by
   have:=JG (us:=us) (ts:=ts) nd;unfold mS at this;rw[ay] at this;lia
  have hz:∀{i:Nat}{f:cI}{r:ah},fs[i]? = some f->af[i]? = some r->(fs.zip af)[i]? = some (f,r):=fun h1 h2=>jf.mpr ⟨h1,h2⟩
  generalize ek:zk ts (aL us)=keys at lk AH k;have knd:keys.Nodup:=ek▸u9 nd;have K3:mS us ts=keys.map (nU ts (aL us)):=by unfold mS;rw[ek]
  refine⟨po,rfl,⟨_,aI.of tR⟩,lQ (xs:=as.map V.ref) (fun i σ H'=>∃(v3:Option V) (ad:Str->ah),σ = [some (.ref p),some (.ref pn),some (.ref pd),v3,none]/\(∀b o,b≠pd->H3 b=some o->H' b=some o)/\
   H' pd=some (.dK (dV (keys.take i) fun k=>.ref (ad k)))/\(∀k∈keys.take i,H' (ad k)=some (.lst [])/\H3 (ad k)=none)/\(∀k∈keys.take i,∀k'∈keys.take i,ad k=ad k'->k=k'))
   ⟨none,fun _=>0,rfl,fun b o _ e=>e,gX,(fun k hk=>by simp at hk),fun k hk=>by simp at hk⟩ (fun i σ H' _ h=>by obtain⟨_,_,_,q,_⟩:=h;exact aI.of (q _ _ (lO tR gX (by simp)) tR)) ?_ ?_⟩
  ·rintro i v σ H4 hx ⟨v3,ad,rfl,kp,kg,je,inj⟩;obtain⟨r,g,rfl,hg,Ep,hr⟩:=vc Eo hx;rw[K3,aX] at hg;cases eu:keys[i]? with
   | none=>rw[eu] at hg;cases hg
   | some u=>
    rw[eu] at hg;cases hg;have cZ:u∈keys:=aZ eu;have hi:=iV eu;have jc:u ∉ keys.take i:=by
     have:=u0 knd i hi;rw[show keys[i]=u from (bU.mp eu).2] at this;exact this
    obtain⟨gr,K7⟩:=Of (us:=us) (ts:=ts) nd (k:=u) (ek▸cZ);rw[K7] at hr;have Er:=kp _ _ (lO hr gX (by simp)) hr
    try dsimp only [zw]
    refine⟨by decide,fun q0 aT=>?_⟩;have t0:=ak.new (o:=.lst []) aT;have gv:=t0 _ _ kg;have nq:pd≠q0:=zh kg aT;refine⟨_,rfl,_,rfl,r,_,_,_,rfl,rfl,aI.of (t0 _ _ Er),Gb,pd,_,rfl,eG.k (k:=Sum.inr u) gv (by rw[jL,bI];exact zx (by lia)),?_⟩;have fq:H3 q0=none:=by
     cases e:H3 q0 with
     | none=>rfl
     | some o=>rw[kp _ _ (aC nq) e] at aT;cases aT
    refine⟨_,fun z=>if z=u then q0 else ad z,rfl,fun b o n e=>by rw[zg n];exact t0 _ _ (kp b o n e),?_,?_,?_⟩
    ·rw[zd,wB jc,aQ,eu]
     congr 2
     refine sW fun z hz=>?_
     dsimp only
     by_cases e:z=u
     ·rw[av e,av e]
     ·rw[aq e,aq e]
    ·intro k hk;rw[aQ,eu,br] at hk;dsimp only
     by_cases e:k=u
     ·rw[av e];exact⟨by rw[zg (aC nq),zd],fq⟩
     ·rw[aq e];have fK:k∈keys.take i:=hk.elim id fun z=>absurd (by simpa using z) e
      obtain⟨h1,h2⟩:=je k fK;refine⟨?_,h2⟩;rw[zg (fun z=>by rw[z,kg] at h1;cases h1)];exact t0 _ _ h1
    ·intro k hk k' fK e;rw[aQ,eu,br] at hk fK;dsimp only at e
     by_cases c1:k=u<;>by_cases c2:k'=u
     ·rw[c1,c2]
     ·rw[av c1,aq c2] at e;have h2:=(je k' (fK.elim id fun z=>absurd (by simpa using z) c2)).1;rw[←e,aT] at h2;cases h2
     ·rw[aq c1,av c2] at e;have h2:=(je k (hk.elim id fun z=>absurd (by simpa using z) c1)).1;rw[e,aT] at h2;cases h2
     ·rw[aq c1,aq c2] at e;exact inj k (hk.elim id fun z=>absurd (by simpa using z) c1) k' (fK.elim id fun z=>absurd (by simpa using z) c2) e
  ·rintro σ H4 ⟨v3,ad,rfl,kp,kg,je,inj⟩;rw[ay,lk,bD] at kg je inj;have xY:∀{H':Hp},(∀b o,b≠pd->H3 b=some o->H' b=some o)->ak H H':=fun C8 b o e=>C8 b o (zh e sy) (q3 _ _ e)
   have q4:=xY kp;refine⟨_,rfl,p,_,_,_,rfl,rfl,q4.tup hp,rfl,pf,rfl,⟨_,q4.seq Q4⟩,lQ (xs:=af.map V.ref) (fun i σ H'=>∃(v4:Option V),σ = [some (.ref p),some (.ref pn),some (.ref pd),v3,v4]/\(∀b o,b≠pd->H3 b=some o->H' b=some o)/\
    H' pd=some (.dK (dV keys fun k=>.ref (ad k)))/\∀k∈keys,H' (ad k)=some (.lst ((eK ts ((fs.zip af).take i) k).map fun p=>V.ref p.2)))
    ⟨none,rfl,kp,kg,fun k hk=>by rw[List.take_zero];exact (je k hk).1⟩ (fun i σ H' _ h=>by obtain⟨_,_,q,_⟩:=h;exact (xY q).seq Q4) ?_ ?_⟩
   ·rintro i x σ H5 hx ⟨v4,rfl,kh,gv,nM⟩;obtain⟨r,f,rfl,hf,Ep,hr⟩:=Jw EG hx;have q5:=xY kh;have uD:=q5 _ _ hr;have nE:=hfu f (aZ hf);have hit:=iV hf;have G9:=hz hf Ep;have g1:=cz.k (k:=Sum.inr f.u) (kh _ _ G8 G7);rw[Ac nE] at g1;have xZ:aO ts f.u∈keys:=ek▸Dt lB nE;have g3:=cz.k (k:=Sum.inr (aO ts f.u)) gv;rw[pB xZ] at g3;have qa:=nM _ xZ;have lb:(eK ts ((fs.zip af).take i) (aO ts f.u)).length<=60:=by
     have h2:=JP (ts:=ts) (z:=(fs.zip af).take i) (k:=aO ts f.u);rw[bI,ia] at h2;lia
    try dsimp only [zw]
    refine⟨_,rfl,_,rfl,_,rfl,r,_,_,_,rfl,rfl,bF.of uD,WU f,pn,_,rfl,g1,pd,_,rfl,g3,?_⟩;refine⟨.inl ⟨rfl,_,aI.of qa⟩,_,rfl,ad (aO ts f.u),_,_,rfl,rfl,qa,by rw[ay];exact zx (by lia),?_⟩;refine⟨_,rfl,fun b o n e=>?_,?_,fun k hk=>?_⟩
    ·rw[zg (fun z=>by rw[z,(je _ xZ).2] at e;cases e)];exact kh b o n e
    ·rw[zg (fun z=>by rw[←z,gv] at qa;cases qa)];exact gv
    ·rw[WX G9]
     by_cases e:aO ts f.u=k
     ·subst e;rw[av rfl,zd,aV];rfl
     ·rw[aq e,dg,zg (fun z=>e (inj _ xZ _ hk z.symm))];exact nM k hk
   ·rintro σ H5 ⟨v4,rfl,kh,gv,nM⟩;rw[ay] at nM;have ez:(fs.zip af).take af.length=fs.zip af:=ki (by rw[ia];lia);rw[ez] at nM;refine .inr ⟨pd,_,gv,fun ob=>⟨_,rfl,k pd ob ad _ ?_ sy ⟨zd,fun k hk=>?_⟩⟩⟩
    ·exact (xY kh).upd sy
    ·have b1:=nM k hk;rw[zg (fun z=>by rw[z,gv] at b1;cases b1)];exact b1
inductive rD (vs:List V) (H:Hp) (Q:VK):Prop
 | mk (p pm pu pt pf:ah) (lo hi:Int) (us:List Str) (az:List ah) (ts:List aS) (af:List ah) (fs:List cI) (_:vs = [.ref p]) (_:iR K H p pm pu pt pf lo hi us az ts af fs) (_:∀(pd:ah) (ob:Obj) (v:Str->IS) (ad:Str->ah) (H':Hp),ak H H'->H pd=none->Bd H' pd ob (zk ts (aL us)) v ad->(∀k∈zk ts (aL us),xE (wG lo (eK ts (fs.zip af) k)) (v k))->Q (.ref pd) H')
def zrv:Sp:=fun vs H Q _=>rD (K:=K) vs H Q
theorem Q5 (T:Tx K mg w C_Dig zn zp zi zr zq):fH P w K mg base "floors" ["telling"] 5 (zrv (K:=K)):=by
 refine T.Z9.has iZ (fun vs H Q E h=>?_) (fun f bY A outer s H vs Q E hr h=>?_)
 ·obtain⟨p,pm,pu,pt,pf,lo,hi,us,az,ts,af,fs,rfl,_⟩:=h;rfl
 ·obtain⟨p,pm,pu,pt,pf,lo,hi,us,az,ts,af,fs,rfl,hF,k⟩:=h;have hu:=k7 hr;refine⟨_,(ze (sset (i:=1) iZ.nd (cu (Q3 T) (zc (pv 0) zf)))
   (ze (sset (i:=2) iZ.nd pR)
   (ze (iN bE rfl (wD (pv 1)) (fZ (i:=3) iZ.nd) (zj (nR hu (pv 2) (pv 3) (k6 (WO (K:=K) rfl rfl hu) (by rfl) T.max PyProof.Rows.boot_max (zc (fJ Bo (iz (zc (jq (zc (ck (zv K rfl) (ck (zv K rfl) (pv 0) zm) zm) (zc jI zf))) zf)) (yz (own:=["find"]) (cap:=[]) (ix:=[]) (pG:=zo (top 30)) rfl ⟨rfl,by decide +kernel,by decide +kernel,by decide +kernel,by decide +kernel⟩ rfl (zz K rfl (zy hu (pv 1) (pv 3) (fun _ _=>rfl))) (fun _ _ _ _=>sN (i:=0) (show List.Nodup (["find"]:List Str) by decide +kernel) rfl (Or.inl rfl)) (fun _ _ _ _=>xy) (fun _ _ _ _=>(jq (zc (ck (zv K rfl) (pv 0) zm) (zc (ck (zv K rfl) (pv 0) zm) zf)))))) zf)) rfl)))
   (zj (yI (fG (pv 2))))))),?_⟩
  have nd:=hF.iu.nd;have lk:=hF.iu.kK;have EF:=hF.fl;have EG:=hF.ft;refine⟨_,rfl,p,pm,pu,pt,pf,lo,hi,us,az,ts,af,fs,rfl,hF,fun pw ow aw H1 s1 fpw hW=>?_⟩;have knd:=u9 (ts:=ts) nd;have EH:∀k,(eK ts (fs.zip af) k).length<=60:=fun k=>by
   have h2:=JP (ts:=ts) (z:=fs.zip af) (k:=k);rw[ia] at h2;lia
  have EI:∀k,∀q∈eK ts (fs.zip af) k,H q.2=some (.tup (gk q.1)):=fun k q hq=>by
   have:=(cL.mp hq).1;obtain⟨i,hi⟩:=e9.mp this;obtain⟨h1,h2⟩:=jf.mp hi;exact uz EG h2 (by rw[aX,h1];rfl)
  generalize zk ts (aL us)=keys at hW lk k knd;generalize eK ts (fs.zip af)=fw at hW k EH EI
  try dsimp only [zw]
  refine fun pd gm=>?_
  have s2:=ak.new (o:=.dK []) gm;refine⟨_,rfl,pw,ow,_,rfl,s2 _ _ hW.d,Ah (fun i σ H'=>∃(v3:Option V) (v:Str->IS) (ad:Str->ah),σ = [some (.ref p),some (.ref pw),some (.ref pd),v3]/\ak H1 H'/\H' pd=some (.dK (dV (keys.take i) fun k=>.ref (ad k)))/\
    ∀k∈keys.take i,H' (ad k)=some (.tup [.int (v k).1,.str (v k).2])/\xE (wG lo (fw k)) (v k))
   ⟨none,fun _=>(0,""),fun _=>0,rfl,s2,zd,fun k hk=>by simp at hk⟩ (fun i σ H' _ h=>by obtain⟨_,_,_,_,q,_⟩:=h;exact q _ _ hW.d) ?_ ?_⟩
  ·rintro i kk vv σ H3 hx ⟨v3,v,ad,rfl,q3,gX,m9⟩;obtain⟨u,cZ,rfl,_⟩:=Ag hx;have c9:u∈keys:=aZ cZ;have F3:=hF.same (s1.trans q3);have W3:=hW.same q3
   try dsimp only [zw]
   refine⟨_,rfl,p,_,_,_,rfl,rfl,F3.iu.p,rfl,pm,_,_,_,rfl,rfl,F3.m,rfl,(by show 2<=sizeLine;decide),fun b0 vE=>?_⟩;have t1:=ak.new (o:=.tup [.int lo,.str ""]) vE;refine⟨by show 1<=sizeLine;decide,fun l0 yV=>?_⟩;have t2:=ak.new (o:=.lst [.ref b0]) yV;have q5:=q3.trans (t1.trans t2);have nM:=t2 _ _ (zd (H:=H3) (a:=b0) (o:=.tup [.int lo,.str ""]));have ye:upd (upd H3 b0 (.tup [.int lo,.str ""])) l0 (.lst [.ref b0]) l0=some (.lst [.ref b0]):=zd;have EJ:=t1.trans t2;generalize upd (upd H3 b0 (.tup [.int lo,.str ""])) l0 (.lst [.ref b0])=H5 at q5 nM ye t2 EJ;have W5:=hW.same q5;have lL:=EH u;have tL:=EI u;have AM:=W5.l u c9;generalize eL:fw u=L at lL tL AM;refine⟨_,rfl,_,rfl,pw,_,rfl,rW W5.d c9,aw u,rfl,⟨_,aI.of AM⟩,fun D hD=>?_⟩;refine yF (C6 (K:=K) (a:=aw u) (xs:=L.map fun p=>V.ref p.2)) (fun i' aN ys H'=>∃(w0:Option V) (bs:List ah),aN = [w0]/\ys=bs.map V.ref/\Paired (fun a (p:IS)=>H' a=some (.tup [.int p.1,.str p.2])) bs ((L.take i').map fun p=>(p.1.lo,p.1.n))/\ak H5 H'/\H' D=some (.lst ys))
    ⟨none,[],rfl,rfl,.nil,ak.new hD,zd⟩ (fun i' aN ys H' h=>?_) (by rw[ay];exact qQ (by lia)) ?_ ?_
   ·obtain⟨_,bs,_,rfl,pb,q,hd⟩:=h;refine⟨aI.of (q _ _ AM),hd,?_⟩;have:=Paired.length pb;rw[ay,bI] at this;rw[ay];lia
   ·rintro i' v' aN ys H' hx ⟨w0,bs,rfl,rfl,pb,q,hd⟩;have k8:=iV hx;rw[aX] at hx;cases ef:L[i']? with
    | none=>rw[ef] at hx;cases hx
    | some f=>
     rw[ef] at hx;cases hx;have hf:=q _ _ (q5 _ _ (s1 _ _ (tL f (aZ ef))))
     try dsimp only [zw]
     unfold pT;dsimp only;rw[av rfl];refine⟨_,rfl,f.2,_,_,_,rfl,rfl,bF.of hf,WV f.1,_,rfl,f.2,_,_,_,rfl,rfl,bF.of hf,Ou f.1,(by show 2<=sizeLine;decide),fun b1 qa=>?_⟩;have w1:=ak.new (o:=.tup [.int f.1.lo,.str f.1.n]) qa;have pD:=w1 _ _ hd;refine⟨pD,wz k8 ⟨_,bs++[b1],rfl,by rw[aV];rfl,?_,(q.trans w1).upd hD,zd⟩⟩;rw[aQ,ef,aV];exact Paired.snoc (Paired.gP pb fun a z e=>rT pD _ _ (w1 _ _ e)) (rT pD _ _ zd)
   rintro aN ys H6 ⟨w0,bs,rfl,rfl,pb,t6,j9⟩;rw[ay,bD] at pb;have lb:=Paired.length pb;rw[ay] at lb;have Lo:=t6 _ _ ye;refine⟨l0,D,_,_,rfl,rfl,Lo,j9,by rw[ay];exact qQ (show 1+_<=1000 by lia),fun l hl=>?_⟩;have t7:=ak.new (o:=.lst ([V.ref b0]++bs.map V.ref)) hl;have pr:Paired (fun a (p:IS)=>H6 a=some (.tup [.int p.1,.str p.2])) (b0::bs) (wG lo L):=.cons (t6 _ _ nM) pb;have EK:=Paired.gP pr fun a z e=>t7 _ _ e
   refine⟨l,b0::bs,wG lo L,rfl,aI.of zd,Paired.gP EK fun a z e=>bF.of e,by unfold wG;simp,fun j a m ha hm AN=>?_⟩;have Eg:=uz EK ha hm;have q7:=q5.trans (t6.trans t7);have EL:=EJ.trans (t6.trans t7);have m8:=EL _ _ gX;have jc:u ∉ keys.take i:=by
    have hi:=iV cZ;have:=u0 knd i hi;rw[show keys[i]=u from (bU.mp cZ).2] at this;exact this
   refine⟨_,rfl,_,rfl,pd,_,rfl,eG.k (k:=Sum.inr u) m8 (by rw[jL,bI];exact zx (by lia)),?_⟩;have EM:∀b vs,upd H6 l (.lst ([V.ref b0]++bs.map V.ref)) b=some (.tup vs)->upd (upd H6 l (.lst ([V.ref b0]++bs.map V.ref))) pd (.dK (putK (dV (keys.take i) fun k=>.ref (ad k)) (Sum.inr u) (.ref a))) b=some (.tup vs):=fun b vs e=>by
    rw[zg (lO e m8 (by intro z;cases z))];exact e
   refine⟨_,fun z=>if z=u then m else v z,fun z=>if z=u then a else ad z,rfl,q7.upd gm,?_,fun k hk=>?_⟩
   ·rw[zd,wB jc,aQ,cZ]
    congr 2
    refine sW fun z hz=>?_
    try dsimp only
    by_cases e:z=u
    ·rw[av e,av e]
    ·rw[aq e,aq e]
   ·rw[aQ,cZ,br] at hk
    try dsimp only
    by_cases e:k=u
    ·rw[av e,av e];refine⟨EM _ _ Eg,?_⟩;rw[e,eL];exact⟨aZ hm,AN⟩
    ·rw[aq e,aq e];obtain⟨h1,h2⟩:=m9 k (hk.elim id fun z=>absurd (by simpa using z) e);exact⟨EM _ _ (EL _ _ h1),h2⟩
  ·rintro σ H3 ⟨v3,v,ad,rfl,q3,gX,m9⟩;rw[jL,bD] at gX m9;refine .inr ⟨pd,_,gX,fun ob=>⟨_,rfl,k pd ob v ad _ ((s1.trans q3).upd (s1.free gm)) (s1.free gm) ⟨zd,fun k hk=>?_⟩ fun k hk=>(m9 k hk).2⟩⟩;have b1:=(m9 k hk).1;rw[zg (fun z=>by rw[z,gX] at b1;cases b1)];exact b1
inductive vJ (vs:List V) (H:Hp) (Q:VK):Prop
 | mk (p pm pu pt pf:ah) (lo hi:Int) (us:List Str) (az:List ah) (ts:List aS) (af:List ah) (fs:List cI) (_:vs = [.ref p]) (_:iR K H p pm pu pt pf lo hi us az ts af fs) (_:∀(pd:ah) (ob:Obj) (v:Str->IS) (ad:Str->ah) (H':Hp),ak H H'->H pd=none->Bd H' pd ob (zk ts (aL us)) v ad->(∀k∈zk ts (aL us),xF (wH hi (eK ts (fs.zip af) k)) (v k))->Q (.ref pd) H')
def zxj:Sp:=fun vs H Q _=>vJ (K:=K) vs H Q
theorem Q6 (T:Tx K mg w C_Dig zn zp zi zr zq):fH P w K mg base "ceilings" ["telling"] 5 (zxj (K:=K)):=by
 refine T.zoa.has f9 (fun vs H Q E h=>?_) (fun f bY A outer s H vs Q E hr h=>?_)
 ·obtain⟨p,pm,pu,pt,pf,lo,hi,us,az,ts,af,fs,rfl,_⟩:=h;rfl
 ·obtain⟨p,pm,pu,pt,pf,lo,hi,us,az,ts,af,fs,rfl,hF,k⟩:=h;have hu:=k7 hr;refine⟨_,(ze (sset (i:=1) f9.nd (cu (Q3 T) (zc (pv 0) zf)))
   (ze (sset (i:=2) f9.nd pR)
   (ze (iN bE rfl (wD (pv 1)) (fZ (i:=3) f9.nd) (zj (nR hu (pv 2) (pv 3) (k6 (WT (K:=K) rfl rfl hu) (by rfl) T.min qF (zc (fJ Bo (iz (zc (jq (zc (ck (zv K rfl) (ck (zv K rfl) (pv 0) zm) zm) (zc jI zf))) zf)) (yz (own:=["find"]) (cap:=[]) (ix:=[]) (pG:=zo (top 31)) rfl ⟨rfl,by decide +kernel,by decide +kernel,by decide +kernel,by decide +kernel⟩ rfl (zz K rfl (zy hu (pv 1) (pv 3) (fun _ _=>rfl))) (fun _ _ _ _=>sN (i:=0) (show List.Nodup (["find"]:List Str) by decide +kernel) rfl (Or.inl rfl)) (fun _ _ _ _=>xy) (fun _ _ _ _=>(jq (zc (ck (zv K rfl) (pv 0) zm) (zc (ck (zv K rfl) (pv 0) zm) zf)))))) zf)) rfl)))
   (zj (yI (fG (pv 2))))))),?_⟩
  have nd:=hF.iu.nd;have lk:=hF.iu.kK;have EF:=hF.fl;have EG:=hF.ft;refine⟨_,rfl,p,pm,pu,pt,pf,lo,hi,us,az,ts,af,fs,rfl,hF,fun pw ow aw H1 s1 fpw hW=>?_⟩;have knd:=u9 (ts:=ts) nd;have EH:∀k,(eK ts (fs.zip af) k).length<=60:=fun k=>by
   have h2:=JP (ts:=ts) (z:=fs.zip af) (k:=k);rw[ia] at h2;lia
  have EI:∀k,∀q∈eK ts (fs.zip af) k,H q.2=some (.tup (gk q.1)):=fun k q hq=>by
   have:=(cL.mp hq).1;obtain⟨i,hi⟩:=e9.mp this;obtain⟨h1,h2⟩:=jf.mp hi;exact uz EG h2 (by rw[aX,h1];rfl)
  generalize zk ts (aL us)=keys at hW lk k knd;generalize eK ts (fs.zip af)=fw at hW k EH EI
  try dsimp only [zw]
  refine fun pd gm=>?_
  have s2:=ak.new (o:=.dK []) gm;refine⟨_,rfl,pw,ow,_,rfl,s2 _ _ hW.d,Ah (fun i σ H'=>∃(v3:Option V) (v:Str->IS) (ad:Str->ah),σ = [some (.ref p),some (.ref pw),some (.ref pd),v3]/\ak H1 H'/\H' pd=some (.dK (dV (keys.take i) fun k=>.ref (ad k)))/\
    ∀k∈keys.take i,H' (ad k)=some (.tup [.int (v k).1,.str (v k).2])/\xF (wH hi (fw k)) (v k))
   ⟨none,fun _=>(0,""),fun _=>0,rfl,s2,zd,fun k hk=>by simp at hk⟩ (fun i σ H' _ h=>by obtain⟨_,_,_,_,q,_⟩:=h;exact q _ _ hW.d) ?_ ?_⟩
  ·rintro i kk vv σ H3 hx ⟨v3,v,ad,rfl,q3,gX,m9⟩;obtain⟨u,cZ,rfl,_⟩:=Ag hx;have c9:u∈keys:=aZ cZ;have F3:=hF.same (s1.trans q3);have W3:=hW.same q3
   try dsimp only [zw]
   refine⟨_,rfl,p,_,_,_,rfl,rfl,F3.iu.p,rfl,pm,_,_,_,rfl,rfl,F3.m,rfl,(by show 2<=sizeLine;decide),fun b0 vE=>?_⟩;have t1:=ak.new (o:=.tup [.int hi,.str ""]) vE;refine⟨by show 1<=sizeLine;decide,fun l0 yV=>?_⟩;have t2:=ak.new (o:=.lst [.ref b0]) yV;have q5:=q3.trans (t1.trans t2);have nM:=t2 _ _ (zd (H:=H3) (a:=b0) (o:=.tup [.int hi,.str ""]));have ye:upd (upd H3 b0 (.tup [.int hi,.str ""])) l0 (.lst [.ref b0]) l0=some (.lst [.ref b0]):=zd;have EJ:=t1.trans t2;generalize upd (upd H3 b0 (.tup [.int hi,.str ""])) l0 (.lst [.ref b0])=H5 at q5 nM ye t2 EJ;have W5:=hW.same q5;have lL:=EH u;have tL:=EI u;have AM:=W5.l u c9;generalize eL:fw u=L at lL tL AM;refine⟨_,rfl,_,rfl,pw,_,rfl,rW W5.d c9,aw u,rfl,⟨_,aI.of AM⟩,fun D hD=>?_⟩;refine yF (C6 (K:=K) (a:=aw u) (xs:=L.map fun p=>V.ref p.2)) (fun i' aN ys H'=>∃(w0:Option V) (bs:List ah),aN = [w0]/\ys=bs.map V.ref/\Paired (fun a (p:IS)=>H' a=some (.tup [.int p.1,.str p.2])) bs ((L.take i').map fun p=>(p.1.hi,p.1.n))/\ak H5 H'/\H' D=some (.lst ys))
    ⟨none,[],rfl,rfl,.nil,ak.new hD,zd⟩ (fun i' aN ys H' h=>?_) (by rw[ay];exact qQ (by lia)) ?_ ?_
   ·obtain⟨_,bs,_,rfl,pb,q,hd⟩:=h;refine⟨aI.of (q _ _ AM),hd,?_⟩;have:=Paired.length pb;rw[ay,bI] at this;rw[ay];lia
   ·rintro i' v' aN ys H' hx ⟨w0,bs,rfl,rfl,pb,q,hd⟩;have k8:=iV hx;rw[aX] at hx;cases ef:L[i']? with
    | none=>rw[ef] at hx;cases hx
    | some f=>
     rw[ef] at hx;cases hx;have hf:=q _ _ (q5 _ _ (s1 _ _ (tL f (aZ ef))))
     try dsimp only [zw]
     unfold pT;dsimp only;rw[av rfl];refine⟨_,rfl,f.2,_,_,_,rfl,rfl,bF.of hf,WW f.1,_,rfl,f.2,_,_,_,rfl,rfl,bF.of hf,Ou f.1,(by show 2<=sizeLine;decide),fun b1 qa=>?_⟩;have w1:=ak.new (o:=.tup [.int f.1.hi,.str f.1.n]) qa;have pD:=w1 _ _ hd;refine⟨pD,wz k8 ⟨_,bs++[b1],rfl,by rw[aV];rfl,?_,(q.trans w1).upd hD,zd⟩⟩;rw[aQ,ef,aV];exact Paired.snoc (Paired.gP pb fun a z e=>rT pD _ _ (w1 _ _ e)) (rT pD _ _ zd)
   rintro aN ys H6 ⟨w0,bs,rfl,rfl,pb,t6,j9⟩;rw[ay,bD] at pb;have lb:=Paired.length pb;rw[ay] at lb;have Lo:=t6 _ _ ye;refine⟨l0,D,_,_,rfl,rfl,Lo,j9,by rw[ay];exact qQ (show 1+_<=1000 by lia),fun l hl=>?_⟩;have t7:=ak.new (o:=.lst ([V.ref b0]++bs.map V.ref)) hl;have pr:Paired (fun a (p:IS)=>H6 a=some (.tup [.int p.1,.str p.2])) (b0::bs) (wH hi L):=.cons (t6 _ _ nM) pb;have EK:=Paired.gP pr fun a z e=>t7 _ _ e
   refine⟨l,b0::bs,wH hi L,rfl,aI.of zd,Paired.gP EK fun a z e=>bF.of e,by unfold wH;simp,fun j a m ha hm AN=>?_⟩;have Eg:=uz EK ha hm;have q7:=q5.trans (t6.trans t7);have EL:=EJ.trans (t6.trans t7);have m8:=EL _ _ gX;have jc:u ∉ keys.take i:=by
    have hi:=iV cZ;have:=u0 knd i hi;rw[show keys[i]=u from (bU.mp cZ).2] at this;exact this
   refine⟨_,rfl,_,rfl,pd,_,rfl,eG.k (k:=Sum.inr u) m8 (by rw[jL,bI];exact zx (by lia)),?_⟩;have EM:∀b vs,upd H6 l (.lst ([V.ref b0]++bs.map V.ref)) b=some (.tup vs)->upd (upd H6 l (.lst ([V.ref b0]++bs.map V.ref))) pd (.dK (putK (dV (keys.take i) fun k=>.ref (ad k)) (Sum.inr u) (.ref a))) b=some (.tup vs):=fun b vs e=>by
    rw[zg (lO e m8 (by intro z;cases z))];exact e
   refine⟨_,fun z=>if z=u then m else v z,fun z=>if z=u then a else ad z,rfl,q7.upd gm,?_,fun k hk=>?_⟩
   ·rw[zd,wB jc,aQ,cZ]
    congr 2
    refine sW fun z hz=>?_
    try dsimp only
    by_cases e:z=u
    ·rw[av e,av e]
    ·rw[aq e,aq e]
   ·rw[aQ,cZ,br] at hk
    try dsimp only
    by_cases e:k=u
    ·rw[av e,av e];refine⟨EM _ _ Eg,?_⟩;rw[e,eL];exact⟨aZ hm,AN⟩
    ·rw[aq e,aq e];obtain⟨h1,h2⟩:=m9 k (hk.elim id fun z=>absurd (by simpa using z) e);exact⟨EM _ _ (EL _ _ h1),h2⟩
  ·rintro σ H3 ⟨v3,v,ad,rfl,q3,gX,m9⟩;rw[jL,bD] at gX m9;refine .inr ⟨pd,_,gX,fun ob=>⟨_,rfl,k pd ob v ad _ ((s1.trans q3).upd (s1.free gm)) (s1.free gm) ⟨zd,fun k hk=>?_⟩ fun k hk=>(m9 k hk).2⟩⟩;have b1:=(m9 k hk).1;rw[zg (fun z=>by rw[z,gX] at b1;cases b1)];exact b1
theorem zrw {H H':Hp}{a:ah}{xs:List V}(e:ak H H') (h:bF K H a xs):bF K H' a xs:=by
 rcases h with (h | ⟨o,h⟩) | h
 ·exact .inl (.inl (e _ _ h))
 ·exact .inl (.inr ⟨o,e _ _ h⟩)
 ·exact .inr h
inductive tX (C:ah) (vs:List V) (H:Hp) (Q:VK):Prop
 | mk (e p:ah) (xs:List V) (_:vs = [.ref e,.ref p]) (_:H e=some (c5 e C none)) (_:aI K H p xs) (_:xs.length<=1000) (_:∀(q d:ah),q≠e->d≠e->H q=none->H d=none->d≠q->Q .cQ (upd (upd (upd H q (.lst xs)) d (.xd [("ties",.ref q)])) e (c5 e C (some d))))
def zt7 (C:ah):Sp:=fun vs H Q _=>tX (K:=K) C vs H Q
theorem Q7 (T:Tx K mg w C_Dig zn zp zi zr zq):jK P w K mg base zp "__init__" ["self","ties"] 1 (zt7 (K:=K) zp):=by
 refine T.ZP.has zel (fun vs H Q E h=>?_) (fun f bY A outer s H vs Q E hr h=>?_)
 ·obtain⟨e,p,xs,rfl,_⟩:=h;rfl
 ·obtain⟨e,p,xs,rfl,he,hp,hl,k⟩:=h;refine⟨_,(ze (i7 (O7 (by rfl) T.Qn T.Qo (zc (pv 0) (zc jI zf))))
   (zj (O6 (pv 0) (uP (Ga K rfl) (by rfl) T.list gw (zc (pv 1) zf)) rfl))),?_⟩
  obtain⟨bm,xo,U⟩:=T.KI;refine⟨_,rfl,e,zp,none,bm,_,rfl,he,xo,U,(by show 1<=sizeLine;decide),?_⟩;refine⟨_,rfl,p,xs,rfl,.inl hp,fun q hq=>?_⟩;have ne:q≠e:=fun z=>by rw[z,he] at hq;cases hq
  refine⟨_,rfl,e,zp,rfl,by rw[zg ne.symm];exact he,T.ZO,T.KJ,fun d hd=>?_⟩;have nd:d≠q:=fun z=>by rw[z,zd] at hd;cases hd
  rw[zg nd] at hd;exact k q d ne (fun z=>by rw[z,he] at hd;cases hd) hq hd nd
inductive tY (C:ah) (vs:List V) (H:Hp) (Q:VK):Prop
 | mk (e p p1:ah) (x0 x2:V) (xs:List V) (_:vs = [.ref e,.ref p]) (_:H e=some (c5 e C none)) (_:bF K H p [x0,.ref p1,x2]) (_:aI K H p1 xs) (_:xs.length<=1000) (_:∀(q r d:ah),q≠e->r≠e->d≠e->H q=none->H r=none->H d=none->r≠q->d≠q->d≠r->Q .cQ (upd (upd (upd (upd H q (.lst xs)) r (.tup [x0,.ref q,x2])) d (.xd [("row",.ref r)])) e (c5 e C (some d))))
def zt8 (C:ah):Sp:=fun vs H Q _=>tY (K:=K) C vs H Q
theorem Q8 (T:Tx K mg w C_Dig zn zp zi zr zq):jK P w K mg base zi "__init__" ["self","row"] 1 (zt8 (K:=K) zi):=by
 refine T.ZS.has zde (fun vs H Q E h=>?_) (fun f bY A outer s H vs Q E hr h=>?_)
 ·obtain⟨e,p,p1,x0,x2,xs,rfl,_⟩:=h;rfl
 ·obtain⟨e,p,p1,x0,x2,xs,rfl,he,hp,uy,hl,k⟩:=h;refine⟨_,(ze (i7 (O7 (by rfl) T.Qn T.Qo (zc (pv 0) (zc jI zf))))
   (zj (O6 (pv 0) (jq (zc (ck (zv K rfl) (pv 1) zm) (zc (uP (Ga K rfl) (by rfl) T.list gw (zc (ck (zv K rfl) (pv 1) zm) zf)) (zc (ck (zv K rfl) (pv 1) zm) zf)))) rfl))),?_⟩
  obtain⟨bm,xo,U⟩:=T.KN;refine⟨_,rfl,e,zi,none,bm,_,rfl,he,xo,U,(by show 1<=sizeLine;decide),?_⟩
  try dsimp only
  refine⟨_,rfl,p,_,_,x0,rfl,rfl,hp,rfl,_,rfl,p,_,_,.ref p1,rfl,rfl,hp,rfl,p1,xs,rfl,.inl uy,fun q hq=>?_⟩;have t1:=ak.new (o:=.lst xs) hq;refine⟨_,rfl,p,_,_,x2,rfl,rfl,zrw t1 hp,rfl,(by show 3<=sizeLine;decide),fun r hr=>?_⟩;have ne:q≠e:=fun z=>by rw[z,he] at hq;cases hq
  have nr:r≠q:=fun z=>by rw[z,zd] at hr;cases hr
  rw[zg nr] at hr;have Q9:r≠e:=fun z=>by rw[z,he] at hr;cases hr
  refine⟨_,rfl,e,zi,rfl,by rw[zg Q9.symm,zg ne.symm];exact he,T.ZR,T.KO,fun d hd=>?_⟩;have d1:d≠r:=fun z=>by rw[z,zd] at hd;cases hd
  rw[zg d1] at hd;have d2:d≠q:=fun z=>by rw[z,zd] at hd;cases hd
  rw[zg d2] at hd;exact k q r d ne Q9 (fun z=>by rw[z,he] at hd;cases hd) hq hr hd nr d2 d1
inductive vK (vs:List V) (H:Hp) (Q:VK):Prop
 | mk (pb:ah) (ob:Obj) (keys:List Str) (v:Str->IS) (ab:Str->ah) (fz:Bool) (_:vs = [.ref pb]) (_:Bd H pb ob keys v ab) (_:keys.Nodup) (_:keys.length<=63) (_:∀(pd:ah) (o:Obj) (ad:Str->ah) (H':Hp),ak H H'->H pd=none->H' pd=some (Y0 fz o keys ad)->(∀k∈keys,cJ H H' (ad k) ((v k).1,(v k).2,[]))->Q (.ref pd) H')
def zxk:Sp:=fun vs H Q _=>vK vs H Q
theorem Lp (T:Tx K mg w C_Dig zn zp zi zr zq):fH P w K mg base "bare_chains" ["bounds"] 1 zxk:=by
 refine T.ziq.has fF (fun vs H Q E h=>?_) (fun f bY A outer s H vs Q E hr h=>?_)
 ·obtain⟨pb,ob,keys,v,ab,fz,rfl,_⟩:=h;rfl
 ·obtain⟨pb,ob,keys,v,ab,fz,rfl,hB,knd,lk,k⟩:=h;have hu:=k7 hr;refine⟨_,(ze (sset (i:=1) fF.nd pR)
   (ze (iN bE rfl (wD (pv 0)) (fZ (i:=2) fF.nd) (zj (nR hu (pv 1) (pv 2) (fJ (Vs K rfl) (zy hu (pv 0) (pv 2) (fun _ _=>rfl)) (jq (zc (iz zf) zf))) rfl)))
   (zj (yI (fG (pv 1)))))),?_⟩
  try dsimp only [zw]
  refine fun pd gm=>?_
  have s1:=ak.new (o:=.dK []) gm;refine⟨_,rfl,pb,ob,_,rfl,s1 _ _ hB.d,Ah (fun i σ H'=>∃(v2:Option V) (ad:Str->ah),σ = [some (.ref pb),some (.ref pd),v2]/\ak H H'/\H' pd=some (.dK (dV (keys.take i) fun k=>.ref (ad k)))/\∀k∈keys.take i,cJ H H' (ad k) ((v k).1,(v k).2,[]))
   ⟨none,fun _=>0,rfl,s1,zd,fun k hk=>by simp at hk⟩ (fun i σ H' _ h=>by obtain⟨_,_,_,q,_⟩:=h;exact q _ _ hB.d) ?_ ?_⟩
  ·rintro i kk vv σ H3 hx ⟨v2,ad,rfl,q3,gX,m9⟩;obtain⟨u,cZ,rfl,_⟩:=Ag hx;have c9:u∈keys:=aZ cZ;have B3:=hB.same q3
   try dsimp only [zw]
   refine⟨_,rfl,_,rfl,pb,_,rfl,rW B3.d c9,by show 0<=sizeLine;decide,fun l0 yV=>?_⟩;have t1:=ak.new (o:=.lst []) yV;refine⟨by show 1<=sizeLine;decide,fun b0 vE=>?_⟩;have t2:=ak.new (o:=.tup [.ref l0]) vE;refine⟨ab u,b0,_,_,rfl,rfl,bF.of (t2 _ _ (t1 _ _ (B3.e u c9))),bF.of zd,by simp,by show 3<=sizeLine;decide,fun z=>by simp at z,fun _ p hp=>?_⟩;have t3:=ak.new (o:=.tup [.int (v u).1,.str (v u).2,.ref l0]) hp;have Lq:=t1.trans (t2.trans t3);have j9:=Lq _ _ gX;have jc:u ∉ keys.take i:=by
    have hi:=iV cZ;have:=u0 knd i hi;rw[show keys[i]=u from (bU.mp cZ).2] at this;exact this
   have hc:cJ H (upd (upd (upd H3 l0 (.lst [])) b0 (.tup [.ref l0])) p (.tup [.int (v u).1,.str (v u).2,.ref l0])) p ((v u).1,(v u).2,[]):=⟨l0,zd,t3 _ _ (t2 _ _ zd),q3.free yV⟩;refine⟨_,rfl,_,rfl,pd,_,rfl,eG.k (k:=Sum.inr u) j9 (by rw[jL,bI];exact zx (by lia)),?_⟩;refine⟨_,fun z=>if z=u then p else ad z,rfl,(q3.trans Lq).upd gm,?_,fun k hk=>?_⟩
   ·rw[zd,wB jc,aQ,cZ]
    congr 2
    refine sW fun z hz=>?_
    try dsimp only
    by_cases e:z=u
    ·rw[av e,av e]
    ·rw[aq e,aq e]
   ·rw[aQ,cZ,br] at hk
    try dsimp only
    by_cases e:k=u
    ·rw[av e,e];exact hc.put j9
    ·rw[aq e];exact ((m9 k (hk.elim id fun z=>absurd (by simpa using z) e)).same Lq).put j9
  ·rintro σ H3 ⟨v2,ad,rfl,q3,gX,m9⟩;rw[jL,bD] at gX m9;cases fz with
   | false=>exact .inl ⟨_,rfl,k pd ob ad _ q3 gm gX m9⟩
   | true=>exact .inr ⟨pd,_,gX,fun AO=>⟨_,rfl,k pd AO ad _ (q3.upd gm) gm zd fun k hk=>(m9 k hk).put gX⟩⟩
inductive tZ (vs:List V) (H:Hp) (Q:VK):Prop
 | mk (a r:ah) (c:d8) (t:aS) (us:List Str) (_:vs = [.ref a,.ref r]) (_:cJ (fun _=>none) H a c) (_:H r=some (.tup (bP t))) (_:lS us t) (_:c.2.2.length<=900) (_:∀(q:ah) (H':Hp),ak H H'->H q=none->cJ H H' q (c.1+eX t,c.2.1,c.2.2++[(t,r)])->Q (.ref q) H')
def zt9:Sp:=fun vs H Q _=>tZ vs H Q
theorem Ra (T:Tx K mg w C_Dig zn zp zi zr zq):fH P w K mg base "led_up" ["chain","tie"] 2 zt9:=by
 refine T.zuh.has zrk (fun vs H Q E h=>?_) (fun f bY A outer s H vs Q E hr h=>?_)
 ·obtain⟨a,r,c,t,us,rfl,_⟩:=h;rfl
 ·obtain⟨a,r,c,t,us,rfl,⟨l,ha,hl,_⟩,EN,tok,lc,k⟩:=h;refine⟨_,(zj (fG (jq (zc (fJ um (ck (zv K rfl) (pv 0) zm) (cu (Q2 T) (zc (pv 1) zf))) (zc (ck (zv K rfl) (pv 0) zm) (zc (fJ Bo (ck (zv K rfl) (pv 0) zm) (iz (zc (pv 1) zf))) zf)))))),?_⟩;refine⟨_,rfl,a,_,_,_,rfl,rfl,bF.of ha,rfl,_,rfl,r,t,us,rfl,EN,tok,fun H1 s1=>?_⟩;refine⟨_,_,rfl,rfl,_,rfl,a,_,_,_,rfl,rfl,bF.of (s1 _ _ ha),rfl,_,rfl,a,_,_,_,rfl,rfl,bF.of (s1 _ _ ha),rfl,_,rfl,by show 1<=sizeLine;decide,fun l1 nV=>?_⟩;have t1:=ak.new (o:=.lst [.ref r]) nV;refine⟨l,l1,_,_,rfl,rfl,t1 _ _ (s1 _ _ hl),zd,by rw[ay];exact qQ (show _+1<=1000 by lia),fun l2 lF=>?_⟩;have t2:=ak.new (o:=.lst (c.2.2.map (fun p=>V.ref p.2)++[.ref r])) lF;refine⟨by show 3<=sizeLine;decide,fun b hb=>?_⟩;have t3:=ak.new (o:=.tup [.int (c.1+eX t),.str c.2.1,.ref l2]) hb;refine k b _ (s1.trans (t1.trans (t2.trans t3))) ((s1.trans (t1.trans t2)).free hb) ⟨l2,zd,?_,(s1.trans t1).free lF⟩;rw[t3 _ _ zd,aV];rfl
inductive qf (vs:List V) (H:Hp) (Q:VK):Prop
 | mk (a r:ah) (c:d8) (t:aS) (us:List Str) (_:vs = [.ref a,.ref r]) (_:cJ (fun _=>none) H a c) (_:H r=some (.tup (bP t))) (_:lS us t) (_:c.2.2.length<=900) (_:∀(q:ah) (H':Hp),ak H H'->H q=none->cJ H H' q (c.1-eX t,c.2.1,(t,r)::c.2.2)->Q (.ref q) H')
def zn3:Sp:=fun vs H Q _=>qf vs H Q
theorem zn4 (T:Tx K mg w C_Dig zn zp zi zr zq):fH P w K mg base "led_down" ["chain","tie"] 2 zn3:=by
 refine T.zob.has zla (fun vs H Q E h=>?_) (fun f bY A outer s H vs Q E hr h=>?_)
 ·obtain⟨a,r,c,t,us,rfl,_⟩:=h;rfl
 ·obtain⟨a,r,c,t,us,rfl,⟨l,ha,hl,_⟩,EN,tok,lc,k⟩:=h;refine⟨_,(zj (fG (jq (zc (fJ My (ck (zv K rfl) (pv 0) zm) (cu (Q2 T) (zc (pv 1) zf))) (zc (ck (zv K rfl) (pv 0) zm) (zc (fJ Bo (iz (zc (pv 1) zf)) (ck (zv K rfl) (pv 0) zm)) zf)))))),?_⟩;refine⟨_,rfl,a,_,_,_,rfl,rfl,bF.of ha,rfl,_,rfl,r,t,us,rfl,EN,tok,fun H1 s1=>?_⟩;refine⟨_,_,rfl,rfl,_,rfl,a,_,_,_,rfl,rfl,bF.of (s1 _ _ ha),rfl,_,rfl,by show 1<=sizeLine;decide,fun l1 nV=>?_⟩;have t1:=ak.new (o:=.lst [.ref r]) nV;refine⟨_,rfl,a,_,_,_,rfl,rfl,bF.of (t1 _ _ (s1 _ _ ha)),rfl,?_⟩;refine⟨l1,l,_,_,rfl,rfl,zd,t1 _ _ (s1 _ _ hl),by rw[ay];exact qQ (show 1+_<=1000 by lia),fun l2 lF=>?_⟩;have t2:=ak.new (o:=.lst ([V.ref r]++c.2.2.map (fun p=>V.ref p.2))) lF;refine⟨by show 3<=sizeLine;decide,fun b hb=>?_⟩;have t3:=ak.new (o:=.tup [.int (c.1-eX t),.str c.2.1,.ref l2]) hb;refine k b _ (s1.trans (t1.trans (t2.trans t3))) ((s1.trans (t1.trans t2)).free hb) ⟨l2,zd,?_,(s1.trans t1).free lF⟩;rw[t3 _ _ zd];rfl
inductive rE (vs:List V) (H:Hp) (Q:VK):Prop
 | mk (pb pc:ah) (ob oc:Obj) (keys:List Str) (R:Rw) (wO:Str->ah) (bs:Str->List ah) (M:List Str) (v:Str->d8) (adc:Str->ah) (_:vs = [.ref pb,.ref pc]) (_:Bn H pb ob keys (tE R) wO bs) (_:H pc=some (.gp oc (.dK (dV M fun k=>.ref (adc k))))) (_:(∀k∈M,cJ (fun _=>none) H (adc k) (v k))) (_:(∀k l b,(l,b)∈R k->H b.2=some (.tup (bP b.1))/\∃us,lS us b.1)) (_:keys.Nodup) (_:keys.length<=63) (_:(∀k,(R k).length<=900)) (_:(∀k∈M,(v k).2.2.length<=900)) (_:∀(pd:ah) (o:Obj) (M':List Str) (v':Str->d8) (ad:Str->ah) (H':Hp),ak H H'->H pd=none->H' pd=some (.gp o (.dK (dV M' fun k=>.ref (ad k))))->(∀k∈M',cJ H H' (ad k) (v' k))->M'.Nodup->(∀k∈M',k∈keys)->(∀k∈keys,nK R M v k (R k) (k∈M') (v' k))->Q (.ref pd) H')
def zrx:Sp:=fun vs H Q _=>rE vs H Q
theorem ze2 (T:Tx K mg w C_Dig zn zp zi zr zq):fH P w K mg base "one_tie_longer" ["beneath","chains"] 3 zrx:=by
 refine T.ze7.has bM (fun vs H Q E h=>?_) (fun f bY A outer s H vs Q E hr h=>?_)
 ·obtain⟨pb,pc,ob,oc,keys,R,wO,bs,M,v,adc,rfl,_⟩:=h;rfl
 ·obtain⟨pb,pc,ob,oc,keys,R,wO,bs,M,v,adc,rfl,hB,hC,hM,hR,knd,lk,lR,lM,k⟩:=h;have hu:=k7 hr;refine⟨_,(ze (sset (i:=2) bM.nd pR)
   (ze (iN bE rfl (wD (pv 0)) (fZ (i:=3) bM.nd) (zj (iN bE rfl (zz K rfl (zy hu (pv 0) (pv 3) (fun _ _=>rfl))) (wj K rfl rfl (nO (fZ (i:=4) bM.nd) (nO (fZ (i:=5) bM.nd) vW))) (zj (iM (wY (Br hu (pv 4) (pv 1))) (ze (sset (i:=6) bM.nd (cu (Ra T) (zc (zy hu (pv 1) (pv 4) (fun _ _=>rfl)) (zc (pv 5) zf))))
      (zj (iM (PW.pt (Mq (wY (FO hu (pv 3) (pv 2))) (Mp (iU Cw (ck (zv K rfl) (pv 6) zm) (ck (zv K rfl) (zy hu (pv 2) (pv 3) (fun _ _=>rfl)) zm) (iy _))))) (zj (nR hu (pv 2) (pv 3) (pv 6) rfl)) i6))) i6)))))
   (zj (yI (fG (pv 2)))))),?_⟩
  try dsimp only [zw]
  refine fun pd gm=>?_
  have s1:=ak.new (o:=.dK []) gm;refine⟨_,rfl,pb,ob,_,rfl,s1 _ _ hB.d,Ah (fun i σ H'=>∃(v3 v4 v5 v6:Option V) (M':List Str) (v':Str->d8) (ad:Str->ah),σ = [some (.ref pb),some (.ref pc),some (.ref pd),v3,v4,v5,v6]/\ak H H'/\H' pd=some (.dK (dV M' fun k=>.ref (ad k)))/\(∀k∈M',cJ H H' (ad k) (v' k))/\M'.Nodup/\(∀k∈M',k∈keys.take i)/\∀k∈keys.take i,nK R M v k (R k) (k∈M') (v' k))
   ⟨none,none,none,none,[],fun _=>(0,"",[]),fun _=>0,rfl,s1,zd,fun k hk=>by simp at hk,List.nodup_nil,fun k hk=>by simp at hk,fun k hk=>by simp at hk⟩ (fun i σ H' _ h=>by obtain⟨_,_,_,_,_,_,_,_,q,_⟩:=h;exact q _ _ hB.d) ?_ ?_⟩
  ·rintro i kk vv σ H3 hx ⟨v3,v4,v5,v6,M',v',ad,rfl,q3,gX,m9,Hq,BS,EO⟩;obtain⟨u,cZ,rfl,_⟩:=Ag hx;have c9:u∈keys:=aZ cZ;have B3:=hB.same q3;have ER:(bs u).length=(R u).length:=(Paired.length (hB.e u c9)).trans Ks;have jc:u ∉ keys.take i:=by
    have hi:=iV cZ;have:=u0 knd i hi;rw[show keys[i]=u from (bU.mp cZ).2] at this;exact this
   have tk:keys.take (i+1)=keys.take i++[u]:=by rw[aQ,cZ];rfl
   try dsimp only [zw]
   refine⟨_,rfl,_,rfl,pb,_,rfl,B3.get c9,wO u,rfl,⟨_,aI.of (B3.l u c9)⟩,lQ (xs:=(bs u).map V.ref) (fun j σ H'=>∃(v4 v5 v6:Option V) (M':List Str) (v':Str->d8) (ad:Str->ah),σ = [some (.ref pb),some (.ref pc),some (.ref pd),some (.str u),v4,v5,v6]/\ak H H'/\H' pd=some (.dK (dV M' fun k=>.ref (ad k)))/\(∀k∈M',cJ H H' (ad k) (v' k))/\M'.Nodup/\(∀k∈M',k∈keys.take i++[u])/\
     (∀k∈keys.take i,nK R M v k (R k) (k∈M') (v' k))/\nK R M v u ((R u).take j) (u∈M') (v' u))
    ⟨v4,v5,v6,M',v',ad,rfl,q3,gX,m9,Hq,fun k hk=>cT _ (BS k hk),EO,nK.nil fun z=>jc (BS u z)⟩ (fun j σ H' _ h=>by obtain⟨_,_,_,_,_,_,_,q,_⟩:=h;exact aI.of ((hB.same q).l u c9)) ?_ ?_⟩
   ·clear m9 Hq BS EO gX q3 B3;rintro j x σ H4 hx ⟨v4,v5,v6,M',v',ad,rfl,q4,kg,je,wL,AQ,BU,BV⟩;have B4:=hB.same q4;obtain⟨b,⟨l,r⟩,rfl,om,_,hb⟩:=vc (B4.e u c9) hx;obtain⟨t,ht⟩:=Kr om;have vL:(l,(t,r))∈R u:=aZ ht;obtain⟨ES,us,tok⟩:=hR u l (t,r) vL;have rt:(R u).take (j+1)=(R u).take j++[(l,(t,r))]:=by rw[aQ,ht];rfl
    have t9:=q4 _ _ hC;refine⟨b,_,rfl,bF.of hb,rfl,_,_,rfl,_,_,rfl,rfl,?_⟩
    try dsimp only [zw]
    refine xB (decide (l∈M)) (fun Q' hQ=>?_) ?_
    ·by_cases c:l∈M
     ·refine⟨_,rfl,_,rfl,pc,_,rfl,rW t9 c,?_⟩;rw[aR c] at hQ;exact⟨_,rfl,hQ⟩
     ·refine⟨_,rfl,_,rfl,pc,none,rfl,Y3 t9 c,?_⟩;rw[bg c] at hQ;exact⟨_,rfl,hQ⟩
    refine dF (fun c=>?_) (fun c=>?_)
    ·have c:=bC c;refine⟨_,rfl,_,rfl,pc,_,rfl,rW t9 c,_,rfl,adc l,r,v l,t,us,rfl,(hM l c).same q4,q4 _ _ ES,tok,lM l c,fun q H5 s5 fq hq=>?_⟩;have q5:=q4.trans s5;have gv:=s5 _ _ kg;have Ez:cJ H H5 q ((v l).1+eX t,(v l).2.1,(v l).2.2++[(t,r)]):=hq.old q4;have uc:∀k∈M',cJ H H5 (ad k) (v' k):=fun k hk=>(je k hk).same s5
     try dsimp only [zw]
     refine xB (decide (u ∉ M'\/(v' u).1<(v l).1+eX t)) (fun Q' hQ=>?_) ?_
     ·by_cases c2:u∈M'
      ·have g:=cz.k (k:=Sum.inr u) gv;rw[pB c2] at g;obtain⟨lq,h1,_⟩:=Ez;obtain⟨lu,h2,_⟩:=uc u c2;refine⟨_,rfl,_,rfl,pd,_,rfl,g,_,rfl,i9 ⟨_,rfl,q,_,_,_,rfl,rfl,bF.of h1,rfl,_,rfl,_,rfl,pd,_,rfl,g,ad u,_,_,_,rfl,rfl,bF.of h2,rfl,_,_,rfl,rfl,_,rfl,?_⟩⟩;rw[show decide (u ∉ M'\/(v' u).1<(v l).1+eX t)=decide ((v l).1+eX t > (v' u).1) from jm.mpr ⟨fun z=>z.elim (fun z=>absurd c2 z) id,fun z=>.inr z⟩] at hQ;exact hQ
      ·have g:=cz.k (k:=Sum.inr u) gv;rw[Af c2] at g;refine⟨_,rfl,_,rfl,pd,_,rfl,g,_,rfl,nB ?_⟩;rw[aR (Or.inl c2)] at hQ;exact hQ
     refine dF (fun c2=>?_) (fun c2=>?_)
     ·have c2:=bC c2;have lM':M'.length<=63:=by
       have:=uw (us:=keys) wL fun k hk=>by
        rcases br.mp (AQ k hk) with z | z
        ·exact jg z
        ·rw[show k=u by simpa using z];exact c9
       lia
      refine⟨_,rfl,_,rfl,_,rfl,pd,_,rfl,eG.k (k:=Sum.inr u) gv (by rw[jL];exact zx (by lia)),?_⟩;have adq:∀k,k≠u->(if k=u then q else ad k)=ad k:=fun k n=>aq n
      have ek:∀(L:List Str),(dV L fun z=>if z=u then V.ref q else V.ref (ad z))=dV L fun k=>V.ref (if k=u then q else ad k):=fun L=>sW fun z _=>by split<;>rfl
      have rB:∀(kv:List (Key×V)),∀k,(k=u\/k∈M')->cJ H (upd H5 pd (.dK kv)) (if k=u then q else ad k) (if k=u then ((v l).1+eX t,(v l).2.1,(v l).2.2++[(t,r)]) else v' k):=fun kv k hk=>by
       by_cases e:k=u
       ·rw[av e,av e];exact Ez.put gv
       ·rw[aq e,aq e];exact (uc k (hk.resolve_left e)).put gv
      have Rb:∀(hs:Prop),hs->nK R M v u ((R u).take (j+1)) hs (if u=u then ((v l).1+eX t,(v l).2.1,(v l).2.2++[(t,r)]) else v' u):=fun hs hh=>by
       rw[av rfl,rt];exact BV.take c hh (fun z=>c2.elim (fun y=>absurd z y) id) rfl
      by_cases c3:u∈M'
      ·rw[Gs c3,ek];refine⟨_,_,_,M',fun k=>if k=u then ((v l).1+eX t,(v l).2.1,(v l).2.2++[(t,r)]) else v' k,fun k=>if k=u then q else ad k,rfl,q5.upd gm,zd,fun k hk=>rB _ k (.inr hk),wL,AQ,fun k hk=>?_,Rb _ c3⟩;exact (BU k hk).congr Iff.rfl (by dsimp only;rw[aq (fun z=>jc (z▸hk):¬k=u)])
      ·rw[wB c3,ek];refine⟨_,_,_,M'++[u],fun k=>if k=u then ((v l).1+eX t,(v l).2.1,(v l).2.2++[(t,r)]) else v' k,fun k=>if k=u then q else ad k,rfl,q5.upd gm,zd,fun k hk=>rB _ k ?_,?_,fun k hk=>?_,fun k hk=>?_,Rb _ (by simp)⟩
       ·rcases rj hk with z | z
        ·exact .inr z
        ·exact .inl z
       ·rw[fS];refine⟨wL,by simp,fun a ha b hb e=>?_⟩;have hb:b=u:=by simpa using hb
        exact c3 (hb▸e▸ha)
       ·rcases rj hk with z | z
        ·exact AQ k z
        ·rw[z];simp
       ·have ne:k≠u:=fun z=>jc (z▸hk)
        refine (BU k hk).congr ⟨fun z=>cT _ z,fun z=>?_⟩ (by dsimp only;rw[aq ne]);rcases rj z with z | z
        ·exact z
        ·exact absurd z ne
     ·have c2:¬(u ∉ M'\/(v' u).1<(v l).1+eX t):=fun z=>c2 (aR z)
      have c3:u∈M':=e7 fun z=>c2 (.inl z)
      refine⟨_,_,_,M',v',ad,rfl,q5,gv,uc,wL,AQ,BU,?_⟩;rw[rt];exact BV.dR c3 (by have:¬((v' u).1<(v l).1+eX t):=fun z=>c2 (.inr z);show (v l).1+eX t<=_;lia)
    ·have c:l ∉ M:=fun z=>c (aR z)
     refine⟨_,_,_,M',v',ad,rfl,q4,kg,je,wL,AQ,BU,?_⟩;rw[rt];exact BV.skip c
   ·rintro σ H4 ⟨v4,v5,v6,M',v',ad,rfl,q4,kg,je,wL,AQ,BU,BV⟩;rw[ay,ER,bD] at BV;refine⟨_,_,_,_,M',v',ad,rfl,q4,kg,je,wL,by rw[tk];exact AQ,fun k hk=>?_⟩;rw[tk] at hk;rcases rj hk with z | z
    ·exact BU k z
    ·rw[z];exact BV
  ·rintro σ H3 ⟨v3,v4,v5,v6,M',v',ad,rfl,q3,gX,m9,Hq,BS,EO⟩;rw[jL,bD] at BS EO;exact .inr ⟨pd,_,gX,fun AO=>⟨_,rfl,k pd AO M' v' ad _ (q3.upd gm) gm zd (fun k hk=>(m9 k hk).put gX) Hq BS EO⟩⟩
inductive rF (vs:List V) (H:Hp) (Q:VK):Prop
 | mk (p pm pu pt pf:ah) (lo hi:Int) (us:List Str) (az:List ah) (ts:List aS) (af:List ah) (fs:List cI) (_:vs = [.ref p]) (_:iR K H p pm pu pt pf lo hi us az ts af fs) (_:iA (cX ts (ts.zip az)) (zk ts (aL us))) (_:(∀H',ak H H'->vo lo hi us az ts af fs->Q .cQ H')) (_:∀(q:ah) (c:d8) (w:Str) (H':Hp),ak H H'->Y8 H' q c w->sj lo hi us az ts af fs c w->Q (.ref q) H')
def zry:Sp:=fun vs H Q _=>rF (K:=K) vs H Q
theorem ze3 (T:Tx K mg w C_Dig zn zp zi zr zq):fH P w K mg base "impossible_row" ["telling"] 6 (zry (K:=K)):=by
 refine T.ze8.has bN (fun vs H Q E h=>?_) (fun f bY A outer s H vs Q E hr h=>?_)
 ·obtain⟨p,pm,pu,pt,pf,lo,hi,us,az,ts,af,fs,rfl,_⟩:=h;rfl
 ·obtain⟨p,pm,pu,pt,pf,lo,hi,us,az,ts,af,fs,rfl,hF,nr,kN,kR⟩:=h;have hu:=k7 hr;refine⟨_,(ze (sset (i:=1) bN.nd (cu (xX T) (zc (pv 0) zf)))
   (ze (sset (i:=2) bN.nd (cu (Q6 T) (zc (pv 0) zf)))
   (ze (sset (i:=3) bN.nd (cu (Lp T) (zc (cu (Q5 T) (zc (pv 0) zf)) zf)))
   (ze (Fl bE (iU (YG (jZ hr)) (pv 3) pR (iy _)) (ze (iN bE rfl (wD (pv 3)) (fZ (i:=4) bN.nd) (zj (iM (iU Cw (ck (zv K rfl) (zy hu (pv 3) (pv 4) (fun _ _=>rfl)) zm) (ck (zv K rfl) (zy hu (pv 2) (pv 4) (fun _ _=>rfl)) zm) (iy _)) (zj (fG (jq (zc (ck (zv K rfl) (zy hu (pv 3) (pv 4) (fun _ _=>rfl)) zm) (zc (ck (zv K rfl) (zy hu (pv 3) (pv 4) (fun _ _=>rfl)) zm) (zc (ck (zv K rfl) (zy hu (pv 2) (pv 4) (fun _ _=>rfl)) zm) zf)))))) i6)))
    (zj (sset (i:=3) bN.nd (cu (ze2 T) (zc (pv 1) (zc (pv 3) zf)))))))
   (zj (fG Sz)))))),?_⟩
  have knd:=u9 (ts:=ts) hF.iu.nd;have lk:=hF.iu.kK;have lf:=hF.j6;have cl:=AA (az:=az) hF.iu.ends;have lR:∀k,(bZ ts (ts.zip az) k).length<=900:=fun k=>by
   have h1:=Y4 (ts:=ts) (z:=ts.zip az) (k:=k);have h2:=hF.iu.tl;rw[ia] at h1;lia
  have hR:∀k l b,(l,b)∈bZ ts (ts.zip az) k->H b.2=some (.tup (bP b.1))/\lS us b.1:=fun k l b h=>Kq hF.iu h
  have uF:∀k m m',lJ ts lo (fs.zip af) k m->lJ ts lo (fs.zip af) k m'->m.1=m'.1:=fun k m m' h h'=>by rw[h.low lf,h'.low lf]
  have uG:∀k m m',lK ts hi (fs.zip af) k m->lK ts hi (fs.zip af) k m'->m.1=m'.1:=fun k m m' h h'=>by rw[h.high lf,h'.high lf]
  rw[wK] at nr;refine⟨_,rfl,p,pu,pt,_,_,us,az,ts,rfl,hF.iu,fun pb ob wO bs H1 s1 Lr hB=>?_⟩;rw[wK] at hB
  try dsimp only [zw]
  refine⟨_,rfl,p,pm,pu,pt,pf,lo,hi,us,az,ts,af,fs,rfl,hF.same s1,fun pe oe ve ae H2 s2 fpe hE Hr=>?_⟩
  try dsimp only [zw]
  refine⟨_,rfl,p,pm,pu,pt,pf,lo,hi,us,az,ts,af,fs,rfl,hF.same (s1.trans s2),fun pl ol vl al H3 s3 Rf hL ud=>?_⟩;refine⟨pl,ol,_,vl,al,true,rfl,hL,knd,lk,fun pc oc adc H4 s4 Hs hC AR=>?_⟩;have hC:H4 pc=some (.gp oc (.dK (dV (zk ts (aL us)) fun k=>.ref (adc k)))):=hC;have s24:=s3.trans s4;have Rg:=s2.trans s24;have AS:=s1.trans Rg;have Hr:∀k∈zk ts (aL us),lK ts hi (fs.zip af) k (ve k):=Hr;have ud:∀k∈zk ts (aL us),lJ ts lo (fs.zip af) k (vl k):=ud;unfold vo at kN;unfold sj at kR;generalize zk ts (aL us)=keys at *;generalize bZ ts (ts.zip az)=R at *;generalize lJ ts lo (fs.zip af)=F at *;generalize lK ts hi (fs.zip af)=G at *;have R0:nJ R F keys 0 keys (fun k=>((vl k).1,(vl k).2,[])):=nJ.zero knd (fun k hk=>⟨rfl,ud k hk⟩) uF
  try dsimp only [zw]
  refine⟨fun m σ H'=>∃(n:Nat) (pc:ah) (oc:Obj) (M:List Str) (v:Str->d8) (adc:Str->ah) (v4:Option V),σ = [some (.ref p),some (.ref pb),some (.ref pe),some (.ref pc),v4]/\ak H4 H'/\H' pc=some (.gp oc (.dK (dV M fun k=>.ref (adc k))))/\(∀k∈M,cJ (fun _=>none) H' (adc k) (v k))/\nJ R F keys n M v/\
    (∀k∈keys,∀c m,Up R F k c->G k m->c.2.2.length<n->c.1<=m.1)/\m=keys.length-n,
   ⟨_,0,pc,oc,keys,_,adc,none,rfl,ak.refl _,hC,fun k hk=>(AR k hk).any,R0,fun k hk c m _ _ z=>absurd z (Nat.not_lt_zero _),rfl⟩,?_⟩
  rintro m σ H5 ⟨n,pc,oc,M,v,adc,v4,rfl,q5,Rh,Ri,Rn,sm,rfl⟩;refine⟨_,rfl,fun e he=>?_⟩;have t6:=ak.new (o:=.dK []) he;have q6:=q5.trans t6;have BW:=t6 _ _ Rh;refine⟨pc,e,_,rfl,rfl,.inr ⟨oc,BW⟩,zd,_,rfl,?_⟩;have BQ:∀k∈M,cJ (fun _=>none) (upd H5 e (.dK [])) (adc k) (v k):=fun k hk=>(Ri k hk).same t6
  clear Rh Ri;generalize upd H5 e (.dK [])=H6 at q6 BW BQ t6;refine dF (fun c=>?_) (fun c=>?_)
  ·have ne:M≠[]:=fun z=>by rw[z] at c;simp[dV] at c
   obtain⟨k0,Ls⟩:=List.exists_mem_of_ne_nil _ ne;have hn:n<keys.length:=by
    have:=(Rn.is k0 Ls).1.short cl nr (Rn.sub k0 Ls);rw[(Rn.is k0 Ls).2] at this;exact this
   refine⟨fun aN H'=>∃m',m'<keys.length-n/\_,fun aN H' h=>h,?_⟩;refine⟨_,rfl,pc,oc,_,rfl,BW,Ah (fun i σ H'=>∃(v4:Option V),σ = [some (.ref p),some (.ref pb),some (.ref pe),some (.ref pc),v4]/\ak H6 H'/\∀k∈M.take i,(v k).1<=(ve k).1)
    ⟨_,rfl,ak.refl _,fun k hk=>by simp at hk⟩ (fun i σ H' _ h=>by obtain⟨_,_,q,_⟩:=h;exact q _ _ BW) ?_ ?_⟩
   ·rintro i kk vv σ H7 hx ⟨v4,rfl,q7,Ht⟩;obtain⟨u,cZ,rfl,_⟩:=Ag hx;have AU:u∈M:=aZ cZ;have c9:u∈keys:=Rn.sub u AU;have E7:=hE.same (s3.trans (s4.trans (q6.trans q7)));obtain⟨l,h1,h2,_⟩:=(BQ u AU).same q7;have ET:=q7 _ _ BW
    try dsimp only [zw]
    refine⟨_,rfl,_,rfl,pc,_,rfl,rW ET AU,adc u,_,_,_,rfl,rfl,bF.of h1,rfl,_,rfl,_,rfl,pe,_,rfl,rW E7.d c9,ae u,_,_,_,rfl,rfl,bF.of (E7.e u c9),rfl,_,_,rfl,rfl,_,rfl,?_⟩;refine dF (fun c2=>?_) (fun c2=>?_)
    ·have c2:(ve u).1<(v u).1:=bC c2;refine⟨_,rfl,_,rfl,pc,_,rfl,rW ET AU,adc u,_,_,_,rfl,rfl,bF.of h1,rfl,_,rfl,_,rfl,pc,_,rfl,rW ET AU,adc u,_,_,_,rfl,rfl,bF.of h1,rfl,_,rfl,_,rfl,pe,_,rfl,rW E7.d c9,ae u,_,_,_,rfl,rfl,bF.of (E7.e u c9),rfl,by show 3<=sizeLine;decide,fun q hq=>?_⟩;have t8:=ak.new (o:=.tup [.str (v u).2.1,.ref l,.str (ve u).2]) hq;refine kR q (v u) (ve u).2 _ (AS.trans (q6.trans (q7.trans t8))) ⟨l,zd,t8 _ _ h2⟩ ⟨u,ve u,c9,(Rn.is u AU).1,Hr u c9,rfl,c2,fun k' fK c' m' u' g' lt=>sm k' fK c' m' u' g' ?_⟩;rw[(Rn.is u AU).2] at lt;exact lt
    ·have c2:¬((v u).1 > (ve u).1):=fun z=>c2 (aR z)
     refine⟨_,rfl,q7,fun k hk=>?_⟩;rw[aQ,cZ] at hk;rcases rj hk with z | z
     ·exact Ht k z
     ·rw[z];lia
   ·rintro σ H7 ⟨v4,rfl,q7,Ht⟩;rw[jL,bD] at Ht;have Lu:=q6.trans q7;have B7:=hB.same (Rg.trans Lu);have ET:=q7 _ _ BW;refine⟨_,rfl,_,rfl,pb,pc,ob,oc,keys,R,wO,bs,M,v,adc,rfl,B7,ET,fun k hk=>(BQ k hk).same q7,fun k l b h=>⟨Lu _ _ (AS _ _ (hR k l b h).1),us,(hR k l b h).2⟩,knd,lk,lR,fun k hk=>by
     have:=(Rn.is k hk).1.short cl nr (Rn.sub k hk);lia,fun pd o M' v' ad H8 s8 sy BR ED nd8 sb8 gr8=>?_⟩
    refine⟨keys.length-(n+1),by lia,n+1,pd,o,M',v',ad,_,rfl,Lu.trans s8,BR,fun k hk=>(ED k hk).any,Rn.next cl nd8 sb8 gr8,fun k hk c m u g lt=>?_,rfl⟩
    by_cases e:c.2.2.length=n
    ·obtain⟨h1,h2⟩:=Rn.all k hk c u e;have h3:=Ht k h1;rw[uG k m (ve k) g (Hr k hk)];lia
    ·exact sm k hk c m u g (by lia)
  ·have e:M = []:=by
    cases M with
    | nil=>rfl
    | cons a b=>simp[dV] at c
   subst e;have st:=Rn.stop cl;exact kN _ (AS.trans q6) fun k hk c m u g=>sm k hk c m u g (st k hk c u)
inductive yf (vs:List V) (H:Hp) (Q:VK):Prop
 | mk (p pm pu pt pf:ah) (lo hi:Int) (us:List Str) (az:List ah) (ts:List aS) (af:List ah) (fs:List cI) (_:vs = [.ref p]) (_:iR K H p pm pu pt pf lo hi us az ts af fs) (_:iA (cX ts (ts.zip az)) (zk ts (aL us))) (_:∀(pd:ah) (o:Obj) (v:Str->d8) (ad:Str->ah) (H':Hp),ak H H'->H pd=none->H' pd=some (.gp o (.dK (dV (zk ts (aL us)) fun k=>.ref (ad k))))->(∀k∈zk ts (aL us),cJ H H' (ad k) (v k))->(∀k∈zk ts (aL us),Up (bZ ts (ts.zip az)) (lJ ts lo (fs.zip af)) k (v k)/\j7 (bZ ts (ts.zip az)) (lJ ts lo (fs.zip af)) k (v k).1)->Q (.ref pd) H')
def zzw:Sp:=fun vs H Q _=>yf (K:=K) vs H Q
theorem zld (T:Tx K mg w C_Dig zn zp zi zr zq):fH P w K mg base "chains_up" ["telling"] 8 (zzw (K:=K)):=by
 refine T.zli.has cK (fun vs H Q E h=>?_) (fun f bY A outer s H vs Q E hr h=>?_)
 ·obtain⟨p,pm,pu,pt,pf,lo,hi,us,az,ts,af,fs,rfl,_⟩:=h;rfl
 ·obtain⟨p,pm,pu,pt,pf,lo,hi,us,az,ts,af,fs,rfl,hF,wN,k⟩:=h;have hu:=k7 hr;refine⟨_,(ze (sset (i:=1) cK.nd (cu (xX T) (zc (pv 0) zf)))
   (ze (sset (i:=2) cK.nd (cu (Lp T) (zc (cu (Q5 T) (zc (pv 0) zf)) zf)))
   (ze (iN bE rfl (zz K rfl (cu (BO T) (zc (pv 0) zf))) (fZ (i:=3) cK.nd) (zj (iN bE rfl (zz K rfl (zy hu (pv 1) (pv 3) (fun _ _=>rfl))) (wj K rfl rfl (nO (fZ (i:=4) cK.nd) (nO (fZ (i:=5) cK.nd) vW))) (ze (sset (i:=6) cK.nd (cu (Ra T) (zc (zy hu (pv 2) (pv 4) (fun _ _=>rfl)) (zc (pv 5) zf))))
     (zj (iM (iU Cw (ck (zv K rfl) (pv 6) zm) (ck (zv K rfl) (zy hu (pv 2) (pv 3) (fun _ _=>rfl)) zm) (iy _)) (zj (nR hu (pv 2) (pv 3) (pv 6) rfl)) i6))))))
   (zj (yI (fG (pv 2))))))),?_⟩
  have knd:=u9 (ts:=ts) hF.iu.nd;have lk:=hF.iu.kK;have lf:=hF.j6;have cl:=AA (az:=az) hF.iu.ends;have hR:∀k l b,(l,b)∈bZ ts (ts.zip az) k->H b.2=some (.tup (bP b.1))/\lS us b.1:=fun k l b h=>Kq hF.iu h
  have uF:∀k m m',lJ ts lo (fs.zip af) k m->lJ ts lo (fs.zip af) k m'->m.1=m'.1:=fun k m m' h h'=>by rw[h.low lf,h'.low lf]
  have nr:=wN;rw[wK] at nr;refine⟨_,rfl,p,pu,pt,_,_,us,az,ts,rfl,hF.iu,fun pb ob wO bs H1 s1 Lr hB=>?_⟩;rw[wK] at hB
  try dsimp only [zw]
  refine⟨_,rfl,p,pm,pu,pt,pf,lo,hi,us,az,ts,af,fs,rfl,hF.same s1,fun pl ol vl al H2 s2 Rf hL ud=>?_⟩;refine⟨pl,ol,_,vl,al,false,rfl,hL,knd,lk,fun pc oc adc H3 s3 Hs hC AR=>?_⟩;have hC:H3 pc=some (.dK (dV (zk ts (aL us)) fun k=>.ref (adc k))):=hC;have EU:=s2.trans s3;have EV:=s1.trans EU
  try dsimp only [zw]
  refine⟨_,rfl,p,pu,pt,_,_,us,az,ts,rfl,(hF.same EV).iu,wN,fun po os H4 s4 AG tR O Lw=>?_⟩;have yg:=hB.same (EU.trans s4);have t9:=s4 _ _ hC;have AS:=EV.trans s4;have rG:H pc=none:=(s1.trans s2).free Hs;have En:po≠pc:=fun z=>by rw[z,hC] at AG;cases AG
  have AV:∀k∈zk ts (aL us),cJ H H4 (adc k) ((vl k).1,(vl k).2,[]):=fun k hk=>((AR k hk).same s4).old (s1.trans s2)
  have ud:∀k∈zk ts (aL us),lJ ts lo (fs.zip af) k (vl k):=ud;rw[wK] at O;clear wN hB hC AR;generalize zk ts (aL us)=keys at *;generalize bZ ts (ts.zip az)=R at *;generalize lJ ts lo (fs.zip af)=F at *;have U0:mX R F keys [] (fun k=>((vl k).1,(vl k).2,[])):=⟨fun k hk=>Up.bare (ud k hk),fun k hk m hm=>Int.le_of_eq (uF k m (vl k) hm (ud k hk)),fun k hk=>by simp at hk⟩;have hh:∀{H':Hp},(∀b o,b≠pc->H4 b=some o->H' b=some o)->ak H H':=fun kp b o e=>kp b o (zh e rG) (AS _ _ e)
  refine⟨po,rfl,⟨_,aI.of tR⟩,lQ (xs:=os.map V.str) (fun i σ H'=>∃(v3 v4 v5 v6:Option V) (v:Str->d8) (ad:Str->ah),σ = [some (.ref p),some (.ref pb),some (.ref pc),v3,v4,v5,v6]/\(∀b o,b≠pc->H4 b=some o->H' b=some o)/\H' pc=some (.dK (dV keys fun k=>.ref (ad k)))/\(∀k∈keys,cJ H H' (ad k) (v k))/\mX R F keys (os.take i) v)
   ⟨none,none,none,none,_,adc,rfl,fun b o _ e=>e,t9,AV,by simpa using U0⟩ (fun i σ H' _ h=>by obtain⟨_,_,_,_,_,_,_,q,_⟩:=h;exact aI.of (q _ _ En tR)) ?_ ?_⟩
  ·rintro i x σ H5 hx ⟨v3,v4,v5,v6,v,ad,rfl,kh,gv,uc,U5⟩;rw[aX] at hx;cases eu:os[i]? with
   | none=>rw[eu] at hx;cases hx
   | some u=>
    rw[eu] at hx;cases hx;have c9:u∈keys:=O.sub u (aZ eu);obtain⟨fr,Rj,low⟩:=PL O eu;have B5:=yg.keep t9 kh;have ER:(bs u).length=(R u).length:=(Paired.length (yg.e u c9)).trans Ks;have tk:os.take (i+1)=os.take i++[u]:=by rw[aQ,eu];rfl
    try dsimp only [zw]
    refine⟨_,rfl,_,rfl,pb,_,rfl,B5.get c9,wO u,rfl,⟨_,aI.of (B5.l u c9)⟩,lQ (xs:=(bs u).map V.ref) (fun j σ H'=>∃(v4 v5 v6:Option V) (v:Str->d8) (ad:Str->ah),σ = [some (.ref p),some (.ref pb),some (.ref pc),some (.str u),v4,v5,v6]/\(∀b o,b≠pc->H4 b=some o->H' b=some o)/\H' pc=some (.dK (dV keys fun k=>.ref (ad k)))/\(∀k∈keys,cJ H H' (ad k) (v k))/\mX R F keys (os.take i) v/\∀l b,(l,b)∈(R u).take j->(v l).1+eX b.1<=(v u).1)
     ⟨v4,v5,v6,v,ad,rfl,kh,gv,uc,U5,fun l b h=>by simp at h⟩ (fun j σ H' _ h=>by obtain⟨_,_,_,_,_,_,q,_⟩:=h;exact aI.of ((yg.keep t9 q).l u c9)) ?_ ?_⟩
    ·clear uc gv U5 B5 kh;rintro j x σ H6 hx ⟨v4,v5,v6,v,ad,rfl,sE,j9,rB,U6,vM⟩;have B6:=yg.keep t9 sE;have q6:ak H H6:=hh sE;obtain⟨b,⟨l,r⟩,rfl,om,_,hb⟩:=vc (B6.e u c9) hx;obtain⟨t,ht⟩:=Kr om;have vL:(l,(t,r))∈R u:=aZ ht;obtain⟨ES,tok⟩:=hR u l (t,r) vL;have qw:l∈keys:=(cl _ _ _ vL).2;have nl:l≠u:=Rj l r (BH vL);have rt:(R u).take (j+1)=(R u).take j++[(l,(t,r))]:=by rw[aQ,ht];rfl
     refine⟨b,_,rfl,bF.of hb,rfl,_,_,rfl,_,_,rfl,rfl,?_⟩
     try dsimp only [zw]
     have gl:=cz.k (k:=Sum.inr l) j9;rw[pB qw] at gl;have lv:(v l).2.2.length<=900:=by
      have:=(U6.is l qw).short cl nr qw;lia
     refine⟨_,rfl,_,rfl,pc,_,rfl,gl,_,rfl,ad l,r,v l,t,us,rfl,(rB l qw).any,q6 _ _ ES,tok,lv,fun q H7 s7 fq hq=>?_⟩;have m8:=s7 _ _ j9;have EW:∀b o,b≠pc->H4 b=some o->H7 b=some o:=fun b o n e=>s7 _ _ (sE b o n e)
     have vH:∀k∈keys,cJ H H7 (ad k) (v k):=fun k hk=>(rB k hk).same s7
     have qc:=hq.old q6;have gu:=cz.k (k:=Sum.inr u) m8;rw[pB c9] at gu;obtain⟨lq,h1,_⟩:=id qc;obtain⟨lu,h2,_⟩:=vH u c9
     try dsimp only [zw]
     refine⟨_,rfl,q,_,_,_,rfl,rfl,bF.of h1,rfl,_,rfl,_,rfl,pc,_,rfl,gu,ad u,_,_,_,rfl,rfl,bF.of h2,rfl,_,_,rfl,rfl,_,rfl,?_⟩;refine dF (fun c=>?_) (fun c=>?_)
     ·have c:(v u).1<(v l).1+eX t:=bC c;refine⟨_,rfl,_,rfl,_,rfl,pc,_,rfl,eG.k (k:=Sum.inr u) m8 (by rw[jL];exact zx (by lia)),?_⟩;rw[Gs c9,show (dV keys fun z=>if z=u then V.ref q else V.ref (ad z))=dV keys fun k=>V.ref (if k=u then q else ad k) from sW fun z _=>by split<;>rfl];refine⟨_,_,_,fun k=>if k=u then ((v l).1+eX t,(v l).2.1,(v l).2.2++[(t,r)]) else v k,fun k=>if k=u then q else ad k,rfl,fun b o n e=>by rw[zg n];exact EW b o n e,zd,fun k hk=>?_,U6.set fr (fun k hk l b hb=>low k hk l b.2 (BH hb)) ((U6.is l qw).up vL) (Int.le_of_lt c),fun l' b' h'=>?_⟩
      ·dsimp only
       by_cases e:k=u
       ·rw[av e,av e];exact qc.put m8
       ·rw[aq e,aq e];exact (vH k hk).put m8
      ·dsimp only;rw[av rfl];show _<=(v l).1+eX t;rw[rt] at h';rcases rj h' with z | z
       ·rw[aq (Rj l' b'.2 (BH (jg z)))];have:=vM l' b' z;lia
       ·cases z;rw[aq nl];exact gK _
     ·have c:¬((v l).1+eX t > (v u).1):=fun z=>c (aR z)
      refine⟨_,_,_,v,ad,rfl,EW,m8,vH,U6,fun l' b' h'=>?_⟩;rw[rt] at h';rcases rj h' with z | z
      ·exact vM l' b' z
      ·cases z;show (v l).1+eX t<=_;lia
    ·rintro σ H6 ⟨v4,v5,v6,v,ad,rfl,sE,j9,rB,U6,vM⟩;rw[ay,ER,bD] at vM;exact⟨_,_,_,_,v,ad,rfl,sE,j9,rB,by rw[tk];exact U6.snoc vM⟩
  ·rintro σ H5 ⟨v3,v4,v5,v6,v,ad,rfl,kh,gv,uc,U5⟩;rw[ay,bD] at U5;have all:∀k∈keys,k∈os:=fun k hk=>Lw.mem_iff.mpr hk
   exact .inr ⟨pc,_,gv,fun AO=>⟨_,rfl,k pc AO v ad _ ((hh kh).upd rG) rG zd (fun k hk=>(uc k hk).put gv) fun k hk=>⟨U5.is k hk,U5.lo cl all hk⟩⟩⟩
inductive yh (vs:List V) (H:Hp) (Q:VK):Prop
 | mk (p pm pu pt pf:ah) (lo hi:Int) (us:List Str) (az:List ah) (ts:List aS) (af:List ah) (fs:List cI) (_:vs = [.ref p]) (_:iR K H p pm pu pt pf lo hi us az ts af fs) (_:iA (cX ts (ts.zip az)) (zk ts (aL us))) (_:∀(pd:ah) (o:Obj) (v:Str->d8) (ad:Str->ah) (H':Hp),ak H H'->H pd=none->H' pd=some (.gp o (.dK (dV (zk ts (aL us)) fun k=>.ref (ad k))))->(∀k∈zk ts (aL us),cJ H H' (ad k) (v k))->(∀k∈zk ts (aL us),Dn (bZ ts (ts.zip az)) (lK ts hi (fs.zip af)) k (v k)/\j8 (bZ ts (ts.zip az)) (lK ts hi (fs.zip af)) k (v k).1)->Q (.ref pd) H')
def zzx:Sp:=fun vs H Q _=>yh (K:=K) vs H Q
theorem zik (T:Tx K mg w C_Dig zn zp zi zr zq):fH P w K mg base "chains_down" ["telling"] 8 (zzx (K:=K)):=by
 refine T.zir.has bW (fun vs H Q E h=>?_) (fun f bY A outer s H vs Q E hr h=>?_)
 ·obtain⟨p,pm,pu,pt,pf,lo,hi,us,az,ts,af,fs,rfl,_⟩:=h;rfl
 ·obtain⟨p,pm,pu,pt,pf,lo,hi,us,az,ts,af,fs,rfl,hF,wN,k⟩:=h;have hu:=k7 hr;refine⟨_,(ze (sset (i:=1) bW.nd (cu (xX T) (zc (pv 0) zf)))
   (ze (sset (i:=2) bW.nd (cu (Lp T) (zc (cu (Q6 T) (zc (pv 0) zf)) zf)))
   (ze (iN bE rfl (YD K rfl (by rfl) T.reversed (cu (BO T) (zc (pv 0) zf))) (fZ (i:=3) bW.nd) (zj (iN bE rfl (zz K rfl (zy hu (pv 1) (pv 3) (fun _ _=>rfl))) (wj K rfl rfl (nO (fZ (i:=4) bW.nd) (nO (fZ (i:=5) bW.nd) vW))) (ze (sset (i:=6) bW.nd (cu (zn4 T) (zc (zy hu (pv 2) (pv 3) (fun _ _=>rfl)) (zc (pv 5) zf))))
     (zj (iM (iU Bl (ck (zv K rfl) (pv 6) zm) (ck (zv K rfl) (zy hu (pv 2) (pv 4) (fun _ _=>rfl)) zm) (iy _)) (zj (nR hu (pv 2) (pv 4) (pv 6) rfl)) i6))))))
   (zj (yI (fG (pv 2))))))),?_⟩
  have knd:=u9 (ts:=ts) hF.iu.nd;have lk:=hF.iu.kK;have lf:=hF.j6;have cl:=AA (az:=az) hF.iu.ends;have hR:∀k l b,(l,b)∈bZ ts (ts.zip az) k->H b.2=some (.tup (bP b.1))/\lS us b.1:=fun k l b h=>Kq hF.iu h
  have uF:∀k m m',lK ts hi (fs.zip af) k m->lK ts hi (fs.zip af) k m'->m.1=m'.1:=fun k m m' h h'=>by rw[h.high lf,h'.high lf]
  have nr:=wN;rw[wK] at nr;refine⟨_,rfl,p,pu,pt,_,_,us,az,ts,rfl,hF.iu,fun pb ob wO bs H1 s1 Lr hB=>?_⟩;rw[wK] at hB
  try dsimp only [zw]
  refine⟨_,rfl,p,pm,pu,pt,pf,lo,hi,us,az,ts,af,fs,rfl,hF.same s1,fun pl ol vl al H2 s2 Rf hL ud=>?_⟩;refine⟨pl,ol,_,vl,al,false,rfl,hL,knd,lk,fun pc oc adc H3 s3 Hs hC AR=>?_⟩;have hC:H3 pc=some (.dK (dV (zk ts (aL us)) fun k=>.ref (adc k))):=hC;have EU:=s2.trans s3;have EV:=s1.trans EU
  try dsimp only [zw]
  refine⟨_,rfl,p,pu,pt,_,_,us,az,ts,rfl,(hF.same EV).iu,wN,fun po os H4 s4 AG tR O Lw=>?_⟩;have yg:=hB.same (EU.trans s4);have t9:=s4 _ _ hC;have AS:=EV.trans s4;have rG:H pc=none:=(s1.trans s2).free Hs;have En:po≠pc:=fun z=>by rw[z,hC] at AG;cases AG
  have AV:∀k∈zk ts (aL us),cJ H H4 (adc k) ((vl k).1,(vl k).2,[]):=fun k hk=>((AR k hk).same s4).old (s1.trans s2)
  have ud:∀k∈zk ts (aL us),lK ts hi (fs.zip af) k (vl k):=ud;rw[wK] at O;clear wN hB hC AR;generalize zk ts (aL us)=keys at *;generalize bZ ts (ts.zip az)=R at *;generalize lK ts hi (fs.zip af)=F at *;have U0:mY R F keys [] (fun k=>((vl k).1,(vl k).2,[])):=⟨fun k hk=>Dn.bare (ud k hk),fun k hk m hm=>Int.le_of_eq (uF k m (vl k) hm (ud k hk)).symm,fun k hk=>by simp at hk⟩;have hh:∀{H':Hp},(∀b o,b≠pc->H4 b=some o->H' b=some o)->ak H H':=fun kp b o e=>kp b o (zh e rG) (AS _ _ e)
  refine⟨po,os.map V.str,rfl,aI.of tR,YE (xs:=os.map V.str) (fun i σ H'=>∃(v3 v4 v5 v6:Option V) (v:Str->d8) (ad:Str->ah),σ = [some (.ref p),some (.ref pb),some (.ref pc),v3,v4,v5,v6]/\(∀b o,b≠pc->H4 b=some o->H' b=some o)/\H' pc=some (.dK (dV keys fun k=>.ref (ad k)))/\(∀k∈keys,cJ H H' (ad k) (v k))/\mY R F keys (os.reverse.take i) v)
   ⟨none,none,none,none,_,adc,rfl,fun b o _ e=>e,t9,AV,by simpa using U0⟩ (fun i σ H' _ h=>by obtain⟨_,_,_,_,_,_,_,q,_⟩:=h;exact aI.of (q _ _ En tR)) ?_ ?_⟩
  ·rintro i x σ H5 hx ⟨v3,v4,v5,v6,v,ad,rfl,kh,gv,uc,U5⟩;rw[←List.map_reverse,aX] at hx;cases eu:os.reverse[i]? with
   | none=>rw[eu] at hx;cases hx
   | some u=>
    rw[eu] at hx;cases hx;have c9:u∈keys:=O.sub u (List.mem_reverse.mp (aZ eu));obtain⟨fr,low⟩:=Y5 O eu;have B5:=yg.keep t9 kh;have ER:(bs u).length=(R u).length:=(Paired.length (yg.e u c9)).trans Ks;have tk:os.reverse.take (i+1)=os.reverse.take i++[u]:=by rw[aQ,eu];rfl
    try dsimp only [zw]
    refine⟨_,rfl,_,rfl,pb,_,rfl,B5.get c9,wO u,rfl,⟨_,aI.of (B5.l u c9)⟩,lQ (xs:=(bs u).map V.ref) (fun j σ H'=>∃(v4 v5 v6:Option V) (v:Str->d8) (ad:Str->ah),σ = [some (.ref p),some (.ref pb),some (.ref pc),some (.str u),v4,v5,v6]/\(∀b o,b≠pc->H4 b=some o->H' b=some o)/\H' pc=some (.dK (dV keys fun k=>.ref (ad k)))/\(∀k∈keys,cJ H H' (ad k) (v k))/\mY R F keys (os.reverse.take i) v/\∀l b,(l,b)∈(R u).take j->(v l).1<=(v u).1-eX b.1)
     ⟨v4,v5,v6,v,ad,rfl,kh,gv,uc,U5,fun l b h=>by simp at h⟩ (fun j σ H' _ h=>by obtain⟨_,_,_,_,_,_,q,_⟩:=h;exact aI.of ((yg.keep t9 q).l u c9)) ?_ ?_⟩
    ·clear uc gv U5 B5 kh;rintro j x σ H6 hx ⟨v4,v5,v6,v,ad,rfl,sE,j9,rB,U6,vM⟩;have B6:=yg.keep t9 sE;have q6:ak H H6:=hh sE;obtain⟨b,⟨l,r⟩,rfl,om,_,hb⟩:=vc (B6.e u c9) hx;obtain⟨t,ht⟩:=Kr om;have vL:(l,(t,r))∈R u:=aZ ht;obtain⟨ES,tok⟩:=hR u l (t,r) vL;have qw:l∈keys:=(cl _ _ _ vL).2;obtain⟨frl,nl⟩:=low l r (BH vL);have rt:(R u).take (j+1)=(R u).take j++[(l,(t,r))]:=by rw[aQ,ht];rfl
     refine⟨b,_,rfl,bF.of hb,rfl,_,_,rfl,_,_,rfl,rfl,?_⟩
     try dsimp only [zw]
     have gu:=cz.k (k:=Sum.inr u) j9;rw[pB c9] at gu;have lv:(v u).2.2.length<=900:=by
      have:=(U6.is u c9).short cl nr c9;lia
     refine⟨_,rfl,_,rfl,pc,_,rfl,gu,_,rfl,ad u,r,v u,t,us,rfl,(rB u c9).any,q6 _ _ ES,tok,lv,fun q H7 s7 fq hq=>?_⟩;have m8:=s7 _ _ j9;have EW:∀b o,b≠pc->H4 b=some o->H7 b=some o:=fun b o n e=>s7 _ _ (sE b o n e)
     have vH:∀k∈keys,cJ H H7 (ad k) (v k):=fun k hk=>(rB k hk).same s7
     have qc:=hq.old q6;have gl:=cz.k (k:=Sum.inr l) m8;rw[pB qw] at gl;obtain⟨lq,h1,_⟩:=id qc;obtain⟨lu,h2,_⟩:=vH l qw
     try dsimp only [zw]
     refine⟨_,rfl,q,_,_,_,rfl,rfl,bF.of h1,rfl,_,rfl,_,rfl,pc,_,rfl,gl,ad l,_,_,_,rfl,rfl,bF.of h2,rfl,_,_,rfl,rfl,_,rfl,?_⟩;refine dF (fun c=>?_) (fun c=>?_)
     ·have c:(v u).1-eX t<(v l).1:=bC c;refine⟨_,rfl,_,rfl,_,rfl,pc,_,rfl,eG.k (k:=Sum.inr l) m8 (by rw[jL];exact zx (by lia)),?_⟩;rw[Gs qw,show (dV keys fun z=>if z=l then V.ref q else V.ref (ad z))=dV keys fun k=>V.ref (if k=l then q else ad k) from sW fun z _=>by split<;>rfl];refine⟨_,_,_,fun k=>if k=l then ((v u).1-eX t,(v u).2.1,(t,r)::(v u).2.2) else v k,fun k=>if k=l then q else ad k,rfl,fun b o n e=>by rw[zg n];exact EW b o n e,zd,fun k hk=>?_,U6.set frl ((U6.is u c9).dn vL) (Int.le_of_lt c),fun l' b' h'=>?_⟩
      ·dsimp only
       by_cases e:k=l
       ·rw[av e,av e];exact qc.put m8
       ·rw[aq e,aq e];exact (vH k hk).put m8
      ·dsimp only;rw[aq (aC nl)];rw[rt] at h';rcases rj h' with z | z
       ·have h8:=vM l' b' z
        by_cases e:l'=l
        ·rw[av e];rw[e] at h8;show (v u).1-eX t<=_;lia
        ·rw[aq e];exact h8
       ·cases z;rw[av rfl];exact gK _
     ·have c:¬((v u).1-eX t<(v l).1):=fun z=>c (aR z)
      refine⟨_,_,_,v,ad,rfl,EW,m8,vH,U6,fun l' b' h'=>?_⟩;rw[rt] at h';rcases rj h' with z | z
      ·exact vM l' b' z
      ·cases z;show (v l).1<=(v u).1-eX t;lia
    ·rintro σ H6 ⟨v4,v5,v6,v,ad,rfl,sE,j9,rB,U6,vM⟩;rw[ay,ER,bD] at vM;exact⟨_,_,_,_,v,ad,rfl,sE,j9,rB,by rw[tk];exact U6.snoc vM⟩
  ·rintro σ H5 ⟨v3,v4,v5,v6,v,ad,rfl,kh,gv,uc,U5⟩;rw[ay,←l9 (as:=os),bD] at U5;have all:∀k∈keys,k∈os.reverse:=fun k hk=>List.mem_reverse.mpr (Lw.mem_iff.mpr hk)
   exact .inr ⟨pc,_,gv,fun AO=>⟨_,rfl,k pc AO v ad _ ((hh kh).upd rG) rG zd (fun k hk=>(uc k hk).put gv) fun k hk=>⟨U5.is k hk,U5.hi cl all hk⟩⟩⟩
theorem Rk {H H':Hp}{e:ah}(he:H e=none) (s:∀b o,b≠e->H b=some o->H' b=some o):ak H (del H' e):=fun b o h=>by
 have n:=zh h he;unfold del;rw[aq n];exact s b o n h
inductive vN (C:ah) (vs:List V) (H:Hp) (Q:VK) (E:XK):Prop
 | mk (p pu pt:ah) (x y:V) (us:List Str) (az:List ah) (ts:List aS) (_:vs = [.ref p]) (_:nH K H p pu pt x y us az ts) (_:(iA (cX ts (ts.zip az)) (zk ts (aL us))->∀H',ak H H'->Q .cQ H')) (_:∀(d q:ah) (rs:List ah) (H':Hp),ak H H'->H q=none->H' d=some (.xd [("ties",.ref q)])->H' q=some (.lst (rs.map V.ref))->rs≠[]->rs.length<=64->lH (cX ts (ts.zip az)) (zk ts (aL us)) rs->E (.ref C) (some d) H')
def zxl (C:ah):Sp:=fun vs H Q E=>vN (K:=K) C vs H Q E
theorem Rl (T:Tx K mg w C_Dig zn zp zi zr zq):jM P w K mg base "refuse_round" ["telling"] 6 (zxl (K:=K) zp):=by
 refine T.Qu.xN c8 (fun vs H Q E h=>?_) (fun f bY A outer s H vs Q E hr h=>?_)
 ·obtain⟨p,pu,pt,x,y,us,az,ts,rfl,_⟩:=h;rfl
 ·obtain⟨p,pu,pt,x,y,us,az,ts,rfl,hT,kQ,kE⟩:=h;refine⟨_,(ze (sset (i:=1) c8.nd (cu (Lc T) (zc (pv 0) zf)))
   (zj (iM (iU (Dh K rfl (jZ hr)) (pv 1) (iz zf) (iy _)) (zj (Pn (Q7 T) T.KI (hr.mono (by decide)) iX (by rfl) T.G5 (by decide) (zc (pv 1) zf))) i6))),?_⟩
  refine⟨_,rfl,p,pu,pt,x,y,us,az,ts,rfl,hT,fun q rs H1 s1 fq hq lr R=>?_⟩
  try dsimp only [zw]
  refine⟨_,rfl,by decide,fun e he=>?_⟩;have s2:=ak.new (o:=.lst []) he;refine⟨q,e,_,rfl,rfl,cU.qP (aI.of (s2 _ _ hq)) (aI.of zd),_,rfl,?_⟩;refine dF (fun c=>?_) (fun c=>?_)
  ·have c:rs≠[]:=fun z=>by rw[z] at c;simp at c
   have Rm:=s2 _ _ hq;have q2:=s1.trans s2;generalize upd H1 e (.lst [])=H2 at Rm q2;refine⟨_,rfl,fun o ho=>?_⟩;have t3:=ak.new (o:=c5 o zp none) ho;refine⟨o,q,_,rfl,zd,aI.of (t3 _ _ Rm),by rw[ay];lia,fun q' d n1 n2 f1 f2 n3=>?_⟩;refine⟨rfl,some d,zd,?_⟩;rw[zg n1] at f1;rw[zg n2] at f2;refine kE d q' rs _ (q2.trans (Rk ho fun b o' n h=>?_)) (q2.free f1) ?_ ?_ c lr R
   ·rw[zg n,zg (zh h f2),zg (zh h f1),zg n];exact h
   ·unfold del;rw[aq n2,zg n2,zd]
   ·unfold del;rw[aq n1,zg n1,zg (aC n3),zd]
  ·have c:rs = []:=by simpa using c
   refine kQ (fun s hs j hj r=>?_) _ (s1.trans s2);exact (R.gQ.mpr ⟨s,hs,j,hj,r⟩) c
inductive qg (C1 C:ah) (vs:List V) (H:Hp) (Q:VK) (E:XK):Prop
 | mk (p pm pu pt pf:ah) (lo hi:Int) (us:List Str) (az:List ah) (ts:List aS) (af:List ah) (fs:List cI) (_:vs = [.ref p]) (_:iR K H p pm pu pt pf lo hi us az ts af fs) (_:(iA (cX ts (ts.zip az)) (zk ts (aL us))->∀H',ak H H'->vo lo hi us az ts af fs->Q .cQ H')) (_:(∀(d q:ah) (rs:List ah) (H':Hp),ak H H'->H q=none->H' d=some (.xd [("ties",.ref q)])->H' q=some (.lst (rs.map V.ref))->rs≠[]->rs.length<=64->lH (cX ts (ts.zip az)) (zk ts (aL us)) rs->E (.ref C1) (some d) H')) (_:(iA (cX ts (ts.zip az)) (zk ts (aL us))->∀(d r l:ah) (c:d8) (w:Str) (H':Hp),ak H H'->H l=none->H' d=some (.xd [("row",.ref r)])->H' r=some (.tup [.str c.2.1,.ref l,.str w])->H' l=some (.lst (c.2.2.map fun p=>V.ref p.2))->sj lo hi us az ts af fs c w->E (.ref C) (some d) H'))
def zn5 (C1 C:ah):Sp:=fun vs H Q E=>qg (K:=K) C1 C vs H Q E
theorem ze4 (T:Tx K mg w C_Dig zn zp zi zr zq):jM P w K mg base "refuse_undated" ["telling"] 7 (zn5 (K:=K) zp zi):=by
 refine T.ze9.xN gb (fun vs H Q E h=>?_) (fun f bY A outer s H vs Q E hr h=>?_)
 ·obtain⟨p,pm,pu,pt,pf,lo,hi,us,az,ts,af,fs,rfl,_⟩:=h;rfl
 ·obtain⟨p,pm,pu,pt,pf,lo,hi,us,az,ts,af,fs,rfl,hF,kN,Hu,kR⟩:=h;refine⟨_,(ze (i7 (J4 (Rl T) iX (hr.mono (by decide)) (by rfl) (zc (pv 0) zf)))
   (ze (sset (i:=1) gb.nd (cu (ze3 T) (zc (pv 0) zf)))
   (zj (iM (wY (SE (pv 1))) (zj (Pn (Q8 T) T.KN (hr.mono (by decide)) iX (by rfl) T.KL (by decide) (zc (pv 1) zf))) i6)))),?_⟩
  refine⟨_,rfl,p,pu,pt,_,_,us,az,ts,rfl,hF.iu,fun nr H1 s1=>?_,Hu⟩
  try dsimp only [zw]
  refine⟨_,rfl,p,pm,pu,pt,pf,lo,hi,us,az,ts,af,fs,rfl,hF.same s1,nr,fun H2 s2 no=>?_,fun q c w H2 s2 ra ri=>?_⟩
  ·try dsimp only [zw]
   refine⟨_,rfl,_,rfl,i9 ?_⟩;exact kN nr _ (s1.trans s2) no
  ·try dsimp only [zw]
   refine⟨_,rfl,_,rfl,nB ?_⟩;obtain⟨l,h1,h2⟩:=ra;refine⟨_,rfl,fun e he=>?_⟩;have t3:=ak.new (o:=c5 e zi none) he;have lc:c.2.2.length<=900:=by
    obtain⟨k,m,hk,u,_⟩:=ri;have uC:=nr;rw[wK] at uC;have:=u.short (AA (az:=az) hF.iu.ends) uC hk;have:=hF.iu.kK;lia
   refine⟨e,q,l,.str c.2.1,.str w,_,rfl,zd,bF.of (t3 _ _ h1),aI.of (t3 _ _ h2),by rw[ay];lia,fun q' r d n1 n2 n3 fq fr fd n4 n5 n6=>?_⟩;refine⟨rfl,some d,zd,?_⟩;rw[zg n1] at fq;rw[zg n2] at fr;rw[zg n3] at fd;refine kR nr d r q' c w _ (s1.trans (s2.trans (Rk he fun b o n h=>?_))) ((s1.trans s2).free fq) ?_ ?_ ?_ ri
   ·rw[zg n,zg (zh h fd),zg (zh h fr),zg (zh h fq),zg n];exact h
   ·unfold del;rw[aq n3,zg n3,zd]
   ·unfold del;rw[aq n2,zg n2,zg (aC n6),zd]
   ·unfold del;rw[aq n1,zg n1,zg (aC n5),zg (aC n4),zd]
theorem Lx {us:List Str}{ts:List aS}{az rs:List ah}(nr:iA (cX ts (ts.zip az)) (zk ts (aL us))) (hn:rs≠[]) (R:lH (cX ts (ts.zip az)) (zk ts (aL us)) rs):False:=by
 obtain⟨s,hs,j,hj,r⟩:=R.gQ.mp hn;exact nr s hs j hj r
def Ro (H:Hp) (q:ah) (keys:List Str) (f g:Str->Int):Prop:=∃as:List ah,H q=some (.lst (as.map V.ref))/\Paired (fun a k=>H a=some (.tup [.str k,.int (f k),.int (g k)])) as keys
inductive rH (C1 C:ah) (vs:List V) (H:Hp) (Q:VK) (E:XK):Prop
 | mk (p pm pu pt pf:ah) (lo hi:Int) (us:List Str) (az:List ah) (ts:List aS) (af:List ah) (fs:List cI) (_:vs = [.ref p]) (_:iR K H p pm pu pt pf lo hi us az ts af fs) (_:(iA (cX ts (ts.zip az)) (zk ts (aL us))->∀(q:ah) (f g:Str->Int) (H':Hp),ak H H'->H q=none->Ro H' q (zk ts (aL us)) f g->(∀k∈zk ts (aL us),j7 (bZ ts (ts.zip az)) (lJ ts lo (fs.zip af)) k (f k))->(∀k∈zk ts (aL us),j8 (bZ ts (ts.zip az)) (lK ts hi (fs.zip af)) k (g k))->vo lo hi us az ts af fs->Q (.ref q) H')) (_:(∀(d q:ah) (rs:List ah) (H':Hp),ak H H'->H q=none->H' d=some (.xd [("ties",.ref q)])->H' q=some (.lst (rs.map V.ref))->rs≠[]->rs.length<=64->lH (cX ts (ts.zip az)) (zk ts (aL us)) rs->E (.ref C1) (some d) H')) (_:(iA (cX ts (ts.zip az)) (zk ts (aL us))->∀(d r l:ah) (c:d8) (w:Str) (H':Hp),ak H H'->H l=none->H' d=some (.xd [("row",.ref r)])->H' r=some (.tup [.str c.2.1,.ref l,.str w])->H' l=some (.lst (c.2.2.map fun p=>V.ref p.2))->sj lo hi us az ts af fs c w->E (.ref C) (some d) H'))
def zr1 (C1 C:ah):Sp:=fun vs H Q E=>rH (K:=K) C1 C vs H Q E
theorem Rp (T:Tx K mg w C_Dig zn zp zi zr zq):jM P w K mg base "spans" ["telling"] 9 (zr1 (K:=K) zp zi):=by
 refine T.zxq.xN mZ (fun vs H Q E h=>?_) (fun f bY A outer s H vs Q E hr h=>?_)
 ·obtain⟨p,pm,pu,pt,pf,lo,hi,us,az,ts,af,fs,rfl,_⟩:=h;rfl
 ·obtain⟨p,pm,pu,pt,pf,lo,hi,us,az,ts,af,fs,rfl,hF,kN,Hu,kR⟩:=h;have hu:=k7 hr;refine⟨_,(ze (i7 (J4 (ze4 T) iX (hr.mono (by decide)) (by rfl) (zc (pv 0) zf)))
   (ze (sset (i:=1) mZ.nd (cu (zld T) (zc (pv 0) zf)))
   (ze (sset (i:=2) mZ.nd (cu (zik T) (zc (pv 0) zf)))
   (zj (fG (yz (own:=["name"]) (cap:=["ups","downs"]) (ix:=[1,2]) (pG:=zo (top 42)) rfl ⟨rfl,by decide +kernel,by decide +kernel,by decide +kernel,by decide +kernel⟩ rfl (wD (pv 1)) (fun _ _ _ _=>sN (i:=0) (show List.Nodup (["name","ups","downs"]:List Str) by decide +kernel) rfl (Or.inl rfl)) (fun _ _ _ _=>xy) (fun _ _ _ _=>(jq (zc (pv 0) (zc (ck (zv K rfl) (zy hu (pv 1) (pv 0) (fun _ _=>rfl)) zm) (zc (ck (zv K rfl) (zy hu (pv 2) (pv 0) (fun _ _=>rfl)) zm) zf))))))))))),?_⟩
  have lk:=hF.iu.kK;refine⟨_,rfl,p,pm,pu,pt,pf,lo,hi,us,az,ts,af,fs,rfl,hF,fun nr H1 s1 no=>?_,Hu,kR⟩
  try dsimp only [zw]
  refine⟨_,rfl,p,pm,pu,pt,pf,lo,hi,us,az,ts,af,fs,rfl,hF.same s1,nr,fun pa oa va aa H2 s2 fpa hpa Dy ua=>?_⟩
  try dsimp only [zw]
  refine⟨_,rfl,p,pm,pu,pt,pf,lo,hi,us,az,ts,af,fs,rfl,hF.same (s1.trans s2),nr,fun pb ob vb ab H3 s3 Lr hpb DA ub=>?_⟩;have q3:=s1.trans (s2.trans s3);have AW:=s3 _ _ hpa;have Ly:∀k∈zk ts (aL us),cJ H1 H3 (aa k) (va k):=fun k hk=>(Dy k hk).same s3
  have kN':=fun q H' s f h=>kN nr q (fun k=>(va k).1) (fun k=>(vb k).1) H' s f h (fun k hk=>(ua k hk).2) (fun k hk=>(ub k hk).2) no
  clear ua ub kN Hu kR;generalize zk ts (aL us)=keys at *
  try dsimp only [zw]
  refine⟨_,rfl,pa,oa,_,rfl,AW,fun D hD=>?_⟩;refine yF (JO (a:=pa) (ob:=oa) (kvs:=dV keys fun k=>.ref (aa k))) (fun i aN ys H'=>∃(w0:Option V) (as:List ah),aN = [w0,some (.ref pa),some (.ref pb)]/\ys=as.map V.ref/\Paired (fun a k=>H' a=some (.tup [.str k,.int (va k).1,.int (vb k).1])) as (keys.take i)/\ak H3 H'/\H' D=some (.lst ys))
   ⟨none,[],rfl,rfl,.nil,ak.new hD,zd⟩ (fun i aN ys H' h=>?_) (by rw[ay,jL];exact qQ (by lia)) ?_ ?_
  ·obtain⟨_,as,_,rfl,pb',q,hd⟩:=h;refine⟨q _ _ AW,hd,?_⟩;have:=Paired.length pb';rw[bI] at this;rw[ay];lia
  ·rintro i x aN ys H4 hx ⟨w0,as,rfl,rfl,pr,q4,kg⟩;have k8:=iV hx;rw[Gu,aX] at hx;cases eu:keys[i]? with
   | none=>rw[eu] at hx;cases hx
   | some u=>
    rw[eu] at hx;cases hx;have cZ:u∈keys:=aZ eu;obtain⟨la,h1,_⟩:=(Ly u cZ).same q4;obtain⟨lb,h2,_⟩:=(DA u cZ).same q4
    try dsimp only [zw]
    unfold pT;dsimp only;rw[av rfl];refine⟨_,rfl,_,rfl,_,rfl,pa,_,rfl,rW (q4 _ _ AW) cZ,aa u,_,_,_,rfl,rfl,bF.of h1,rfl,_,rfl,_,rfl,pb,_,rfl,rW (q4 _ _ hpb) cZ,ab u,_,_,_,rfl,rfl,bF.of h2,rfl,(by show 3<=sizeLine;decide),fun b1 qa=>?_⟩;have w1:=ak.new (o:=.tup [.str u,.int (va u).1,.int (vb u).1]) qa;have pD:=w1 _ _ kg;refine⟨pD,wz k8 ⟨_,as++[b1],rfl,by rw[aV];rfl,?_,(q4.trans w1).upd hD,zd⟩⟩;rw[aQ,eu];exact Paired.snoc (Paired.gP pr fun a z e=>rT pD _ _ (w1 _ _ e)) (rT pD _ _ zd)
  rintro aN ys H4 ⟨w0,as,rfl,rfl,pr,q4,kg⟩;rw[ay,jL,bD] at pr;exact kN' D _ (q3.trans q4) (q3.free hD) ⟨as,kg,pr⟩
inductive rJ (vs:List V) (H:Hp) (Q:VK):Prop
 | mk (p pm pu pt pf:ah) (lo hi:Int) (us:List Str) (az:List ah) (ts:List aS) (af:List ah) (fs:List cI) (_:vs = [.ref p]) (_:iR K H p pm pu pt pf lo hi us az ts af fs) (_:iA (cX ts (ts.zip az)) (zk ts (aL us))) (_:(∀c w,¬sj lo hi us az ts af fs c w)) (_:∀(q:ah) (f g:Str->Int) (H':Hp),ak H H'->H q=none->Ro H' q (zk ts (aL us)) f g->(∀k∈zk ts (aL us),j7 (bZ ts (ts.zip az)) (lJ ts lo (fs.zip af)) k (f k))->(∀k∈zk ts (aL us),j8 (bZ ts (ts.zip az)) (lK ts hi (fs.zip af)) k (g k))->vo lo hi us az ts af fs->Q (.ref q) H')
def zr3:Sp:=fun vs H Q _=>rJ (K:=K) vs H Q
theorem zxm (T:Tx K mg w C_Dig zn zp zi zr zq):fH P w K mg base "spans" ["telling"] 9 (zr3 (K:=K)):=(Rp T).good fun vs H Q E h=>by
 obtain⟨p,pm,pu,pt,pf,lo,hi,us,az,ts,af,fs,e,hF,nr,no,k⟩:=h;exact⟨p,pm,pu,pt,pf,lo,hi,us,az,ts,af,fs,e,hF,fun _=>k,fun d q rs H' _ _ _ _ hn _ R=>Lx nr hn R,fun _ d r l c w H' _ _ _ _ _ ri=>no c w ri⟩
def RdE (C:ah) (H:Hp) (E:XK) (us:List Str) (az:List ah) (ts:List aS):Prop:=∀(d q:ah) (rs:List ah) (H':Hp),ak H H'->H q=none->H' d=some (.xd [("ties",.ref q)])->H' q=some (.lst (rs.map V.ref))->rs≠[]->rs.length<=64->lH (cX ts (ts.zip az)) (zk ts (aL us)) rs->E (.ref C) (some d) H'
inductive yi (C:ah) (more:List V->Prop) (vs:List V) (H:Hp) (Q:VK) (E:XK):Prop
 | mk (p pu pt:ah) (x y:V) (us:List Str) (az:List ah) (ts:List aS) (rest:List V) (_:vs = .ref p::rest) (_:more rest) (_:nH K H p pu pt x y us az ts) (_:¬iA (cX ts (ts.zip az)) (zk ts (aL us))) (_:RdE C H E us az ts)
def Rq (C:ah) (more:List V->Prop):Sp:=fun vs H Q E=>yi (K:=K) C more vs H Q E
theorem zxn (T:Tx K mg w C_Dig zn zp zi zr zq):jM P w K mg base "order" ["telling"] 7 (Rq (K:=K) zp fun r=>r = []):=by
 refine T.Qv.xN gF (fun vs H Q E h=>?_) (fun f bY A outer s H vs Q E hr h=>?_)
 ·obtain⟨p,pu,pt,x,y,us,az,ts,rest,rfl,rfl,_⟩:=h;rfl
 ·obtain⟨p,pu,pt,x,y,us,az,ts,rest,rfl,rfl,hT,nn,kE⟩:=h;have hu:=k7 hr;refine⟨_,(ze (i7 (J4 (Rl T) iX (hr.mono (by decide)) (by rfl) (zc (pv 0) zf)))
   (ze (sset (i:=1) gF.nd (cu (xX T) (zc (pv 0) zf)))
   (ze (sset (i:=2) gF.nd pR)
   (ze (Fl iX.own (iU Bl (k6 M9 (by rfl) T.len dQ (zc (pv 2) zf)) (k6 Om (by rfl) T.len dQ (zc (pv 1) zf)) (iy _)) (zj (nR hu (pv 2) (cu (zev T) (zc (pv 1) (zc (pv 2) zf))) wX rfl)))
   (zj (fG (uP (Ge rfl) (by rfl) T.list gw (zc (pv 2) zf)))))))),?_⟩
  exact⟨_,rfl,p,pu,pt,x,y,us,az,ts,rfl,hT,fun nr=>absurd nr nn,kE⟩
theorem zxo (T:Tx K mg w C_Dig zn zp zi zr zq):jM P w K mg base "order" ["telling"] 7 (fun vs H Q E=>QL (K:=K) vs H Q E\/Rq (K:=K) zp (fun r=>r = []) vs H Q E):=(BO T).x.or (zxn T)
inductive ue (vs:List V) (H:Hp) (Q:VK):Prop
 | mk (a pn pk pr:ah) (ns:List Int) (xs ms:List Str) (lo hi:Int) (_:vs = [.ref a,.ref pn,.ref pk,.ref pr]) (_:aI K H a (ns.map V.int)) (_:ns.length<=63) (_:H pn=some (.lst (xs.map V.str))) (_:H pk=some (.lst (ms.map V.str))) (_:H pr=some (.tup [.int lo,.int hi])) (_:xs.length=7) (_:xs.Nodup) (_:(∀x∈xs,nG x=true)) (_:ms.length=7) (_:ms.Nodup) (_:(∀x∈ms,nG x=true)) (_:∀(q sI p pm du dt df pu pt pf:ah) (af at' ag:List ah) (s:SD) (H':Hp),ak H H'->H' q=some (.tup [.ref p,.ref sI])->H' sI=some (.tup [.ref pr,.ref pu,.ref pt,.ref pf])->cG C_Dig H' p pm du dt df lo hi s.us s.ts s.fs af->fD K H' pu pt pf s at' ag->jt s.us s.ts s.fs->s.us.length<=7->s.ts.length<=19->s.fs.length<=7->Q (.ref q) H')
def zua:Sp:=fun vs H Q _=>ue (K:=K) (C_Dig:=C_Dig) vs H Q
theorem zn6 (T:Tx K mg w C_Dig zn zp zi zr zq):fH P w K mg base "_law_dig" ["_law_script","_law_names_here","_law_marks","_law_frame_here"] 4 (zua (C_Dig:=C_Dig) (K:=K)):=by
 refine T.zod.has cH (fun vs H Q E h=>?_) (fun f bY A outer s H vs Q E hr h=>?_)
 ·obtain⟨a,pn,pk,pr,ns,xs,ms,lo,hi,rfl,_⟩:=h;rfl
 ·obtain⟨a,pn,pk,pr,ns,xs,ms,lo,hi,rfl,ha,hl,hn,hk,sC,x7,Lz,LA,m7,LB,LC,k⟩:=h;refine⟨_,(ze (sset (i:=4) cH.nd (YJ (zgt T) T.ZG T.ZH (hr.mono (by decide)) (by rfl) T.ZF (zc (ck (zv K rfl) (pv 3) zm) (zc (ck (zv K rfl) (pv 3) zm) zf))))
   (ze (sset (i:=5) cH.nd (CF (F4 K rfl) (pv 1) FH (Bm (fJ um zm (fJ w6 (cu (BJ T) (zc (pv 0) (zc zm zf))) zm)))))
   (ze (sset (i:=6) cH.nd (iz zf))
   (ze (sset (i:=7) cH.nd (iz zf))
   (ze (iN bE rfl (zz K rfl (pv 5)) (fZ (i:=8) cH.nd) (zj (i7 (Bw (zgu T) T.lU (hr.mono (by decide)) (pv 4) (zc (pv 8) zf)))))
   (ze (iN bE rfl (zz K rfl (CF (F4 K rfl) (pv 0) (Bm zm) (Bm zm))) (fZ (i:=9) cH.nd) (zj (iM (PW.pt (Ci (iU vY (cu (qy T) (zc (pv 9) (zc zm (zc zm zf)))) zm (iy _)) (Cg (iU Bl (k6 (wg K rfl) (by rfl) T.len dQ (zc (pv 7) zf)) zm (iy _))))) (ze (i7 (pV K rfl PySem.F.plainAttrs_list PySem.F.slot_list_append PySem.F.type_list_append pQ (pv 7) (zc (cu (zlb T) (zc (pv 2) (zc (pv 5) (zc (k6 (wg K rfl) (by rfl) T.len dQ (zc (pv 7) zf)) (zc (pv 9) zf))))) zf)))
     (zj (i7 (Bw (zgw T) T.lU (hr.mono (by decide)) (pv 4) (zc (ck (zv K rfl) (ck (mO K rfl) (pv 7) (yt yu zm)) zm) (zc (ck (zv K rfl) (ck (mO K rfl) (pv 7) (yt yu zm)) zm) (zc (ck (zv K rfl) (ck (mO K rfl) (pv 7) (yt yu zm)) zm) (zc (ck (zv K rfl) (ck (mO K rfl) (pv 7) (yt yu zm)) zm) zf)))))))) (ze (sset (i:=10) cH.nd (cu (znx T) (zc (pv 5) (zc (pv 9) zf))))
     (zj (iM (iU (Vu K rfl (Jp hr)) (pv 10) (pv 6) (by with_unfolding_all rfl)) (ze (i7 (pV K rfl PySem.F.plainAttrs_list PySem.F.slot_list_append PySem.F.type_list_append pQ (pv 6) (zc (pv 10) zf)))
      (zj (i7 (Bw (zii T) T.lU (hr.mono (by decide)) (pv 4) (zc (pv 10) zf))))) i6))))))
   (zj (fG (jq (zc (pv 4) (zc (jq (zc (pv 3) (zc (pv 5) (zc (pv 6) (zc (pv 7) zf))))) zf))))))))))),?_⟩
  try dsimp only [zw]
  refine⟨_,rfl,pr,_,_,_,rfl,rfl,bF.of sC,rfl,_,rfl,pr,_,_,_,rfl,rfl,bF.of sC,rfl,?_⟩;intro p dx Ej hdx npx;have s7:ak H (upd (upd H dx (.own p)) p (.ins C_Dig dx [])):=fun b o e=>by
   rw[zg (zh e Ej),zg (zh e hdx)];exact e
  refine⟨p,dx,lo,hi,rfl,zd,fun pm du dt df H7 f1 f2 f3 R7 kp=>⟨rfl,?_⟩⟩;have s8:ak H H7:=fun b o e=>kp b o (s7 b o e) (zh e Ej)
  have fu:=s7.free f1;have ft:=s7.free f2;have ff:=s7.free f3
  try dsimp only [zw]
  refine⟨_,rfl,_,rfl,a,ns,_,rfl,s8.seq ha,by decide,?_⟩;refine⟨_,_,rfl,rfl,(by decide:(0:Int)<7),_,_,rfl,rfl,?_⟩;have b1:=jE (uY ns 2) (show (7:Int)≠0 by decide);have b2:=jx (uY ns 2) (show (0:Int)<7 by decide);obtain⟨z,hz⟩:∃z,z=1+uY ns 2%7:=⟨_,rfl⟩;have z1:1<=z:=by lia
  have z2:z<=7:=by lia
  subst hz;refine⟨_,rfl,pn,_,rfl,aI.of (s8 _ _ hn),fun pu Ek=>?_⟩;rw[NY (by lia) (by rw[ay,x7];lia),←List.map_take];obtain⟨us,EX⟩:∃us,us=xs.take (1+uY ns 2%7).toNat:=⟨_,rfl⟩;have LD:us.length<=7/\us≠[]:=by
   rw[EX];refine⟨by rw[bI];lia,fun e=>?_⟩;have:=bX List.length e;rw[bI,x7] at this;have h0:([]:List Str).length=0:=rfl;lia
  have Rr:us.Nodup:=by rw[EX];exact Lz.sublist (List.take_sublist _ _)
  have Hv:∀x∈us,nG x=true:=fun x hx=>LA x (by rw[EX] at hx;exact jg hx)
  rw[←EX];clear EX z1 z2 b1 b2;have w1:=ak.new (o:=.lst (us.map V.str)) Ek
  try dsimp only [zw]
  refine⟨by decide,fun jw AF=>?_⟩;have w2:=ak.new (o:=.lst []) AF
  try dsimp only [zw]
  refine⟨by decide,fun pf tO=>?_⟩;have w3:=ak.new (o:=.lst []) tO;have eu:=(w2.trans w3) _ _ (zd (H:=H7) (a:=pu) (o:=.lst (us.map V.str)));have et:=w3 _ _ (zd (H:=upd H7 pu (.lst (us.map V.str))) (a:=jw) (o:=.lst []));have ef:=zd (H:=upd (upd H7 pu (.lst (us.map V.str))) jw (.lst [])) (a:=pf) (o:=.lst []);have n1:pu≠jw:=zh zd AF;have n2:pu≠pf:=zh (w2 _ _ zd) tO;have n3:jw≠pf:=zh zd tO;have Hx:=w1.trans (w2.trans w3);have gu:=s8.free Ek;have gt:=s8.free (w1.free AF);have gf:=s8.free ((w1.trans w2).free tO);have R8:=R7.same Hx;have s9:=s8.trans Hx;generalize upd (upd (upd H7 pu (.lst (us.map V.str))) jw (.lst [])) pf (.lst [])=H8 at eu et ef R8 s9 Hx;clear w1 w2 w3 s8 s7 R7 kp;have dR:∀{G G':Hp},ak H G->(∀b o,G b=some o->b≠du->b≠dt->b≠df->b≠jw->b≠pf->G' b=some o)->ak H G':=fun s kp b o e=>kp b o (s b o e) (zh e fu) (zh e ft) (zh e ff) (zh e gt) (zh e gf)
  try dsimp only [zw]
  refine⟨_,rfl,pu,rfl,⟨_,aI.of eu⟩,lQ (K:=K) (a:=pu) (xs:=us.map V.str) (fun i σ H'=>∃v8:Option V,σ = [some (.ref a),some (.ref pn),some (.ref pk),some (.ref pr),some (.ref p),some (.ref pu),some (.ref jw),some (.ref pf),v8,none,none]/\cG C_Dig H' p pm du dt df lo hi (us.take i) [] [] []/\(∀b o,H8 b=some o->b≠du->H' b=some o))
   ⟨none,rfl,by exact R8,fun _ _ e _=>e⟩ (fun i σ H' _ h=>by obtain⟨_,_,R,kp⟩:=h;exact aI.of (kp _ _ eu (lO eu R8.u (fun z=>nomatch z)))) ?_ ?_⟩
  ·rintro i v σ G hx ⟨v8,rfl,R,kp⟩;have uv:=iV hx;rw[ay] at uv;have ex:us[i]? = some us[i]:=aU uv;rw[aX,ex] at hx;cases hx;have LF:us[i] ∉ us.take i:=D3 Rr ex;obtain⟨dx,hp⟩:=R.ob
   try dsimp only [zw]
   refine⟨_,rfl,p,dx,_,rfl,hp,xJ _ _ _ _ (by decide +kernel),_,rfl,p,pm,du,dt,df,lo,hi,us.take i,[],[],[],us[i],rfl,R,LF,by rw[bI];lia,?_⟩;refine⟨_,rfl,?_,fun b o e n=>?_⟩
   ·rw[aQ,ex];exact R.Kp
   ·rw[zg n];exact kp b o e n
  rintro σ G ⟨v8,rfl,R,kp⟩;rw[ay,bD] at R;have L0:fD K G pu jw pf ⟨us,[],[]⟩ [] []:=⟨kp _ _ eu (lO eu R8.u (fun z=>nomatch z)),kp _ _ et (lO et R8.u (fun z=>nomatch z)),.nil,kp _ _ ef (lO ef R8.u (fun z=>nomatch z)),.nil,n1,n2,n3⟩;have sG:ak H G:=dR s9 fun b o e b1 _ _ _ _=>kp b o e b1
  clear kp eu et ef R8 Hx s9
  try unfold wZ
  try dsimp only [zw]
  obtain⟨cs,ec,lc⟩:=YS (ns:=ns) (a:=5) (b:=24);refine⟨_,rfl,_,rfl,_,rfl,a,_,rfl,sG.seq ha,fun pc AB=>?_⟩;rw[show kJ (ns.map V.int) (some 5) (some 24)=cs.map V.int from ec];have t6:=ak.new (o:=.lst (cs.map V.int)) AB;have nc:pc≠jw/\pc≠pf:=⟨(zh L0.t AB).symm,(zh L0.f AB).symm⟩;have ok0:jt us [] []:=⟨Rr,Hv,by simp,by simp,by simp,by simp⟩;refine⟨pc,rfl,⟨_,aI.of zd⟩,lQ (K:=K) (a:=pc) (xs:=cs.map V.int) (fun i σ H'=>∃(v8 v9 v10:Option V) (ts:List aS) (fs:List cI) (af at' ag:List ah),σ = [some (.ref a),some (.ref pn),some (.ref pk),some (.ref pr),some (.ref p),some (.ref pu),some (.ref jw),some (.ref pf),v8,v9,v10]/\cG C_Dig H' p pm du dt df lo hi us ts fs af/\fD K H' pu jw pf ⟨us,ts,fs⟩ at' ag/\jt us ts fs/\ts.length<=i/\fs.length<=7/\fs.map cI.n=ms.take fs.length/\ak H H'/\H' pc=some (.lst (cs.map V.int)))
   ⟨_,none,none,[],[],[],[],[],rfl,R.same t6,L0.same t6,ok0,c6 _,c6 _,rfl,sG.trans t6,zd⟩ (fun i σ H' _ h=>by obtain⟨_,_,_,_,_,_,_,_,_,_,_,_,_,_,_,_,h⟩:=h;exact aI.of h) ?_ ?_⟩
  ·clear L0 t6 R;rintro i v σ G1 hx ⟨v8',v9,v10,ts,fs,af,at',ag,rfl,R,L,ok,LG,BL,EY,s1,LH⟩;have uv:=iV hx;rw[ay] at uv;obtain⟨c,rfl⟩:∃z,v=V.int z:=by
    rw[aX,aU uv] at hx;exact⟨_,(cD hx).symm⟩
   have lt':=L.Ky;have Hy:=L.j6;have lt':at'.length=ts.length:=lt';have Hy:ag.length=fs.length:=Hy;have hk1:=s1 _ _ hk
   try dsimp only [zw]
   refine zZ (decide (pt c 0 4=1)&&decide ((fs.length:Int)<7)) (fun Q' hQ=>?_) (fun G2 s2=>?_)
   ·refine⟨_,rfl,_,_,_,rfl,by decide,rfl,_,rfl,?_⟩;rw[show decide (V.int (pt c 0 4)=V.int 1)=decide (pt c 0 4=1) from jm.mpr ⟨fun z=>V.int.inj z,fun z=>bX V.int z⟩];generalize decide (pt c 0 4=1)=w0 at hQ;cases w0 with
    | false=>exact i9 (hQ _ (ak.refl _))
    | true=>
     refine nB ?_;refine⟨_,rfl,pf,_,rfl,.inl (aI.of L.f),_,_,rfl,rfl,_,rfl,?_⟩;rw[ay,Hy];exact hQ _ (ak.refl _)
   have R2:=R.same s2;have L2:=L.same s2;have q2:=s1.trans s2;have EZ:=s2 _ _ LH;have tP:=s2 _ _ hk1;refine dF (fun c1=>?_) (fun c1=>?_)
   ·have f7:fs.length<7:=by
     have:decide ((fs.length:Int)<7)=true:=by
      cases e:decide ((fs.length:Int)<7) with
      | true=>rfl
      | false=>rw[e,Bool.and_false] at c1;cases c1
     have:=bC this;lia
    obtain⟨mk,E2⟩:∃mk,ms[fs.length]? = some mk:=⟨_,aU (by lia)⟩;have E3:mk ∉ fs.map cI.n:=by rw[EY];exact D3 LB E2
    refine⟨_,rfl,.inl ⟨rfl,_,aI.of L2.f⟩,_,rfl,_,rfl,_,rfl,pf,_,rfl,.inl (aI.of L2.f),_,rfl,pk,pu,ms,us,_,c,mk,rfl,aI.of tP,aI.of L2.u,LD.2,by lia,by rw[ay,Hy];exact pP (by rw[aX,E2];rfl),LC _ (aZ E2),fun a1 f G3 se efn fpa ea s3=>?_⟩;subst efn;have q3:=q2.trans s3;have L3:=L2.same s3;have R3:=R2.same s3;refine⟨pf,_,_,rfl,rfl,L3.f,by rw[ay];exact zx (by lia),?_⟩;rw[show ag.map V.ref++[V.ref a1]=(ag++[a1]).map V.ref by rw[aV];rfl];have L4:=L3.Az (fs++[f]) (ag++[a1]) (by rw[aV];exact bT.snoc L3.ff ea);have R4:=R3.lst (ys:=(ag++[a1]).map V.ref) L3.f;have Hz:=rT (ys:=(ag++[a1]).map V.ref) L3.f _ _ ea;obtain⟨LI,p9⟩:=R4.ob;have AX:jY ((ag++[a1]).map V.ref) (-1)=some (.ref a1):=by rw[aV];exact MR _ _
    try dsimp only
    refine⟨_,rfl,p,LI,_,rfl,p9,xJ _ _ _ _ (by decide +kernel),_,rfl,_,rfl,pf,_,_,_,rfl,rfl,aI.of L4.f,AX,a1,_,_,_,rfl,rfl,bF.of Hz,rfl,_,rfl,_,rfl,pf,_,_,_,rfl,rfl,aI.of L4.f,AX,a1,_,_,_,rfl,rfl,bF.of Hz,rfl,_,rfl,_,rfl,pf,_,_,_,rfl,rfl,aI.of L4.f,AX,a1,_,_,_,rfl,rfl,bF.of Hz,rfl,_,rfl,_,rfl,pf,_,_,_,rfl,rfl,aI.of L4.f,AX,a1,_,_,_,rfl,rfl,bF.of Hz,rfl,p,pm,du,dt,df,lo,hi,us,ts,fs,af,f,rfl,R4,E3,se.u,by lia,fun b hb=>?_⟩;have t8:=ak.new (o:=.tup (gk f)) hb;have R8:=R4.same t8;have Rt:=bT.snoc R8.ft (zd (H:=upd G3 pf (.lst ((ag++[a1]).map V.ref))) (a:=b) (o:=.tup (gk f)));rw[show fs.map gk++[gk f]=(fs++[f]).map gk by rw[aV];rfl] at Rt;refine⟨_,_,_,ts,fs++[f],af++[b],at',ag++[a1],rfl,R8.Az Rt,(L4.same t8).dict R8.f .k,?_,by lia,?_,?_,?_,?_⟩
    ·exact After.ok (s:=⟨us,ts,fs⟩) (s':=⟨us,ts,fs++[f]⟩) Hv (.find E3 se.u) (.find se (aZ E2) (ms:=ms)) ok
    ·rw[bK];exact f7
    ·rw[aV,EY,bK,show fs.length + [f].length=fs.length+1 from rfl,aQ,E2];rfl
    ·intro b' o e;have h1:=q3 _ _ e;rw[zg (zh e ff)];refine t8 _ _ ?_;rw[zg (zh e gf)];exact h1
    ·have h1:=s3 _ _ EZ;have h2:upd G3 pf (.lst ((ag++[a1]).map V.ref)) pc=some (.lst (cs.map V.int)):=by rw[zg nc.2];exact h1
     have h3:=t8 _ _ h2;rw[zg (lO h3 R8.f (fun z=>nomatch z))];exact h3
   ·refine⟨_,rfl,_,rfl,pu,us,c,rfl,aI.of L2.u,iC.mpr LD.2,fun a1 t G3 tok fa wQ s3=>?_⟩;have q3:=q2.trans s3;have L3:=L2.same s3;have R3:=R2.same s3;have hw:=(tok.ok.words Hv).1;have E4:=s3 _ _ EZ
    try dsimp only [zw]
    refine⟨_,rfl,_,rfl,jw,_,_,rfl,.inl (aI.of L3.t),L3.tt.VP (n:=7) ok.tw wQ hw,_,rfl,?_⟩;rw[av rfl,L3.tt.Jv];refine dF (fun c4=>?_) (fun c4=>⟨_,_,_,ts,fs,af,at',ag,rfl,R3,L3,ok,by lia,BL,EY,q3,E4⟩);have ht:t ∉ ts:=fun z=>by
     have:bP t∈ts.map bP:=aM.mpr ⟨t,z,rfl⟩;simp[this] at c4
    refine⟨_,rfl,.inl ⟨rfl,_,aI.of L3.t⟩,_,rfl,jw,_,_,rfl,rfl,L3.t,by rw[ay];exact zx (by lia),?_⟩;rw[show at'.map V.ref++[V.ref a1]=(at'++[a1]).map V.ref by rw[aV];rfl];have L4:=L3.Ay (ts++[t]) (at'++[a1]) (by rw[aV];exact bT.snoc L3.tt wQ);have R4:=R3.lst (ys:=(at'++[a1]).map V.ref) L3.t;have ha4:=rT (ys:=(at'++[a1]).map V.ref) L3.t _ _ wQ;obtain⟨LI,p9⟩:=R4.ob
    try dsimp only
    refine⟨_,rfl,p,LI,_,rfl,p9,xJ _ _ _ _ (by decide +kernel),_,rfl,p,pm,du,dt,df,a1,lo,hi,us,ts,fs,af,t,rfl,R4,ok,ha4,tok,ht,by lia,?_⟩;refine⟨_,_,_,ts++[t],fs,af,at'++[a1],ag,rfl,R4.Ay,L4.dict R4.t .t,?_,by rw[bK];exact o5 LG,BL,EY,?_,?_⟩
    ·exact After.ok (s:=⟨us,ts,fs⟩) (s':=⟨us,ts++[t],fs⟩) Hv (.yP tok.a tok.b ht) (.yP tok (ms:=ms)) ok
    ·intro b' o e;rw[zg (zh e ft),zg (zh e gt)];exact q3 _ _ e
    ·have h2:upd G3 jw (.lst ((at'++[a1]).map V.ref)) pc=some (.lst (cs.map V.int)):=by rw[zg nc.1];exact E4
     rw[zg (lO h2 R4.t (fun z=>nomatch z))];exact h2
  rintro σ G1 ⟨v8',v9,v10,ts,fs,af,at',ag,rfl,R,L,ok,LG,BL,EY,s1,-⟩;rw[ay] at LG
  try unfold wZ
  try dsimp only [zw]
  refine⟨_,rfl,_,rfl,_,rfl,_,rfl,_,rfl,by show 4<=sizeLine;decide,fun sI yj=>⟨by show 2<=sizeLine;decide,fun q hq=>?_⟩⟩;have t1:=ak.new (o:=.tup [.ref pr,.ref pu,.ref jw,.ref pf]) yj;have t2:=ak.new (o:=.tup [.ref p,.ref sI]) hq;exact k q sI p pm du dt df pu jw pf af at' ag ⟨us,ts,fs⟩ _ (s1.trans (t1.trans t2)) zd (t2 _ _ zd) (R.same (t1.trans t2)) (L.same (t1.trans t2)) ok LD.1 (by show ts.length<=19;lia) BL
inductive qh (vs:List V) (H:Hp) (Q:VK):Prop
 | mk (p pu pt:ah) (x y:V) (us:List Str) (az:List ah) (ts:List aS) (_:vs = [.ref p]) (_:nH K H p pu pt x y us az ts) (_:∀(q:ah) (rs:List ah) (H':Hp),ak H H'->H q=none->H' q=some (.lst (rs.map V.ref))->rs.length<=64->lH (cX ts (ts.zip az)) (zk ts (aL us)) rs->Q (.ref q) H')
def zn7:Sp:=fun vs H Q _=>qh (K:=K) vs H Q
theorem zj8 (T:Tx K mg w C_Dig zn zp zi zr zq):fH P w K mg base "_law_round" ["_law_telling"] 8 (zn7 (K:=K)):=by
 refine T.zkc.has d9 (fun vs H Q E h=>?_) (fun f bY A outer s H vs Q E hr h=>?_)
 ·obtain⟨p,pu,pt,x,y,us,az,ts,rfl,_⟩:=h;rfl
 ·obtain⟨p,pu,pt,x,y,us,az,ts,rfl,hT,k⟩:=h;refine⟨_,(ze (sset (i:=1) d9.nd (iz zf))
   (ze (Pe ⟨rfl,rfl,rfl⟩ (fun pn xe Es pt=>(zj (i7 (Pd (zxo T) pt (hr.mono (by decide)) (by rfl) (zc (pv 0) zf))))) (Pg (i:=2) ⟨rfl,rfl,rfl⟩ (by rfl) T.G5 T.Qp d9.nd rfl rfl (fun _ _=>(zj (sset (i:=1) d9.nd (Po K rfl (pv 2) rfl)))) Pf))
   (zj (fG (pv 1))))),?_⟩
  refine⟨by decide,fun q hq=>?_⟩;have t0:=ak.new (o:=.lst []) hq
  try dsimp only [zw]
  by_cases nr:iA (cX ts (ts.zip az)) (zk ts (aL us))
  ·exact⟨_,rfl,.inl ⟨p,pu,pt,x,y,us,az,ts,rfl,hT.same t0,nr,fun q' os H' s _ nP O pm=>⟨_,rfl,k q [] H' (t0.trans s) hq (s _ _ zd) (by decide) (.inl ⟨rfl,nr⟩)⟩⟩⟩
  ·refine⟨_,rfl,.inr ⟨p,pu,pt,x,y,us,az,ts,[],rfl,rfl,hT.same t0,nr,fun d q' rs H' s fq hd nP mP hl R=>⟨zp,rfl,true,T.Qt,?_⟩⟩⟩;rw[av rfl];intro e he;have t2:=ak.new (o:=qY e zp (some d)) he;refine⟨_,rfl,e,zp,d,_,_,rfl,zd,t2 _ _ hd,T.Qq,T.KJ,rfl,?_⟩;exact⟨_,rfl,k q' rs _ (t0.trans (s.trans t2)) (t0.free fq) (t2 _ _ nP) hl R⟩
inductive uf (vs:List V) (H:Hp) (Q:VK):Prop
 | mk (p pm pu pt pf:ah) (lo hi:Int) (us:List Str) (az:List ah) (ts:List aS) (af:List ah) (fs:List cI) (_:vs = [.ref p]) (_:iR K H p pm pu pt pf lo hi us az ts af fs) (_:∀(r l:ah) (a b:Str) (xs:List ah) (H':Hp),ak H H'->H l=none->H' r=some (.tup [.str a,.ref l,.str b])->H' l=some (.lst (xs.map V.ref))->GW lo hi us az ts af fs a b xs->Q (.ref r) H')
def zub:Sp:=fun vs H Q _=>uf (K:=K) vs H Q
theorem zn8 (T:Tx K mg w C_Dig zn zp zi zr zq):fH P w K mg base "_law_row" ["_law_telling"] 10 (zub (K:=K)):=by
 refine T.zoe.has eB (fun vs H Q E h=>?_) (fun f bY A outer s H vs Q E hr h=>?_)
 ·obtain⟨p,pm,pu,pt,pf,lo,hi,us,az,ts,af,fs,rfl,_⟩:=h;rfl
 ·obtain⟨p,pm,pu,pt,pf,lo,hi,us,az,ts,af,fs,rfl,hF,k⟩:=h;refine⟨_,(ze (sset (i:=1) eB.nd (jq (zc jI (zc (iz zf) (zc jI zf)))))
   (ze (Pe ⟨rfl,rfl,rfl⟩ (fun pn xe Es pt=>(zj (i7 (Pd (Rp T) pt (hr.mono (by decide)) (by rfl) (zc (pv 0) zf))))) (Pg (i:=2) ⟨rfl,rfl,rfl⟩ (by rfl) T.KL T.ZQ eB.nd rfl rfl (fun _ _=>(zj (sset (i:=1) eB.nd (Po K rfl (pv 2) rfl)))) (Ym ⟨rfl,rfl,rfl⟩ (by rfl) T.G5 T.Qp (fun _ _=>(zj (sset (i:=1) eB.nd (jq (zc jI (zc (iz zf) (zc jI zf))))))) Pf)))
   (zj (fG (pv 1))))),?_⟩
  refine⟨by decide,fun l hl=>⟨by show 3<=sizeLine;decide,fun r hr=>?_⟩⟩;have t1:=ak.new (o:=.lst []) hl;have t2:=ak.new (o:=.tup [.str (Str.ofString ""),.ref l,.str (Str.ofString "")]) hr;have t0:=t1.trans t2;have nV:=t2 _ _ (zd (H:=H) (a:=l) (o:=.lst []));have Ru:=zd (H:=upd H l (.lst [])) (a:=r) (o:=.tup [.str (Str.ofString ""),.ref l,.str (Str.ofString "")]);generalize upd (upd H l (.lst [])) r (.tup [.str (Str.ofString ""),.ref l,.str (Str.ofString "")])=H0 at t0 nV Ru
  try dsimp only [zw]
  refine⟨_,rfl,p,pm,pu,pt,pf,lo,hi,us,az,ts,af,fs,rfl,hF.same t0,fun nr q f g H1 s1 _ hS hf hg no=>?_,fun d q rs H1 s1 fq hd hq mP eT R=>?_,fun nr d r' l' c w H1 s1 fl hd EN eT ri=>?_⟩
  ·exact⟨_,rfl,k r l "" "" [] _ (t0.trans s1) hl (s1 _ _ Ru) (s1 _ _ nV) (.inl ⟨.inr no,rfl,rfl,rfl⟩)⟩
  ·refine⟨zp,rfl,false,T.ZT,?_⟩;rw[aq bJ];refine⟨true,T.Qt,?_⟩;rw[av rfl];refine⟨by decide,fun l2 lF=>⟨by show 3<=sizeLine;decide,fun r2 El=>?_⟩⟩;have t3:=ak.new (o:=.lst []) lF;have t4:=ak.new (o:=.tup [.str (Str.ofString ""),.ref l2,.str (Str.ofString "")]) El;exact⟨_,rfl,k r2 l2 "" "" [] _ (t0.trans (s1.trans (t3.trans t4))) ((t0.trans s1).free lF) zd (t4 _ _ zd) (.inl ⟨.inl fun nr=>Lx nr mP R,rfl,rfl,rfl⟩)⟩
  ·refine⟨zi,rfl,true,T.ZU,?_⟩;rw[av rfl];intro e he;have t2:=ak.new (o:=qY e zi (some d)) he;refine⟨_,rfl,e,zi,d,_,_,rfl,zd,t2 _ _ hd,T.Qs,T.KO,rfl,?_⟩;refine⟨_,rfl,k r' l' c.2.1 w (c.2.2.map Prod.snd) _ (t0.trans (s1.trans t2)) (t0.free fl) (t2 _ _ EN) ?_ (.inr ⟨nr,c,w,ri,rfl,rfl,rfl⟩)⟩;rw[dj];exact t2 _ _ eT
inductive rK (vs:List V) (H:Hp) (Q:VK):Prop
 | mk (pt:ah) (az:List ah) (ts:List aS) (_:vs = [.ref pt]) (_:H pt=some (.lst (az.map V.ref))) (_:bT H az (ts.map bP)) (_:(∀ws∈ts.map bP,∀v∈ws,ny v=true)) (_:ts.length<=100) (_:∀H',ak H H'->Q (.bl true) H')
def zr4:Sp:=fun vs H Q _=>rK vs H Q
theorem zdq (T:Tx K mg w C_Dig zn zp zi zr zq):fH P w K mg base "_law_made_by_hand" ["_law_ties"] 3 zr4:=by
 refine T.zdu.has cj (fun vs H Q E h=>?_) (fun f bY A outer s H vs Q E hr h=>?_)
 ·obtain⟨pt,az,ts,rfl,_⟩:=h;rfl
 ·obtain⟨pt,az,ts,rfl,ht,tt,fl,lt,k⟩:=h;refine⟨_,(ze (sset (i:=1) cj.nd (uP (Ga K rfl) (by rfl) T.list gw (zc (pv 0) zf)))
   (ze (sset (i:=2) cj.nd (Qk (Q7 T) T.KI (hr.mono (by decide)) (by rfl) T.G5 (by decide) (zc (pv 1) zf)))
   (ze (sset (i:=3) cj.nd (Qk (Q8 T) T.KN (hr.mono (by decide)) (by rfl) T.KL (by decide) (zc (jq (zc jI (zc (pv 1) (zc jI zf)))) zf)))
   (ze (i7 (pV K rfl PySem.F.plainAttrs_list PySem.F.slot_list_append PySem.F.type_list_append pQ (pv 1) (zc jI zf)))
   (zj (fG (HR (Cy (yE K rfl (jZ hr)) (Ql K rfl (pv 2) rfl) (pv 0) (iy _)) (Ms (Cy (yE K rfl (jZ hr)) (Ql K rfl (pv 3) rfl) (jq (zc jI (zc (pv 0) (zc jI zf)))) (iy _)))))))))),?_⟩
  have la:=tt.len;rw[ay] at la;refine⟨_,rfl,pt,_,rfl,.inl (aI.of ht),fun ph Rx=>?_⟩;have t1:=ak.new (o:=.lst (az.map V.ref)) Rx
  try dsimp only [zw]
  refine⟨_,rfl,fun e1 yO=>?_⟩;refine⟨e1,ph,_,rfl,zd,aI.of ((ak.new yO) _ _ zd),by rw[ay];lia,fun q1 d1 n1 n2 f1 f2 n3=>⟨rfl,some d1,zd,?_⟩⟩;rw[zg n1] at f1;rw[zg n2] at f2;obtain⟨G1,BX⟩:∃G,G=upd (upd (upd (upd (upd H ph (.lst (az.map V.ref))) e1 (c5 e1 zp none)) q1 (.lst (az.map V.ref))) d1 (.xd [("ties",.ref q1)])) e1 (c5 e1 zp (some d1)):=⟨_,rfl⟩;have s1:ak (upd H ph (.lst (az.map V.ref))) G1:=fun b o e=>by
   rw[BX,zg (zh e yO),zg (zh e f2),zg (zh e f1),zg (zh e yO)];exact e
  have a1:G1 e1=some (c5 e1 zp (some d1)):=by rw[BX,zd]
  have a2:G1 d1=some (.xd [("ties",.ref q1)]):=by rw[BX,zg n2,zd]
  have a3:G1 q1=some (.lst (az.map V.ref)):=by rw[BX,zg n1,zg (aC n3),zd]
  have a4:=s1 _ _ (zd (H:=H) (a:=ph) (o:=.lst (az.map V.ref)));rw[←BX];have m1:q1≠ph:=fun z=>by rw[z,zd] at f1;cases f1
  clear BX n1 n2 n3 f1 f2
  try dsimp only [zw]
  refine⟨_,rfl,by show 3<=sizeLine;decide,fun r0 hr0=>fun e2 xO=>?_⟩;have t2:=ak.new (o:=.tup [.str (Str.ofString ""),.ref ph,.str (Str.ofString "f")]) hr0;have Ry:=zd (H:=G1) (a:=r0) (o:=.tup [.str (Str.ofString ""),.ref ph,.str (Str.ofString "f")]);generalize upd G1 r0 (.tup [.str (Str.ofString ""),.ref ph,.str (Str.ofString "f")])=G2 at t2 Ry xO;have t3:=ak.new (o:=c5 e2 zi none) xO;have b4:=t2 _ _ a4;refine⟨e2,r0,ph,_,_,_,rfl,zd,bF.of (t3 _ _ Ry),aI.of (t3 _ _ b4),by rw[ay];lia,fun q2 r2 d2 n1 n2 n3 f1 f2 f3 n4 n5 n6=>⟨rfl,some d2,zd,?_⟩⟩;rw[zg n1] at f1;rw[zg n2] at f2;rw[zg n3] at f3;obtain⟨G3,AY⟩:∃G,G=upd (upd (upd (upd (upd G2 e2 (c5 e2 zi none)) q2 (.lst (az.map V.ref))) r2 (.tup [.str (Str.ofString ""),.ref q2,.str (Str.ofString "f")])) d2 (.xd [("row",.ref r2)])) e2 (c5 e2 zi (some d2)):=⟨_,rfl⟩;have s3:ak G2 G3:=fun b o e=>by
   rw[AY,zg (zh e xO),zg (zh e f3),zg (zh e f2),zg (zh e f1),zg (zh e xO)];exact e
  have c1:G3 e2=some (c5 e2 zi (some d2)):=by rw[AY,zd]
  have c2:G3 d2=some (.xd [("row",.ref r2)]):=by rw[AY,zg n3,zd]
  have c3:G3 r2=some (.tup [.str (Str.ofString ""),.ref q2,.str (Str.ofString "f")]):=by rw[AY,zg n2,zg (aC n6),zd]
  have c4:G3 q2=some (.lst (az.map V.ref)):=by rw[AY,zg n1,zg (aC n5),zg (aC n4),zd]
  rw[←AY];have m2:q2≠ph:=fun z=>by rw[z,b4] at f1;cases f1
  have b5:=s3 _ _ b4;clear AY n1 n2 n3 n4 n5 n6 f1 f2 f3
  try dsimp only [zw]
  refine⟨_,rfl,.inl ⟨rfl,_,aI.of b5⟩,ph,_,_,rfl,rfl,b5,by rw[ay];exact zx (by lia),?_⟩;have st:∀b o,G3 b=some o->b≠ph->upd G3 ph (.lst (az.map V.ref++[.str (Str.ofString "more")])) b=some o:=fun b o e n=>by rw[zg n];exact e
  have qi:ak H (upd G3 ph (.lst (az.map V.ref++[.str (Str.ofString "more")]))):=fun b o e=>st b o (s3 _ _ (t2 _ _ (s1 _ _ (t1 _ _ e)))) (zh e Rx)
  have ne:∀{b:ah}{o:HO},G3 b=some o->(∀zs,o≠.lst zs)->b≠ph:=fun e z y=>by rw[y,b5] at e;cases e;exact z _ rfl
  have d3:=st _ _ (s3 _ _ (t2 _ _ a3)) m1;have x1:=st _ _ (s3 _ _ (t2 _ _ a1)) (ne (s3 _ _ (t2 _ _ a1)) fun zs z=>nomatch z);have x2:=st _ _ (s3 _ _ (t2 _ _ a2)) (ne (s3 _ _ (t2 _ _ a2)) fun zs z=>nomatch z);have y1:=st _ _ c1 (ne c1 fun zs z=>nomatch z);have y2:=st _ _ c2 (ne c2 fun zs z=>nomatch z);have y3:=st _ _ c3 (ne c3 fun zs z=>nomatch z);have y4:=st _ _ c4 m2;generalize upd G3 ph (.lst (az.map V.ref++[.str (Str.ofString "more")]))=G4 at qi d3 x1 x2 y1 y2 y3 y4
  try dsimp only
  refine⟨_,rfl,e1,zp,d1,_,_,rfl,x1,x2,T.Qq,T.KJ,rfl,_,rfl,q1,pt,true,rfl,rfl,DZ (n:=6) d3 (qi _ _ ht) (tt.same qi) (tt.same qi) fl,true,rfl,?_⟩;rw[av rfl];refine⟨_,rfl,e2,zi,d2,_,_,rfl,y1,y2,T.Qs,T.KO,rfl,_,rfl,by show 3<=sizeLine;decide,fun w hw=>?_⟩;have t5:=ak.new (o:=.tup [.str (Str.ofString ""),.ref pt,.str (Str.ofString "f")]) hw;refine⟨r2,w,true,rfl,rfl,cU.yD (bF.of (t5 _ _ y3)) (bF.of zd) rfl (fun i x y ex ey=>?_),k _ (qi.trans t5)⟩
  match i,ex,ey with
  | 0,ex,ey=>cases ex;cases ey;exact D8 rfl
  | 1,ex,ey=>cases ex;cases ey;exact DZ (n:=5) (t5 _ _ y4) (t5 _ _ (qi _ _ ht)) (tt.same (qi.trans t5)) (tt.same (qi.trans t5)) fl
  | 2,ex,ey=>cases ex;cases ey;exact D8 rfl
  | i+3,ex,ey=>cases ex
inductive ug (vs:List V) (H:Hp) (Q:VK):Prop
 | mk (p pm pu pt pf:ah) (lo hi:Int) (us:List Str) (az:List ah) (ts:List aS) (af:List ah) (fs:List cI) (_:vs = [.ref p]) (_:iR K H p pm pu pt pf lo hi us az ts af fs) (_:ts.length<=60) (_:lo<=hi) (_:(∀f∈fs,nG f.n=true)) (_:∀(q:ah) (x0 x1 x2 x3:An) (xs:List An) (A:D7) (a b:Str) (rl:List ah) (H':Hp),ak H H'->q ∉ cM (x0::x1::x2::x3::xs)->H' q=some (.lst ((x0::x1::x2::x3::xs).map fun x=>V.ref x.a))->(∀x∈x0::x1::x2::x3::xs,gU H' x)->Nw H H' (cM (x0::x1::x2::x3::xs))->xs.length<=4->sq lo hi us az ts af fs A->GW lo hi us az ts af fs a b rl->Paired (fun (x:An) k=>gE H' x.a k x.ms) (x0::xs) (D9 A)->x1.vs.length=A.n->x2.vs.length=A.n->x3.vs.length=rl.length->Q (.ref q) H')
def zuc:Sp:=fun vs H Q _=>ug (K:=K) vs H Q
theorem Rz (T:Tx K mg w C_Dig zn zp zi zr zq):fH P w K mg base "_law_answers" ["_law_telling"] 12 (zuc (K:=K)):=by
 refine T.zg6.has cP (fun vs H Q E h=>?_) (fun f bY A outer s H vs Q E hr h=>?_)
 ·obtain⟨p,pm,pu,pt,pf,lo,hi,us,az,ts,af,fs,rfl,_⟩:=h;rfl
 ·obtain⟨p,pm,pu,jw,pf,lo,hi,us,az,ts,af,fs,rfl,hF,QX,lh,nm,k⟩:=h;refine⟨_,(ze (sset (i:=1) cP.nd (cu (zn8 T) (zc (pv 0) zf)))
   (ze (sset (i:=2) cP.nd (iz (zc (cu (KZ T) (zc (ck (zv K rfl) (pv 0) zm) (zc (ck (zv K rfl) (pv 0) zm) zf))) (zc (cu (Lc T) (zc (pv 0) zf)) (zc (cu (zj8 T) (zc (pv 0) zf)) (zc (ck (zv K rfl) (pv 1) zm) zf))))))
   (ze (iM (iU (yE K rfl (jZ hr)) (ck (mO K rfl) (pv 2) zm) (iz zf) (iy _)) (ze (sset (i:=2) cP.nd (fJ (Ko K rfl) (pv 2) (iz (zc (cu (BO T) (zc (pv 0) zf)) (zc (cu (zxi T) (zc (pv 0) zf)) (zc (cu (zt5 T) (zc (pv 0) zf)) zf))))))
    (zj (iM (iU (yE K rfl (jZ hr)) (pv 1) (jq (zc jI (zc (iz zf) (zc jI zf)))) (iy _)) (zj (sset (i:=2) cP.nd (fJ (Ko K rfl) (pv 2) (iz (zc (cu (zxm T) (zc (pv 0) zf)) zf))))) i6))) i6)
   (zj (fG (pv 2)))))),?_⟩
  rw[show L2.start (["_law_telling","_law_row_here","_law_answers_here"]:List Str) [V.ref p] = [some (V.ref p),none,none] from rfl];have hT:=hF.iu;have kl:=hT.kK
  try dsimp only [zw,List.set]
  refine⟨_,rfl,p,pm,pu,jw,pf,lo,hi,us,az,ts,af,fs,rfl,hF,fun r l a b rl H1 s1 fl hr hl ro=>?_⟩;have T1:=hT.same s1
  try dsimp only [zw,List.set]
  refine⟨_,rfl,p,_,_,_,rfl,rfl,T1.p,rfl,_,rfl,p,_,_,_,rfl,rfl,T1.p,rfl,pu,jw,us,az,ts,rfl,T1.u,T1.t,T1.tt,T1.nd,T1.ul,T1.ends,fun a0 wR H2 f0 RA n0 RB h0 LJ s2=>?_⟩;have T2:=T1.same s2;refine⟨_,rfl,p,pu,jw,_,_,us,az,ts,rfl,T2,fun a1 vO H3 s3 f1 h1 l1 R1=>?_⟩;have T3:=T2.same s3;refine⟨_,rfl,p,pu,jw,_,_,us,az,ts,rfl,T3,fun a2 AZ H4 s4 f2 h2 l2 R2=>?_⟩;refine⟨_,rfl,r,_,_,_,rfl,rfl,bF.of (s4 _ _ (s3 _ _ (s2 _ _ hr))),rfl,by show 4<=sizeLine;decide,fun L hL=>?_⟩;have t5:=ak.new (o:=.lst [.ref a0,.ref a1,.ref a2,.ref l]) hL;have eL:upd H4 L (.lst [.ref a0,.ref a1,.ref a2,.ref l]) L=some (.lst [.ref a0,.ref a1,.ref a2,.ref l]):=zd;have NW:=((((Nw.one fl hl).add s1 (Nw.many f0 RA n0 RB h0 LJ) s2).add (s1.trans s2) (Nw.one f1 h1) s3).add ((s1.trans s2).trans s3) (Nw.one f2 h2) s4);have nL:=NW.out hL;have NW:=NW.same t5;have S5:=(((s1.trans s2).trans s3).trans s4).trans t5;have F5:=hF.same S5;have uD:=t5 _ _ (s4 _ _ (s3 _ _ (s2 _ _ hr)));have ye:=t5 _ _ (s4 _ _ (s3 _ _ (s2 _ _ hl)));have RC:=t5 _ _ (s4 _ _ (s3 _ _ h0));have wM:=Paired.mono LJ fun _ _ _ z=>t5 _ _ (s4 _ _ (s3 _ _ z))
  have h15:=t5 _ _ (s4 _ _ h1);have RD:=t5 _ _ h2;clear hr hl h0 LJ h1 h2 s1 s2 s3 s4 T1 T2 T3 fl f0 RA n0 RB f1 f2;generalize upd H4 L (.lst [.ref a0,.ref a1,.ref a2,.ref l])=G at *;clear t5 hL
  try dsimp only [zw,List.set]
  have LK:=F5.iu.tt;have A0:gU G ⟨a0,wR.map V.ref,wR⟩:=Qh RC wM (by rw[Paired.length wM];exact (Qj hT.ul).1) (Qj hT.ul).2;have A1:gU G ⟨a1,vO.map V.ref,[]⟩:=BI h15 (by lia) fun r hr=>let ⟨t,z⟩:=Qe R1 r hr;KD LK z
  have A2:gU G ⟨a2,AZ.map V.ref,[]⟩:=BI RD (by lia) fun r hr=>let ⟨t,z⟩:=Qe R2 r hr;KD LK z
  have A3:gU G ⟨l,rl.map V.ref,[]⟩:=by
   rcases ro with ⟨_,_,_,e⟩ | ⟨nr,c,w,ri,_,_,e⟩
   ·subst e;exact BI ye (by show 0<=900;decide) fun r hr=>by cases hr
   ·subst e;refine BI ye (by rw[ay];exact Zy hT.ends nr kl ri) fun r hr=>?_
    obtain⟨⟨t,r'⟩,hp,rfl⟩:=aM.mp hr;obtain⟨_,_,_,u,_⟩:=ri;exact KD LK (Zo u _ hp)
  have fin:∀(q:ah) (xs:List An) (A:D7) (G':Hp),ak G G'->G' q=some (.lst ([.ref a0,.ref a1,.ref a2,.ref l]++xs.map fun x=>V.ref x.a))->q ∉ [l]++(a0::wR)++[a1]++[a2]++cM xs->(∀x∈xs,gU G' x)->Nw H G' ([l]++(a0::wR)++[a1]++[a2]++cM xs)->xs.length<=4->sq lo hi us az ts af fs A->A.ones=mS us ts->A.n=vO.length->Paired (fun (x:An) k=>gE G' x.a k x.ms) xs (D9 A).tail->Q (.ref q) G':=fun q xs A G' s hq nq hx nw lx ao e1 e2 pk=>by
   have ea:cM (⟨a0,wR.map V.ref,wR⟩::⟨a1,vO.map V.ref,[]⟩::⟨a2,AZ.map V.ref,[]⟩::⟨l,rl.map V.ref,[]⟩::xs)=(a0::wR)++(a1::[]++(a2::[]++(l::[]++cM xs))):=by
    rw[n9,n9,n9,n9]
   have e3:AZ.length=vO.length:=R2.len R1;refine k q ⟨a0,wR.map V.ref,wR⟩ ⟨a1,vO.map V.ref,[]⟩ ⟨a2,AZ.map V.ref,[]⟩ ⟨l,rl.map V.ref,[]⟩ xs A a b rl G' (S5.trans s) ?_ hq ?_ ?_ lx ao ro ?_ (by rw[e2];exact ay ..) (by rw[e2,←e3];exact ay ..) (ay ..)
   ·rw[ea];exact fun z=>nq (yQ.mem_iff.mpr z)
   ·intro x sO;rcases aJ.mp sO with rfl | sO
    ·exact A0.same s
    rcases aJ.mp sO with rfl | sO
    ·exact A1.same s
    rcases aJ.mp sO with rfl | sO
    ·exact A2.same s
    rcases aJ.mp sO with rfl | sO
    ·exact A3.same s
    exact hx x sO
   ·rw[ea];exact nw.turn yQ
   ·refine .cons ?_ pk;show gE G' a0 (.rows A.ones) wR;rw[e1];exact⟨s _ _ RC,Paired.mono wM fun _ _ _ z=>s _ _ z⟩
  refine zZ (decide (AZ.map V.ref = [])) (fun Q' hQ=>⟨_,rfl,L,_,_,_,rfl,rfl,aI.of eL,rfl,by decide,fun e he=>⟨a2,e,_,rfl,rfl,cU.qP (aI.of (ak.new he _ _ RD)) (aI.of zd),_,rfl,hQ _ (ak.new he)⟩⟩) (fun G1 s6=>?_);refine dF (fun c1=>?_) (fun c1=>?_)
  rotate_left
  ·have ne:AZ≠[]:=fun z=>c1 (by rw[z];rfl)
   have nn:¬iA (cX ts (ts.zip az)) (zk ts (aL us)):=fun nr=>Lx nr ne R2
   refine⟨_,rfl,fin L [] ⟨mS us ts,vO.length,none,[],[],none⟩ G1 s6 (s6 _ _ eL) (by rw[show cM [] = [] from rfl,dg];exact nL) (fun x hx=>by cases hx) (by rw[show cM [] = [] from rfl,dg];exact NW.same s6) (by decide) ?_ rfl rfl .nil⟩;exact⟨rfl,⟨vO,R1,rfl⟩,fun _=>⟨rfl,rfl,rfl,rfl⟩,fun z=>absurd z nn,fun z=>absurd z nn,fun z=>absurd z nn,fun z=>absurd z nn⟩
  ·have e0:AZ = []:=List.map_eq_nil_iff.mp (bC c1);have nr:iA (cX ts (ts.zip az)) (zk ts (aL us)):=by
    rcases R2 with ⟨_,h⟩ | ⟨h,_⟩
    ·exact h
    ·exact absurd e0 h
   have F6:=F5.same s6
   try dsimp only [zw,List.set]
   refine⟨_,rfl,_,rfl,p,pu,jw,_,_,us,az,ts,rfl,F6.iu,nr,fun a4 os H7 s7 f4 h4 O LL=>?_⟩;have F7:=F6.same s7;refine⟨_,rfl,p,pu,jw,_,_,us,az,ts,rfl,F7.iu,QX,nr,fun a5 bs qs H8 s8 f5 h5 pq pw lq dq=>?_⟩;have F8:=F7.same s8;refine⟨_,rfl,p,pu,jw,_,_,us,az,ts,rfl,F8.iu,nr,fun a6 cs lv H9 s9 f6 h6 lc RE fc RG RH=>?_⟩;have rp:=YR (lv:=lv) (keys:=zk ts (aL us)) rfl RG;refine⟨by show 3<=sizeLine;decide,fun M hM=>⟨L,M,_,_,rfl,rfl,aI.of ((ak.new hM) _ _ (s9 _ _ (s8 _ _ (s7 _ _ (s6 _ _ eL))))),aI.of zd,by show 7<=sizeLine;decide,fun L2 LM=>?_⟩⟩;have N6:=(((NW.same s6).add (S5.trans s6) (Nw.one f4 h4) s7).add ((S5.trans s6).trans s7) (Nw.one f5 h5) s8).add (((S5.trans s6).trans s7).trans s8) (Nw.many f6 (fun c hc=>(fc c hc).1) (fun z=>(fc _ z).2 rfl) RE h6 rp) s9;have tM:=ak.new (o:=.lst [.ref a4,.ref a5,.ref a6]) hM;have tL:=ak.new (o:=.lst ([.ref a0,.ref a1,.ref a2,.ref l]++[.ref a4,.ref a5,.ref a6])) LM;have nL2:=(N6.same tM).out LM;have RI:upd (upd H9 M (.lst [.ref a4,.ref a5,.ref a6])) L2 (.lst ([.ref a0,.ref a1,.ref a2,.ref l]++[.ref a4,.ref a5,.ref a6])) L2=some (.lst ([.ref a0,.ref a1,.ref a2,.ref l]++[.ref a4,.ref a5,.ref a6])):=zd;have N7:=N6.same (tM.trans tL);have qO:=tM.trans tL;have S9:=s6.trans (s7.trans (s8.trans (s9.trans qO)));have RJ:=(s8.trans (s9.trans qO)) _ _ h4;have RK:=(s9.trans qO) _ _ h5;have LN:=Paired.mono pq fun _ _ _ z=>(s9.trans qO) _ _ z
   have RL:=qO _ _ h6;have RM:=Paired.mono rp fun _ _ _ z=>qO _ _ z
   have F9:=F8.same (s9.trans qO);clear h4 h5 pq h6 rp RG N6 tM tL hM LM f4 f5 f6 fc RE F6 F7 F8;generalize upd (upd H9 M (.lst [.ref a4,.ref a5,.ref a6])) L2 (.lst ([.ref a0,.ref a1,.ref a2,.ref l]++[.ref a4,.ref a5,.ref a6]))=G2 at *;clear qO s9 s8 s7;have lk:os.length<=900:=by rw[LL.length_eq];lia
   have A4:gU G2 ⟨a4,os.map V.str,[]⟩:=Zw RJ lk;have A5:gU G2 ⟨a5,bs.map V.ref,[]⟩:=BI RK (by rw[Paired.length LN];lia) (Qi (rY.eF LN));have A6:gU G2 ⟨a6,cs.map V.ref,cs⟩:=Qh RL RM (by lia) (Zx (by lia));have K4:gE G2 a4 (.p6 os) []:=⟨RJ,rfl⟩;have K5:gE G2 a5 (.eF (qs.map fun p=>[.str p.1,.str p.2])) []:=⟨rfl,bs,RK,rY.eF LN,fun ws hw v hv=>by
    obtain⟨z,_,rfl⟩:=aM.mp hw;simp at hv;rcases hv with rfl | rfl<;>rfl⟩
   have K6:gE G2 a6 (.rows (tD (zk ts (aL us)) lv cs.length)) cs:=⟨RL,RM⟩
   try dsimp only [zw,List.set]
   refine zZ (decide (a = ""/\rl = []/\b = "")) (fun Q' hQ=>⟨_,rfl,by decide,fun e he=>⟨by show 3<=sizeLine;decide,fun tp HA=>⟨r,tp,_,rfl,rfl,Zz (bF.of ((ak.new HA) _ _ ((ak.new he) _ _ (S9 _ _ uD)))) (bF.of zd) (aI.of ((ak.new HA) _ _ ((ak.new he) _ _ (S9 _ _ ye)))) (aI.of ((ak.new HA) _ _ zd)),_,rfl,hQ _ ((ak.new he).trans (ak.new HA))⟩⟩⟩) (fun G3 nC=>?_);refine dF (fun c2=>?_) (fun c2=>?_)
   ·obtain⟨ea,erl,eb⟩:=bC c2;have no:vo lo hi us az ts af fs:=by
     rcases ro with ⟨n,_⟩ | ⟨_,c,w,ri,e1,e2,e3⟩
     ·exact n.resolve_left fun z=>z nr
     ·exact (Zl lh nm ri ⟨by rw[←e1,ea],by rw[←e2,eb],List.map_eq_nil_iff.mp (by rw[←e3,erl])⟩).elim
    refine⟨_,rfl,_,rfl,p,pm,pu,jw,pf,lo,hi,us,az,ts,af,fs,rfl,F9.same nC,nr,fun c w=>KH no,fun a7 f g H12 LO f7 hS hf hg _=>?_⟩;obtain⟨as,h7,h7t⟩:=hS;refine⟨by show 1<=sizeLine;decide,fun M hM=>⟨L2,M,_,_,rfl,rfl,aI.of ((ak.new hM) _ _ (LO _ _ (nC _ _ RI))),aI.of zd,by show 8<=sizeLine;decide,fun L3 RN=>?_⟩⟩;have tM:=ak.new (o:=.lst [.ref a7]) hM;have tL:=ak.new (o:=.lst (([.ref a0,.ref a1,.ref a2,.ref l]++[.ref a4,.ref a5,.ref a6])++[.ref a7])) RN;have N8:=(N7.same nC).add (S5.trans (S9.trans nC)) (Nw.one f7 h7) LO;have n8:=(N8.same tM).out RN;have N9:=N8.same (tM.trans tL);have sF:=nC.trans (LO.trans (tM.trans tL));have RO:=(tM.trans tL) _ _ h7;have t7:=Paired.mono (Qd h7t) fun _ _ _ z=>(tM.trans tL) _ _ z
    refine⟨_,rfl,fin L3 [⟨a4,os.map V.str,[]⟩,⟨a5,bs.map V.ref,[]⟩,⟨a6,cs.map V.ref,cs⟩,⟨a7,as.map V.ref,[]⟩] ⟨mS us ts,vO.length,some os,qs,tD (zk ts (aL us)) lv cs.length,some ((zk ts (aL us)).map fun k=>(k,f k,g k))⟩ _ (S9.trans sF) zd ?_ ?_ ?_ (by show 4<=4;decide) ?_ rfl rfl ?_⟩
    ·rw[n9,n9,n9,n9,show cM [] = [] from rfl];simpa only [jk,mw,mD,dg] using n8
    ·intro x hx;rcases aJ.mp hx with rfl | hx
     ·exact A4.same sF
     rcases aJ.mp hx with rfl | hx
     ·exact A5.same sF
     rcases aJ.mp hx with rfl | hx
     ·exact A6.same sF
     rcases aJ.mp hx with rfl | hx
     ·exact BI RO (by rw[Paired.length t7,ay];lia) (Qi (KC t7))
     cases hx
    ·rw[n9,n9,n9,n9,show cM [] = [] from rfl];simpa only [jk,mw,mD,dg] using N9
    ·exact⟨rfl,⟨vO,R1,rfl⟩,fun z=>absurd nr z,fun _=>⟨os,rfl,O,LL⟩,fun _=>⟨pw,dq⟩,fun _=>⟨lv,cs.length,RH,rfl⟩,fun _=>.inl ⟨f,g,hf,hg,no,rfl⟩⟩
    ·refine .cons (K4.same sF) (.cons (K5.same sF) (.cons (K6.same sF) (.cons ⟨rfl,as,RO,KC t7,fun ws hw v hv=>?_⟩ .nil)));obtain⟨z,_,rfl⟩:=aM.mp hw;unfold D6 at hv;simp at hv;rcases hv with rfl | rfl | rfl<;>rfl
   ·refine⟨_,rfl,fin L2 [⟨a4,os.map V.str,[]⟩,⟨a5,bs.map V.ref,[]⟩,⟨a6,cs.map V.ref,cs⟩] ⟨mS us ts,vO.length,some os,qs,tD (zk ts (aL us)) lv cs.length,none⟩ G3 (S9.trans nC) (nC _ _ RI) ?_ ?_ ?_ (by show 3<=4;decide) ?_ rfl rfl ?_⟩
    ·rw[n9,n9,n9,show cM [] = [] from rfl];simpa only [jk,mw,mD,dg] using nL2
    ·intro x hx;rcases aJ.mp hx with rfl | hx
     ·exact A4.same nC
     rcases aJ.mp hx with rfl | hx
     ·exact A5.same nC
     rcases aJ.mp hx with rfl | hx
     ·exact A6.same nC
     cases hx
    ·rw[n9,n9,n9,show cM [] = [] from rfl];simpa only [jk,mw,mD,dg] using N7.same nC
    ·refine⟨rfl,⟨vO,R1,rfl⟩,fun z=>absurd nr z,fun _=>⟨os,rfl,O,LL⟩,fun _=>⟨pw,dq⟩,fun _=>⟨lv,cs.length,RH,rfl⟩,fun _=>.inr ?_⟩;rcases ro with ⟨n,e1,e2,e3⟩ | ⟨_,c,w,ri,_⟩
     ·exact absurd (aR ⟨e1,e3,e2⟩) c2
     ·exact⟨c,w,ri,rfl⟩
    ·exact .cons (K4.same nC) (.cons (K5.same nC) (.cons (K6.same nC) .nil))
def RP (n1 n2 n3:Nat):V->V:=fun v=>if v = .int 1 then .int n1 else if v = .int 2 then .int n2 else .int n3
inductive rL (vs:List V) (H:Hp) (Q:VK):Prop
 | mk (q:ah) (x0 x1 x2 x3:An) (xs:List An) (ks:List Kd) (_:vs = [.ref q]) (_:H q=some (.lst ((x0::x1::x2::x3::xs).map fun x=>V.ref x.a))) (_:(∀x∈x0::x1::x2::x3::xs,gU H x)) (_:xs.length<=4) (_:Paired (fun (x:An) k=>gE H x.a k x.ms) (x0::xs) ks) (_:∀(p:ah) (ss:List ah) (oh:List (List ah)) (H':Hp),ak H H'->p8 H' p x1.vs.length x2.vs.length x3.vs.length ks ss oh->H p=none->(∀s∈ss,H s=none)->(∀ms∈oh,∀m∈ms,H m=none)->Q (.ref p) H')
def zr5:Sp:=fun vs H Q _=>rL vs H Q
theorem RQ (T:Tx K mg w C_Dig zn zp zi zr zq):fH P w K mg base "_law_seen" ["_law_answers_here"] 3 zr5:=by
 refine T.zll.has eW (fun vs H Q E h=>?_) (fun f bY A outer s H vs Q E hr h=>?_)
 ·obtain⟨q,x0,x1,x2,x3,xs,ks,rfl,_⟩:=h;rfl
 ·obtain⟨q,x0,x1,x2,x3,xs,ks,rfl,hq,hx,lx,pk,k⟩:=h;refine⟨_,(ze (Nk (i:=1) (own:=["_law_k"]) (cap:=["_law_answers_here"]) (ix:=[0]) (pG:=zo (top 54)) rfl eW.nd rfl rfl rfl ⟨rfl,by decide +kernel,by decide +kernel,by decide +kernel,by decide +kernel⟩ rfl (Mv (by rfl) T.range (zc zm (zc zm zf))) (fun _ _ _ _=>sN (i:=0) (show List.Nodup (["_law_k","_law_answers_here"]:List Str) by decide +kernel) rfl (Or.inl rfl)) (fun _ _ _ _=>xy) (fun _ _ _ _=>(k6 (wg K rfl) (by rfl) T.len dQ (zc (ck (mO K rfl) (pv 1) (pv 0)) zf))))
   (ze (iN bE rfl (zz K rfl (fJ (Ko K rfl) (CF (F4 K rfl) (pv 0) FH (Bm zm)) (CF (F4 K rfl) (pv 0) (Bm zm) FH))) (fZ (i:=2) eW.nd) (ze (i7 (pV K rfl PySem.F.plainAttrs_list PySem.F.slot_list_append PySem.F.type_list_append pQ (pv 1) (zc (iz zf) zf)))
    (zj (iN bE rfl (zz K rfl (pv 2)) (fZ (i:=3) eW.nd) (zj (iM (Cf (k6 (Nu K rfl) (by rfl) T.isinstance PyProof.Rows.boot_isinstance (zc (pv 3) (zc (Mi (v:=.ty "list") (by rfl) T.list gw rfl) zf)))) (zj (i7 (pV K rfl PySem.F.plainAttrs_list PySem.F.slot_list_append PySem.F.type_list_append pQ (ck (mO K rfl) (pv 1) (yt yu zm)) (zc (uP (Ga K rfl) (by rfl) T.list gw (zc (pv 3) zf)) zf)))) (zj (i7 (pV K rfl PySem.F.plainAttrs_list PySem.F.slot_list_append PySem.F.type_list_append pQ (ck (mO K rfl) (pv 1) (yt yu zm)) (zc (pv 3) zf))))))))))
   (zj (fG (pv 1))))),?_⟩
  rw[show L2.start (["_law_answers_here","_law_seen_here","_law_answer","_law_part_here"]:List Str) [V.ref q] = [some (V.ref q),none,none,none] from rfl]
  try dsimp only [zw,List.set]
  refine⟨1,4,rfl,by decide,fun D hD=>?_⟩;have sD:∀ys,ak H (upd H D (.lst ys)):=fun ys=>ak.new hD
  have at':∀(i:Nat) (x:An) ys,(x0::x1::x2::x3::xs)[i]? = some x->aI K (upd H D (.lst ys)) x.a x.vs:=fun i x ys e=>aI.of (sD ys _ _ (hx x (aZ e)).1)
  refine Nm (Nl (lo:=1) (n:=3)) (fun _=>true) (RP x1.vs.length x2.vs.length x3.vs.length) (fun _=>trivial) (by decide) (fun v hv ys Q' q=>q) (fun v hv _ ys Q' q'=>?_) ?_
  ·obtain⟨z,hz,rfl⟩:=aM.mp hv;have hz:=dH.mp hz
   match z,hz with
   | 0,_=>exact⟨_,rfl,_,rfl,q,_,_,_,rfl,rfl,aI.of (sD ys _ _ hq),pP (j:=1) rfl,x1.a,_,rfl,.inl (at' 1 x1 ys rfl),q'⟩
   | 1,_=>exact⟨_,rfl,_,rfl,q,_,_,_,rfl,rfl,aI.of (sD ys _ _ hq),pP (j:=2) rfl,x2.a,_,rfl,.inl (at' 2 x2 ys rfl),q'⟩
   | 2,_=>exact⟨_,rfl,_,rfl,q,_,_,_,rfl,rfl,aI.of (sD ys _ _ hq),pP (j:=3) rfl,x3.a,_,rfl,.inl (at' 3 x3 ys rfl),q'⟩
  rw[show ((((List.range 3).map fun i=>V.int (1+(i:Nat))).filter fun _=>true).map (RP x1.vs.length x2.vs.length x3.vs.length)) = [.int x1.vs.length,.int x2.vs.length,.int x3.vs.length] from rfl];have s1:ak H (upd H D (.lst [.int x1.vs.length,.int x2.vs.length,.int x3.vs.length])):=sD _;have eD:upd H D (.lst [.int x1.vs.length,.int x2.vs.length,.int x3.vs.length]) D=some (.lst [.int x1.vs.length,.int x2.vs.length,.int x3.vs.length]):=zd;generalize upd H D (.lst [.int x1.vs.length,.int x2.vs.length,.int x3.vs.length])=H1 at s1 eD;clear sD at'
  try dsimp only [zw,List.set]
  refine⟨_,rfl,_,rfl,q,_,rfl,aI.of (s1 _ _ hq),fun c1 RS=>?_⟩;rw[show kJ ((x0::x1::x2::x3::xs).map fun x=>V.ref x.a) none (some 1) = [V.ref x0.a] from NY (by decide) (by simp;lia)];refine⟨_,rfl,_,rfl,q,_,rfl,aI.of ((ak.new RS) _ _ (s1 _ _ hq)),fun c2 yw=>?_⟩;rw[show kJ ((x0::x1::x2::x3::xs).map fun x=>V.ref x.a) (some 4) none=xs.map fun x=>V.ref x.a from V7 (by decide) (by simp;lia)];refine⟨c1,c2,_,_,rfl,rfl,aI.of ((ak.new yw) _ _ zd),aI.of zd,by simp;exact cy (oN lx 1) (by decide),fun lc LP=>?_⟩;have t1:=ak.new (o:=.lst [V.ref x0.a]) RS;have t2:=ak.new (o:=.lst (xs.map fun x=>V.ref x.a)) yw;have t3:=ak.new (o:=.lst ([V.ref x0.a]++xs.map fun x=>V.ref x.a)) LP;have LQ:upd (upd (upd H1 c1 (.lst [V.ref x0.a])) c2 (.lst (xs.map fun x=>V.ref x.a))) lc (.lst ([V.ref x0.a]++xs.map fun x=>V.ref x.a)) lc=some (.lst ((x0::xs).map fun x=>V.ref x.a)):=zd;have RT:=(t1.trans (t2.trans t3)) _ _ eD;have nl:lc≠D:=fun z=>by rw[z,(t1.trans t2) _ _ eD] at LP;cases LP
  have s2:=s1.trans (t1.trans (t2.trans t3));have hx0:∀x∈x0::xs,gU H x:=fun x h=>hx x (by rcases aJ.mp h with rfl | h<;>simp[*])
  have pl:=Paired.length pk;generalize upd (upd (upd H1 c1 (.lst [V.ref x0.a])) c2 (.lst (xs.map fun x=>V.ref x.a))) lc (.lst ([V.ref x0.a]++xs.map fun x=>V.ref x.a))=H2 at LQ RT s2;clear t1 t2 t3 s1 eD hx hq;have lz:(x0::xs).length<=5:=o5 lx;generalize x0::xs=zs at *;clear lx;refine⟨lc,rfl,⟨_,aI.of LQ⟩,lQ (K:=K) (a:=lc) (xs:=zs.map fun x=>V.ref x.a) (fun i σ H'=>∃(v2 v3:Option V) (ss:List ah) (oh:List (List ah)),σ = [some (.ref q),some (.ref D),v2,v3]/\ak H H'/\H' lc=some (.lst (zs.map fun x=>V.ref x.a))/\p8 H' D x1.vs.length x2.vs.length x3.vs.length (ks.take i) ss oh/\(∀s∈ss,H s=none/\s≠D)/\(∀ms∈oh,∀m∈ms,H m=none/\m≠D))
   ⟨none,none,[],[],rfl,s2,LQ,⟨RT,rfl,rfl,fun i s k ms e=>by cases e⟩,by simp,by simp⟩ (fun i σ H' _ h=>by obtain⟨_,_,_,_,_,_,h,_⟩:=h;exact aI.of h) ?_ ?_⟩
  rotate_left
  ·rintro σ H' ⟨v2,v3,ss,oh,rfl,sH,_,sn,h1,h2⟩;rw[ay,pl,bD] at sn;exact⟨_,rfl,k D ss oh H' sH sn hD (fun s hs=>(h1 s hs).1) fun ms hm m yX=>(h2 ms hm m yX).1⟩
  ·rintro i v σ H3 hv ⟨v2,v3,ss,oh,rfl,s3,LR,sn,h1,h2⟩;have hi:=iV hv;rw[ay] at hi;obtain⟨x,ex⟩:∃x,zs[i]? = some x:=⟨_,aU hi⟩;obtain⟨kd,RU⟩:∃kd,ks[i]? = some kd:=⟨_,aU (by lia)⟩;rw[aX,ex] at hv;cases hv;have hkd:=uz pk ex RU;obtain⟨ax,E5,apart⟩:=hx0 x (aZ ex);have lss:ss.length<=5:=by rw[sn.l1,bI];lia
   try dsimp only [zw,List.set]
   refine⟨_,rfl,.inl ⟨rfl,_,aI.of sn.p⟩,by decide,fun s hs=>?_⟩;have ts:=ak.new (o:=.lst []) hs;refine⟨D,_,_,rfl,rfl,ts _ _ sn.p,by simp;exact gZ (Nat.add_le_add_right lss 3) (by decide),?_⟩;have HB:s≠D:=fun z=>by rw[z,sn.p] at hs;cases hs
   have gG:H s=none:=s3.free hs;have vP:∀b o,H3 b=some o->b≠D->upd (upd H3 s (.lst [])) D (.lst ((V.int x1.vs.length::V.int x2.vs.length::V.int x3.vs.length::ss.map V.ref)++[V.ref s])) b=some o:=fun b o e n=>by rw[zg n];exact ts _ _ e
   have LS:upd (upd H3 s (.lst [])) D (.lst ((V.int x1.vs.length::V.int x2.vs.length::V.int x3.vs.length::ss.map V.ref)++[V.ref s])) D=some (.lst ((V.int x1.vs.length::V.int x2.vs.length::V.int x3.vs.length::ss.map V.ref)++[V.ref s])):=zd;have RV:upd (upd H3 s (.lst [])) D (.lst ((V.int x1.vs.length::V.int x2.vs.length::V.int x3.vs.length::ss.map V.ref)++[V.ref s])) s=some (.lst []):=by rw[zg HB,zd]
   generalize upd (upd H3 s (.lst [])) D (.lst ((V.int x1.vs.length::V.int x2.vs.length::V.int x3.vs.length::ss.map V.ref)++[V.ref s]))=H4 at vP LS RV;have s4:ak H H4:=fun b o e=>vP b o (s3 _ _ e) (zh e hD)
   clear ts
   try dsimp only [zw,List.set]
   refine⟨_,rfl,x.a,rfl,⟨_,aI.of (s4 _ _ ax)⟩,lQ (K:=K) (a:=x.a) (xs:=x.vs) (fun j σ H'=>∃(v3:Option V) (ys:List V),σ = [some (.ref q),some (.ref D),some (.ref x.a),v3]/\(∀b o,H4 b=some o->b≠s->H' b=some o)/\H' s=some (.lst ys)/\Paired (Cp H H' [s,D]) (x.vs.take j) ys)
    ⟨v3,[],rfl,fun b o e _=>e,RV,by rw[List.take_zero];exact .nil⟩ (fun j σ H' _ h=>by obtain⟨_,_,_,kp,_⟩:=h;exact aI.of (kp _ _ (s4 _ _ ax) (zh ax gG))) ?_ ?_⟩
   ·rintro j v σ H5 hv ⟨v3,ys,rfl,kp,A7,cp⟩;have s5:ak H H5:=fun b o e=>kp b o (s4 _ _ e) (zh e gG)
    have LU:=kp _ _ LS (aC HB);have RW:ys.length<=900:=by have:=Paired.length cp;rw[bI] at this;lia
    have tk:x.vs.take (j+1)=x.vs.take j++[v]:=by rw[aQ,hv];rfl
    have AX:jY ((V.int x1.vs.length::V.int x2.vs.length::V.int x3.vs.length::ss.map V.ref)++[V.ref s]) (-1)=some (.ref s):=MR _ _;have lf:p7 H v\/∃(m:ah) (gs:List Str),v = .ref m/\H m=some (.lst (gs.map V.str)):=by
     rcases apart with ⟨_,h⟩ | ⟨e,h⟩
     ·exact .inl (h v (aZ hv))
     ·rw[e] at hv;obtain⟨m,hm,rfl⟩:=aM.mp (aZ hv);obtain⟨gs,_,z⟩:=h m hm;exact .inr ⟨m,gs,rfl,z⟩
    try dsimp only [zw,List.set]
    rcases lf with lf | ⟨m,gs,rfl,hm⟩
    ·refine xB false (fun Q' hQ=>?_) (i9 ?_)
     ·rcases lf with ⟨z,rfl⟩ | ⟨b,ws,rfl,hb⟩
      ·exact⟨_,rfl,_,_,_,_,rfl,.str z,rfl,_,rfl,hQ⟩
      ·exact⟨_,rfl,_,_,_,_,rfl,.tup (s5 _ _ hb),rfl,_,rfl,hQ⟩
     ·refine⟨_,rfl,_,rfl,D,_,_,_,rfl,rfl,aI.of LU,AX,.inl ⟨rfl,_,aI.of A7⟩,_,rfl,s,_,_,rfl,rfl,A7,gZ RW (by decide),?_⟩;refine⟨_,ys++[v],rfl,fun b o e n=>by rw[zg n];exact kp b o e n,zd,?_⟩;rw[tk];exact Paired.snoc (Paired.mono cp fun _ _ _ z=>z.same fun b o n e=>by rw[zg fun y=>n (by simp[y])];exact e) (.inl ⟨lf,rfl⟩)
    ·refine xB true (fun Q' hQ=>⟨_,rfl,_,_,_,_,rfl,.lst (s5 _ _ hm),rfl,_,rfl,hQ⟩) (nB ?_);refine⟨_,rfl,_,rfl,D,_,_,_,rfl,rfl,aI.of LU,AX,.inl ⟨rfl,_,aI.of A7⟩,_,rfl,m,_,rfl,.inl (aI.of (s5 _ _ hm)),fun m' yX=>?_⟩;have tm:=ak.new (o:=.lst (gs.map V.str)) yX;refine⟨s,_,_,rfl,rfl,tm _ _ A7,gZ RW (by decide),?_⟩;refine⟨_,ys++[.ref m'],rfl,fun b o e n=>by rw[zg n];exact tm _ _ (kp b o e n),zd,?_⟩;rw[tk];have n1:m'≠s:=fun z=>by rw[z,A7] at yX;cases yX
     have n2:m'≠D:=fun z=>by rw[z,LU] at yX;cases yX
     exact Paired.snoc (Paired.mono cp fun _ _ _ z=>z.same fun b o n e=>by rw[zg fun y=>n (by simp[y])];exact tm _ _ e) (.inr ⟨m,m',gs,rfl,rfl,hm,by rw[zg n1,zd],s5.free yX,by simp[n1,n2]⟩)
   ·rintro σ H5 ⟨v3',ys,rfl,kp,A7,cp⟩;rw[bD] at cp;have s5:ak H H5:=fun b o e=>kp b o (s4 _ _ e) (zh e gG)
    obtain⟨su,fK,fm⟩:=Zt hkd ax cp A7 fun b ws e=>s5 _ _ e
    have kh:∀b o,H3 b=some o->b ∉ [D]->H5 b=some o:=fun b o e n=>kp b o (vP b o e (fun z=>n (by simp[z]))) (zh e hs)
    have tk:ks.take (i+1)=ks.take i++[kd]:=by rw[aQ,RU];rfl
    have li:(ks.take i).length=i:=by rw[bI];lia
    have l1:=sn.l1;have l2:=sn.l2;refine⟨_,v3',ss++[s],oh++[su],rfl,s5,kh _ _ LR (by simp[nl]),?_,?_,?_⟩
    ·refine⟨?_,by rw[tk,bK,bK,l1];rfl,by rw[tk,bK,bK,l2];rfl,fun j s' k' m' e1 e2 e3=>?_⟩
     ·rw[aV];exact kp _ _ LS (aC HB)
     ·rw[tk] at e2
      by_cases hj:j<i
      ·rw[lW (by lia)] at e1 e2 e3;exact (sn.k j s' k' m' e1 e2 e3).keep kh (by simp;exact (h1 _ (aZ e1)).2) (fun m hm=>by simp;exact (h2 _ (aZ e3) m hm).2) (fun d hd=>by simp at hd;subst hd;exact⟨_,sn.p⟩)
      ·have EA:=iV e1;rw[bK] at EA;have:j=i:=by have h1 : [s].length=1:=rfl;lia
       subst this;rw[kP (by lia),show j-ss.length=0 by lia] at e1;rw[kP (by lia),show j-(ks.take j).length=0 by lia] at e2;rw[kP (by lia),show j-oh.length=0 by lia] at e3;cases e1;cases e2;cases e3;exact fK
    ·intro z hz;rcases br.mp hz with hz | hz
     ·exact h1 z hz
     ·simp at hz;subst hz;exact⟨gG,HB⟩
    ·intro z hz;rcases br.mp hz with hz | hz
     ·exact h2 z hz
     ·simp at hz;subst hz;exact fun m hm=>⟨(fm m hm).1,fun y=>(fm m hm).2 (by simp[y])⟩
def E6:Nat:=13
def vQ:Sp:=fun vs H Q _=>∃(a:ah) (ns:List Int),vs = [.ref a]/\aI K H a (ns.map V.int)/\ns.length<=63/\∀H',Q (.bl true) H'
theorem E8 (T:Tx K mg w C_Dig zn zp zi zr zq):fH P w K mg base "law" ["_law_script"] E6 (vQ (K:=K)):=by
 refine T.z08.has eO (fun vs H Q E h=>?_) (fun f bY A outer s H vs Q E hr h=>?_)
 ·obtain⟨a,ns,rfl,_⟩:=h;rfl
 ·obtain⟨a,ns,rfl,ha,hl,k⟩:=h;refine⟨_,(ze (sset (i:=1) eO.nd (cu (Qw T) (zc (cu (BJ T) (zc (pv 0) (zc zm zf))) (zc (cu (BJ T) (zc (pv 0) (zc zm zf))) (zc zm zf)))))
   (ze (sset (i:=2) eO.nd (cu (Qw T) (zc (cu (BJ T) (zc (pv 0) (zc zm zf))) (zc (cu (BJ T) (zc (pv 0) (zc zm zf))) (zc zm zf)))))
   (ze (SV (cu (zn6 T) (zc (pv 0) (zc (pv 1) (zc (pv 2) (zc (cu (zj7 T) (zc (cu (BJ T) (zc (pv 0) (zc zm zf))) zf)) zf))))) (wj K rfl rfl (nO (fZ (i:=3) eO.nd) (nO (fZ (i:=4) eO.nd) vW))))
   (ze (sset (i:=5) eO.nd (Js (KU T) T.lU (hr.mono (by decide)) (pv 3)))
   (ze (iN bE rfl (Mv (by rfl) T.range (zc zm (zc zm zf))) (fZ (i:=6) eO.nd) (ze (i7 (Jo K rfl PySem.F.plainAttrs_list PySem.F.slot_list_reverse PySem.F.type_list_reverse Ut (ck (zv K rfl) (pv 5) (pv 6))))
    (zj (i7 (pV K rfl PySem.F.plainAttrs_list PySem.F.slot_list_append PySem.F.type_list_append pQ (ck (zv K rfl) (pv 5) (pv 6)) (zc jI zf))))))
   (ze (sset (i:=5) eO.nd (Js (KU T) T.lU (hr.mono (by decide)) (pv 3)))
   (ze (iM (iU (Dh K rfl (jZ hr)) (pv 5) (pv 4) (iy _)) (zj (fG wX)) i6)
   (ze (iM (Mr (Cf (cu (zdq T) (zc (ck (zv K rfl) (pv 4) zm) zf)))) (zj (fG wX)) i6)
   (ze (sset (i:=7) eO.nd (cu (Rz T) (zc (pv 5) zf)))
   (ze (sset (i:=8) eO.nd (cu (RQ T) (zc (pv 7) zf)))
   (ze (iN bE rfl (zz K rfl (pv 7)) (fZ (i:=9) eO.nd) (ze (iN bE rfl (zz K rfl (pv 9)) (fZ (i:=10) eO.nd) (zj (iM (Cf (k6 (Nu K rfl) (by rfl) T.isinstance PyProof.Rows.boot_isinstance (zc (pv 10) (zc (Mi (v:=.ty "list") (by rfl) T.list gw rfl) zf)))) (zj (i7 (pV K rfl PySem.F.plainAttrs_list PySem.F.slot_list_append PySem.F.type_list_append pQ (pv 10) (zc jI zf)))) i6)))
    (zj (i7 (pV K rfl PySem.F.plainAttrs_list PySem.F.slot_list_append PySem.F.type_list_append pQ (pv 9) (zc jI zf))))))
   (zj (fG (HR (Cy (yE K rfl (jZ hr)) (cu (RQ T) (zc (cu (Rz T) (zc (pv 5) zf)) zf)) (pv 8) (iy _)) (HR (Cy (yE K rfl (jZ hr)) (pv 5) (pv 4) (iy _)) (Ms (Cy (yE K rfl (jZ hr)) (Js (KU T) T.lU (hr.mono (by decide)) (pv 3)) (pv 4) (iy _)))))))))))))))))),?_⟩
  rw[show L2.start (["_law_script","_law_names_here","_law_marks","_law_dig_here","_law_due","_law_telling","_law_k","_law_answers_here","_law_seen_here","_law_answer","_law_part_here"]:List Str) [V.ref a] = [some (V.ref a),none,none,none,none,none,none,none,none,none,none] from rfl]
  try dsimp only [zw,List.set]
  refine⟨_,rfl,a,ns,_,rfl,ha,by decide,_,rfl,a,ns,_,rfl,ha,by decide,_,_,7,rfl,by decide,fun pn xs H1 x7 Lz LA G6 hn s1=>?_⟩
  try dsimp only [zw,List.set]
  refine⟨_,rfl,a,ns,_,rfl,s1.seq ha,by decide,_,rfl,a,ns,_,rfl,s1.seq ha,by decide,_,_,7,rfl,by decide,fun pk ms H2 m7 LB LC fpk hk s2=>?_⟩;have q2:=s1.trans s2
  try dsimp only [zw,List.set]
  refine⟨_,rfl,_,rfl,_,rfl,_,rfl,a,ns,_,rfl,q2.seq ha,by decide,_,rfl,fun pr lo hi H3 ylo yhi lh Ew sC s3=>?_⟩;have q3:=q2.trans s3;refine⟨a,pn,pk,pr,ns,xs,ms,lo,hi,rfl,q3.seq ha,hl,s3 _ _ (s2 _ _ hn),s3 _ _ hk,sC,x7,Lz,LA,m7,LB,LC,fun q sI p pm du dt df pu pt pf af at' ag s H4 s4 hq yj R L ok lu lt lf=>?_⟩;have E9:=s4 _ _ sC;clear ha hn hk s1 s2 s3 q2 q3 s4 sC Ew fpk G6;refine⟨q,_,rfl,bF.of hq,rfl,_,_,rfl,_,_,rfl,rfl,?_⟩
  try dsimp only [zw,List.set]
  obtain⟨dx,hp⟩:=R.ob;refine⟨_,rfl,p,dx,_,rfl,hp,xJ _ _ _ _ (by decide +kernel),p,pm,du,dt,df,lo,hi,s.us,s.ts,s.fs,af,rfl,R,ok,fun tl a1 a2 a3 xU H5 RX LV LW LX qx wQ BY BZ B0 GG RY RZ s5=>?_⟩;have laf:af.length<=7:=by rw[R.j6];exact lf
  have HC:xU.length<=19:=by have:=BZ.len;rw[ay] at this;lia
  try dsimp only [zw,List.set]
  have LY:∀i w,i<3->[a1,a2,a3][i]? = some w->jY [V.ref pm,.ref a1,.ref a2,.ref a3] (1+(i:Nat))=some (.ref w):=fun i w h e=>by
   match i,h,e with
   | 0,_,e=>cases e;exact pP (j:=1) rfl
   | 1,_,e=>cases e;exact pP (j:=2) rfl
   | 2,_,e=>cases e;exact pP (j:=3) rfl
  refine⟨1,4,rfl,by decide,Ia (lo:=1) (n:=3) (fun i σ H'=>∃v6:Option V,σ = [some (.ref a),some (.ref pn),some (.ref pk),some (.ref p),some (.ref sI),some (.ref tl),v6,none,none,none,none]/\(∀b o,H5 b=some o->b ∉ [a1,a2,a3]->H' b=some o)/\∀w∈[a1,a2,a3],∃xs,H' w=some (.lst xs)/\xs.length<=100+i)
   ⟨none,rfl,fun b o e _=>e,fun w hw=>?_⟩ ?_ ?_⟩
  ·simp at hw;rcases hw with rfl | rfl | rfl
   ·exact⟨_,wQ,by rw[ay];lia⟩
   ·exact⟨_,BY,by rw[ay];lia⟩
   ·exact⟨_,B0,by rw[ay];lia⟩
  ·rintro i σ H' hi ⟨v6,rfl,kp,hw⟩;obtain⟨w,ew⟩:∃w,[a1,a2,a3][i]? = some w:=⟨_,aU (by exact hi)⟩;have R5:=aZ ew;obtain⟨GX,BB,lxs⟩:=hw w R5;have uh:=kp _ _ qx (fun z=>by
    simp at z;rcases z with rfl | rfl | rfl
    ·rw[wQ] at qx;cases qx
    ·rw[BY] at qx;cases qx
    ·rw[B0] at qx;cases qx)
   have ntl:tl≠w:=fun z=>by rw[z,BB] at uh;cases uh
   try dsimp only [zw,List.set]
   refine⟨_,rfl,_,rfl,tl,_,_,_,rfl,rfl,bF.of uh,LY i w hi ew,.inl ⟨rfl,_,aI.of BB⟩,w,_,rfl,rfl,BB,?_⟩;refine⟨_,rfl,_,rfl,tl,_,_,_,rfl,rfl,bF.of (show upd H' w (.lst GX.reverse) tl=_ by rw[zg ntl];exact uh),LY i w hi ew,.inl ⟨rfl,_,aI.of zd⟩,w,_,_,rfl,rfl,zd,by rw[l9];exact zx (by lia),?_⟩;refine⟨_,rfl,fun b o e n=>?_,fun w' LZ=>?_⟩
   ·have nb:b≠w:=fun z=>n (by rw[z];exact R5)
    rw[zg nb,zg nb];exact kp b o e n
   ·by_cases L8:w'=w
    ·subst L8;exact⟨_,zd,by rw[bK,l9];exact o5 lxs⟩
    ·obtain⟨ys,hy,ly⟩:=hw w' LZ;exact⟨ys,by rw[zg L8,zg L8];exact hy,by lia⟩
  rintro σ H6 ⟨v6,rfl,sE,-⟩;have s6:ak H4 H6:=fun b o e=>sE b o (s5 _ _ e) (fun z=>by
   simp at z;rcases z with rfl | rfl | rfl
   ·rw[LV] at e;cases e
   ·rw[LW] at e;cases e
   ·rw[LX] at e;cases e)
  have R6:=R.same s6;have L6:=L.same s6;have yY:=s6 _ _ yj;have Fb:=s6 _ _ E9;clear sE LY s5 qx wQ BY BZ B0 GG RY RZ RX LV LW LX HC R L yj E9 s6 hp hq;obtain⟨dx,hp⟩:=R6.ob
  try unfold wZ
  try dsimp only [zw,List.set]
  refine⟨_,rfl,p,dx,_,rfl,hp,xJ _ _ _ _ (by decide +kernel),p,pm,du,dt,df,lo,hi,s.us,s.ts,s.fs,af,rfl,R6,ok,fun tl a1 a2 a3 xU H7 RX LV LW LX qx wQ BY BZ B0 GG RY RZ s7=>?_⟩;have R7:=R6.same s7;have L7:=L6.same s7;have vR:=s7 _ _ yY;have Fc:=s7 _ _ Fb;clear R6 L6 yY Fb hp;have alike:∀G:Hp,ak H7 G->cU K G 8 (.ref tl) (.ref sI) true:=fun G e=>PN (e _ _ qx) (e _ _ vR) (e _ _ R7.m) (e _ _ Fc) (e _ _ wQ) (e _ _ BY) (BZ.same e) (e _ _ B0) (R7.ft.same e) (L7.same e) ok
  have hF:iR K H7 tl pm a1 a2 a3 lo hi s.us xU s.ts af s.fs:=⟨⟨bF.of qx,aI.of wQ,aI.of BY,BZ,ok.nd,by lia,by lia,ok.tok⟩,bF.of R7.m,aI.of B0,R7.ft,fun f hf=>(ok.se f hf).u,by lia⟩
  try dsimp only [zw,List.set]
  refine xB false (fun Q' hQ=>⟨_,rfl,_,rfl,tl,sI,true,rfl,rfl,alike _ (ak.refl _),_,rfl,hQ⟩) (i9 ?_)
  try unfold wZ
  try dsimp only [zw,List.set]
  refine zZ false (fun Q' hQ=>⟨_,rfl,sI,_,_,_,rfl,rfl,bF.of vR,rfl,pt,at',s.ts,rfl,L7.t,L7.tt,fun ws hw v hv=>(ok.tw ws hw v hv).flat,by lia,fun G sG=>⟨_,rfl,hQ G sG⟩⟩) (fun H8 s8=>i9 ?_)
  try unfold wZ
  try dsimp only [zw,List.set]
  have hF8:=hF.same s8;have Sa:∀f∈s.fs,nG f.n=true:=fun f hf=>(ok.se f hf).n
  refine⟨_,rfl,tl,pm,a1,a2,a3,lo,hi,s.us,xU,s.ts,af,s.fs,rfl,hF8,by lia,lh,Sa,fun w x0 x1 x2 x3 xs A ya yb rl H9 s9 nw hw hx nn lx ao ro pk e1 e2 e3=>?_⟩
  try dsimp only [zw,List.set]
  refine⟨_,rfl,w,x0,x1,x2,x3,xs,D9 A,rfl,hw,hx,lx,pk,fun sp ss oh Bv qO sn Sb Sd Se=>?_⟩;have A8:∀x∈x0::x1::x2::x3::xs,gU Bv x:=fun x h=>(hx x h).same qO
  have A9:=qO _ _ hw;rw[e1,e2,e3] at sn;have oD:∀d∈cM (x0::x1::x2::x3::xs),H8 d=none:=nn.old;have nD:∀b,H9 b=none->b ∉ cM (x0::x1::x2::x3::xs):=fun b e=>nn.out e
  have nd:=nn.nd;clear hw hx lx pk e1 e2 e3 nn;generalize x0::x1::x2::x3::xs=Z at *;have lD:=Zr A8
  try dsimp only [zw,List.set]
  refine⟨_,rfl,w,rfl,⟨_,aI.of A9⟩,lQ (K:=K) (a:=w) (xs:=Z.map fun x=>V.ref x.a) (fun i σ H'=>∃(v9 v10:Option V),σ = [some (.ref a),some (.ref pn),some (.ref pk),some (.ref p),some (.ref sI),some (.ref tl),v6,some (.ref w),some (.ref sp),v9,v10]/\∀b o,Bv b=some o->b ∉ cM (Z.take i)->H' b=some o)
   ⟨none,none,rfl,fun b o e _=>e⟩ (fun i σ H' _ h=>by
    obtain⟨_,_,_,h⟩:=h;refine aI.of (h _ _ A9 fun z=>nw ?_);have:=l7 i Z;rw[←this,GV];exact cT _ z) ?_ ?_⟩
  ·rintro i v σ G hv ⟨v9,v10,rfl,kp⟩;have hi:=iV hv;rw[ay] at hi;obtain⟨x,ex⟩:∃x,Z[i]? = some x:=⟨_,aU hi⟩;rw[aX,ex] at hv;cases hv;obtain⟨ax,E5,apart⟩:=A8 x (aZ ex);obtain⟨o1,o2,o3,o4⟩:=Zq nd ex;have sub:∀d∈cM (Z.take i),d∈cM Z:=fun d hd=>by
    rw[←l7 i Z,GV];exact cT _ hd
   have Ma:∀d∈x.ms,d∈cM Z:=(Zp (aZ ex)).2
   try dsimp only [zw,List.set]
   refine⟨_,rfl,x.a,rfl,⟨_,aI.of (kp _ _ ax o1)⟩,lQ (K:=K) (a:=x.a) (xs:=x.vs) (fun j σ H'=>∃(v10:Option V),σ = [some (.ref a),some (.ref pn),some (.ref pk),some (.ref p),some (.ref sI),some (.ref tl),v6,some (.ref w),some (.ref sp),some (.ref x.a),v10]/\∀b o,Bv b=some o->b ∉ cM (Z.take i)->b ∉ x.ms.take j->H' b=some o)
    ⟨v10,rfl,fun b o e n _=>kp b o e n⟩ (fun j σ H' _ h=>by obtain⟨_,_,h⟩:=h;exact aI.of (h _ _ ax o1 fun z=>o2 (jg z))) ?_ ?_⟩
   ·rintro j v σ G1 hv ⟨v10,rfl,vP⟩
    try dsimp only [zw,List.set]
    rcases apart with ⟨em,h⟩ | ⟨ev,h⟩
    ·refine xB false (fun Q' hQ=>?_) (i9 ?_)
     ·rcases h v (aZ hv) with ⟨z,rfl⟩ | ⟨b,ws,rfl,hb⟩
      ·exact⟨_,rfl,_,_,_,_,rfl,.str z,rfl,_,rfl,hQ⟩
      ·have nb:b ∉ cM Z:=fun z=>by
        obtain⟨ys,q⟩:=lD b z;rw[hb] at q;cases q
       exact⟨_,rfl,_,_,_,_,rfl,.tup (vP _ _ hb (fun z=>nb (sub _ z)) (fun z=>nb (Ma _ (jg z)))),rfl,_,rfl,hQ⟩
     ·refine⟨_,rfl,fun b o e n _=>vP b o e n ?_⟩;rw[em];simp
    ·have hj:=iV hv;rw[ev,ay] at hj;obtain⟨m,em⟩:∃m,x.ms[j]? = some m:=⟨_,aU hj⟩;rw[ev,aX,em] at hv;cases hv;have Sf:=aZ em;obtain⟨gs,lg,hm⟩:=h m Sf;have Mb:=vP _ _ hm (o4 m Sf) (D3 o3 em);refine xB true (fun Q' hQ=>⟨_,rfl,_,_,_,_,rfl,.lst Mb,rfl,_,rfl,hQ⟩) (nB ?_);refine⟨_,rfl,.inl ⟨rfl,_,aI.of Mb⟩,m,_,_,rfl,rfl,Mb,by rw[ay];exact gZ lg (by decide),?_⟩;refine⟨_,rfl,fun b o e n1 n2=>?_⟩;rw[aQ,em] at n2;rw[zg fun z=>n2 (by simp[z])];exact vP b o e n1 fun z=>n2 (cT _ z)
   ·rintro σ G1 ⟨adh,rfl,vP⟩;have Sg:=vP _ _ ax o1 fun z=>o2 (jg z)
    try unfold wZ
    try dsimp only [zw,List.set]
    refine⟨_,rfl,.inl ⟨rfl,_,aI.of Sg⟩,x.a,_,_,rfl,rfl,Sg,gZ E5 (by decide),?_⟩;refine⟨_,_,rfl,fun b o e n=>?_⟩;rw[Zs ex] at n;rw[zg fun z=>n (by simp[z])];exact vP b o e (fun z=>n (cT _ z)) fun z=>n (e8 _ (bz _ (jg z)))
  rintro σ G ⟨v9,v10,rfl,kp⟩;rw[ay,bD] at kp;have sG:ak H8 G:=fun b o e=>kp b o (qO _ _ (s9 _ _ e)) fun z=>by rw[oD b z] at e;cases e
  have snG:p8 G sp A.n A.n rl.length (D9 A) ss oh:=⟨kp _ _ sn.p (nD _ Sb),sn.l1,sn.l2,fun i z kd m e1 e2 e3=>(sn.k i z kd m e1 e2 e3).keep kp (nD _ (Sd z (aZ e1))) (fun y hy=>nD _ (Se m (aZ e3) y hy)) lD⟩;have HC:xU.length=s.ts.length:=by have:=BZ.len;rwa [ay] at this
  have Fd:=R7.j6;clear kp lD A8 A9 oD nD nd nw sn Sb Sd Se s9 qO
  try unfold wZ
  try dsimp only [zw,List.set]
  have SG:=s8.trans sG;refine⟨_,rfl,tl,pm,a1,a2,a3,lo,hi,s.us,xU,s.ts,af,s.fs,rfl,hF.same SG,by lia,lh,Sa,fun w' y0 y1 y2 y3 ys A' za zb rl' G1 t1 nw' LZ hy nn' ly ao' ro' pk' e1 e2 e3=>?_⟩;refine⟨w',y0,y1,y2,y3,ys,D9 A',rfl,LZ,hy,ly,pk',fun GO GY Ea G2 t2 Sh _ _ _=>?_⟩;rw[e1,e2,e3,←Zg hF.iu.ends hF.iu.ends (List.Perm.refl _) (List.Perm.refl _) (List.Perm.refl _) HC HC Fd Fd ao ao',←Zu ro ro'] at Sh;have S2:=SG.trans (t1.trans t2);refine⟨_,rfl,GO,sp,true,rfl,rfl,Zv (n:=5) Sh (snG.same (t1.trans t2)),true,rfl,nB ?_⟩;refine⟨_,rfl,_,rfl,tl,sI,true,rfl,rfl,alike _ S2,true,rfl,nB ?_⟩;have R9:=R7.same S2;obtain⟨dx,hp⟩:=R9.ob;refine⟨_,rfl,p,dx,_,rfl,hp,xJ _ _ _ _ (by decide +kernel),p,pm,du,dt,df,lo,hi,s.us,s.ts,s.fs,af,rfl,R9,ok,fun tl' b1 b2 b3 at4 G3 _ _ _ _ uh qa K8 tt4 Hf _ _ _ nC=>?_⟩;exact⟨_,rfl,tl',sI,true,rfl,rfl,PN uh (nC _ _ (S2 _ _ vR)) (nC _ _ R9.m) (nC _ _ (S2 _ _ Fc)) qa K8 tt4 Hf (R9.ft.same nC) (L7.same (S2.trans nC)) ok,k _⟩
end
end LK64
open PySem PySem.W PyProof.Rows
set_option maxRecDepth 100000 in
set_option maxHeartbeats 0 in
theorem PySem.Challenge.cw_digmatrix_k64_told_and_changed_holds : PySem.Challenge.rw_digmatrix_k64_told_and_changed.Holds := by
 w_on;o_law;k_head;(case hw=>w_witness2)
 k_fill
 refine L2.uV (l:=PySem.Challenge.rw_digmatrix_k64_told_and_changed) (k:=LK64.E6) (x:="_law_script") (sp:=fun K=>LK64.vQ (K:=K)) rfl rfl ⟨rfl,by decide,by decide⟩ (fun w h Y=>PySem.W.kIn_of Y) (fun K H a ns hl hS=>⟨a,ns,rfl,hS,hl,fun _=>rfl⟩) ?F
 case F=>
  intro w mg h KX G
  have T:∃C_Dig,∃zn,∃zp,∃zi,∃zr,∃zq,LK64.Tx (L2.M7 KX) mg w C_Dig zn zp zi zr zq:=by
   dsimp only [L2.M7]
   refine' LK64.Tx.ex ⟨?z0,?z1,?z2,?z3,?z4,?z5,?z6,?z7,?z8,?z9,?z10,?z11,?z12,?z13,?z14,?z15,?z16,?z17,?z18,?z19,?z20,?z21,?z22,?z23,?z24,?z25,?z26,?z27,?z28,?z29,?z30,?z31,?z32,?z33,?z34,?z35,?z36,?z37,?z38,?z39,?z40,?z41,?z42,?z43,?z44,?z45,?z46,?z47,?z48,?z49,?z50,?z51,?z52,?z53,?z54,?z55,?z56,?z57,?z58,?z59,?z60,?z61,?z62,?z63,?z64,?z65,?z66,?z67,?z68,?z69,?z70,?z71,?z72,?z73,?z74,?z75,?z76,?z77,?z78,?z79,?z80,?z81,?z82,?z83,?z84⟩
   case z0=>refine' L2.gB KX G ?_<;>try k_is
   case z1=>refine' ⟨?_,?_,?_,?_⟩<;>try k_is
   case z2=>k_is
   case z3=>k_is
   case z4=>(unfold L2.bQ;k_is)
   case z5=>(unfold L2.bQ;k_is)
   case z6=>(unfold L2.bQ;k_is)
   case z7=>(unfold L2.bQ;k_is)
   case z8=>refine' L2.iQ (fun _ _ _ _ _ _=>L2.sR fun _ _ _=>rfl) ?_ ?_ ?_ ?_ ?_<;>try k_is
   case z9=>refine' L2.iQ (fun _ _ _ _ _ _=>L2.jd fun _ _=>rfl) ?_ ?_ ?_ ?_ ?_<;>try k_is
   case z10=>refine' L2.iQ (fun _ _ _ _ _ _=>L2.jd fun _ _=>rfl) ?_ ?_ ?_ ?_ ?_<;>try k_is
   case z11=>refine' L2.iQ (fun _ _ _ _ _ _=>L2.Jj fun _ _ _ _ _=>rfl) ?_ ?_ ?_ ?_ ?_<;>try k_is
   case z12=>refine' L2.iQ (fun _ _ _ _ _ _=>L2.ee fun _=>rfl) ?_ ?_ ?_ ?_ ?_<;>try k_is
   case z13=>refine' L2.iQ (fun _ _ _ _ _ _=>L2.jd fun _ _=>rfl) ?_ ?_ ?_ ?_ ?_<;>try k_is
   case z14=>refine' L2.gB KX G ?_<;>try k_is
   case z15=>refine' ⟨?_,?_,?_⟩<;>try k_is
   case z16=>refine' L2.gB KX G ?_<;>try k_is
   case z17=>refine' ⟨?_,?_,?_⟩<;>try k_is
   case z18=>refine' L2.r9 ?x18 ?y18 ?u18 ?v18;(case x18=>k_is);(case y18=>rfl);(case u18=>k_is);(case v18=>k_is)
   case z19=>refine' L2.vh ?x19 ?y19;(case x19=>k_is);(case y19=>rfl)
   case z20=>refine' ⟨?_,?_,?_,?_⟩<;>try k_is
   case z21=>refine' L2.iQ (fun _ _ _ _ _ _=>L2.jd fun _ _=>rfl) ?_ ?_ ?_ ?_ ?_<;>try k_is
   case z22=>(unfold L2.bQ;k_is)
   case z23=>refine' L2.gB KX G ?_<;>try k_is
   case z24=>refine' ⟨?_,?_,?_⟩<;>try k_is
   case z25=>refine' L2.r9 ?x25 ?y25 ?u25 ?v25;(case x25=>k_is);(case y25=>rfl);(case u25=>k_is);(case v25=>k_is)
   case z26=>refine' L2.vh ?x26 ?y26;(case x26=>k_is);(case y26=>rfl)
   case z27=>refine' ⟨?_,?_,?_,?_⟩<;>try k_is
   case z28=>refine' L2.iQ (fun _ _ _ _ _ _=>L2.jd fun _ _=>rfl) ?_ ?_ ?_ ?_ ?_<;>try k_is
   case z29=>(unfold L2.bQ;k_is)
   case z30=>refine' L2.gB KX G ?_<;>try k_is
   case z31=>refine' L2.gB KX G ?_<;>try k_is
   case z32=>k_is
   case z33=>k_is
   case z34=>k_is
   case z35=>refine' L2.bw KX G (fun _ _ _ _ _ _=>L2.jd fun _ _=>rfl) ?_ ?_ ?_ ?_<;>try k_is
   case z36=>refine' L2.bw KX G (fun _ _ _ _ _ _=>L2.sR fun _ _ _=>rfl) ?_ ?_ ?_ ?_<;>try k_is
   case z37=>refine' L2.bw KX G (fun _ _ _ _ _ _=>L2.jd fun _ _=>rfl) ?_ ?_ ?_ ?_<;>try k_is
   case z38=>refine' L2.bw KX G (fun _ _ _ _ _ _=>L2.ee fun _=>rfl) ?_ ?_ ?_ ?_<;>try k_is
   case z39=>refine' L2.bw KX G (fun _ _ _ _ _ _=>L2.ee fun _=>rfl) ?_ ?_ ?_ ?_<;>try k_is
   case z40=>refine' L2.bw KX G (fun _ _ _ _ _ _=>L2.jd fun _ _=>rfl) ?_ ?_ ?_ ?_<;>try k_is
   case z41=>refine' L2.bw KX G (fun _ _ _ _ _ _=>L2.ee fun _=>rfl) ?_ ?_ ?_ ?_<;>try k_is
   case z42=>refine' L2.bw KX G (fun _ _ _ _ _ _=>L2.ee fun _=>rfl) ?_ ?_ ?_ ?_<;>try k_is
   case z43=>refine' L2.bw KX G (fun _ _ _ _ _ _=>L2.jd fun _ _=>rfl) ?_ ?_ ?_ ?_<;>try k_is
   case z44=>refine' L2.bw KX G (fun _ _ _ _ _ _=>L2.jd fun _ _=>rfl) ?_ ?_ ?_ ?_<;>try k_is
   case z45=>refine' L2.bw KX G (fun _ _ _ _ _ _=>L2.ee fun _=>rfl) ?_ ?_ ?_ ?_<;>try k_is
   case z46=>refine' L2.bw KX G (fun _ _ _ _ _ _=>L2.ee fun _=>rfl) ?_ ?_ ?_ ?_<;>try k_is
   case z47=>refine' L2.bw KX G (fun _ _ _ _ _ _=>L2.sR fun _ _ _=>rfl) ?_ ?_ ?_ ?_<;>try k_is
   case z48=>refine' L2.bw KX G (fun _ _ _ _ _ _=>L2.ee fun _=>rfl) ?_ ?_ ?_ ?_<;>try k_is
   case z49=>refine' L2.bw KX G (fun _ _ _ _ _ _=>L2.ee fun _=>rfl) ?_ ?_ ?_ ?_<;>try k_is
   case z50=>refine' L2.bw KX G (fun _ _ _ _ _ _=>L2.ee fun _=>rfl) ?_ ?_ ?_ ?_<;>try k_is
   case z51=>refine' L2.bw KX G (fun _ _ _ _ _ _=>L2.ee fun _=>rfl) ?_ ?_ ?_ ?_<;>try k_is
   case z52=>refine' L2.bw KX G (fun _ _ _ _ _ _=>L2.ee fun _=>rfl) ?_ ?_ ?_ ?_<;>try k_is
   case z53=>refine' L2.bw KX G (fun _ _ _ _ _ _=>L2.ee fun _=>rfl) ?_ ?_ ?_ ?_<;>try k_is
   case z54=>refine' L2.bw KX G (fun _ _ _ _ _ _=>L2.jd fun _ _=>rfl) ?_ ?_ ?_ ?_<;>try k_is
   case z55=>refine' L2.bw KX G (fun _ _ _ _ _ _=>L2.jd fun _ _=>rfl) ?_ ?_ ?_ ?_<;>try k_is
   case z56=>refine' L2.bw KX G (fun _ _ _ _ _ _=>L2.ee fun _=>rfl) ?_ ?_ ?_ ?_<;>try k_is
   case z57=>refine' L2.bw KX G (fun _ _ _ _ _ _=>L2.ee fun _=>rfl) ?_ ?_ ?_ ?_<;>try k_is
   case z58=>refine' L2.bw KX G (fun _ _ _ _ _ _=>L2.ee fun _=>rfl) ?_ ?_ ?_ ?_<;>try k_is
   case z59=>refine' L2.bw KX G (fun _ _ _ _ _ _=>L2.ee fun _=>rfl) ?_ ?_ ?_ ?_<;>try k_is
   case z60=>refine' L2.bw KX G (fun _ _ _ _ _ _=>L2.jd fun _ _=>rfl) ?_ ?_ ?_ ?_<;>try k_is
   case z61=>refine' L2.bw KX G (fun _ _ _ _ _ _=>L2.ee fun _=>rfl) ?_ ?_ ?_ ?_<;>try k_is
   case z62=>refine' L2.bw KX G (fun _ _ _ _ _ _=>L2.jd fun _ _=>rfl) ?_ ?_ ?_ ?_<;>try k_is
   case z63=>refine' L2.bw KX G (fun _ _ _ _ _ _=>L2.sR fun _ _ _=>rfl) ?_ ?_ ?_ ?_<;>try k_is
   case z64=>refine' L2.bw KX G (fun _ _ _ _ _ _=>L2.sR fun _ _ _=>rfl) ?_ ?_ ?_ ?_<;>try k_is
   case z65=>refine' L2.bw KX G (fun _ _ _ _ _ _=>L2.jd fun _ _=>rfl) ?_ ?_ ?_ ?_<;>try k_is
   case z66=>refine' L2.bw KX G (fun _ _ _ _ _ _=>L2.zY fun _ _ _ _=>rfl) ?_ ?_ ?_ ?_<;>try k_is
   case z67=>refine' L2.bw KX G (fun _ _ _ _ _ _=>L2.ee fun _=>rfl) ?_ ?_ ?_ ?_<;>try k_is
   case z68=>refine' L2.bw KX G (fun _ _ _ _ _ _=>L2.zY fun _ _ _ _=>rfl) ?_ ?_ ?_ ?_<;>try k_is
   case z69=>refine' L2.bw KX G (fun _ _ _ _ _ _=>L2.ee fun _=>rfl) ?_ ?_ ?_ ?_<;>try k_is
   case z70=>refine' L2.bw KX G (fun _ _ _ _ _ _=>L2.ee fun _=>rfl) ?_ ?_ ?_ ?_<;>try k_is
   case z71=>refine' L2.bw KX G (fun _ _ _ _ _ _=>L2.ee fun _=>rfl) ?_ ?_ ?_ ?_<;>try k_is
   case z72=>refine' L2.bw KX G (fun _ _ _ _ _ _=>L2.ee fun _=>rfl) ?_ ?_ ?_ ?_<;>try k_is
   case z73=>refine' L2.bw KX G (fun _ _ _ _ _ _=>L2.ee fun _=>rfl) ?_ ?_ ?_ ?_<;>try k_is
   case z74=>refine' L2.bw KX G (fun _ _ _ _ _ _=>L2.ee fun _=>rfl) ?_ ?_ ?_ ?_<;>try k_is
   case z75=>refine' L2.gh KX G ?_;k_is
   case z76=>refine' L2.gh KX G ?_;k_is
   case z77=>refine' L2.gh KX G ?_;k_is
   case z78=>refine' L2.gh KX G ?_;k_is
   case z79=>refine' L2.gh KX G ?_;k_is
   case z80=>refine' L2.gh KX G ?_;k_is
   case z81=>refine' L2.gh KX G ?_;k_is
   case z82=>refine' L2.gh KX G ?_;k_is
   case z83=>refine' L2.gh KX G ?_;k_is
   case z84=>refine' L2.gh KX G ?_;k_is
  obtain⟨_,_,_,_,_,_,T⟩:=T
  exact fun base _ _=>LK64.E8 T
#print axioms PySem.Challenge.cw_digmatrix_k64_told_and_changed_holds
